import PyProof.Rows.All
import Wide.All
import OpenK.AllK
import Wide.FinOn
import HandS.Base
import HandS.Call
import HandS.List
import HandS.Comp
import HandS.Ends
import HandS.Words
import HandS.WordsList
import HandS.Defaults
import HandS.HeadEnd
import HandS.Dict
import PyProof.ReprRoads
import HandS.OwnEq
import HandS.IsInst
import PyProof.InstNe
import KE.KCallOwn
import HandS.Iter
import KE.GoesEnum
import HandS.ForMost
import HandS.Star
import HandS.Walk
import PySem.Challenge.RW_commonanswer_k43_whole_answers_that_were
import HandS.TupAny
import HandS.Property
import PyProof.Rows.RegStrFacts
import KE.KRevSl
import HandS.Style
import PyProof.Rows.RegFStrParts
import PyProof.Rows.ReprOcc
import HandS.MakeKw
import HandS.Zip
import HandS.Head0
import HandS.Head1
import HandS.Head2
import HandS.HeadHook1
import HandS.HeadHook2
import HandS.Exc
import HandS.ExcInit
import HandS.ExcField
import HandS.ExcIs
import KE.KExcInit
import KE.KExcIs
import HandS.ExcValue
import HandS.ExcOwn
import HandS.WordsExc
import HandS.TryMany
import HandS.HeadHook4
import HandS.Lambda
import HandS.EndBits
import HandS.Wide
import PyProof.MinMaxWalk
import PyProof.WalkInts
import PyProof.ConsumeS
import HandS.SortKw
import HandS.Head3
import HandS.Conv
import HandS.Zip0
import HandS.Gcd
import HandS.TupSets
import KE.KeyNested
import KE.SortData
import KE.KMathGC
import PyProof.ReprBulk
import KE.KTryMore
import HandS.HotCalls
import HandS.SetFor
import PyProof.EqKinds
import PyProof.NeData
set_option Elab.async false
set_option linter.all false
set_option maxRecDepth 100000
set_option maxHeartbeats 4000000
namespace Ca
open PySem L2
/-! ### a mid-condition at a statement, an expression, a test -/
def cutS (t : TS) : TS := fun D σ H => ∃ P : St → Hp → Prop, t { D with nx := P } σ H ∧ ∀ σ' H', P σ' H' → D.nx σ' H'
theorem sp_mono {X : Cx} {pins : List (Addr × Obj)} {D : Ends} {P : St → Hp → Prop} {f : Flow} {s : Shared} (h : SP X pins { D with nx := P } f s) (k : ∀ σ' H', P σ' H' → D.nx σ' H') : SP X pins D f s := by
  cases f with
  | next => obtain ⟨σ', H', I, q⟩ := h; exact ⟨σ', H', I, k _ _ q⟩
  | brk => exact h
  | cont => exact h
  | ret u => exact h
theorem ps_cut {X : Cx} {st : Stmt} {t : TS} (h : PS X st t) : PS X st (cutS t) := ⟨fun pins s σ H D I q => by
  obtain ⟨P, q1, q2⟩ := q
  exact thn (h.run pins s σ H _ I q1) fun f s' z => sp_mono z q2⟩
/-! ### heaps -/
/-- an urn stands at l -/
def Urn (H : Hp) (l : Addr) : Prop := ∃ g x n : Int, 0 ≤ g ∧ 0 ≤ x ∧ x < 2147483629 ∧ H l = some (.lst [.int g, .int x, .int n])
/-- all that was tracked, but what stands at l, is as it was -/
def Kept (l : Addr) (H H' : Hp) : Prop := ∀ b o, b ≠ l → H b = some o → H' b = some o
theorem Kept.refl (l : Addr) (H : Hp) : Kept l H H := fun _ _ _ h => h
theorem Kept.trans {l : Addr} {H H1 H2 : Hp} (a : Kept l H H1) (b : Kept l H1 H2) : Kept l H H2 := fun c o n h => b c o n (a c o n h)
theorem _root_.L2.Same.kept {l : Addr} {H H' : Hp} (a : Same H H') : Kept l H H' := fun c o _ h => a c o h
theorem Kept.upd {l : Addr} {H : Hp} {o : HO} : Kept l H (L2.upd H l o) := fun b u n h => by rw [upd_ne n]; exact h
theorem Kept.new {l p : Addr} {H : Hp} {o : HO} (h : H p = none) : Kept l H (L2.upd H p o) := fun b u _ e => by rw [upd_ne (ne_of_none e h)]; exact e
theorem _root_.L2.Same.new {p : Addr} {H : Hp} {o : HO} (h : H p = none) : Same H (L2.upd H p o) := fun b u e => by rw [upd_ne (ne_of_none e h)]; exact e
theorem Urn.same {H H' : Hp} {l : Addr} (u : Urn H l) (s : Same H H') : Urn H' l := by
  obtain ⟨g, x, n, h1, h2, h3, h⟩ := u
  exact ⟨g, x, n, h1, h2, h3, s _ _ h⟩
theorem Urn.some {H : Hp} {l : Addr} (u : Urn H l) : ∃ o, H l = some o := by
  obtain ⟨g, x, n, h1, h2, h3, h⟩ := u
  exact ⟨_, h⟩
/-- what is new stands apart from what stood, also behind changes at l -/
theorem Kept.free {l b : Addr} {H H' : Hp} (k : Kept l H H') (n : b ≠ l) (h : H' b = none) : H b = none := by
  cases q : H b with
  | none => rfl
  | some o => rw [k b o n q] at h; cases h

/-- the built-in names are still their own -/
structure Bi (mg : Str → Option Value) : Prop where
  len : mg "len" = none
  int : mg "int" = none
  abs : mg "abs" = none
  divmod : mg "divmod" = none

def spDip : Sp := fun vs H Q _ => ∃ (l : Addr) (t : Int), vs = [.ref l, .int t] ∧ Urn H l ∧ 0 < t ∧ t < 1073741824 ∧
  ∀ H' r, Kept l H H' → Urn H' l → 0 ≤ r → r < t → Q (.int r) H'
def spFrom (K : PySem.W.Frag) : Sp := fun vs H Q _ => ∃ (l a : Addr) (xs : List V), vs = [.ref l, .ref a] ∧ Urn H l ∧ H a = some (.lst xs) ∧ a ≠ l ∧ 0 < xs.length ∧ xs.length < 1000 ∧
  ∀ H' (i : Nat) v, xs[i]? = some v → Kept l H H' → Urn H' l → Q v H'

theorem cut_int_get {ns : List Int} {lo hi : Option Int} {i : Nat} {y : V} (h : (cutV (ns.map V.int) lo hi)[i]? = some y) : ∃ z, y = V.int z := by
  have m := List.mem_of_getElem? h
  unfold cutV at m
  have m2 := List.mem_of_mem_drop (List.mem_of_mem_take m)
  obtain ⟨z, _, e⟩ := List.mem_map.mp m2
  exact ⟨z, e.symm⟩
end Ca
set_option Elab.async false
set_option linter.all false
set_option maxRecDepth 100000
set_option maxHeartbeats 4000000
namespace Ca
open PySem PySem.Spec PyProof.Rows L2
/-! ### defs that ask repr: called where no repr is under way -/
structure FnG (P : Program) (w : World) (K : PySem.W.Frag) (mg : Str → Option Value) (base : Heap) (k : Nat) (f : Addr) (fd : FuncData) (ps : List Str) (sp : Sp) : Prop where
  len : ∀ vs H Q E, sp vs H Q E → vs.length = ps.length
  run : ∀ (A : Around) (outer : List Env) (s : Shared) (H : Hp) (args : Args) (us : List Value) (vs : List V) (Q : VK), A.guards = some [] → Room k A → Env0 P w K mg base A outer s H → BindsTo s fd args (ps.zip us) → Vals vs us → sp vs H Q E0 →
    codeAny (model P w) A (.call (.ref f) args) (CR CX0 outer P w H s Q E0) s
theorem guards_deeper {A : Around} (h : A.guards = some []) (env : Env) : (A.deeper env).guards = some [] := by
  first | exact h | (simp [Around.deeper, h]; done)
/-- a def by its body: the body may ask that no repr is under way -/
theorem fnG_of {P : Program} {w : World} {K : PySem.W.Frag} {mg : Str → Option Value} {base : Heap} {k : Nat} {f : Addr} {x qual : Str} {params : Arguments} {body : List Stmt} {scope : Scope} {dvs : List V} {kws : List (Str × V)} {fd : FuncData} {N ps : List Str} {sp : Sp}
    (F : FunD K x qual params body scope dvs kws f fd) (S : FnScope N ps scope) (len : ∀ vs H Q E, sp vs H Q E → vs.length = ps.length)
    (hbody : ∀ (cdv : Value) (A : Around) (outer : List Env) (s : Shared) (H : Hp) (vs : List V) (Q : VK), (A.deeper (envOfC qual scope s.heap.objs.size f cdv)).guards = some [] → Room k (A.deeper (envOfC qual scope s.heap.objs.size f cdv)) → sp vs H Q E0 →
      ∃ t, PSs (cxOf CX0 P w K mg base N qual scope f cdv A outer s H E0) body t ∧ t { nx := fun _ H' => Q .non H', rt := Q } (start N vs) H) :
    FnG P w K mg base (k + 1) f fd ps sp := by
  obtain ⟨oc, od, dV, kV, doc, pm, an, cdv, ct, osl, rfl, lk, hcd, _, _⟩ := F.ex
  constructor
  · exact len
  · intro A outer s H args us vs Q hgd hr e0 hb r hsp
    have hl := len _ _ _ _ hsp
    have stays : ∀ b o, base.get? b = some o → s.heap.get? b = some o := fun b o e => (e0.bs b o e).1
    have KX : K.In s.heap := e0.mod.kin.keeps stays
    have kinds : ∀ y ∈ ps.zip us, scope.names.lookup y.1 = some .local ∨ (scope.names.lookup y.1 = some .cell ∧ ((cellsFrom (s.heap.objs.size + 1) scope.names []).lookup y.1).isSome = true) := by
      intro y hy
      obtain ⟨n, v⟩ := y
      cases S.par n (List.of_mem_zip hy).1 with
      | inl q => exact .inl q
      | inr q => exact .inr ⟨q, PySem.W.cellsFrom_some _ _ _ (.inl q)⟩
    refine codeAny_call_function hr.depth (KX _ _ lk) rfl S.co S.gen rfl (PySem.W.codeRec_of KX hcd) (hb _ _ _ _ ?_)
    refine wpAny_newFunctionEnv_cells S.kind kinds fun env he s1 x => ?_
    subst he
    refine ⟨(e0.mod.nolimit.keeps stays).keeps x.toInCall.keep, codeAny_func ?_⟩
    obtain ⟨t, ht, hq⟩ := hbody cdv A outer s H vs Q (guards_deeper hgd _) (hr.deeper _) hsp
    have I : Inv (cxOf CX0 P w K mg base N qual scope f cdv A outer s H E0) [] (start N vs) H s1 := inv_start S hr.hd e0 hl r x
    refine wpAny_mono (ht.run [] s1 (start N vs) H _ I hq) (fun fl s' hs => ?_) fun e s' hs => hs
    cases fl with
    | ret u =>
      obtain ⟨v, σ', H', J, rv, q⟩ := hs
      exact ⟨v, H', J.os, J.bare, J.base, J.hok, rv, q⟩
    | next =>
      obtain ⟨σ', H', J, q⟩ := hs
      exact ⟨.non, H', J.os, J.bare, J.base, J.hok, rfl, q⟩
    | brk => exact hs.elim fun _ z => z.elim fun _ y => y.2.elim
    | cont => exact hs.elim fun _ z => z.elim fun _ y => y.2.elim
section
variable {X : Cx} {k : Nat} {f : Addr} {fd : FuncData} {ps : List Str} {sp : Sp} {x : Str} {p pos : Pos} {e : Expr} {es : List Expr} {t : TA}
/-- a call of such a def -/
theorem pe_callG (F : FnG X.prog X.w X.K X.mg X.base k f fd ps sp) (hgd : X.A.guards = some []) (hr : Room k X.A) (hm : X.mg x = some (.ref f)) (hk : PySem.W.keepIn X.K (.ref f) = true) (hb : Binds X.K fd ps [])
    (ha : PA X (e :: es) t) (hg : Gl X x := by rfl) (hdb : (x == ("__debug__" : Str)) = false := by decide) (he : starEach (e :: es) X.env = (false, eval e X.env) :: starEach es X.env := by rfl) (hpl : (backTo pos (starEach es X.env)).any (·.1) = false := by rfl) :
    PE X (.Call (.Name x p) (e :: es) [] pos) (tCall sp [] E0 t) := by
  refine ⟨fun pins s σ H Q I h => ?_⟩
  refine wpAny_Call_Name_kw (ld_glob I hg hm ?_ hdb)
  refine PySem.W.callWith_K (h₀ := X.base) I.ok.mod.kin hk (thn (ha.run pos pins s σ H _ I h) fun us s1 z => ?_) he hpl
  obtain ⟨vs, H1, I1, r, q⟩ := z
  rw [List.append_nil] at q
  refine ⟨I1.kIn, ?_⟩
  have hl : us.length = ps.length := by
    rw [← r.length]
    exact F.len _ _ _ _ q
  have bd := hb s1 us I1.kIn (by rw [List.append_nil]; exact hl)
  rw [List.append_nil] at bd
  show wpAny _ _ (call (.ref f) us) _ _ _
  refine wpAny_call (codeAny_mono (F.run X.A X.stack s1 H1 ⟨us, []⟩ us vs Q hgd hr I1.env0 bd r q) fun res s' z => ?_)
  cases res with
  | error er => exact z.elim
  | ok fl =>
    cases fl with
    | ret u => exact I1.after z
    | next => exact z.elim
    | brk => exact z.elim
    | cont => exact z.elim
end
end Ca
set_option Elab.async false
set_option linter.all false
set_option maxRecDepth 100000
set_option maxHeartbeats 4000000
namespace Ca
open PySem PySem.Spec PyProof.Rows L2
/-- a key as data -/
def kd : Key → PyData
  | .inl i => .int i
  | .inr x => .str x
/-- the dict of modules is known to be one -/
def SysM (K : PySem.W.Frag) : Prop := ∃ o es n, K.lookup sysModules = some o ∧ o.data = .dict es n
/-! ### data that may hold dicts without keys -/
mutual
inductive De (K : PySem.W.Frag) (H : Hp) : V → PyData → Prop
  | non : De K H .non .none
  | bl (b : Bool) : De K H (.bl b) (.bool b)
  | int (i : Int) : De K H (.int i) (.int i)
  | str (x : Str) : De K H (.str x) (.str x)
  | lst {a : Addr} {xs : List V} {ds : List PyData} : SqL K H a xs → DeAll K H xs ds → De K H (.ref a) (.list ds)
  | tup {a : Addr} {xs : List V} {ds : List PyData} : SqT K H a xs → DeAll K H xs ds → De K H (.ref a) (.tuple ds)
  | dic {a : Addr} : H a = some (.dK []) → De K H (.ref a) (.dict [])
inductive DeAll (K : PySem.W.Frag) (H : Hp) : List V → List PyData → Prop
  | nil : DeAll K H [] []
  | cons {v : V} {vs : List V} {d : PyData} {ds : List PyData} : De K H v d → DeAll K H vs ds → DeAll K H (v :: vs) (d :: ds)
end
theorem sql_mono {K : PySem.W.Frag} {H H' : Hp} {a : Addr} {xs : List V} (k : ∀ b o, H b = some o → (∀ ps, o ≠ .tbl ps) → H' b = some o) : SqL K H a xs → SqL K H' a xs
  | .inl (.inl e) => .inl (.inl (k _ _ e fun _ z => nomatch z))
  | .inl (.inr ⟨o, e⟩) => .inl (.inr ⟨o, k _ _ e fun _ z => nomatch z⟩)
  | .inr e => .inr e
theorem sqt_mono {K : PySem.W.Frag} {H H' : Hp} {a : Addr} {xs : List V} (k : ∀ b o, H b = some o → (∀ ps, o ≠ .tbl ps) → H' b = some o) : SqT K H a xs → SqT K H' a xs
  | .inl (.inl e) => .inl (.inl (k _ _ e fun _ z => nomatch z))
  | .inl (.inr ⟨o, e⟩) => .inl (.inr ⟨o, k _ _ e fun _ z => nomatch z⟩)
  | .inr e => .inr e
mutual
theorem De.mono {K : PySem.W.Frag} {H H' : Hp} (k : ∀ b o, H b = some o → (∀ ps, o ≠ .tbl ps) → H' b = some o) : ∀ {d : PyData} {v : V}, De K H v d → De K H' v d
  | .none, _, .non => .non
  | .bool _, _, .bl b => .bl b
  | .int _, _, .int i => .int i
  | .str _, _, .str x => .str x
  | .list _, _, .lst a b => .lst (sql_mono k a) (DeAll.mono k b)
  | .tuple _, _, .tup a b => .tup (sqt_mono k a) (DeAll.mono k b)
  | .dict _, _, .dic a => .dic (k _ _ a fun _ z => nomatch z)
theorem DeAll.mono {K : PySem.W.Frag} {H H' : Hp} (k : ∀ b o, H b = some o → (∀ ps, o ≠ .tbl ps) → H' b = some o) : ∀ {ds : List PyData} {vs : List V}, DeAll K H vs ds → DeAll K H' vs ds
  | [], _, .nil => .nil
  | _ :: _, _, .cons a b => .cons (De.mono k a) (DeAll.mono k b)
end
/-- a value whose repr is known: data without dicts, or a dict of such, or data that may hold dicts without keys -/
inductive Rp (K : PySem.W.Frag) (H : Hp) : V → PyData → Prop
  | dat {v : V} {d : PyData} : Dp K H v d → SeqAt.shaped d = true → Rp K H v d
  | dic {p : Addr} {kvs : List (Key × V)} {ds : List PyData} : H p = some (.dK kvs) → DpAll K H (kvs.map (·.2)) ds → PyData.hasDictAll ds = false → Rp K H (.ref p) (.dict ((kvs.map fun kv => kd kv.1).zip ds))
  | dee {v : V} {d : PyData} : SysM K → De K H v d → Rp K H v d
def rRepr (K : PySem.W.Frag) : List V → Hp → VK → Prop := fun xs H Q => ∃ v d, xs = [v] ∧ Rp K H v d ∧ d.showable = true ∧ d.depth ≤ 64 ∧ d.shown.length ≤ sizeLine ∧ Q (.str d.shown) H
theorem dpAll_len {K : PySem.W.Frag} {H : Hp} : ∀ {vs : List V} {ds : List PyData}, DpAll K H vs ds → vs.length = ds.length
  | _, _, .nil => rfl
  | _, _, .cons _ t => congrArg Nat.succ (dpAll_len t)
section
variable {X : Cx} {pins : List (Addr × Obj)} {σ : L2.St} {H : Hp} {s : Shared}
/-- the keys and the values of a dict as they stand -/
theorem pairs_read {P : Program} {w : World} {h : Heap} : ∀ {es : List DictEntry} {ws : List (Key × Value)}, PySem.Pairs (mixKind P w) es ws →
    (∃ as, ReadsAll h (es.map (·.key)) (ws.map fun kv => kd kv.1) as) ∧ es.map (·.val) = ws.map (·.2)
  | _, _, .nil => ⟨⟨[], .nil⟩, rfl⟩
  | _, _, .cons (e := e) (kv := kv) hk hv t => by
    obtain ⟨⟨as, r⟩, q⟩ := pairs_read (h := h) t
    refine ⟨?_, by rw [List.map_cons, List.map_cons, q, hv]⟩
    obtain ⟨k, v⟩ := kv
    rcases keyIs_shape (show keyIs k e.key = true from hk) with ⟨i, t', ek, ev⟩ | ⟨x, t', ek, ev⟩
    · subst ek
      refine ⟨[] ++ as, ReadsAll.cons (as := []) ?_ r⟩
      show Reads h e.key (.int i) []
      rw [ev]
      exact Reads.int i t'
    · subst ek
      refine ⟨[] ++ as, ReadsAll.cons (as := []) ?_ r⟩
      show Reads h e.key (.str x) []
      rw [ev]
      exact Reads.str x t'
theorem kv_vals : ∀ {kvs : List (Key × V)} {ws : List (Key × Value)}, KV kvs ws → Vals (kvs.map (·.2)) (ws.map (·.2)) ∧ (kvs.map fun kv => kd kv.1) = ws.map fun kv => kd kv.1
  | _, _, .nil => ⟨.nil, rfl⟩
  | _, _, .cons r t => by
    obtain ⟨h1, h2⟩ := kv_vals t
    exact ⟨.cons r.2 h1, by rw [List.map_cons, List.map_cons, h2, r.1]⟩
theorem keys_plain : ∀ ws : List (Key × Value), PyData.hasDictAll (ws.map fun kv => kd kv.1) = false
  | [] => by simp only [List.map_nil, PyData.hasDictAll]
  | (.inl i, v) :: l => by
    show PyData.hasDictAll (.int i :: l.map fun kv => kd kv.1) = false
    simp only [PyData.hasDictAll, PyData.hasDict, Bool.false_or]
    exact keys_plain l
  | (.inr x, v) :: l => by
    show PyData.hasDictAll (.str x :: l.map fun kv => kd kv.1) = false
    simp only [PyData.hasDictAll, PyData.hasDict, Bool.false_or]
    exact keys_plain l
mutual
theorem De.told (SM : SysM X.K) (I : Inv X pins σ H s) : ∀ (d : PyData) (v : V) (u : Value), De X.K H v d → RelV v u → ∃ as, Reads s.heap u d as ∧ sysModules ∉ as
  | .none, _, u, .non, r => by
    obtain rfl : u = .none := r
    exact ⟨[], .none, fun z => nomatch z⟩
  | .bool b, _, u, .bl _, r => by
    obtain rfl : u = .bool b := r
    exact ⟨[], .bool b, fun z => nomatch z⟩
  | .int i, _, u, .int _, r => by
    obtain ⟨t, rfl⟩ : ∃ t, u = .int i t := r
    exact ⟨[], .int i t, fun z => nomatch z⟩
  | .str x, _, u, .str _, r => by
    obtain ⟨t, rfl⟩ : ∃ t, u = .str x t := r
    exact ⟨[], .str x t, fun z => nomatch z⟩
  | .list ds, _, u, .lst (a := a) hs ha, r => by
    obtain rfl : u = .ref a := r
    obtain ⟨its, rv, ⟨o, n, e1, e2, _, e3⟩, _⟩ := I.list hs
    obtain ⟨as, R, na⟩ := DeAll.told SM I ds _ its ha rv
    refine ⟨a :: as, .list e1 e2 e3 R, fun z => ?_⟩
    rcases List.mem_cons.mp z with z | z
    · obtain ⟨o', es, m, lk, dd⟩ := SM
      have g := I.kIn _ _ lk
      rw [z, e1] at g
      cases g
      rw [dd] at e3
      cases e3
    · exact na z
  | .tuple ds, _, u, .tup (a := a) hs ha, r => by
    obtain rfl : u = .ref a := r
    obtain ⟨its, rv, ⟨o, e1, e2, n, e3⟩, _⟩ := I.tuple hs
    obtain ⟨as, R, na⟩ := DeAll.told SM I ds _ its ha rv
    exact ⟨as, .tuple e1 e2 e3 R, na⟩
  | .dict _, _, u, .dic (a := a) h, r => by
    obtain rfl : u = .ref a := r
    obtain ⟨_, sys, ws, rel, o, es, ep, ho, hx, hd, _, ps, _⟩ := dk_of I.hok h
    cases rel
    have he : es.toList = [] := by
      generalize es.toList = l at ps
      cases ps
      rfl
    refine ⟨a :: [] ++ [], .dict ho hx.1 hd (by rw [he]; exact .nil) (by rw [he]; exact .nil), fun z => ?_⟩
    have z' : sysModules = a := List.mem_singleton.mp z
    rw [z', beq_self_eq_true] at sys
    cases sys
theorem DeAll.told (SM : SysM X.K) (I : Inv X pins σ H s) : ∀ (ds : List PyData) (vs : List V) (us : List Value), DeAll X.K H vs ds → Vals vs us → ∃ as, ReadsAll s.heap us ds as ∧ sysModules ∉ as
  | [], _, us, .nil, r => by
    cases r
    exact ⟨[], .nil, fun z => nomatch z⟩
  | d :: ds, _, us, .cons h t, r => by
    cases r with
    | cons r1 r2 =>
      obtain ⟨as, R1, n1⟩ := De.told SM I d _ _ h r1
      obtain ⟨bs, R2, n2⟩ := DeAll.told SM I ds _ _ t r2
      exact ⟨as ++ bs, .cons R1 R2, fun z => (List.mem_append.mp z).elim n1 n2⟩
end
theorem call_repr (hgd : X.A.guards = some []) (hu : X.A.units + 200 < cLine) : CallR X (.builtin "repr") (rRepr X.K) := by
  intro pins s σ H xs us Q I r h
  obtain ⟨v, d, rfl, rp, sh, dp, sz, q⟩ := h
  cases r with
  | @cons _ u _ _ ru rr =>
    cases rr
    cases rp with
    | dat D sd =>
      obtain ⟨as, R⟩ := Dp.reads I d v u D ru
      have nd : d.hasDict = false := PyData.hasDict_of_canLay d (SeqAt.canLay_of_shaped sd)
      have fin : ∀ h' z tk, (∀ b o, s.heap.get? b = some o → h'.get? b = some o) → EP X pins σ Q (.str d.shown z) { s with heap := h', toks := tk } := fun h' z tk kp => ⟨.str d.shown, H, I.kept (t' := tk) kp, ⟨z, rfl⟩, q⟩
      cases R with
      | none => exact P.repr_of_none (by simpa only [PyData.shown] using fin s.heap s.toks _ (fun _ _ e => e))
      | bool b => exact P.repr_of_bool (by simpa only [PyData.shown] using fin s.heap s.toks _ (fun _ _ e => e))
      | int i t => exact P.repr_of_int (by simpa only [PyData.showable, decide_eq_true_eq] using sh) (by simpa only [PyData.shown] using fin s.heap s.toks _ (fun _ _ e => e))
      | str x t => exact P.repr_of_str (by simpa only [PyData.shown] using fin s.heap s.toks _ (fun _ _ e => e)) (by simpa only [PyData.shown] using sz)
      | list h1 h2 h3 h4 => exact repr_of_reads' (.list h1 h2 h3 h4) sh (PyData.noDict_hsm nd) hgd (by omega) (fun _ _ e => e) fin sz
      | tuple h1 h2 h3 h4 => exact repr_of_reads' (.tuple h1 h2 h3 h4) sh (PyData.noDict_hsm nd) hgd (by omega) (fun _ _ e => e) fin sz
      | dict h1 h2 h3 h4 h5 => exact repr_of_reads' (.dict h1 h2 h3 h4 h5) sh (PyData.noDict_hsm nd) hgd (by omega) (fun _ _ e => e) fin sz
    | dee SM D =>
      obtain ⟨as, R, na⟩ := De.told SM I d v u D ru
      have fin : ∀ h' z tk, (∀ b o, s.heap.get? b = some o → h'.get? b = some o) → EP X pins σ Q (.str d.shown z) { s with heap := h', toks := tk } := fun h' z tk kp => ⟨.str d.shown, H, I.kept (t' := tk) kp, ⟨z, rfl⟩, q⟩
      cases R with
      | none => exact P.repr_of_none (by simpa only [PyData.shown] using fin s.heap s.toks _ (fun _ _ e => e))
      | bool b => exact P.repr_of_bool (by simpa only [PyData.shown] using fin s.heap s.toks _ (fun _ _ e => e))
      | int i t => exact P.repr_of_int (by simpa only [PyData.showable, decide_eq_true_eq] using sh) (by simpa only [PyData.shown] using fin s.heap s.toks _ (fun _ _ e => e))
      | str x t => exact P.repr_of_str (by simpa only [PyData.shown] using fin s.heap s.toks _ (fun _ _ e => e)) (by simpa only [PyData.shown] using sz)
      | list h1 h2 h3 h4 => exact repr_of_reads' (.list h1 h2 h3 h4) sh (fun _ => na) hgd (by omega) (fun _ _ e => e) fin sz
      | tuple h1 h2 h3 h4 => exact repr_of_reads' (.tuple h1 h2 h3 h4) sh (fun _ => na) hgd (by omega) (fun _ _ e => e) fin sz
      | dict h1 h2 h3 h4 h5 => exact repr_of_reads' (.dict h1 h2 h3 h4 h5) sh (fun _ => na) hgd (by omega) (fun _ _ e => e) fin sz
    | @dic p kvs ds hp D nd =>
      obtain rfl : u = Value.ref p := ru
      obtain ⟨_, sys, ws, rel, o, es, ep, ho, hx, hd, _, ps, _⟩ := dk_of I.hok hp
      obtain ⟨rv, ek⟩ := kv_vals rel
      obtain ⟨⟨as, rk⟩, evs⟩ := pairs_read (h := s.heap) ps
      obtain ⟨bs, rvs⟩ := Dp.readsAll I ds _ _ D rv
      rw [← evs] at rvs
      have lz : (kvs.map fun kv => kd kv.1).length = ds.length := by
        rw [List.length_map, ← dpAll_len D, List.length_map]
      have z1 : ((kvs.map fun kv => kd kv.1).zip ds).map (·.1) = ws.map fun kv => kd kv.1 := by
        rw [← ek]
        exact List.map_fst_zip (Nat.le_of_eq lz)
      have z2 : ((kvs.map fun kv => kd kv.1).zip ds).map (·.2) = ds := List.map_snd_zip (Nat.le_of_eq lz.symm)
      have R : Reads s.heap (.ref p) (.dict ((kvs.map fun kv => kd kv.1).zip ds)) _ := Reads.dict ho hx.1 hd (by rw [z1]; exact rk) (by rw [z2]; exact rvs)
      generalize (kvs.map fun kv => kd kv.1).zip ds = kk at R z1 z2 sh dp sz q
      have hz' : (dictText (PyData.shownKv kk)).length ≤ sizeLine := by simpa only [PyData.shown] using sz
      obtain ⟨hs1, hs2⟩ := PyData.showableKv_split kk (by simpa only [PyData.showable] using sh)
      have nk : PyData.hasDictAll (kk.map (·.1)) = false := by
        rw [z1]
        exact keys_plain ws
      obtain ⟨b1, hb1, k1⟩ := ReprAllK.of_readsAll (prog := X.prog) (w := X.w) (by rw [z1]; exact rk : ReadsAll s.heap (es.toList.map (·.key)) (kk.map (·.1)) as) hs1 (fun y => by rw [nk] at y; cases y)
        (fun t ht => let ⟨e, he, hl⟩ := PyData.shownKv_key_le kk t ht; Nat.le_trans hl (Nat.le_trans (dictText_mem_le he) hz'))
      obtain ⟨b2, hb2, k2⟩ := ReprAllK.of_readsAll (prog := X.prog) (w := X.w) (by rw [z2]; exact rvs : ReadsAll s.heap (es.toList.map (·.val)) (kk.map (·.2)) bs) hs2 (fun y => by rw [z2, nd] at y; cases y)
        (fun t ht => let ⟨e, he, hl⟩ := PyData.shownKv_val_le kk t ht; Nat.le_trans hl (Nat.le_trans (dictText_mem_le he) hz'))
      have hb : ReadAtMost s.heap (PyData.depthKv kk) (b1 ++ b2) := (hb1.mono (PyData.depthAll_keys_le kk)).append (hb2.mono (PyData.depthAll_vals_le kk))
      have hna : p ∉ b1 ++ b2 := not_mem_of_deeper R (by simp only [PyData.depth]; omega) hb
      have dp' : PyData.depthKv kk + 1 ≤ 64 := by simpa only [PyData.depth] using dp
      have ent := ReprEntriesK.of_two es.toList _ _ (k1.more_le (fun b hb => List.mem_append_left _ hb) (PyData.depthAll_keys_le kk)) (k2.more_le (fun b hb => List.mem_append_right _ hb) (PyData.depthAll_vals_le kk))
      refine call_repr_slot (by omega) ⟨o, ho, hx.1⟩ F.slot_dict_repr ?_
      refine call_dict_reprK ho hx.1 hd sys hna ent hgd (fun b _ => Clear.nil b) (by show X.A.units + 1 + (PyData.depthKv kk + 1) < cLine; omega) (fun _ _ e => e) (fun h' z tk kp => ⟨_, _, rfl, ?_⟩) (by rw [← PyData.shownKv_eq]; exact hz')
      refine ⟨.str (PyData.dict kk).shown, H, I.kept (t' := tk) kp, ⟨z, ?_⟩, q⟩
      simp only [PyData.shown, PyData.shownKv_eq]
end
end Ca
set_option Elab.async false
set_option linter.all false
set_option maxRecDepth 100000
set_option maxHeartbeats 4000000
namespace Ca
open PySem PySem.Spec PyProof.Rows L2
/-! ### a < b < c < d -/
def tChain3 (r r' r'' : R2) (ta tb tc td : TE) : TE := fun σ H Q => ta σ H fun x H1 => tb σ H1 fun y H2 => r x y H2 fun z G3 => ∃ k, z = .bl k ∧
  (if k = true then tc σ G3 fun w' H4 => r' y w' H4 fun z' H5 => ∃ k', z' = .bl k' ∧ (if k' = true then td σ H5 fun x' H6 => r'' w' x' H6 Q else Q (.bl false) H5) else Q (.bl false) G3)
section
variable {X : Cx} {a b c d : Expr} {ta tb tc td : TE} {pos : Pos} {k : Nat} {f C : Addr} {fd : FuncData} {ps : List Str} {sp : Sp} {pins : List (Addr × Obj)} {σ : L2.St} {H : Hp} {s : Shared}
theorem pe_chain3 {op op' op'' : CmpOp} {r r' r'' : R2} (ho : OpR X (compareOp op) r) (ho' : OpR X (compareOp op') r') (ho'' : OpR X (compareOp op'') r'') (ha : PE X a ta) (hb : PE X b tb) (hc : PE X c tc) (hd : PE X d td)
    (hm : lastMarks [op, op', op''] [b, c, d] = false := by with_unfolding_all rfl) : PE X (.Compare a [op, op', op''] [b, c, d] pos) (tChain3 r r' r'' ta tb tc td) := by
  refine ⟨fun pins s σ H Q I h => ?_⟩
  refine Compare_chain (thn (ha.run pins s σ H _ I h) fun v s1 ⟨x, H1, I1, r1, q1⟩ => chain_link (thn (hb.run pins s1 σ H1 _ I1 q1) fun u s2 ⟨y, H2, I2, r2, q2⟩ =>
    thn (ho pins s2 σ H2 x y v u _ I2 r1 r2 q2) fun z0 s3 ⟨z, G3, J3, c3, k, e, w3⟩ => ?_)) hm
  subst e
  cases c3
  refine wpAny_truthy_bool ?_
  cases k with
  | false => exact ite_ff ⟨.bl false, G3, J3, rfl, w3⟩
  | true =>
    refine ite_tt (chain_link (thn (hc.run pins s3 σ G3 _ J3 w3) fun w' s4 ⟨z', H4, I4, r4, q4⟩ => thn (ho' pins s4 σ H4 y z' u w' _ I4 r2 r4 q4) fun z1 s5 ⟨z2, H5, I5, r5, k', e', q5⟩ => ?_))
    subst e'
    cases r5
    refine wpAny_truthy_bool ?_
    cases k' with
    | false => exact ite_ff ⟨.bl false, H5, I5, rfl, q5⟩
    | true => exact ite_tt (chain_last (thn (hd.run pins s5 σ H5 _ I5 q5) fun x' s6 ⟨z3, H6, I6, r6, q6⟩ => ho'' pins s6 σ H6 z' z3 w' x' Q I6 r4 r6 q6))
/-! ### own methods that the language itself calls -/
end
/-- a value's type, for a comparison -/
inductive Ty (K : PySem.W.Frag) (H : Hp) : V → Value → Prop where
  | non : Ty K H .non (.type "NoneType")
  | bl (x : Bool) : Ty K H (.bl x) (.type "bool")
  | int (i : Int) : Ty K H (.int i) (.type "int")
  | str (x : Str) : Ty K H (.str x) (.type "str")
  | lst {a : Addr} {xs : List V} (e : SqL K H a xs) : Ty K H (.ref a) (.type "list")
  | tup {a : Addr} {xs : List V} (e : SqT K H a xs) : Ty K H (.ref a) (.type "tuple")
  | dic {a : Addr} {kvs : List (Key × V)} (e : H a = some (.dK kvs)) : Ty K H (.ref a) (.type "dict")
  | ins {a C dx : Addr} {fs : List (Str × V)} (e : H a = some (.ins C dx fs)) : Ty K H (.ref a) (.ref C)
section
variable {X : Cx} {k : Nat} {f C : Addr} {fd : FuncData} {ps : List Str} {sp : Sp} {pins : List (Addr × Obj)} {σ : L2.St} {H : Hp} {s : Shared}
end
end Ca
set_option Elab.async false
set_option linter.all false
set_option maxRecDepth 100000
set_option maxHeartbeats 4000000
namespace PySem
open Sem (wp)
/-- enumerate(v): its two new cells -/
theorem cx_enum_new {v : Value} {o : Obj} {H : Heap → Prop} (B : Begins v o H) :
    Meets (Builtin.«enumerate.__new__» ⟨[.type "enumerate", v], []⟩) (fun _ R s => H s.heap ∧
      R (.ok (.ret (.ref (s.heap.push o).objs.size))) { s with heap := (s.heap.push o).push { cls := .type "enumerate", data := .fields #[.none, .bool false, .ref s.heap.objs.size, rawInt 0, .none, .none] } }) :=
  .of_wp fun prog w A R s h => by
    obtain ⟨hp, g, d, tk, os⟩ := s
    obtain ⟨h1, h⟩ := h
    have z1 := sub_enumerate
    have z2 : ∀ {A' : Around} {E : Value → Shared → Prop} {Q : Value → Shared → Prop}, Q (.ref hp.objs.size) ⟨hp.push o, g, d, tk, os⟩ → wpAny (model prog w) A' (pyIter v) Q E ⟨hp, g, d, tk, os⟩ :=
      fun q => B.iter prog w _ _ ⟨hp, g, d, tk, os⟩ _ h1 q
    wp_walk using z2
    refine wpAny_stack_any fun st => wpAny_pure ?_
    split
    · rename_i c _ _ _ _ _
      cases (c == Value.type "enumerate") <;> (wp_walk using z2; exact ⟨_, rfl, h⟩)
    · wp_walk using z2
      exact ⟨_, rfl, h⟩
section
variable {prog : Program} {w : World} {A : Around} {E : Value → Shared → Prop} {s : Shared}
theorem cx_enum {v : Value} {o : Obj} {H : Heap → Prop} {Q : Value → Shared → Prop} (B : Begins v o H) (h1 : H s.heap)
    (h : ∀ h', IsEnum h' (s.heap.objs.size + 1) s.heap.objs.size 0 .none → h'.get? s.heap.objs.size = some o → h'.objs.size = s.heap.objs.size + 2 →
      (∀ b o, s.heap.get? b = some o → h'.get? b = some o) → Q (.ref (s.heap.objs.size + 1)) { s with heap := h' }) :
    wpAny (model prog w) A (call (.type "enumerate") [v]) Q E s := by
  refine callType_new F.called_enumerate (by decide) (F.typeCall_enumerate_1 _) (F.newCall_enumerate_1 _) (fun obj => F.args_object_init_2 obj _) F.entry_enumerate_new (cx_enum_new B) ⟨h1, ?_⟩
  have hSz : (s.heap.push o).objs.size = s.heap.objs.size + 1 := Heap.size_push ..
  show _ ∧ _
  rw [hSz]
  have hEn : IsEnum ((s.heap.push o).push { cls := .type "enumerate", data := .fields #[.none, .bool false, .ref s.heap.objs.size, rawInt 0, .none, .none] }) (s.heap.objs.size + 1) s.heap.objs.size 0 .none := by
    have z := Heap.get?_push_size (s.heap.push o) (o := { cls := .type "enumerate", data := .fields #[.none, .bool false, .ref s.heap.objs.size, rawInt 0, .none, .none] }) rfl
    rw [hSz] at z
    exact z
  exact ⟨⟨_, hEn, rfl⟩, h _ hEn (Heap.get?_push_of_some _ (Heap.get?_push_size _ B.free)) (by rw [Heap.size_push, hSz]) fun b o x => Heap.get?_push_of_some _ (Heap.get?_push_of_some _ x)⟩
end
end PySem
namespace Ca
open PySem PySem.Spec PyProof.Rows L2
/-! ### enumerate(tuple) -/
def IteT (K : PySem.W.Frag) (a : Addr) : It :=
  ⟨fun i H => ∃ (xs : List V) (x : V), SqT K H a xs ∧ xs[i]? = some x, fun i H v H' => ∃ T x, v = .ref T ∧ H T = none ∧ H' = upd H T (.tup [.int (i : Nat), x]) ∧ ∀ xs, SqT K H a xs → xs[i]? = some x, fun i H => ∃ xs : List V, SqT K H a xs ∧ xs.length = i⟩
theorem turn_enumT {P : Program} {w : World} {K : PySem.W.Frag} {elts : List Expr} {kk : Nat} {tpos : Pos} (a e it : Addr) :
    Turn P w K (.Tuple elts kk tpos) (IteT K a) [e, it] e (fun i h => (∃ was, IsEnum h e it ((i : Nat) : Int) was) ∧ h.IsTupleIter it a i ∧ e ≠ it) where
  mem := by simp
  obj := fun i h st b hb => by
    obtain ⟨⟨was, hEn⟩, ⟨o, ho, hc, hd⟩, _⟩ := st
    rcases (show b = e ∨ b = it by simpa using hb) with z | z
    · rw [z]; exact ⟨_, hEn, fun v q => nomatch q⟩
    · rw [z]; exact ⟨o, ho, fun v q => by rw [hd] at q; cases q⟩
  keep := fun i h h' st k => let ⟨⟨was, hEn⟩, hi, hne⟩ := st; ⟨⟨was, k e (by simp) _ hEn⟩, hi.at fun o q => k it (by simp) o q, hne⟩
  item := by
    intro X hP hw hK hc i pins s σ H E I hf st hg
    subst hP hw hK
    obtain ⟨⟨was, hEn⟩, hIt, hne⟩ := st
    obtain ⟨xs, x, hSq, hIx⟩ := hg
    obtain ⟨its, rVs, p, hSz⟩ := I.tuple hSq
    obtain ⟨u, hUu, rUu⟩ := rVs.get hIx
    have ltE : e < s.heap.objs.size := Heap.lt_size hEn
    have ltI : it < s.heap.objs.size := by obtain ⟨_, q, _⟩ := hIt; exact Heap.lt_size q
    have p' : s.heap.IsTuple a its.toArray := p
    have nai : a ≠ it := fun z => by
      obtain ⟨o1, q1, c1, _⟩ := p'
      obtain ⟨o2, q2, c2, _⟩ := hIt
      rw [z, q2] at q1
      cases q1
      rw [c1] at c2
      injection c2 with c2
      exact absurd c2 (by decide)
    have nae : e ≠ a := fun z => by
      obtain ⟨o1, q1, c1, _⟩ := p'
      rw [← z, hEn] at q1
      cases q1
      injection c1 with c1
      exact absurd c1 (by decide)
    have D := Draws.tuple (prog := X.prog) (w := X.w) (A := X.A.in1) (I.ok.hd hc) it a nai its.toArray
    have lt : i < its.toArray.size := by
      have := (Array.getElem?_eq_some_iff.mp (show its.toArray[i]? = some u by simpa using hUu)).1
      exact this
    refine wpAny_pyNext_enum_itemD D hEn ⟨hIt, p'⟩ lt hne (by simp [hne, nae]) fun u' h' tk hu' ho hit' hT hsz hk => ?_
    have eu : u' = u := by
      have z1 : its.toArray[i]? = some u' := hu'
      have z2 : its.toArray[i]? = some u := by simpa using hUu
      exact Option.some.inj (z1.symm.trans z2)
    subst eu
    refine ⟨_, rfl, wpAny_letOwnedTupleGo_enum (s := { s with heap := h', toks := tk + 1 }) ho fun h'' he' sm => ?_⟩
    have tT : h''.get? s.heap.objs.size = some { cls := .type "tuple", data := .seq #[.int i tk, u'] } := (sm.2 _ (Nat.ne_of_gt ltE)).trans hT
    have new : ObjOk X.prog X.w (upd H s.heap.objs.size (.tup [.int (i : Nat), x])) h'' s.heap.objs.size (.tup [.int (i : Nat), x]) :=
      ⟨by show 2 ≤ sizeLine; decide, [.int i tk, u'], .cons ⟨_, rfl⟩ (.cons rUu .nil), ⟨_, tT, rfl, _, rfl⟩⟩
    have J1 : Inv X pins σ (upd H s.heap.objs.size (.tup [.int (i : Nat), x])) { s with heap := h'', toks := tk + 1 } :=
      I.turnedNew (ch := [e, it]) (fun b ob hb q => (sm.2 b (fun z => hb (by simp [z]))).trans (hk b ob (fun z => hb (by simp [z])) (fun z => hb (by simp [z])) q)) hf (Nat.le_refl _) new
    refine ⟨.ref s.heap.objs.size, _, J1, rfl, ⟨_, x, rfl, I.hok.fresh (Nat.le_refl _), rfl, fun ys hy => by rw [I.tuple_inj hy hSq]; exact hIx⟩, ⟨⟨u', ?_⟩, hit'.1.at fun o q => (sm.2 it (Ne.symm hne)).trans q, hne⟩, fun b hb => ?_⟩
    · have e1 : ((i + 1 : Nat) : Int) = (i : Int) + 1 := by omega
      rw [e1]; exact he'
    · have hb' : b < s.heap.objs.size := by
        rcases (show b = e ∨ b = it by simpa using hb) with z | z
        · rw [z]; exact ltE
        · rw [z]; exact ltI
      rw [upd_ne (Nat.ne_of_lt hb')]
      exact (hf b hb).1
  done := by
    intro X hP hw hK hc i pins s σ H E I hf st hg
    subst hP hw hK
    obtain ⟨⟨was, hEn⟩, hIt, hne⟩ := st
    obtain ⟨xs, hSq, hIx⟩ := hg
    obtain ⟨its, rVs, p, hSz⟩ := I.tuple hSq
    obtain ⟨f0, f1, f2, f3, f4, f5⟩ := hf it (by simp)
    have hl := rVs.length
    have p' : s.heap.IsTuple a its.toArray := p
    have nai : a ≠ it := fun z => by
      obtain ⟨o1, q1, c1, _⟩ := p'
      obtain ⟨o2, q2, c2, _⟩ := hIt
      rw [z, q2] at q1
      cases q1
      rw [c1] at c2
      injection c2 with c2
      exact absurd c2 (by decide)
    have D := Draws.tuple (prog := X.prog) (w := X.w) (A := X.A.in1) (I.ok.hd hc) it a nai its.toArray
    have e1 : its.toArray.size = i := by simp; omega
    exact wpAny_pyNext_enum_endD D hEn ⟨by rw [e1]; exact hIt, p'⟩ fun h' eb => ⟨rfl, I.turned (t' := s.toks) (fun b o hb q => eb b o hb q) f0 f1 f3 f4 f5⟩
  self := fun A i s Q E st h => let ⟨⟨_, hEn⟩, _⟩ := st; wpAny_pyIter_enum hEn h
def iEnumT (K : PySem.W.Frag) (ta : TA) : TI := fun σ H R => ta σ H fun vs H1 => ∃ a xs, vs = [.ref a] ∧ SqT K H1 a xs ∧ R (IteT K a) H1
theorem pi_enumT {X : Cx} {e : Expr} {ta : TA} {p pos tpos : Pos} {elts : List Expr} {kk : Nat} (hg : Gl X "enumerate") (hm : X.mg "enumerate" = none) (ha : PA X [e] ta) (hs : starEach [e] X.env = [(false, eval e X.env)] := by rfl) :
    PI X (.Tuple elts kk tpos) (.Call (.Name "enumerate" p) [e] [] pos) (iEnumT X.K ta) := by
  refine ⟨fun pins s σ H R I h => ?_⟩
  refine Call_ (ld_blt I hg hm boot_enumerate (PyProof.Rows.callWith_type1 (thn (ha.run pos pins s σ H _ I h) fun us s1 ⟨vs, H1, J1, r1, q1⟩ => ?_) hs rfl))
  obtain ⟨a, xs, ex, hSq, q⟩ := q1
  subst ex
  cases r1 with
  | cons r rr =>
    cases rr
    cases r
    obtain ⟨its, rVs, p', hSz⟩ := J1.tuple hSq
    refine cx_enum (begins_tuple a its.toArray) (show s1.heap.IsTuple a its.toArray from p') fun h' hEn hIt hsz hk => wpAny_pyIter_enum hEn ?_
    have I2 : Inv X pins σ H1 { s1 with heap := h' } := J1.kept (t' := s1.toks) hk
    refine ⟨s1.heap.objs.size + 1, [s1.heap.objs.size + 1, s1.heap.objs.size], _, _, H1, rfl, I2, turn_enumT a (s1.heap.objs.size + 1) s1.heap.objs.size, ⟨⟨.none, hEn⟩, ⟨_, hIt, rfl, rfl⟩, Nat.succ_ne_self _⟩, fun b hb => ?_, q⟩
    have hle : s1.heap.objs.size ≤ b := by
      rcases (show b = s1.heap.objs.size + 1 ∨ b = s1.heap.objs.size by simpa using hb) with z | z
      · rw [z]; exact Nat.le_add_right _ _
      · rw [z]; exact Nat.le_refl _
    exact J1.fpOk hle (J1.hok.fresh hle)
end Ca
set_option Elab.async false
set_option linter.all false
set_option maxRecDepth 100000
set_option maxHeartbeats 4000000
namespace Ca
open PySem L2
/-! ### values as data, dicts among them -/
mutual
inductive Dq (K : PySem.W.Frag) (H : Hp) : V → PyData → Prop
  | non : Dq K H .non .none
  | bl (b : Bool) : Dq K H (.bl b) (.bool b)
  | int (i : Int) : Dq K H (.int i) (.int i)
  | str (x : Str) (h : x.length ≤ 1000) : Dq K H (.str x) (.str x)
  | lst {a : Addr} {xs : List V} {ds : List PyData} : SqL K H a xs → DqAll K H xs ds → Dq K H (.ref a) (.list ds)
  | tup {a : Addr} {xs : List V} {ds : List PyData} : SqT K H a xs → DqAll K H xs ds → Dq K H (.ref a) (.tuple ds)
  | dic {a : Addr} {kvs : List (Key × V)} : H a = some (.dK kvs) → Dq K H (.ref a) (.dict [])
inductive DqAll (K : PySem.W.Frag) (H : Hp) : List V → List PyData → Prop
  | nil : DqAll K H [] []
  | cons {v : V} {vs : List V} {d : PyData} {ds : List PyData} : Dq K H v d → DqAll K H vs ds → DqAll K H (v :: vs) (d :: ds)
end
theorem same_sqt {K : PySem.W.Frag} {H H' : Hp} {a : Addr} {xs : List V} (s : Same H H') (h : SqT K H a xs) : SqT K H' a xs := h.ext s
mutual
theorem Dq.same {K : PySem.W.Frag} {H H' : Hp} (s : Same H H') : ∀ {d : PyData} {v : V}, Dq K H v d → Dq K H' v d
  | .none, _, h => by cases h; exact .non
  | .bool b, _, h => by cases h; exact .bl b
  | .int i, _, h => by cases h; exact .int i
  | .str x, _, h => by cases h with | str _ a => exact .str x a
  | .list ds, _, h => by
    cases h with
    | lst a b => exact .lst (s.seq a) (DqAll.same s b)
  | .tuple ds, _, h => by
    cases h with
    | tup a b => exact .tup (same_sqt s a) (DqAll.same s b)
  | .dict ds, _, h => by
    cases h with
    | dic a => exact .dic (s _ _ a)
theorem DqAll.same {K : PySem.W.Frag} {H H' : Hp} (s : Same H H') : ∀ {ds : List PyData} {vs : List V}, DqAll K H vs ds → DqAll K H' vs ds
  | [], _, h => by cases h; exact .nil
  | d :: ds, _, h => by
    cases h with
    | cons a b => exact .cons (Dq.same s a) (DqAll.same s b)
end
theorem DqAll.len {K : PySem.W.Frag} {H : Hp} : ∀ {vs : List V} {ds : List PyData}, DqAll K H vs ds → vs.length = ds.length
  | _, _, .nil => rfl
  | _, _, .cons _ t => congrArg Nat.succ t.len
theorem DqAll.get {K : PySem.W.Frag} {H : Hp} : ∀ {vs : List V} {ds : List PyData} {i : Nat} {v : V}, DqAll K H vs ds → vs[i]? = some v → ∃ d, ds[i]? = some d ∧ Dq K H v d
  | _, _, 0, _, .cons a _, e => by
    cases e
    exact ⟨_, rfl, a⟩
  | _, _, i + 1, _, .cons _ t, e => t.get (i := i) e
theorem DqAll.app {K : PySem.W.Frag} {H : Hp} : ∀ {vs ws : List V} {ds es : List PyData}, DqAll K H vs ds → DqAll K H ws es → DqAll K H (vs ++ ws) (ds ++ es)
  | _, _, _, _, .nil, h => h
  | _, _, _, _, .cons a t, h => .cons a (t.app h)
def tyOf : PyData → String
  | .none => "NoneType"
  | .bool _ => "bool"
  | .int _ => "int"
  | .str _ => "str"
  | .list _ => "list"
  | .tuple _ => "tuple"
  | .dict _ => "dict"
theorem Dq.ty {K : PySem.W.Frag} {H : Hp} {v : V} {d : PyData} (h : Dq K H v d) : Ty K H v (.type (tyOf d)) := by
  cases h with
  | non => exact .non
  | bl b => exact .bl b
  | int i => exact .int i
  | str x h => exact .str x
  | lst a b => exact .lst a
  | tup a b => exact .tup a
  | dic a => exact .dic a
theorem tyx_l {K : PySem.W.Frag} {H : Hp} {a : Addr} {xs : List V} (h : SqL K H a xs) : TyX K H (.ref a) (.type "list") := by
  rcases h with (e | ⟨o, e⟩) | ⟨o, _, _, e, c, _⟩
  · exact .base (.lst e)
  · exact .base (.frz e)
  · exact .kList e c
theorem tyx_t {K : PySem.W.Frag} {H : Hp} {a : Addr} {xs : List V} (h : SqT K H a xs) : TyX K H (.ref a) (.type "tuple") := by
  rcases h with (e | ⟨o, e⟩) | ⟨o, _, _, e, c, _⟩
  · exact .base (.tup e)
  · exact .fTuple e
  · exact .kTuple e c
theorem Dq.tyx {K : PySem.W.Frag} {H : Hp} {v : V} {d : PyData} (h : Dq K H v d) : TyX K H v (.type (tyOf d)) := by
  cases h with
  | non => exact .base .non
  | bl b => exact .base (.bl b)
  | int i => exact .base (.int i)
  | str x h => exact .base (.str x)
  | lst a b => exact tyx_l a
  | tup a b => exact tyx_t a
  | dic a => exact .base (.dK a)
def isInt : PyData → Bool
  | .int _ => true
  | _ => false
def isBool : PyData → Bool
  | .bool _ => true
  | _ => false
def isStr : PyData → Bool
  | .str _ => true
  | _ => false
def isTup : PyData → Bool
  | .tuple _ => true
  | _ => false
theorem kit_int : ∀ d : PyData, kitB (tyOf d) "int" = some (isInt d || isBool d)
  | .none => (by decide +kernel : kitB "NoneType" "int" = some false)
  | .bool _ => (by decide +kernel : kitB "bool" "int" = some true)
  | .int _ => (by decide +kernel : kitB "int" "int" = some true)
  | .str _ => (by decide +kernel : kitB "str" "int" = some false)
  | .list _ => (by decide +kernel : kitB "list" "int" = some false)
  | .tuple _ => (by decide +kernel : kitB "tuple" "int" = some false)
  | .dict _ => (by decide +kernel : kitB "dict" "int" = some false)
theorem kit_bool : ∀ d : PyData, kitB (tyOf d) "bool" = some (isBool d)
  | .none => (by decide +kernel : kitB "NoneType" "bool" = some false)
  | .bool _ => (by decide +kernel : kitB "bool" "bool" = some true)
  | .int _ => (by decide +kernel : kitB "int" "bool" = some false)
  | .str _ => (by decide +kernel : kitB "str" "bool" = some false)
  | .list _ => (by decide +kernel : kitB "list" "bool" = some false)
  | .tuple _ => (by decide +kernel : kitB "tuple" "bool" = some false)
  | .dict _ => (by decide +kernel : kitB "dict" "bool" = some false)
theorem kit_str : ∀ d : PyData, kitB (tyOf d) "str" = some (isStr d)
  | .none => (by decide +kernel : kitB "NoneType" "str" = some false)
  | .bool _ => (by decide +kernel : kitB "bool" "str" = some false)
  | .int _ => (by decide +kernel : kitB "int" "str" = some false)
  | .str _ => (by decide +kernel : kitB "str" "str" = some true)
  | .list _ => (by decide +kernel : kitB "list" "str" = some false)
  | .tuple _ => (by decide +kernel : kitB "tuple" "str" = some false)
  | .dict _ => (by decide +kernel : kitB "dict" "str" = some false)
theorem kit_tup : ∀ d : PyData, kitB (tyOf d) "tuple" = some (isTup d)
  | .none => (by decide +kernel : kitB "NoneType" "tuple" = some false)
  | .bool _ => (by decide +kernel : kitB "bool" "tuple" = some false)
  | .int _ => (by decide +kernel : kitB "int" "tuple" = some false)
  | .str _ => (by decide +kernel : kitB "str" "tuple" = some false)
  | .list _ => (by decide +kernel : kitB "list" "tuple" = some false)
  | .tuple _ => (by decide +kernel : kitB "tuple" "tuple" = some true)
  | .dict _ => (by decide +kernel : kitB "dict" "tuple" = some false)
section
variable {K : PySem.W.Frag} {σ : L2.St} {H : Hp} {v : V} {d : PyData} {i : Nat}
theorem rd_isd {n : String} {b : Bool} {Q : VK} (h : Dq K H v d) (hv : σ[i]? = some (some v)) (hk : kitB (tyOf d) n = some b) (q : Q (.bl b) H) : tCB (rIsi K) (tCons (tVar i) (tCons (tC (.ty n)) tNil)) σ H Q :=
  ⟨_, hv, v, .ty n, _, _, b, rfl, .ty n, h.tyx, kit_ty hk, q⟩
end
/-- a def that tells something of a value -/
def spIs (K : PySem.W.Frag) (f : PyData → Bool) : Sp := fun vs H Q _ => ∃ v d, vs = [v] ∧ Dq K H v d ∧ ∀ H', Same H H' → Q (.bl (f d)) H'
def spIs2 (K : PySem.W.Frag) (f : PyData → Nat → Bool) : Sp := fun vs H Q _ => ∃ v d m, vs = [v, .int (m : Nat)] ∧ m ≤ 1000 ∧ Dq K H v d ∧ ∀ H', Same H H' → Q (.bl (f d m)) H'
end Ca
set_option Elab.async false
set_option linter.all false
set_option maxRecDepth 100000
set_option maxHeartbeats 4000000
namespace Ca
open PySem L2
theorem walk_enumT {K : PySem.W.Frag} {a : Addr} {xs : List V} : Walk (IteT K a) xs.length (fun H => SqT K H a xs) (fun i H v H' => ∃ T x, v = .ref T ∧ H T = none ∧ H' = upd H T (.tup [.int (i : Nat), x]) ∧ xs[i]? = some x) :=
  ⟨fun i _ hi q => ⟨xs, xs[i], q, by simp [hi]⟩, fun _ q => ⟨xs, q, rfl⟩, fun _ _ _ _ _ q y => by
    obtain ⟨T, x, e1, e2, e3, e4⟩ := y
    exact ⟨T, x, e1, e2, e3, e4 xs q⟩⟩
/-- a comprehension without a test, whose items are known ahead -/
theorem lc_known {J : It} {n : Nat} {G : Hp → Prop} {Y : Nat → Hp → V → Hp → Prop} (w : Walk J n G Y) {te : TE} {vs : List Nat} {σ : L2.St} {H1 : Hp} {D : Addr} {Qd : Hp → Prop} {j : Nat} (f : Nat → V) (hn : n ≤ 100000) (hD : H1 D = none) (hG : ∀ H, Same H1 H → G H)
    (hY : ∀ i H x H', Y i H x H' → Same H H') (hw : ∀ x, wipe ((wipe σ vs).set j (some x)) vs = wipe σ vs)
    (hs : ∀ i x H H' (Qk : VK), i < n → Same H1 H → Y i H x H' → (∀ H4, Same H' H4 → Qk (f i) H4) → te ((wipe σ vs).set j (some x)) H' Qk) (hd : ∀ H, Same H1 H → H D = some (.lst ((List.range n).map f)) → Qd H) :
    ∃ W : Nat → Nat → Hp → Prop, (∃ m, W 0 m (upd H1 D (.lst []))) ∧ ∀ i m H, W i m H →
      (J.stop i H ∧ Qd H) ∨ (J.go i H ∧ ∃ Nx : Hp → Prop, (∀ H', Nx H' → ∃ m', m' < m ∧ W (i + 1) m' H') ∧ ∀ x H', J.yld i H x H' → gName j x (wipe σ vs) H' fun σ2 H2 => wipe σ2 vs = wipe σ vs ∧ tYes σ2 H2 fun b H3 =>
        if b = true then te σ2 H3 fun y H4 => ∃ acc, H4 D = some (.lst acc) ∧ acc.length < sizeLine ∧ Nx (upd H4 D (.lst (acc ++ [y]))) else Nx H3) :=
  lc_it w (fun i H => Same H1 H ∧ H D = some (.lst ((List.range i).map f))) ⟨Same.new hD, upd_same⟩ (fun i H hi p => hG H p.1) (fun i x H H' hi p y => ⟨hw x, rd_yes' (hs i x H H' _ hi p.1 y fun H4 s4 => by
    have t := hY i H x H' y
    refine ⟨_, s4 _ _ (t _ _ p.2), ?_, fun b o e => ?_, ?_⟩
    · rw [List.length_map, List.length_range]
      exact Nat.lt_of_lt_of_le (Nat.lt_of_lt_of_le hi hn) (by decide)
    · rw [upd_ne (ne_of_none e hD)]
      exact s4 _ _ (t _ _ (p.1 _ _ e))
    · rw [upd_same, List.range_succ, List.map_append]
      rfl)⟩) fun H p => hd H p.1 p.2
where
  rd_yes' {A B : Hp → Prop} {σ : L2.St} {H : Hp} (h : A H) : tYes σ H (fun b H3 => if b = true then A H3 else B H3) := by
    show (if true = true then A H else B H)
    rw [if_pos rfl]
    exact h
end Ca
set_option Elab.async false
set_option linter.all false
set_option maxRecDepth 100000
namespace Ca
open PySem L2
def top (i : Nat) : Stmt := PySem.Challenge.pw_commonanswer_k43_whole_answers_that_were.main.body.getD i (.Pass ⟨0, 0, 0, 0⟩)
def inner (s : Stmt) (j : Nat) : Stmt := match s with
  | .ClassDef _ _ _ body _ _ _ _ _ _ _ => body.getD j (.Pass ⟨0, 0, 0, 0⟩)
  | s => s
abbrev mNotASystemInit : Stmt := inner (top 5) 0
abbrev mInvalidSeenInit : Stmt := inner (top 8) 0
abbrev sIsInteger : Stmt := top 18
abbrev sIsTupleOf : Stmt := top 19
abbrev sIsName : Stmt := top 20
abbrev sIsUnknown : Stmt := top 21
abbrev sIsStretch : Stmt := top 22
abbrev sIsRow : Stmt := top 23
abbrev sCheckUnknowns : Stmt := top 24
abbrev sCheckRows : Stmt := top 25
abbrev sLineOf : Stmt := top 26
abbrev mSystemInit : Stmt := inner (top 29) 0
abbrev mSystemUnknowns : Stmt := inner (top 29) 2
abbrev mSystemRows : Stmt := inner (top 29) 3
abbrev mSystemNames : Stmt := inner (top 29) 4
abbrev mSystemLen : Stmt := inner (top 29) 5
abbrev mSystemBool : Stmt := inner (top 29) 6
abbrev mSystemStr : Stmt := inner (top 29) 7
abbrev mSystemEq : Stmt := inner (top 29) 8
abbrev sIsFraction : Stmt := top 33
abbrev sFraction : Stmt := top 34
abbrev sPlus : Stmt := top 35
abbrev sIsAnswer : Stmt := top 37
abbrev sCheckSystem : Stmt := top 38
abbrev sCheckSeen : Stmt := top 39
abbrev mTableInit : Stmt := inner (top 41) 0
abbrev sFirstTable : Stmt := top 42
abbrev sLineBehind : Stmt := top 43
abbrev sExchanged : Stmt := top 44
abbrev sFirstPlace : Stmt := top 45
abbrev sFirstWrong : Stmt := top 46
abbrev sNextExchange : Stmt := top 47
abbrev sSettled : Stmt := top 48
abbrev sAmountsIn : Stmt := top 49
abbrev sWeightsIn : Stmt := top 50
abbrev sCheapestAmounts : Stmt := top 51
abbrev sInWholeNumbers : Stmt := top 53
abbrev sSeenLimit : Stmt := top 54
abbrev sWidthLimits : Stmt := top 55
abbrev sNumbersFor : Stmt := top 56
abbrev sClash : Stmt := top 57
abbrev sFits : Stmt := top 58
abbrev sFitting : Stmt := top 59
abbrev sLawPurse : Stmt := top 61
abbrev sLawDraw : Stmt := top 62
abbrev sLawPick : Stmt := top 63
abbrev sLawLow : Stmt := top 64
abbrev sLawPlus : Stmt := top 65
abbrev sLawTimes : Stmt := top 66
abbrev sLawIsLess : Stmt := top 67
abbrev sLawStretch : Stmt := top 68
abbrev sLawCard : Stmt := top 69
abbrev sLawMade : Stmt := top 70
abbrev sLawWithoutLast : Stmt := top 71
abbrev sLawHasValues : Stmt := top 72
abbrev sLawIsFraction : Stmt := top 73
abbrev sLawSum : Stmt := top 74
abbrev sLawLies : Stmt := top 75
abbrev sLawIsMember : Stmt := top 76
abbrev sLawAnswer : Stmt := top 77
abbrev sLawRowFits : Stmt := top 78
abbrev sLawClash : Stmt := top 79
abbrev sLawIsOf : Stmt := top 80
abbrev sLawSeenRight : Stmt := top 81
abbrev sLawRight : Stmt := top 82
abbrev sLaw : Stmt := top 83
end Ca
set_option Elab.async false
set_option linter.all false
set_option maxRecDepth 100000
set_option maxHeartbeats 4000000
namespace Ca
open PySem L2
abbrev FnT (K : PySem.W.Frag) (x : Str) (st : Stmt) (f : Addr) (fd : FuncData) : Prop := FunD K x x (defArgs st) (defBody st) (defScope st) [] [] f fd
/-- the built-in names that these defs read -/
structure Bn (mg : Str → Option Value) : Prop where
  isi : mg "isinstance" = none
  int : mg "int" = none
  bool : mg "bool" = none
  str : mg "str" = none
  tup : mg "tuple" = none
  len : mg "len" = none
  all : mg "all" = none
  enum : mg "enumerate" = none
def isTupN : PyData → Nat → Bool
  | .tuple ds, m => decide (ds.length = m)
  | _, _ => false
section
variable {P : Program} {w : World} {K : PySem.W.Frag} {mg : Str → Option Value} {base : Heap}
theorem scIsInteger : FnScope ["value"] ["value"] (defScope sIsInteger) := ⟨rfl, rfl, rfl, by decide +kernel, rfl, by decide +kernel, by decide +kernel⟩
theorem ok_isInteger {f : Addr} {fd : FuncData} (F : FnT K "is_integer" sIsInteger f fd) (B : Bn mg) : FnOk P w K mg base CX0 1 f fd ["value"] (spIs K isInt) := by
  refine F.ok scIsInteger (fun vs H Q E h => ?_) (fun cdv A outer s H vs Q E hr h => ?_)
  · obtain ⟨v, d, rfl, _⟩ := h
    rfl
  · obtain ⟨v, d, rfl, hd, q⟩ := h
    have q0 := q H (fun _ _ e => e)
    refine ⟨_, PSs.nox (pss_one (ps_ret (pe_and (pe_callB call_isi (by rfl) B.isi PyProof.Rows.boot_isinstance (pa_cons (pv 0) (pa_cons (pe_bltn (v := .ty "int") (by rfl) B.int (by decide +kernel) rfl) pa_nil)))
      (pe_one (pe_not (pe_callB call_isi (by rfl) B.isi PyProof.Rows.boot_isinstance (pa_cons (pv 0) (pa_cons (pe_bltn (v := .ty "bool") (by rfl) B.bool (by decide +kernel) rfl) pa_nil)))))))), ?_⟩
    refine rd_isd hd rfl (kit_int d) ⟨_, rfl, ?_⟩
    cases d with
    | int i => exact iteT (rd_isd hd rfl (kit_bool _) ⟨_, rfl, q0⟩)
    | bool b => exact iteT (rd_isd hd rfl (kit_bool _) ⟨_, rfl, q0⟩)
    | _ => exact iteF q0
theorem scIsTupleOf : FnScope ["value", "many"] ["value", "many"] (defScope sIsTupleOf) := ⟨rfl, rfl, rfl, by decide +kernel, rfl, by decide +kernel, by decide +kernel⟩
theorem ok_isTupleOf {f : Addr} {fd : FuncData} (F : FnT K "is_tuple_of" sIsTupleOf f fd) (B : Bn mg) : FnOk P w K mg base CX0 1 f fd ["value", "many"] (spIs2 K isTupN) := by
  refine F.ok scIsTupleOf (fun vs H Q E h => ?_) (fun cdv A outer s H vs Q E hr h => ?_)
  · obtain ⟨v, d, m, rfl, _⟩ := h
    rfl
  · obtain ⟨v, d, m, rfl, hm, hd, q⟩ := h
    have q0 := q H (fun _ _ e => e)
    refine ⟨_, PSs.nox (pss_one (ps_ret (pe_and (pe_callB call_isi (by rfl) B.isi PyProof.Rows.boot_isinstance (pa_cons (pv 0) (pa_cons (pe_bltn (v := .ty "tuple") (by rfl) B.tup (by decide +kernel) rfl) pa_nil)))
      (pe_one (pe_cmpR op_eq (pe_callB call_len (by rfl) B.len boot_len (pa_cons (pv 0) pa_nil)) (pv 1) (nomark _)))))), ?_⟩
    refine rd_isd hd rfl (kit_tup d) ⟨_, rfl, ?_⟩
    cases d with
    | tuple ds =>
      cases hd with
      | @tup a xs _ h1 h2 =>
        refine iteT ⟨_, rfl, _, _, rfl, .inr ⟨_, h1, rfl⟩, _, rfl, rfl, ?_⟩
        have e : decide (V.int (xs.length : Int) = V.int (m : Int)) = decide (ds.length = m) := by
          rw [h2.len]
          by_cases c : ds.length = m
          · rw [decide_eq_true c, decide_eq_true (by rw [c])]
          · rw [decide_eq_false c, decide_eq_false (fun z => c (by injection z with z; omega))]
        rw [e]
        exact q0
    | _ => exact iteF q0
/-! ### names -/
def LET : Str := "abcdefghijklmnopqrstuvwxyz"
def DIG : Str := "0123456789"
structure Cn (mg : Str → Option Value) : Prop where
  letters : ∃ t, mg "LETTERS" = some (.str LET t)
  digits : ∃ t, mg "DIGITS" = some (.str DIG t)
  chars : ∃ t, mg "MOST_CHARACTERS" = some (.int 8 t)
  bound : ∃ t, mg "BOUND" = some (.str "bound" t)
  unknowns : ∃ t, mg "MOST_UNKNOWNS" = some (.int 3 t)
  rows : ∃ t, mg "MOST_ROWS" = some (.int 6 t)
  number : ∃ t, mg "MOST_NUMBER" = some (.int 10000 t)
def isLet (c : Nat) : Bool := decide (c ∈ LET.cps.toList)
def isSign (c : Nat) : Bool := isLet c || decide (c ∈ DIG.cps.toList)
def nameS (x : Str) : Bool := decide (1 ≤ x.length) && (decide (x.length ≤ 8) && (isLet (x.cps.toList.getD 0 0) && x.cps.toList.all isSign))
def isNameD : PyData → Bool
  | .str x => nameS x
  | _ => false
theorem all_range (l : List Nat) (g : Nat → Bool) (n : Nat) (h : l.length = n) : ((List.range n).map fun i => g (l.getD i 0)).all id = l.all g := by
  have e : ((List.range n).map fun i => g (l.getD i 0)) = l.map g := by
    refine List.ext_getElem (by simp [h]) fun i h1 h2 => ?_
    have hi : i < l.length := by simpa using h2
    simp [List.getElem?_eq_getElem hi]
  rw [e, List.all_map]
  rfl
theorem scIsName : FnScope ["value", "char"] ["value"] (defScope sIsName) := ⟨rfl, rfl, rfl, by decide +kernel, rfl, by decide +kernel, by decide +kernel⟩
theorem ok_isName {f : Addr} {fd : FuncData} (F : FnT K "is_name" sIsName f fd) (B : Bn mg) (C : Cn mg) : FnOk P w K mg base CX0 1 f fd ["value"] (spIs K isNameD) := by
  obtain ⟨t1, c1⟩ := C.letters
  obtain ⟨t2, c2⟩ := C.digits
  obtain ⟨t3, c3⟩ := C.chars
  refine F.ok scIsName (fun vs H Q E h => ?_) (fun cdv A outer s H vs Q E hr h => ?_)
  · obtain ⟨v, d, rfl, _⟩ := h
    rfl
  · obtain ⟨v, d, rfl, hd, q⟩ := h
    have nd := scIsName.nd
    have q0 := q H (fun _ _ e => e)
    refine ⟨_, PSs.nox (pss_cons (ps_if (PW.pt (pw_or (pt_not (pt_val (pe_callB call_isi (by rfl) B.isi PyProof.Rows.boot_isinstance (pa_cons (pv 0) (pa_cons (pe_bltn (v := .ty "str") (by rfl) B.str (by decide +kernel) rfl) pa_nil)))))
        (pw_or1 (pt_not (pt_chain op_le op_le pe_int (pe_callB call_len (by rfl) B.len boot_len (pa_cons (pv 0) pa_nil)) (pe_glob (v := .int 8) rfl c3 ⟨_, rfl⟩)))))) (pss_one (ps_ret pe_bl)) pss_nil)
      (pss_one (ps_ret (pe_and (pe_cmpR op_in_sign (pe_ix ix_str (pv 0) pe_int (fun _ _ => rfl)) (pe_glob (v := .str LET) rfl c1 ⟨_, rfl⟩) (by rfl))
        (pe_one (pe_callB (cr_all rfl) (by rfl) B.all PyProof.Rows.boot_all (pa_cons (pe_lc (own := [("char", 1)]) (g := gName 1) (tt := tYes) rfl nd (pi_str (pv 0))
          (blkOk_by (own := [("char", 1)]) (N := ["value", "char"]) (sc := defScope sIsName) (by decide +kernel)) (fun _ _ _ _ _ => pg_name (i := 1) nd rfl (Or.inl rfl)) (fun _ _ _ _ _ => pts_nil)
          (fun _ _ _ _ _ => pe_or (pe_cmpR op_in_sign (pv 1) (pe_glob (v := .str LET) rfl c1 ⟨_, rfl⟩) (by rfl)) (pe_one (pe_cmpR op_in_sign (pv 1) (pe_glob (v := .str DIG) rfl c2 ⟨_, rfl⟩) (by rfl))))) pa_nil))))))), ?_⟩
    refine rd_isd hd rfl (kit_str d) ⟨_, rfl, ?_⟩
    cases d with
    | str x =>
      cases hd with
      | str _ hx =>
        have hx2 : x.length ≤ sizeLine := Nat.le_trans hx (by decide)
        have fin0 : nameS x = false → Q (.bl false) H := fun z => by
          have q1 : Q (.bl (nameS x)) H := q0
          rw [z] at q1
          exact q1
        refine iteF ⟨_, rfl, _, x.length, rfl, ⟨hx2, rfl⟩, _, _, rfl, rfl, _, rfl, ?_⟩
        by_cases g1 : 1 ≤ x.length
        · rw [decide_eq_true (show (1 : Int) ≤ (x.length : Int) by omega)]
          refine iteT ⟨_, _, rfl, rfl, _, rfl, ?_⟩
          by_cases g2 : x.length ≤ 8
          · rw [decide_eq_true (show ((x.length : Nat) : Int) ≤ (8 : Int) by omega)]
            have hsz : 0 < x.cps.toList.length := by
              show 0 < x.cps.toList.length
              rw [Array.length_toList]
              exact g1
            have hc : x.cps.toList[0]? = some (x.cps.toList.getD 0 0) := by
              rw [List.getD_eq_getElem?_getD, List.getElem?_eq_getElem hsz]
              rfl
            refine iteF ⟨_, rfl, x, 0, x.cps.toList.getD 0 0, rfl, rfl, hx2, atI_nat (j := 0) hc, _, _, rfl, rfl, _, rfl, ?_⟩
            have en : nameS x = (isLet (x.cps.toList.getD 0 0) && x.cps.toList.all isSign) := by
              unfold nameS
              rw [decide_eq_true g1, decide_eq_true g2]
              rfl
            have q2 : ∀ H', Same H H' → Q (.bl (isLet (x.cps.toList.getD 0 0) && x.cps.toList.all isSign)) H' := fun H' s => by
              rw [← en]
              exact q H' s
            refine ite2 (fun g3 => ?_) (fun g3 => ?_)
            · rw [show isLet (x.cps.toList.getD 0 0) = true from g3] at q2
              refine ⟨_, rfl, x, rfl, fun D hD => lc_known walk_str (fun i => .bl (isSign (x.cps.toList.getD i 0))) (by show x.length ≤ 100000; omega) hD (fun _ _ => trivial) (fun _ _ _ _ y => by obtain ⟨rfl, _⟩ := y; exact fun _ _ e => e) (fun _ => rfl) ?_ ?_⟩
              · rintro i _ H1 _ Qk hi s1 ⟨rfl, c, hc, rfl⟩ k
                have ec : x.cps.toList.getD i 0 = c := by
                  rw [List.getD_eq_getElem?_getD, Array.getElem?_toList, hc]
                  rfl
                have k1 := k _ (fun _ _ e => e)
                rw [ec] at k1
                refine ⟨_, rfl, c, LET, rfl, rfl, _, rfl, ite2 (fun g4 => ?_) (fun g4 => ⟨_, rfl, c, DIG, rfl, rfl, ?_⟩)⟩
                · rw [show isSign c = true from by unfold isSign isLet; rw [g4]; rfl] at k1
                  exact k1
                · rw [show isSign c = decide (c ∈ DIG.cps.toList) from by unfold isSign isLet; rw [Bool.eq_false_iff.mpr g4]; rfl] at k1
                  exact k1
              · intro H1 s1 bD
                refine ⟨D, (List.range x.cps.size).map fun i => isSign (x.cps.toList.getD i 0), rfl, SqL.of (by rw [bD, List.map_map]; rfl), ?_⟩
                rw [all_range x.cps.toList isSign x.cps.size Array.length_toList]
                exact q2 H1 s1
            · rw [show isLet (x.cps.toList.getD 0 0) = false from Bool.eq_false_iff.mpr g3] at q2
              exact q2 H fun _ _ e => e
          · rw [decide_eq_false (show ¬ ((x.length : Nat) : Int) ≤ (8 : Int) by omega)]
            exact iteT (fin0 (by unfold nameS; rw [decide_eq_false g2, Bool.false_and, Bool.and_false]))
        · rw [decide_eq_false (show ¬ (1 : Int) ≤ (x.length : Int) by omega)]
          exact iteF ⟨_, rfl, iteT (fin0 (by unfold nameS; rw [decide_eq_false g1, Bool.false_and]))⟩
    | _ => exact iteT q0
end
end Ca
set_option Elab.async false
set_option linter.all false
set_option maxRecDepth 100000
set_option maxHeartbeats 4000000
namespace Ca
open PySem L2
def isUnknownD : PyData → Bool
  | .str x => nameS x && !decide (x = "bound")
  | _ => false
def isStretchD : PyData → Bool
  | .tuple [.int a, .int b] => decide (-10000 ≤ a) && (decide (a ≤ b) && decide (b ≤ 10000))
  | _ => false
def partsOf : PyData → List PyData
  | .tuple ps => ps
  | _ => []
def isRowD : PyData → Nat → Bool
  | .tuple [n, p, b], m => isNameD n && (isTupN p m && ((partsOf p ++ [b]).all isStretchD))
  | _, _ => false
section
variable {P : Program} {w : World} {K : PySem.W.Frag} {mg : Str → Option Value} {base : Heap}
theorem scIsUnknown : FnScope ["value"] ["value"] (defScope sIsUnknown) := ⟨rfl, rfl, rfl, by decide +kernel, rfl, by decide +kernel, by decide +kernel⟩
theorem ok_isUnknown {f fN : Addr} {fd fdN : FuncData} (F : FnT K "is_unknown" sIsUnknown f fd) (C : Cn mg) (gN : mg "is_name" = some (.ref fN)) (GN : FnOk P w K mg base CX0 1 fN fdN ["value"] (spIs K isNameD)) (kN : PySem.W.keepIn K (.ref fN) = true) (bN : Binds K fdN ["value"] []) :
    FnOk P w K mg base CX0 2 f fd ["value"] (spIs K isUnknownD) := by
  obtain ⟨t1, c1⟩ := C.bound
  refine F.ok scIsUnknown (fun vs H Q E h => ?_) (fun cdv A outer s H vs Q E hr h => ?_)
  · obtain ⟨v, d, rfl, _⟩ := h
    rfl
  · obtain ⟨v, d, rfl, hd, q⟩ := h
    refine ⟨_, PSs.nox (pss_one (ps_ret (pe_and (pe_call GN hr rfl gN kN bN .nil pass0 (pa_cons (pv 0) pa_nil)) (pe_one (pe_cmpR op_ne (pv 0) (pe_glob (v := .str "bound") rfl c1 ⟨_, rfl⟩) (nomark _)))))), ?_⟩
    refine ⟨_, rfl, v, d, rfl, hd, fun H1 s1 => ⟨_, rfl, ?_⟩⟩
    cases d with
    | str x =>
      cases hd with
      | str _ hx =>
        have q1 : Q (.bl (nameS x && !decide (x = "bound"))) H1 := q H1 s1
        refine ite2 (fun g => ?_) (fun g => ?_)
        · have g' : nameS x = true := g
          rw [g', Bool.true_and] at q1
          refine ⟨_, rfl, rfl, ?_⟩
          rw [show decide (V.str x = V.str "bound") = decide (x = "bound") from by
            by_cases z : x = "bound"
            · rw [decide_eq_true z, decide_eq_true (by rw [z])]
            · rw [decide_eq_false z, decide_eq_false (fun y => z (by injection y))]]
          exact q1
        · have g' : nameS x = false := Bool.eq_false_iff.mpr g
          rw [g', Bool.false_and] at q1
          exact q1
    | _ => exact iteF (q H1 s1)
theorem scIsStretch : FnScope ["value", "low", "high"] ["value"] (defScope sIsStretch) := ⟨rfl, rfl, rfl, by decide +kernel, rfl, by decide +kernel, by decide +kernel⟩
theorem ok_isStretch {f fT fI : Addr} {fd fdT fdI : FuncData} (F : FnT K "is_stretch" sIsStretch f fd) (C : Cn mg)
    (gT : mg "is_tuple_of" = some (.ref fT)) (GT : FnOk P w K mg base CX0 1 fT fdT ["value", "many"] (spIs2 K isTupN)) (kT : PySem.W.keepIn K (.ref fT) = true) (bT : Binds K fdT ["value", "many"] [])
    (gI : mg "is_integer" = some (.ref fI)) (GI : FnOk P w K mg base CX0 1 fI fdI ["value"] (spIs K isInt)) (kI : PySem.W.keepIn K (.ref fI) = true) (bI : Binds K fdI ["value"] []) :
    FnOk P w K mg base CX0 2 f fd ["value"] (spIs K isStretchD) := by
  obtain ⟨t1, c1⟩ := C.number
  refine F.ok scIsStretch (fun vs H Q E h => ?_) (fun cdv A outer s H vs Q E hr h => ?_)
  · obtain ⟨v, d, rfl, _⟩ := h
    rfl
  · obtain ⟨v, d, rfl, hd, q⟩ := h
    have nd := scIsStretch.nd
    refine ⟨_, PSs.nox (pss_cons (ps_if (pt_not (pt_val (pe_call GT hr rfl gT kT bT .nil pass0 (pa_cons (pv 0) (pa_cons pe_int pa_nil))))) (pss_one (ps_ret pe_bl)) pss_nil)
      (pss_cons (ps_asg (pv 0) (pg_tup rfl (pgs_cons (pg_name (i := 1) nd rfl (.inl rfl)) (pgs_cons (pg_name (i := 2) nd rfl (.inl rfl)) pgs_nil))))
      (pss_one (ps_ret (pe_and (pe_call GI hr rfl gI kI bI .nil pass0 (pa_cons (pv 1) pa_nil)) (pe_and (pe_call GI hr rfl gI kI bI .nil pass0 (pa_cons (pv 2) pa_nil))
        (pe_one (pe_chain3 op_le op_le op_le (pe_un un_neg (pe_glob (v := .int 10000) rfl c1 ⟨_, rfl⟩)) (pv 1) (pv 2) (pe_glob (v := .int 10000) rfl c1 ⟨_, rfl⟩))))))))), ?_⟩
    refine ⟨_, rfl, v, d, 2, rfl, by decide, hd, fun H1 s1 => ⟨_, rfl, ?_⟩⟩
    have bad : isTupN d 2 = false → isStretchD d = false := fun z => by
      cases d with
      | tuple ds =>
        match ds with
        | [] => simp [isStretchD]
        | [_] => simp [isStretchD]
        | [_, _] => cases z
        | _ :: _ :: _ :: _ => simp [isStretchD]
      | _ => rfl
    cases g : isTupN d 2 with
    | false =>
      have q1 := q H1 s1
      rw [bad g] at q1
      exact iteT q1
    | true =>
      cases d with
      | tuple ds =>
        have hl : ds.length = 2 := of_decide_eq_true g
        match ds, hl with
        | [d1, d2], _ =>
          have hd1 := hd.same s1
          cases hd1 with
          | @tup a xs _ h1 h2 =>
            cases h2 with
            | @cons v1 _ _ _ e1 r1 =>
              cases r1 with
              | @cons v2 _ _ _ e2 r2 =>
                cases r2
                refine iteF ⟨_, rfl, a, _, rfl, h1, rfl, _, _, rfl, _, _, rfl, rfl, ?_⟩
                refine ⟨_, rfl, v1, d1, rfl, e1, fun H2 s2 => ⟨_, rfl, ?_⟩⟩
                have q2 := fun H3 (s3 : Same H2 H3) => q H3 (s1.trans (s2.trans s3))
                cases d1 with
                | int i =>
                  refine iteT ⟨_, rfl, v2, d2, rfl, e2.same s2, fun H3 s3 => ⟨_, rfl, ?_⟩⟩
                  have q3 := q2 H3 s3
                  cases d2 with
                  | int j =>
                    cases e1
                    cases e2
                    refine iteT ⟨_, rfl, _, rfl, _, _, rfl, rfl, _, rfl, ?_⟩
                    have q4 : Q (.bl (decide (-10000 ≤ i) && (decide (i ≤ j) && decide (j ≤ 10000)))) H3 := q3
                    refine ite2 (fun g1 => ?_) (fun g1 => ?_)
                    · rw [g1, Bool.true_and] at q4
                      refine ⟨_, rfl, _, _, rfl, rfl, _, rfl, ite2 (fun g2 => ?_) (fun g2 => ?_)⟩
                      · rw [g2, Bool.true_and] at q4
                        exact ⟨_, _, rfl, rfl, q4⟩
                      · rw [Bool.eq_false_iff.mpr g2, Bool.false_and] at q4
                        exact q4
                    · rw [Bool.eq_false_iff.mpr g1, Bool.false_and] at q4
                      exact q4
                  | _ => exact iteF q3
                | _ => exact iteF (q2 H2 fun _ _ e => e)
      | _ => cases g
theorem all_getD (ds : List PyData) (g : PyData → Bool) (n : Nat) (h : ds.length = n) : ((List.range n).map fun i => g (ds.getD i .none)).all id = ds.all g := by
  have e : ((List.range n).map fun i => g (ds.getD i .none)) = ds.map g := by
    refine List.ext_getElem (by simp [h]) fun i h1 h2 => ?_
    have hi : i < ds.length := by simpa using h2
    simp [List.getElem?_eq_getElem hi]
  rw [e, List.all_map]
  rfl
theorem row_bad {d : PyData} {m : Nat} (z : isTupN d 3 = false) : isRowD d m = false := by
  cases d with
  | tuple ds =>
    match ds with
    | [] => simp [isRowD]
    | [_] => simp [isRowD]
    | [_, _] => simp [isRowD]
    | [_, _, _] => cases z
    | _ :: _ :: _ :: _ :: _ => simp [isRowD]
  | _ => simp [isRowD]
abbrev NRow : List Str := ["value", "many", "name", "stretches", "bound", "stretch"]
theorem scIsRow : FnScope NRow ["value", "many"] (defScope sIsRow) := ⟨rfl, rfl, rfl, by decide +kernel, rfl, by decide +kernel, by decide +kernel⟩
theorem ok_isRow {f fT fN fS : Addr} {fd fdT fdN fdS : FuncData} (F : FnT K "is_row" sIsRow f fd) (B : Bn mg)
    (gT : mg "is_tuple_of" = some (.ref fT)) (GT : FnOk P w K mg base CX0 1 fT fdT ["value", "many"] (spIs2 K isTupN)) (kT : PySem.W.keepIn K (.ref fT) = true) (bT : Binds K fdT ["value", "many"] [])
    (gN : mg "is_name" = some (.ref fN)) (GN : FnOk P w K mg base CX0 1 fN fdN ["value"] (spIs K isNameD)) (kN : PySem.W.keepIn K (.ref fN) = true) (bN : Binds K fdN ["value"] [])
    (gS : mg "is_stretch" = some (.ref fS)) (GS : FnOk P w K mg base CX0 2 fS fdS ["value"] (spIs K isStretchD)) (kS : PySem.W.keepIn K (.ref fS) = true) (bS : Binds K fdS ["value"] []) :
    FnOk P w K mg base CX0 3 f fd ["value", "many"] (spIs2 K isRowD) := by
  refine F.ok scIsRow (fun vs H Q E h => ?_) (fun cdv A outer s H vs Q E hr h => ?_)
  · obtain ⟨v, d, m, rfl, _⟩ := h
    rfl
  · obtain ⟨v, d, m, rfl, hm, hd, q⟩ := h
    have nd := scIsRow.nd
    have hr1 : Room 1 _ := hr.mono (by decide)
    refine ⟨_, PSs.nox (pss_cons (ps_if (pt_not (pt_val (pe_call GT hr1 rfl gT kT bT .nil pass0 (pa_cons (pv 0) (pa_cons pe_int pa_nil))))) (pss_one (ps_ret pe_bl)) pss_nil)
      (pss_cons (ps_asg (pv 0) (pg_tup rfl (pgs_cons (pg_name (i := 2) nd rfl (.inl rfl)) (pgs_cons (pg_name (i := 3) nd rfl (.inl rfl)) (pgs_cons (pg_name (i := 4) nd rfl (.inl rfl)) pgs_nil)))))
      (pss_cons (ps_if (PW.pt (pw_or (pt_not (pt_val (pe_call GN hr1 rfl gN kN bN .nil pass0 (pa_cons (pv 2) pa_nil)))) (pw_or1 (pt_not (pt_val (pe_call GT hr1 rfl gT kT bT .nil pass0 (pa_cons (pv 3) (pa_cons (pv 1) pa_nil)))))))) (pss_one (ps_ret pe_bl)) pss_nil)
      (pss_one (ps_ret (pe_callB (cr_all rfl) (by rfl) B.all PyProof.Rows.boot_all (pa_cons (pe_lc (own := [("stretch", 5)]) (g := gName 5) (tt := tYes) rfl nd (pi_tup (pe_tup (StX.pa_star (pv 3) (pa_cons (pv 4) pa_nil))))
          (blkOk_by (own := [("stretch", 5)]) (N := NRow) (sc := defScope sIsRow) (by decide +kernel)) (fun _ _ _ _ _ => pg_name (i := 5) nd rfl (Or.inl rfl)) (fun _ _ _ _ _ => pts_nil)
          (fun _ _ _ _ _ => pe_call GS hr rfl gS kS bS .nil pass0 (pa_cons (pv 5) pa_nil))) pa_nil))))))), ?_⟩
    refine ⟨_, rfl, v, d, 3, rfl, by decide, hd, fun H1 s1 => ⟨_, rfl, ?_⟩⟩
    cases g : isTupN d 3 with
    | false =>
      have q1 := q H1 s1
      rw [row_bad g] at q1
      exact iteT q1
    | true =>
      cases d with
      | tuple ds =>
        have hl : ds.length = 3 := of_decide_eq_true g
        match ds, hl with
        | [d1, d2, d3], _ =>
          have hd1 := hd.same s1
          cases hd1 with
          | @tup a xs _ h1 h2 =>
            cases h2 with
            | @cons v1 _ _ _ e1 r1 =>
              cases r1 with
              | @cons v2 _ _ _ e2 r2 =>
                cases r2 with
                | @cons v3 _ _ _ e3 r3 =>
                  cases r3
                  refine iteF ⟨_, rfl, a, _, rfl, h1, rfl, _, _, rfl, _, _, rfl, _, _, rfl, rfl, ?_⟩
                  refine ⟨_, rfl, v1, d1, rfl, e1, fun H2 s2 => ⟨_, rfl, ?_⟩⟩
                  have q2 : ∀ H', Same H2 H' → Q (.bl (isNameD d1 && (isTupN d2 m && ((partsOf d2 ++ [d3]).all isStretchD)))) H' := fun H' s' => q H' (s1.trans (s2.trans s'))
                  cases g2 : isNameD d1 with
                  | false =>
                    rw [g2] at q2
                    exact iteT (q2 H2 fun _ _ e => e)
                  | true =>
                    rw [g2] at q2
                    refine iteF ⟨_, rfl, _, rfl, v2, d2, m, rfl, hm, e2.same s2, fun H3 s3 => ⟨_, rfl, ?_⟩⟩
                    cases g3 : isTupN d2 m with
                    | false =>
                      rw [g3] at q2
                      exact iteT (q2 H3 s3)
                    | true =>
                      rw [g3] at q2
                      cases d2 with
                      | tuple ps =>
                        have hps : ps.length = m := of_decide_eq_true g3
                        have e2' := e2.same (s2.trans s3)
                        cases e2' with
                        | @tup a2 xs2 _ h3 h4 =>
                          have hx2 : xs2.length = m := by rw [h4.len, hps]
                          have hall : DqAll K H3 (xs2 ++ [v3]) (ps ++ [d3]) := h4.app (.cons (e3.same (s2.trans s3)) .nil)
                          refine iteF ⟨_, rfl, a2, xs2, rfl, .inl h3, _, rfl, by rw [List.length_append, hx2]; exact Nat.le_trans (Nat.succ_le_succ hm) (by decide), fun p hp => ⟨p, rfl, ⟨_, SqT.of upd_same⟩, fun D hD => ?_⟩⟩
                          have s4 : Same H3 (upd H3 p (.tup (xs2 ++ [v3]))) := Same.new hp
                          refine lc_known (walk_tup (K := K) (a := p) (xs := xs2 ++ [v3])) (fun i => .bl (isStretchD ((ps ++ [d3]).getD i .none))) (by rw [List.length_append, hx2]; show m + 1 ≤ 100000; omega) hD (fun H' s' => same_sqt s' (SqT.of upd_same)) (fun _ _ _ _ y => by obtain ⟨rfl, _⟩ := y; exact fun _ _ e => e) (fun _ => rfl) ?_ ?_
                          · rintro i x H5 H6 Qk hi s5 ⟨rfl, hx⟩ k
                            obtain ⟨d, hdi, hdq⟩ := (hall.same (s4.trans s5)).get hx
                            have ed : (ps ++ [d3]).getD i .none = d := by
                              rw [List.getD_eq_getElem?_getD, hdi]
                              rfl
                            refine ⟨_, rfl, x, d, rfl, hdq, fun H7 s7 => ?_⟩
                            have k1 := k H7 s7
                            rw [ed] at k1
                            exact k1
                          · intro H5 s5 bD
                            refine ⟨D, (List.range (xs2 ++ [v3]).length).map fun i => isStretchD ((ps ++ [d3]).getD i .none), rfl, SqL.of (by rw [bD, List.map_map]; rfl), ?_⟩
                            rw [all_getD (ps ++ [d3]) isStretchD _ (by rw [List.length_append, List.length_append, hx2, hps]; rfl)]
                            exact q2 H5 (s3.trans (s4.trans s5))
                      | _ => cases g3
      | _ => cases g
end
end Ca
set_option Elab.async false
set_option linter.all false
set_option maxRecDepth 100000
set_option maxHeartbeats 4000000
namespace Ca
open PySem L2
structure Folk (ns : List Str) : Prop where
  lo : 1 ≤ ns.length
  hi : ns.length ≤ 3
  ok : ∀ x ∈ ns, isUnknownD (.str x) = true
  nd : ns.Nodup
def folkD (ns : List Str) : PyData := .tuple (ns.map .str)
theorem strs_of {K : PySem.W.Frag} {H : Hp} : ∀ {ns : List Str} {xs : List V}, DqAll K H xs (ns.map .str) → xs = ns.map V.str ∧ ∀ x ∈ ns, x.length ≤ 1000
  | [], _, .nil => ⟨rfl, fun _ z => nomatch z⟩
  | n :: ns, _, .cons (.str _ h) t => by
    obtain ⟨e, q⟩ := strs_of (ns := ns) t
    refine ⟨by rw [e]; rfl, fun x z => ?_⟩
    rcases List.mem_cons.mp z with rfl | z
    · exact h
    · exact q x z
theorem flat_strs : ∀ ns : List Str, (ns.map V.str).all flatV = true
  | [] => rfl
  | n :: ns => flat_strs ns
theorem inV_strs (x : Str) : ∀ ns : List Str, inV (.str x) (ns.map V.str) = decide (x ∈ ns)
  | [] => rfl
  | n :: ns => by
    show (eqV (.str n) (.str x) || inV (.str x) (ns.map V.str)) = _
    rw [inV_strs x ns]
    by_cases h : n = x
    · subst h
      have e : eqV (.str n) (.str n) = true := by show decide (n = n) = true; exact decide_eq_true rfl
      rw [e, decide_eq_true (List.mem_cons_self ..)]
      rfl
    · have e : eqV (.str n) (.str x) = false := by show decide (n = x) = false; exact decide_eq_false h
      rw [e, Bool.false_or]
      by_cases g : x ∈ ns
      · rw [decide_eq_true g, decide_eq_true (List.mem_cons_of_mem _ g)]
      · rw [decide_eq_false g, decide_eq_false fun z => (List.mem_cons.mp z).elim (fun y => h y.symm) g]
def spCheckU (K : PySem.W.Frag) : Sp := fun vs H Q _ => ∃ v ns, vs = [v] ∧ Dq K H v (folkD ns) ∧ Folk ns ∧ ∀ H', Same H H' → Q .non H'
section
variable {P : Program} {w : World} {K : PySem.W.Frag} {mg : Str → Option Value} {base : Heap}
theorem scCheckU : FnScope ["unknowns", "index", "name"] ["unknowns"] (defScope sCheckUnknowns) := ⟨rfl, rfl, rfl, by decide +kernel, rfl, by decide +kernel, by decide +kernel⟩
theorem ok_checkU {f fU : Addr} {fd fdU : FuncData} (F : FnT K "check_unknowns" sCheckUnknowns f fd) (B : Bn mg) (C : Cn mg)
    (gU : mg "is_unknown" = some (.ref fU)) (GU : FnOk P w K mg base CX0 2 fU fdU ["value"] (spIs K isUnknownD)) (kU : PySem.W.keepIn K (.ref fU) = true) (bU : Binds K fdU ["value"] []) :
    FnOk P w K mg base CX0 3 f fd ["unknowns"] (spCheckU K) := by
  obtain ⟨t1, c1⟩ := C.unknowns
  refine F.ok scCheckU (fun vs H Q E h => ?_) (fun cdv A outer s H vs Q E hr h => ?_)
  · obtain ⟨v, d, rfl, _⟩ := h
    rfl
  · obtain ⟨v, ns, rfl, hd, N, q⟩ := h
    have nd := scCheckU.nd
    refine ⟨_, PSs.nox (pss_cons (ps_if (PW.pt (pw_or (pt_not (pt_val (pe_callB call_isi (by rfl) B.isi PyProof.Rows.boot_isinstance (pa_cons (pv 0) (pa_cons (pe_bltn (v := .ty "tuple") (by rfl) B.tup (by decide +kernel) rfl) pa_nil)))))
        (pw_or1 (pt_cmpR op_eq (pe_callB call_len (by rfl) B.len boot_len (pa_cons (pv 0) pa_nil)) pe_int (nomark _))))) (pss_one ps_never) pss_nil)
      (pss_one (ps_for PassesOwn.never rfl (pi_enumT (by rfl) B.enum (pa_cons (pv 0) pa_nil)) (pg_tup rfl (pgs_cons (pg_name (i := 1) nd rfl (.inl rfl)) (pgs_cons (pg_name (i := 2) nd rfl (.inl rfl)) pgs_nil)))
        (pss_one (ps_if (PW.pt (pw_or (pt_cmpR op_eq (pv 1) (pe_glob (v := .int 3) rfl c1 ⟨_, rfl⟩) (nomark _)) (pw_or (pt_not (pt_val (pe_call GU hr rfl gU kU bU .nil pass0 (pa_cons (pv 2) pa_nil))))
          (pw_or1 (pt_cmpR op_in_seq (pv 2) (pe_slice sl_tupA (pv 0) po_none (po_some (pv 1))) (by rfl)))))) (pss_one ps_never) pss_nil))))), ?_⟩
    have hd0 := hd
    cases hd with
    | @tup a xs _ h1 h2 =>
      obtain ⟨rfl, hlen⟩ := strs_of h2
      have hl : (ns.map V.str).length = ns.length := List.length_map ..
      refine rd_isd hd0 rfl (kit_tup _) ⟨_, rfl, iteF ⟨_, rfl, _, _, rfl, .inr ⟨_, h1, rfl⟩, rfl, _, rfl, ?_⟩⟩
      rw [decide_eq_false (fun z => by injection z with z; rw [hl] at z; have := N.lo; omega)]
      refine iteF ⟨_, rfl, a, _, rfl, h1, ?_⟩
      refine for_it walk_enumT (fun i σ' H' => i ≤ ns.length ∧ (∃ o1 o2, σ' = [some (.ref a), o1, o2]) ∧ Same H H') ⟨Nat.zero_le _, ⟨_, _, rfl⟩, fun _ _ e => e⟩ (fun i σ' H' hi p => same_sqt p.2.2 h1) ?_ (fun σ' H' p => q H' p.2.2)
      rintro i _ _ H1 _ hi ⟨_, ⟨o1, o2, rfl⟩, s1⟩ ⟨T, x, rfl, hT, rfl, hx⟩
      refine ⟨T, _, rfl, SqT.of upd_same, rfl, _, _, rfl, _, _, rfl, rfl, ?_⟩
      have hil : i < ns.length := by rw [← hl]; exact hi
      obtain ⟨z, hz, rfl⟩ : ∃ z, ns[i]? = some z ∧ x = .str z := by
        rw [List.getElem?_map] at hx
        cases e : ns[i]? with
        | none => rw [e] at hx; cases hx
        | some z => rw [e] at hx; exact ⟨z, rfl, (Option.some.inj hx).symm⟩
      have hzm : z ∈ ns := List.mem_of_getElem? hz
      have s2 : Same H1 (upd H1 T (.tup [.int (i : Nat), .str z])) := Same.new hT
      refine ⟨_, rfl, rfl, _, rfl, ?_⟩
      rw [decide_eq_false (fun y => by injection y with y; have := N.hi; omega)]
      refine iteF ⟨_, rfl, _, _, rfl, .str z (hlen z hzm), fun H3 s3 => ⟨_, rfl, ?_⟩⟩
      rw [N.ok z hzm]
      have h3 : SqT K H3 a (ns.map V.str) := same_sqt (s1.trans (s2.trans s3)) h1
      refine iteF ⟨_, rfl, _, rfl, _, rfl, i, rfl, a, _, rfl, h3, fun y => ?_, fun _ p hp => ⟨p, _, rfl, .inr (SqT.of upd_same), rfl, ?_, _, rfl, ?_⟩⟩
      · have := y.2
        rw [HT.sIx_nat, hl] at this
        omega
      · unfold cutV
        rw [List.all_eq_true]
        intro b hb
        exact List.all_eq_true.mp (flat_strs ns) b (List.mem_of_mem_drop (List.mem_of_mem_take hb))
      · have ec : cutV (ns.map V.str) none (some (i : Int)) = (ns.take i).map V.str := by
          unfold cutV
          rw [HT.sIx_none, HT.sIx_nat, hl, List.drop_zero, Nat.sub_zero, Nat.min_eq_left (Nat.le_of_lt hil), List.map_take]
        rw [ec]
        rw [inV_strs, decide_eq_false (fun y => by
          obtain ⟨j, hj, ej⟩ := List.mem_iff_getElem.mp y
          rw [List.getElem_take] at ej
          have hj2 : j < i := by
            have := hj
            rw [List.length_take] at this
            omega
          have ei : ns[i] = z := by
            have := List.getElem?_eq_getElem hil
            rw [hz] at this
            exact (Option.some.inj this).symm
          exact List.pairwise_iff_getElem.mp N.nd j i (by omega) hil hj2 (ej.trans ei.symm))]
        exact iteF ⟨hil, ⟨_, _, rfl⟩, s1.trans (s2.trans (s3.trans (Same.new hp)))⟩
end
/-! ### rows -/
structure Rw where
  name : Str
  parts : List (Int × Int)
  bd : Int × Int
deriving DecidableEq
def strD (p : Int × Int) : PyData := .tuple [.int p.1, .int p.2]
def rowD (r : Rw) : PyData := .tuple [.str r.name, .tuple (r.parts.map strD), strD r.bd]
def rowsD (rs : List Rw) : PyData := .tuple (rs.map rowD)
structure Lines (rs : List Rw) (m : Nat) : Prop where
  hi : rs.length ≤ 6
  ok : ∀ r ∈ rs, isRowD (rowD r) m = true
  nd : (rs.map Rw.name).Nodup
def spCheckR (K : PySem.W.Frag) : Sp := fun vs H Q _ => ∃ v rs m, vs = [v, .int (m : Nat)] ∧ m ≤ 1000 ∧ Dq K H v (rowsD rs) ∧ Lines rs m ∧ ∀ H', Same H H' → Q .non H'
/-- a row as it stands -/
theorem row_at {K : PySem.W.Frag} {H : Hp} {v : V} {r : Rw} (h : Dq K H v (rowD r)) : ∃ a v2 v3, v = .ref a ∧ SqT K H a [.str r.name, v2, v3] ∧ Dq K H v2 (.tuple (r.parts.map strD)) ∧ Dq K H v3 (strD r.bd) ∧ r.name.length ≤ 1000 := by
  cases h with
  | @tup a xs _ h1 h2 =>
    cases h2 with
    | cons e1 r1 =>
      cases r1 with
      | cons e2 r2 =>
        cases r2 with
        | cons e3 r3 =>
          cases r3
          cases e1 with
          | str _ hx => exact ⟨a, _, _, rfl, h1, e2, e3, hx⟩
section
variable {P : Program} {w : World} {K : PySem.W.Frag} {mg : Str → Option Value} {base : Heap}
theorem scCheckR : FnScope ["rows", "many", "names", "index", "row"] ["rows", "many"] (defScope sCheckRows) := ⟨rfl, rfl, rfl, by decide +kernel, rfl, by decide +kernel, by decide +kernel⟩
theorem ok_checkR {f fR : Addr} {fd fdR : FuncData} (F : FnT K "check_rows" sCheckRows f fd) (B : Bn mg) (C : Cn mg)
    (gR : mg "is_row" = some (.ref fR)) (GR : FnOk P w K mg base CX0 3 fR fdR ["value", "many"] (spIs2 K isRowD)) (kR : PySem.W.keepIn K (.ref fR) = true) (bR : Binds K fdR ["value", "many"] []) :
    FnOk P w K mg base CX0 4 f fd ["rows", "many"] (spCheckR K) := by
  obtain ⟨t1, c1⟩ := C.rows
  refine F.ok scCheckR (fun vs H Q E h => ?_) (fun cdv A outer s H vs Q E hr h => ?_)
  · obtain ⟨v, rs, m, rfl, _⟩ := h
    rfl
  · obtain ⟨v, rs, m, rfl, hm, hd, N, q⟩ := h
    have nd := scCheckR.nd
    refine ⟨_, PSs.nox (pss_cons (ps_if (pt_not (pt_val (pe_callB call_isi (by rfl) B.isi PyProof.Rows.boot_isinstance (pa_cons (pv 0) (pa_cons (pe_bltn (v := .ty "tuple") (by rfl) B.tup (by decide +kernel) rfl) pa_nil))))) (pss_one ps_never) pss_nil)
      (pss_cons (ps_set (i := 2) nd rfl (.inl rfl) (pe_lst pa_nil))
      (pss_one (ps_for PassesOwn.never rfl (pi_enumT (by rfl) B.enum (pa_cons (pv 0) pa_nil)) (pg_tup rfl (pgs_cons (pg_name (i := 3) nd rfl (.inl rfl)) (pgs_cons (pg_name (i := 4) nd rfl (.inl rfl)) pgs_nil)))
        (pss_cons (ps_if (PW.pt (pw_or (pt_cmpR op_eq (pv 3) (pe_glob (v := .int 6) rfl c1 ⟨_, rfl⟩) (nomark _)) (pw_or (pt_not (pt_val (pe_call GR hr rfl gR kR bR .nil pass0 (pa_cons (pv 4) (pa_cons (pv 1) pa_nil)))))
          (pw_or1 (pt_cmpR op_in_seq (pe_ix ix_tup (pv 4) pe_int (fun _ _ => rfl)) (pv 2) (by rfl)))))) (pss_one ps_never) pss_nil)
        (pss_one (ps_expr (pe_bm PySem.F.plainAttrs_list PySem.F.slot_list_append PySem.F.type_list_append mt_append (pv 2) (pa_cons (pe_ix ix_tup (pv 4) pe_int (fun _ _ => rfl)) pa_nil))))))))), ?_⟩
    have hd0 := hd
    cases hd with
    | @tup a xs _ h1 h2 =>
      have hl : xs.length = rs.length := by rw [h2.len, List.length_map]
      refine rd_isd hd0 rfl (kit_tup _) ⟨_, rfl, iteF ⟨by show 0 ≤ sizeLine; decide, fun nl hnl => ?_⟩⟩
      have s0 : Same H (upd H nl (.lst [])) := Same.new hnl
      refine ⟨_, rfl, a, _, rfl, same_sqt s0 h1, ?_⟩
      refine for_it walk_enumT (fun i σ' H' => i ≤ rs.length ∧ (∃ o1 o2, σ' = [some (.ref a), some (.int m), some (.ref nl), o1, o2]) ∧ Same H H' ∧ H' nl = some (.lst (((rs.take i).map Rw.name).map V.str))) ⟨Nat.zero_le _, ⟨_, _, rfl⟩, s0, upd_same⟩ (fun i σ' H' hi p => same_sqt p.2.2.1 h1) ?_ (fun σ' H' p => q H' p.2.2.1)
      rintro i x _ H1 _ hi ⟨_, ⟨o1, o2, rfl⟩, s1, hn1⟩ ⟨T, x, rfl, hT, rfl, hx⟩
      refine ⟨T, _, rfl, SqT.of upd_same, rfl, _, _, rfl, _, _, rfl, rfl, ?_⟩
      have hil : i < rs.length := by rw [← hl]; exact hi
      have s2 : Same H1 (upd H1 T (.tup [.int (i : Nat), x])) := Same.new hT
      obtain ⟨d, hdi, hdq⟩ := (h2.same (s1.trans s2)).get hx
      obtain ⟨r, hr2, rfl⟩ : ∃ r, rs[i]? = some r ∧ d = rowD r := by
        rw [List.getElem?_map, List.getElem?_eq_getElem hil] at hdi
        exact ⟨_, List.getElem?_eq_getElem hil, (Option.some.inj hdi).symm⟩
      have hrm : r ∈ rs := List.mem_of_getElem? hr2
      refine ⟨_, rfl, rfl, _, rfl, ?_⟩
      rw [decide_eq_false (fun y => by injection y with y; have := N.hi; omega)]
      refine iteF ⟨_, rfl, _, rfl, x, _, m, rfl, hm, hdq, fun H3 s3 => ⟨_, rfl, ?_⟩⟩
      rw [N.ok r hrm]
      obtain ⟨b, v2, v3, rfl, hb, _, _, _⟩ := row_at (hdq.same s3)
      have hn3 := s3 _ _ (s2 _ _ hn1)
      refine iteF ⟨_, rfl, b, _, 0, _, rfl, rfl, hb, atI_nat (j := 0) rfl, _, rfl, nl, _, rfl, .inl (SqL.of hn3), rfl, ?_, _, rfl, ?_⟩
      · exact flat_strs _
      · have ein : inV (.str r.name) (((rs.take i).map Rw.name).map V.str) = false := by
          rw [inV_strs]
          refine decide_eq_false fun y => ?_
          obtain ⟨j, hj, ej⟩ := List.mem_iff_getElem.mp y
          rw [List.getElem_map, List.getElem_take] at ej
          have hj2 : j < i := by
            have := hj
            rw [List.length_map, List.length_take] at this
            omega
          have ei : rs[i] = r := by
            have := List.getElem?_eq_getElem hil
            rw [hr2] at this
            exact (Option.some.inj this).symm
          have := List.pairwise_iff_getElem.mp N.nd j i (by rw [List.length_map]; omega) (by rw [List.length_map]; exact hil) hj2
          rw [List.getElem_map, List.getElem_map, ei] at this
          exact this ej
        show (fun b_1 H1 => if b_1 = true then _ else _) (inV (.str r.name) (((rs.take i).map Rw.name).map V.str)) H3
        rw [ein]
        refine iteF ⟨_, rfl, .inl ⟨rfl, _, SqL.of hn3⟩, _, rfl, b, _, 0, _, rfl, rfl, hb, atI_nat (j := 0) rfl, nl, _, _, rfl, rfl, hn3, ?_, hil, ⟨_, _, rfl⟩, fun c o e => ?_, ?_⟩
        · rw [List.length_map, List.length_map, List.length_take]
          have := N.hi
          exact Nat.lt_of_le_of_lt (Nat.le_trans (Nat.min_le_right ..) this) (by decide)
        · rw [upd_ne (ne_of_none e hnl)]
          exact s3 _ _ (s2 _ _ (s1 _ _ e))
        · rw [upd_same]
          have et : rs.take (i + 1) = rs.take i ++ [r] := by
            rw [List.take_succ, hr2]
            rfl
          rw [et, List.map_append, List.map_append]
          rfl
end
end Ca
set_option Elab.async false
set_option linter.all false
set_option maxRecDepth 100000
set_option maxHeartbeats 4000000
namespace Ca
open PySem L2
/-! ### systems -/
abbrev FnM (K : PySem.W.Frag) (x q : Str) (st : Stmt) (dvs : List V) (f : Addr) (fd : FuncData) : Prop := FunD K x q (defArgs st) (defBody st) (defScope st) dvs [] f fd
structure SysC (K : PySem.W.Frag) (C : Addr) : Prop where
  cl : Cls K C
  nu : NoAttr K C "_unknowns"
  nr : NoAttr K C "_rows"
def sysF (u r : V) : List (Str × V) := [("_unknowns", u), ("_rows", r)]
/-- a system stands at x -/
def SysAt (K : PySem.W.Frag) (C : Addr) (H : Hp) (x : Addr) (ns : List Str) (rs : List Rw) : Prop :=
  Folk ns ∧ Lines rs ns.length ∧ ∃ dx u r, H x = some (.ins C dx (sysF u r)) ∧ Dq K H u (folkD ns) ∧ Dq K H r (rowsD rs)
theorem SysAt.same {K : PySem.W.Frag} {C : Addr} {H H' : Hp} {x : Addr} {ns : List Str} {rs : List Rw} (h : SysAt K C H x ns rs) (s : Same H H') : SysAt K C H' x ns rs := by
  obtain ⟨h1, h2, dx, u, r, e, du, dr⟩ := h
  exact ⟨h1, h2, dx, u, r, s _ _ e, du.same s, dr.same s⟩
def spInit (K : PySem.W.Frag) (C : Addr) : Sp := fun vs H Q _ => ∃ x dx u r ns rs, vs = [.ref x, u, r] ∧ H x = some (.ins C dx []) ∧ Dq K H u (folkD ns) ∧ Folk ns ∧ Dq K H r (rowsD rs) ∧ Lines rs ns.length ∧
  ∀ H', Kept x H H' → H' x = some (.ins C dx (sysF u r)) → Q .non H'
def spUnknowns (C : Addr) : Sp := fun vs H Q _ => ∃ x dx u r, vs = [.ref x] ∧ H x = some (.ins C dx (sysF u r)) ∧ Q u H
def spRows (C : Addr) : Sp := fun vs H Q _ => ∃ x dx u r, vs = [.ref x] ∧ H x = some (.ins C dx (sysF u r)) ∧ Q r H
def spLen (K : PySem.W.Frag) (C : Addr) : Sp := fun vs H Q _ => ∃ x ns rs, vs = [.ref x] ∧ SysAt K C H x ns rs ∧ Q (.int rs.length) H
def spYes : Sp := fun vs H Q _ => ∃ x, vs = [x] ∧ Q (.bl true) H
theorem tup_len {K : PySem.W.Frag} {H : Hp} {v : V} {ds : List PyData} (h : Dq K H v (.tuple ds)) : ∃ a xs, v = .ref a ∧ SqT K H a xs ∧ DqAll K H xs ds ∧ xs.length = ds.length := by
  cases h with
  | @tup a xs _ h1 h2 => exact ⟨a, xs, rfl, h1, h2, h2.len⟩
section
variable {P : Program} {w : World} {K : PySem.W.Frag} {mg : Str → Option Value} {base : Heap} {C : Addr}
theorem scInit : FnScope ["self", "unknowns", "rows"] ["self", "unknowns", "rows"] (defScope mSystemInit) := ⟨rfl, rfl, rfl, by decide +kernel, rfl, by decide +kernel, by decide +kernel⟩
theorem ok_init {f fU fR : Addr} {fd fdU fdR : FuncData} {dvs : List V} (F : FnM K "__init__" "System.__init__" mSystemInit dvs f fd) (B : Bn mg) (S : SysC K C)
    (gU : mg "check_unknowns" = some (.ref fU)) (GU : FnOk P w K mg base CX0 3 fU fdU ["unknowns"] (spCheckU K)) (kU : PySem.W.keepIn K (.ref fU) = true) (bU : Binds K fdU ["unknowns"] [])
    (gR : mg "check_rows" = some (.ref fR)) (GR : FnOk P w K mg base CX0 4 fR fdR ["rows", "many"] (spCheckR K)) (kR : PySem.W.keepIn K (.ref fR) = true) (bR : Binds K fdR ["rows", "many"] []) :
    FnOk P w K mg base CX0 5 f fd ["self", "unknowns", "rows"] (spInit K C) := by
  refine F.ok scInit (fun vs H Q E h => ?_) (fun cdv A outer s H vs Q E hr h => ?_)
  · obtain ⟨x, dx, u, r, ns, rs, rfl, _⟩ := h
    rfl
  · obtain ⟨x, dx, u, r, ns, rs, rfl, hx, du, hN, dr, hL, q⟩ := h
    have hr3 : Room 3 _ := hr.mono (by decide)
    refine ⟨_, PSs.nox (pss_cons (ps_expr (pe_call GU hr3 rfl gU kU bU .nil pass0 (pa_cons (pv 1) pa_nil)))
      (pss_cons (ps_expr (pe_call GR hr rfl gR kR bR .nil pass0 (pa_cons (pv 2) (pa_cons (pe_callB call_len (by rfl) B.len boot_len (pa_cons (pv 1) pa_nil)) pa_nil))))
      (pss_cons (ps_fld (pv 0) (pv 1) rfl) (pss_one (ps_fld (pv 0) (pv 2) rfl))))), ?_⟩
    refine ⟨_, rfl, u, ns, rfl, du, hN, fun H1 s1 => ?_⟩
    obtain ⟨a, xs, rfl, h1, h2, hl⟩ := tup_len (du.same s1)
    have hl2 : xs.length = ns.length := by rw [hl, List.length_map]
    refine ⟨_, rfl, _, rfl, _, ns.length, rfl, .inr ⟨_, h1, hl2.symm⟩, r, rs, ns.length, rfl, by have := hN.hi; omega, dr.same s1, hL, fun H2 s2 => ?_⟩
    have hx2 := s2 _ _ (s1 _ _ hx)
    refine ⟨_, rfl, _, rfl, x, C, dx, _, rfl, hx2, S.cl, S.nu, by show 0 < 1000; decide, _, rfl, _, rfl, x, C, dx, _, rfl, upd_same, S.cl, S.nr, by show 1 < 1000; decide, ?_⟩
    refine q _ (fun b o n e => ?_) upd_same
    rw [upd_ne n, upd_ne n]
    exact s2 _ _ (s1 _ _ e)
theorem scUnknowns : FnScope ["self"] ["self"] (defScope mSystemUnknowns) := ⟨rfl, rfl, rfl, by decide +kernel, rfl, by decide +kernel, by decide +kernel⟩
theorem ok_unknowns {f : Addr} {fd : FuncData} (F : FnM K "unknowns" "System.unknowns" mSystemUnknowns [] f fd) (S : SysC K C) : FnOk P w K mg base CX0 1 f fd ["self"] (spUnknowns C) := by
  refine F.ok scUnknowns (fun vs H Q E h => ?_) (fun cdv A outer s H vs Q E hr h => ?_)
  · obtain ⟨x, dx, u, r, rfl, _⟩ := h
    rfl
  · obtain ⟨x, dx, u, r, rfl, hx, q⟩ := h
    exact ⟨_, PSs.nox (pss_one (ps_ret (pe_fld (pv 0) rfl))), _, rfl, x, C, dx, _, u, rfl, hx, S.cl, S.nu, rfl, q⟩
theorem scRows : FnScope ["self"] ["self"] (defScope mSystemRows) := ⟨rfl, rfl, rfl, by decide +kernel, rfl, by decide +kernel, by decide +kernel⟩
theorem ok_rows {f : Addr} {fd : FuncData} (F : FnM K "rows" "System.rows" mSystemRows [] f fd) (S : SysC K C) : FnOk P w K mg base CX0 1 f fd ["self"] (spRows C) := by
  refine F.ok scRows (fun vs H Q E h => ?_) (fun cdv A outer s H vs Q E hr h => ?_)
  · obtain ⟨x, dx, u, r, rfl, _⟩ := h
    rfl
  · obtain ⟨x, dx, u, r, rfl, hx, q⟩ := h
    exact ⟨_, PSs.nox (pss_one (ps_ret (pe_fld (pv 0) rfl))), _, rfl, x, C, dx, _, r, rfl, hx, S.cl, S.nr, rfl, q⟩
theorem scLen : FnScope ["self"] ["self"] (defScope mSystemLen) := ⟨rfl, rfl, rfl, by decide +kernel, rfl, by decide +kernel, by decide +kernel⟩
theorem ok_len {f : Addr} {fd : FuncData} (F : FnM K "__len__" "System.__len__" mSystemLen [] f fd) (B : Bn mg) (S : SysC K C) : FnOk P w K mg base CX0 1 f fd ["self"] (spLen K C) := by
  refine F.ok scLen (fun vs H Q E h => ?_) (fun cdv A outer s H vs Q E hr h => ?_)
  · obtain ⟨x, ns, rs, rfl, _⟩ := h
    rfl
  · obtain ⟨x, ns, rs, rfl, ⟨_, _, dx, u, r, hx, du, dr⟩, q⟩ := h
    obtain ⟨a, xs, rfl, h1, h2, hl⟩ := tup_len dr
    refine ⟨_, PSs.nox (pss_one (ps_ret (pe_callB call_len (by rfl) B.len boot_len (pa_cons (pe_fld (pv 0) rfl) pa_nil)))), _, rfl, x, C, dx, _, _, rfl, hx, S.cl, S.nr, rfl, _, rs.length, rfl, .inr ⟨_, h1, ?_⟩, q⟩
    rw [hl, List.length_map]
theorem scBool : FnScope ["self"] ["self"] (defScope mSystemBool) := ⟨rfl, rfl, rfl, by decide +kernel, rfl, by decide +kernel, by decide +kernel⟩
theorem ok_bool {f : Addr} {fd : FuncData} (F : FnM K "__bool__" "System.__bool__" mSystemBool [] f fd) : FnOk P w K mg base CX0 1 f fd ["self"] spYes := by
  refine F.ok scBool (fun vs H Q E h => ?_) (fun cdv A outer s H vs Q E hr h => ?_)
  · obtain ⟨x, rfl, _⟩ := h
    rfl
  · obtain ⟨x, rfl, q⟩ := h
    exact ⟨_, PSs.nox (pss_one (ps_ret pe_bl)), q⟩
end
end Ca
set_option Elab.async false
set_option linter.all false
set_option maxRecDepth 100000
set_option maxHeartbeats 4000000
namespace Ca
open PySem L2
/-! ### what is known of the data of systems -/
theorem sign_small : ∀ c, isSign c = true → c < 128 := by
  intro c h
  have h1 : ∀ x ∈ LET.cps.toList, x < 128 := by decide +kernel
  have h2 : ∀ x ∈ DIG.cps.toList, x < 128 := by decide +kernel
  unfold isSign isLet at h
  rcases Bool.or_eq_true_iff.mp h with h | h
  · exact h1 c (of_decide_eq_true h)
  · exact h2 c (of_decide_eq_true h)
theorem name_parts {x : Str} (h : nameS x = true) : 1 ≤ x.length ∧ x.length ≤ 8 ∧ ∀ c ∈ x.cps.toList, c < 128 := by
  unfold nameS at h
  obtain ⟨h1, h⟩ := Bool.and_eq_true_iff.mp h
  obtain ⟨h2, h⟩ := Bool.and_eq_true_iff.mp h
  obtain ⟨_, h4⟩ := Bool.and_eq_true_iff.mp h
  exact ⟨of_decide_eq_true h1, of_decide_eq_true h2, fun c hc => sign_small c (List.all_eq_true.mp h4 c hc)⟩
theorem unk_name {x : Str} (h : isUnknownD (.str x) = true) : nameS x = true := (Bool.and_eq_true_iff.mp (show (nameS x && !decide (x = "bound")) = true from h)).1
theorem row_name {r : Rw} {m : Nat} (h : isRowD (rowD r) m = true) : nameS r.name = true ∧ r.parts.length = m := by
  obtain ⟨h1, h2⟩ := Bool.and_eq_true_iff.mp (show (nameS r.name && (isTupN (.tuple (r.parts.map strD)) m && ((partsOf (.tuple (r.parts.map strD)) ++ [strD r.bd]).all isStretchD))) = true from h)
  obtain ⟨h3, _⟩ := Bool.and_eq_true_iff.mp h2
  refine ⟨h1, ?_⟩
  have := of_decide_eq_true h3
  rwa [List.length_map] at this
mutual
theorem dp_of {K : PySem.W.Frag} {H : Hp} : ∀ {d : PyData} {v : V}, d.hasDict = false → Dq K H v d → Dp K H v d
  | .none, _, _, h => by cases h; exact .non
  | .bool b, _, _, h => by cases h; exact .bl b
  | .int i, _, _, h => by cases h; exact .int i
  | .str x, _, _, h => by cases h; exact .str x
  | .list ds, _, n, h => by
    cases h with
    | lst a b => exact .lst a (dpAll_of (by simpa only [PyData.hasDict] using n) b)
  | .tuple ds, _, n, h => by
    cases h with
    | tup a b => exact .tup a (dpAll_of (by simpa only [PyData.hasDict] using n) b)
  | .dict ds, _, n, h => by simp [PyData.hasDict] at n
theorem dpAll_of {K : PySem.W.Frag} {H : Hp} : ∀ {ds : List PyData} {vs : List V}, PyData.hasDictAll ds = false → DqAll K H vs ds → DpAll K H vs ds
  | [], _, _, h => by cases h; exact .nil
  | d :: ds, _, n, h => by
    have n' : (d.hasDict || PyData.hasDictAll ds) = false := by simpa only [PyData.hasDictAll] using n
    obtain ⟨n1, n2⟩ := Bool.or_eq_false_iff.mp n'
    cases h with
    | cons a b => exact .cons (dp_of n1 a) (dpAll_of n2 b)
end
theorem eqvAll_strs : ∀ ns ms : List Str, PyData.eqvAll (ns.map .str) (ms.map .str) = decide (ns = ms)
  | [], [] => by simp [PyData.eqvAll]
  | [], _ :: _ => by simp [PyData.eqvAll]
  | _ :: _, [] => by simp [PyData.eqvAll]
  | n :: ns, m :: ms => by
    simp only [List.map_cons, PyData.eqvAll, PyData.eqv]
    rw [eqvAll_strs ns ms, Bool.eq_iff_iff]
    simp
theorem eqv_folk (ns ms : List Str) : PyData.eqv (folkD ns) (folkD ms) = decide (ns = ms) := by
  unfold folkD
  simp only [PyData.eqv]
  exact eqvAll_strs ns ms
theorem eqv_str (p q : Int × Int) : PyData.eqv (strD p) (strD q) = decide (p = q) := by
  obtain ⟨a, b⟩ := p
  obtain ⟨c, d⟩ := q
  unfold strD
  simp only [PyData.eqv, PyData.eqvAll]
  rw [Bool.eq_iff_iff]
  simp
theorem eqvAll_strD : ∀ ps qs : List (Int × Int), PyData.eqvAll (ps.map strD) (qs.map strD) = decide (ps = qs)
  | [], [] => by simp [PyData.eqvAll]
  | [], _ :: _ => by simp [PyData.eqvAll]
  | _ :: _, [] => by simp [PyData.eqvAll]
  | p :: ps, q :: qs => by
    simp only [List.map_cons, PyData.eqvAll]
    rw [eqvAll_strD ps qs, eqv_str, Bool.eq_iff_iff]
    simp
theorem eqv_row (r q : Rw) : PyData.eqv (rowD r) (rowD q) = decide (r = q) := by
  obtain ⟨a, b, c⟩ := r
  obtain ⟨d, e, f⟩ := q
  unfold rowD
  simp only [PyData.eqv, PyData.eqvAll]
  rw [eqvAll_strD, eqv_str, Bool.eq_iff_iff]
  simp
theorem eqvAll_rows : ∀ rs qs : List Rw, PyData.eqvAll (rs.map rowD) (qs.map rowD) = decide (rs = qs)
  | [], [] => by simp [PyData.eqvAll]
  | [], _ :: _ => by simp [PyData.eqvAll]
  | _ :: _, [] => by simp [PyData.eqvAll]
  | p :: ps, q :: qs => by
    simp only [List.map_cons, PyData.eqvAll]
    rw [eqvAll_rows ps qs, eqv_row, Bool.eq_iff_iff]
    simp
theorem eqv_rows (rs qs : List Rw) : PyData.eqv (rowsD rs) (rowsD qs) = decide (rs = qs) := by
  unfold rowsD
  simp only [PyData.eqv]
  exact eqvAll_rows rs qs
theorem strOk_of {x : Str} (h : ∀ c ∈ x.cps.toList, c < 128) : PyData.strOk x = true := by
  unfold PyData.strOk
  rw [← Array.all_toList, List.all_eq_true]
  intro c hc
  exact decide_eq_true (Nat.lt_of_lt_of_le (h c hc) (by decide))
theorem lay_strs : ∀ ns : List Str, (∀ x ∈ ns, nameS x = true) → PyData.canLayAll0 (ns.map .str) = true
  | [], _ => rfl
  | n :: ns, h => by
    simp only [List.map_cons, PyData.canLayAll0, PyData.canLay0]
    rw [strOk_of (name_parts (h n (List.mem_cons_self ..))).2.2, lay_strs ns fun x z => h x (List.mem_cons_of_mem _ z)]
    rfl
theorem dep_strs : ∀ ns : List Str, PyData.depthAll (ns.map .str) = 0
  | [] => rfl
  | n :: ns => by
    simp only [List.map_cons, PyData.depthAll, PyData.depth]
    rw [dep_strs ns]
    rfl
theorem shaped_strs {ns : List Str} (h : ∀ x ∈ ns, nameS x = true) : SeqAt.shaped (.tuple (ns.map .str)) = true := by
  refine Bool.and_eq_true_iff.mpr ⟨by simp only [PyData.canLay0]; exact lay_strs ns h, decide_eq_true ?_⟩
  simp only [PyData.depth]
  rw [dep_strs]
  decide
theorem folk_names {ns : List Str} (N : Folk ns) : ∀ x ∈ ns, nameS x = true := fun x z => unk_name (N.ok x z)
theorem shaped_folk {ns : List Str} (N : Folk ns) : SeqAt.shaped (folkD ns) = true := shaped_strs (folk_names N)
theorem lay_strD : ∀ ps : List (Int × Int), PyData.canLayAll0 (ps.map strD) = true
  | [] => rfl
  | p :: ps => by
    simp only [List.map_cons, PyData.canLayAll0, strD, PyData.canLay0]
    exact lay_strD ps
theorem dep_strD : ∀ ps : List (Int × Int), PyData.depthAll (ps.map strD) ≤ 1
  | [] => Nat.zero_le _
  | p :: ps => by
    simp only [List.map_cons, PyData.depthAll, strD, PyData.depth]
    have := dep_strD ps
    show max (max 0 (max 0 0) + 1) _ ≤ 1
    exact Nat.max_le.mpr ⟨Nat.le_refl _, this⟩
theorem lay_row {r : Rw} (h : nameS r.name = true) : PyData.canLay0 (rowD r) = true := by
  unfold rowD
  simp only [PyData.canLay0, PyData.canLayAll0]
  rw [strOk_of (name_parts h).2.2, lay_strD]
  rfl
theorem dep_row (r : Rw) : (rowD r).depth ≤ 3 := by
  unfold rowD strD
  simp only [PyData.depth, PyData.depthAll]
  have := dep_strD r.parts
  unfold strD at this
  omega
theorem lay_rows : ∀ rs : List Rw, (∀ r ∈ rs, nameS r.name = true) → PyData.canLayAll0 (rs.map rowD) = true
  | [], _ => rfl
  | r :: rs, h => by
    simp only [List.map_cons, PyData.canLayAll0]
    rw [lay_row (h r (List.mem_cons_self ..)), lay_rows rs fun x z => h x (List.mem_cons_of_mem _ z)]
    rfl
theorem dep_rows : ∀ rs : List Rw, PyData.depthAll (rs.map rowD) ≤ 3
  | [] => Nat.zero_le _
  | r :: rs => by
    simp only [List.map_cons, PyData.depthAll]
    exact Nat.max_le.mpr ⟨dep_row r, dep_rows rs⟩
theorem shaped_rows {rs : List Rw} (h : ∀ r ∈ rs, nameS r.name = true) : SeqAt.shaped (rowsD rs) = true := by
  refine Bool.and_eq_true_iff.mpr ⟨by unfold rowsD; simp only [PyData.canLay0]; exact lay_rows rs h, decide_eq_true ?_⟩
  unfold rowsD
  simp only [PyData.depth]
  have := dep_rows rs
  omega
theorem lines_names {rs : List Rw} {m : Nat} (L : Lines rs m) : ∀ r ∈ rs, nameS r.name = true := fun r z => (row_name (L.ok r z)).1
theorem nodict_strs : ∀ ns : List Str, PyData.hasDictAll (ns.map .str) = false
  | [] => rfl
  | n :: ns => by
    simp only [List.map_cons, PyData.hasDictAll, PyData.hasDict, Bool.false_or]
    exact nodict_strs ns
theorem nodict_folk (ns : List Str) : (folkD ns).hasDict = false := by
  unfold folkD
  simp only [PyData.hasDict]
  exact nodict_strs ns
theorem nodict_strD : ∀ ps : List (Int × Int), PyData.hasDictAll (ps.map strD) = false
  | [] => rfl
  | p :: ps => by
    simp only [List.map_cons, PyData.hasDictAll, strD, PyData.hasDict, Bool.false_or]
    exact nodict_strD ps
theorem nodict_row (r : Rw) : (rowD r).hasDict = false := by
  unfold rowD strD
  simp only [PyData.hasDictAll, PyData.hasDict, Bool.false_or]
  have := nodict_strD r.parts
  unfold strD at this
  rw [this]
  rfl
theorem nodict_rows : ∀ rs : List Rw, (rowsD rs).hasDict = false := by
  intro rs
  unfold rowsD
  simp only [PyData.hasDict]
  induction rs with
  | nil => rfl
  | cons r rs ih =>
    simp only [List.map_cons, PyData.hasDictAll]
    rw [nodict_row, ih]
    rfl
end Ca
set_option Elab.async false
set_option linter.all false
set_option maxRecDepth 100000
set_option maxHeartbeats 4000000
namespace Ca
open PySem L2
section
variable {X : Cx}
theorem ixT (K : PySem.W.Frag) (h : X.K = K := by rfl) : IxR X (rIxT K) := h ▸ ix_tup
end
def namesD (rs : List Rw) : PyData := .tuple ((rs.map Rw.name).map .str)
def spNames (K : PySem.W.Frag) (C : Addr) : Sp := fun vs H Q _ => ∃ x ns rs, vs = [.ref x] ∧ SysAt K C H x ns rs ∧ ∀ H' v, Same H H' → Dq K H' v (namesD rs) → Q v H'
theorem strs_dq {K : PySem.W.Frag} {H : Hp} : ∀ {ns : List Str}, (∀ x ∈ ns, x.length ≤ 1000) → DqAll K H (ns.map V.str) (ns.map .str)
  | [], _ => .nil
  | n :: ns, h => .cons (.str n (h n (List.mem_cons_self ..))) (strs_dq fun x z => h x (List.mem_cons_of_mem _ z))
theorem map_range {α β : Type} (l : List α) (d : α) (g : α → β) (n : Nat) (h : l.length = n) : ((List.range n).map fun i => g (l.getD i d)) = l.map g := by
  refine List.ext_getElem (by simp [h]) fun i h1 h2 => ?_
  have hi : i < l.length := by simpa using h2
  simp [List.getElem?_eq_getElem hi]
theorem ty_tyx {K : PySem.W.Frag} {H : Hp} {y : V} {t : String} (h : Ty K H y (.type t)) : TyX K H y (.type t) := by
  cases h with
  | non => exact .base .non
  | bl b => exact .base (.bl b)
  | int i => exact .base (.int i)
  | str x => exact .base (.str x)
  | lst e => exact tyx_l e
  | tup e => exact tyx_t e
  | dic e => exact .base (.dK e)
/-- what isinstance(x, System) leans on -/
structure SysI (K : PySem.W.Frag) (C : Addr) : Prop where
  ha : PySem.W.findIn K (.ref C) "__class__" = some (some (.builtin "object.__class__"))
  hn : PySem.W.specialIn K (.builtin "object.__class__") "__get__" = some (some (.builtin "getset_descriptor.__get__"))
  ht : PySem.W.takesIn K (.builtin "object.__class__") = some true
  hm : PySem.W.mroIn K C (.type "object") = some true
  own : PySem.W.kitOne K (.ref C) (.ref C) = some true
  odd : ∀ t : String, t ∈ ["NoneType", "bool", "int", "str", "list", "tuple", "dict"] → PySem.W.kitOne K (.type t) (.ref C) = some false ∧ PySem.W.notFirst K C (.type t) = true
  nf : PySem.W.notFirst K C (.ref C) = true
/-- self == other -/
def spEqS (K : PySem.W.Frag) (C : Addr) : Sp := fun vs H Q _ => ∃ x y ns rs, vs = [.ref x, y] ∧ SysAt K C H x ns rs ∧
  ((∃ t : String, Ty K H y (.type t) ∧ PySem.W.kitOne K (.type t) (.ref C) = some false ∧ Q (.bl false) H) ∨ ∃ z ms qs, y = .ref z ∧ SysAt K C H z ms qs ∧ Q (.bl (decide (ns = ms) && decide (rs = qs))) H)
section
variable {P : Program} {w : World} {K : PySem.W.Frag} {mg : Str → Option Value} {base : Heap} {C : Addr}
theorem scNames : FnScope ["self", "row"] ["self"] (defScope mSystemNames) := ⟨rfl, rfl, rfl, by decide +kernel, rfl, by decide +kernel, by decide +kernel⟩
theorem ok_names {f : Addr} {fd : FuncData} (F : FnM K "names" "System.names" mSystemNames [] f fd) (B : Bn mg) (S : SysC K C) : FnOk P w K mg base CX0 1 f fd ["self"] (spNames K C) := by
  refine F.ok scNames (fun vs H Q E h => ?_) (fun cdv A outer s H vs Q E hr h => ?_)
  · obtain ⟨x, ns, rs, rfl, _⟩ := h
    rfl
  · obtain ⟨x, ns, rs, rfl, ⟨hN, hL, dx, u, r, hx, du, dr⟩, q⟩ := h
    have nd := scNames.nd
    obtain ⟨a, xs, rfl, h1, h2, hl⟩ := tup_len dr
    have hl2 : xs.length = rs.length := by rw [hl, List.length_map]
    refine ⟨_, PSs.nox (pss_one (ps_ret (pe_callTy call_tuple_of (by rfl) B.tup (by decide +kernel) (pa_cons (pe_lc (own := [("row", 1)]) (g := gName 1) (tt := tYes) rfl nd (pi_tup (pe_fld (pv 0) rfl))
      (blkOk_by (own := [("row", 1)]) (N := ["self", "row"]) (sc := defScope mSystemNames) (by decide +kernel)) (fun _ _ _ _ _ => pg_name (i := 1) nd rfl (Or.inl rfl)) (fun _ _ _ _ _ => pts_nil)
      (fun _ _ _ _ _ => pe_ix (ixT K) (pv 1) pe_int (fun _ _ => rfl))) pa_nil)))), ?_⟩
    refine ⟨_, rfl, x, C, dx, _, _, rfl, hx, S.cl, S.nr, rfl, a, rfl, ⟨_, h1⟩, fun D hD => ?_⟩
    refine lc_known (walk_tup (K := K) (a := a) (xs := xs)) (fun i => .str ((rs.map Rw.name).getD i "")) (by rw [hl2]; have := hL.hi; omega) hD (fun H' s' => same_sqt s' h1) (fun _ _ _ _ y => by obtain ⟨rfl, _⟩ := y; exact fun _ _ e => e) (fun _ => rfl) ?_ ?_
    · rintro i z H5 H6 Qk hi s5 ⟨rfl, hz⟩ k
      obtain ⟨d, hdi, hdq⟩ := (h2.same s5).get hz
      have hi2 : i < rs.length := by rw [← hl2]; exact hi
      rw [List.getElem?_map, List.getElem?_eq_getElem hi2] at hdi
      cases hdi
      obtain ⟨b, v2, v3, rfl, hb, _, _, _⟩ := row_at hdq
      refine ⟨_, rfl, b, _, 0, _, rfl, rfl, hb, atI_nat (j := 0) rfl, ?_⟩
      have k1 := k _ (fun _ _ e => e)
      have en : (rs.map Rw.name).getD i "" = rs[i].name := by
        rw [List.getD_eq_getElem?_getD, List.getElem?_map, List.getElem?_eq_getElem hi2]
        rfl
      rw [en] at k1
      exact k1
    · intro H5 s5 bD
      rw [hl2, map_range (rs.map Rw.name) "" V.str rs.length (List.length_map ..)] at bD
      refine ⟨D, _, rfl, .inl ⟨SqL.of bD, fun p hp => q _ _ (s5.trans (Same.new hp)) (.tup (SqT.of upd_same) (strs_dq fun y z => ?_))⟩⟩
      obtain ⟨r, hr1, rfl⟩ := List.mem_map.mp z
      have := (name_parts (lines_names hL r hr1)).2.1
      omega
theorem scEq : FnScope ["self", "other"] ["self", "other"] (defScope mSystemEq) := ⟨rfl, rfl, rfl, by decide +kernel, rfl, by decide +kernel, by decide +kernel⟩
theorem ok_eq {f : Addr} {fd : FuncData} (F : FnM K "__eq__" "System.__eq__" mSystemEq [] f fd) (B : Bn mg) (S : SysC K C) (I : SysI K C) (gC : mg "System" = some (.ref C)) : FnOk P w K mg base CX0 1 f fd ["self", "other"] (spEqS K C) := by
  refine F.ok scEq (fun vs H Q E h => ?_) (fun cdv A outer s H vs Q E hr h => ?_)
  · obtain ⟨x, y, ns, rs, rfl, _⟩ := h
    rfl
  · obtain ⟨x, y, ns, rs, rfl, ⟨hN, hL, dx, u, r, hx, du, dr⟩, q⟩ := h
    refine ⟨_, PSs.nox (pss_one (ps_ret (pe_and (pe_callB call_isi (by rfl) B.isi PyProof.Rows.boot_isinstance (pa_cons (pv 1) (pa_cons (pe_glob (v := .ref C) rfl gC rfl) pa_nil)))
      (pe_and (pe_cmpR (op_eqD hr.units) (pe_fld (pv 0) rfl) (pe_fld (pv 1) rfl) (nomark _)) (pe_one (pe_cmpR (op_eqD hr.units) (pe_fld (pv 0) rfl) (pe_fld (pv 1) rfl) (nomark _))))))), ?_⟩
    rcases q with ⟨t, ht, hk, q⟩ | ⟨z, ms, qs, rfl, ⟨hN2, hL2, dz, u2, r2, hz, du2, dr2⟩, q⟩
    · exact ⟨_, rfl, y, .ref C, _, _, false, rfl, .own C, ty_tyx ht, hk, _, rfl, iteF q⟩
    · refine ⟨_, rfl, .ref z, .ref C, _, _, true, rfl, .own C, .base (.ins hz S.cl I.ha I.hn I.ht I.hm), I.own, _, rfl, iteT ?_⟩
      refine ⟨_, rfl, x, C, dx, _, u, rfl, hx, S.cl, S.nu, rfl, _, rfl, z, C, dz, _, u2, rfl, hz, S.cl, S.nu, rfl, _, _, dp_of (nodict_folk ns) du, dp_of (nodict_folk ms) du2, shaped_folk hN, shaped_folk hN2, _, rfl, ?_⟩
      rw [eqv_folk]
      refine ite2 (fun g => ?_) (fun g => ?_)
      · rw [g, Bool.true_and] at q
        refine ⟨_, rfl, x, C, dx, _, r, rfl, hx, S.cl, S.nr, rfl, _, rfl, z, C, dz, _, r2, rfl, hz, S.cl, S.nr, rfl, _, _, dp_of (nodict_rows rs) dr, dp_of (nodict_rows qs) dr2, shaped_rows (lines_names hL), shaped_rows (lines_names hL2), ?_⟩
        rw [eqv_rows]
        exact q
      · rw [Bool.eq_false_iff.mpr g, Bool.false_and] at q
        exact q
end
end Ca
set_option Elab.async false
set_option linter.all false
set_option maxRecDepth 100000
set_option maxHeartbeats 4000000
namespace Ca
open PySem L2
/-- the first items of a comprehension of two clauses -/
def items2 (m : Nat → Nat) (f : Nat → Nat → V) (i : Nat) : List V := (List.range i).flatMap fun a => (List.range (m a)).map (f a)
theorem items2_more (m : Nat → Nat) (f : Nat → Nat → V) (i : Nat) : items2 m f (i + 1) = items2 m f i ++ (List.range (m i)).map (f i) := by
  unfold items2
  rw [List.range_succ, List.flatMap_append]
  simp
theorem rdYes {A B : Hp → Prop} {σ : L2.St} {H : Hp} (h : A H) : tYes σ H (fun b H3 => if b = true then A H3 else B H3) := by
  show (if true = true then A H else B H)
  rw [if_pos rfl]
  exact h
/-- a comprehension of two clauses without tests, whose items are known ahead -/
theorem lc2_known {J : It} {n : Nat} {G : Hp → Prop} {Y : Nat → Hp → V → Hp → Prop} (w : Walk J n G Y) {wi1 : TI} {te : TE} {vs vs1 : List Nat} {σ : L2.St} {H1 : Hp} {D : Addr} {Qd : Hp → Prop} {j j1 : Nat} (m : Nat → Nat) (f : Nat → Nat → V) (hn : ∀ i, i ≤ n → (items2 m f i).length ≤ 100000)
    (hD : H1 D = none) (hG : ∀ H, Same H1 H → G H) (hY : ∀ i H x H', Y i H x H' → Same H H') (hw : ∀ x, wipe ((wipe σ vs).set j (some x)) vs = wipe σ vs) (hw1 : ∀ x z, wipe ((wipe ((wipe σ vs).set j (some x)) vs1).set j1 (some z)) vs1 = wipe ((wipe σ vs).set j (some x)) vs1)
    (hs : ∀ i x H H' (R : It → Hp → Prop), i < n → Same H1 H → Y i H x H' →
      (∀ J1 G1 Y1 H4, Walk J1 (m i) G1 Y1 → Same H' H4 → (∀ H5, Same H1 H5 → G1 H5) → (∀ k H z H', Y1 k H z H' → Same H H') →
        (∀ k z H5 H6 (Qk : VK), k < m i → Same H1 H5 → Y1 k H5 z H6 → (∀ H7, Same H6 H7 → Qk (f i k) H7) → te ((wipe ((wipe σ vs).set j (some x)) vs1).set j1 (some z)) H6 Qk) → R J1 H4) → wi1 ((wipe σ vs).set j (some x)) H' R)
    (hd : ∀ H, Same H1 H → H D = some (.lst (items2 m f n)) → Qd H) :
    ∃ W : Nat → Nat → Hp → Prop, (∃ m, W 0 m (upd H1 D (.lst []))) ∧ ∀ i m H, W i m H →
      (J.stop i H ∧ Qd H) ∨ (J.go i H ∧ ∃ Nx : Hp → Prop, (∀ H', Nx H' → ∃ m', m' < m ∧ W (i + 1) m' H') ∧ ∀ x H', J.yld i H x H' → gName j x (wipe σ vs) H' fun σ2 H2 => wipe σ2 vs = wipe σ vs ∧ tYes σ2 H2 fun b H3 =>
        if b = true then wi1 σ2 H3 fun J1 H4 => ∃ W1 : Nat → Nat → Hp → Prop, (∃ m, W1 0 m H4) ∧ ∀ j k H, W1 j k H →
          (J1.stop j H ∧ Nx H) ∨ (J1.go j H ∧ ∃ Nx1 : Hp → Prop, (∀ H', Nx1 H' → ∃ k', k' < k ∧ W1 (j + 1) k' H') ∧ ∀ x H', J1.yld j H x H' → gName j1 x (wipe σ2 vs1) H' fun σ3 H5 => wipe σ3 vs1 = wipe σ2 vs1 ∧ tYes σ3 H5 fun b H6 =>
            if b = true then te σ3 H6 fun y H7 => ∃ acc, H7 D = some (.lst acc) ∧ acc.length < sizeLine ∧ Nx1 (upd H7 D (.lst (acc ++ [y]))) else Nx1 H6)
        else Nx H3) := by
  refine ⟨fun i m' H => m' = n - i ∧ i ≤ n ∧ Same H1 H ∧ H D = some (.lst (items2 m f i)), ⟨n, by simp, Nat.zero_le _, Same.new hD, upd_same⟩, ?_⟩
  rintro i m' H ⟨rfl, hi, s, b⟩
  have g := hG H s
  by_cases hlt : i < n
  · refine .inr ⟨w.goes i H hlt g, fun H' => Same H1 H' ∧ H' D = some (.lst (items2 m f (i + 1))), fun H' p => ⟨n - (i + 1), by omega, rfl, hlt, p⟩, fun x H' y => ⟨hw x, rdYes ?_⟩⟩
    have y' := w.yields i H x H' hlt g y
    have sy := hY i H x H' y'
    refine hs i x H H' _ hlt s y' fun J1 G1 Y1 H4 w1 s4 hG1 hY1 he => ?_
    refine ⟨fun k k' H => k' = m i - k ∧ k ≤ m i ∧ Same H1 H ∧ H D = some (.lst (items2 m f i ++ (List.range k).map (f i))), ⟨m i, by simp, Nat.zero_le _, fun a o e => s4 _ _ (sy _ _ (s _ _ e)), by simpa using s4 _ _ (sy _ _ b)⟩, ?_⟩
    rintro k k' H5 ⟨rfl, hk, s5, b5⟩
    by_cases klt : k < m i
    · refine .inr ⟨w1.goes k H5 klt (hG1 H5 s5), fun H' => Same H1 H' ∧ H' D = some (.lst (items2 m f i ++ (List.range (k + 1)).map (f i))), fun H' p => ⟨m i - (k + 1), by omega, rfl, klt, p⟩, fun z H6 yz => ⟨hw1 x z, rdYes ?_⟩⟩
      have y6 := w1.yields k H5 z H6 klt (hG1 H5 s5) yz
      have s6 := hY1 k H5 z H6 y6
      refine he k z H5 H6 _ klt s5 y6 fun H7 s7 => ⟨_, s7 _ _ (s6 _ _ b5), ?_, fun a o e => ?_, ?_⟩
      · have := hn (i + 1) hlt
        rw [items2_more, List.length_append, List.length_map, List.length_range] at this
        rw [List.length_append, List.length_map, List.length_range]
        exact Nat.lt_of_lt_of_le (show _ < 100001 by omega) (by decide)
      · rw [upd_ne (ne_of_none e hD)]
        exact s7 _ _ (s6 _ _ (s5 _ _ e))
      · rw [upd_same, List.range_succ, List.map_append, List.append_assoc]
        rfl
    · have e : k = m i := by omega
      subst e
      exact .inl ⟨w1.stops H5 (hG1 H5 s5), s5, by rw [items2_more]; exact b5⟩
  · have e : i = n := by omega
    subst e
    exact .inl ⟨w.stops H g, hd H s b⟩
end Ca
set_option Elab.async false
set_option linter.all false
set_option maxRecDepth 100000
set_option maxHeartbeats 4000000
namespace Ca
open PySem L2
section
variable {X : Cx}
theorem piT (K : PySem.W.Frag) {tg e : Expr} {te : TE} (he : PE X e te) (h : X.K = K := by rfl) : PI X tg e (iTup K te) := h ▸ pi_tup he
end
def intS (i : Int) : Str := toString i
def wordsOf (ps : List (Int × Int)) : List Str := ps.flatMap fun p => [intS p.1, intS p.2]
def lineS (r : Rw) : Str := Txt.join " " ([("row" : Str), r.name] ++ wordsOf (r.parts ++ [r.bd]))
def pageS (ns : List Str) (rs : List Rw) : Str := Txt.join "\n" (Txt.join " " ("unknowns" :: ns) :: rs.map lineS)
def inB (p : Int × Int) : Prop := p.1.natAbs.log2 < 1920 ∧ p.2.natAbs.log2 < 1920
theorem str_ok {p : Int × Int} (h : isStretchD (strD p) = true) : -10000 ≤ p.1 ∧ p.1 ≤ p.2 ∧ p.2 ≤ 10000 := by
  obtain ⟨h1, h⟩ := Bool.and_eq_true_iff.mp (show (decide (-10000 ≤ p.1) && (decide (p.1 ≤ p.2) && decide (p.2 ≤ 10000))) = true from h)
  obtain ⟨h2, h3⟩ := Bool.and_eq_true_iff.mp h
  exact ⟨of_decide_eq_true h1, of_decide_eq_true h2, of_decide_eq_true h3⟩
theorem log_small {i : Int} (h1 : -10000 ≤ i) (h2 : i ≤ 10000) : i.natAbs.log2 < 1920 := by
  have : i.natAbs < 2 ^ 14 := by show i.natAbs < 16384; omega
  by_cases z : i.natAbs = 0
  · rw [z]; decide
  · have := (Nat.log2_lt z).mpr this
    omega
theorem str_in {p : Int × Int} (h : isStretchD (strD p) = true) : inB p := by
  obtain ⟨h1, h2, h3⟩ := str_ok h
  exact ⟨log_small h1 (by omega), log_small (by omega) h3⟩
theorem row_in {r : Rw} {m : Nat} (h : isRowD (rowD r) m = true) : ∀ p ∈ r.parts ++ [r.bd], inB p := by
  obtain ⟨_, h2⟩ := Bool.and_eq_true_iff.mp (show (nameS r.name && (isTupN (.tuple (r.parts.map strD)) m && ((partsOf (.tuple (r.parts.map strD)) ++ [strD r.bd]).all isStretchD))) = true from h)
  obtain ⟨_, h4⟩ := Bool.and_eq_true_iff.mp h2
  intro p hp
  refine str_in (List.all_eq_true.mp h4 (strD p) ?_)
  show strD p ∈ r.parts.map strD ++ [strD r.bd]
  rw [show r.parts.map strD ++ [strD r.bd] = (r.parts ++ [r.bd]).map strD by rw [List.map_append]; rfl]
  exact List.mem_map_of_mem hp
theorem intS_len {i : Int} (h : i.natAbs.log2 < 1920) : (intS i).length ≤ 1921 := PyProof.Rows.int_text_len_1921 h
theorem words_len : ∀ ps : List (Int × Int), (∀ p ∈ ps, inB p) → ((wordsOf ps).map (·.length)).sum ≤ 3842 * ps.length ∧ (wordsOf ps).length = 2 * ps.length
  | [], _ => ⟨Nat.le_refl _, rfl⟩
  | p :: ps, h => by
    obtain ⟨h1, h2⟩ := words_len ps fun x z => h x (List.mem_cons_of_mem _ z)
    have hp := h p (List.mem_cons_self ..)
    have e : wordsOf (p :: ps) = intS p.1 :: intS p.2 :: wordsOf ps := rfl
    rw [e]
    have l1 := intS_len hp.1
    have l2 := intS_len hp.2
    refine ⟨?_, ?_⟩
    · simp only [List.map_cons, List.sum_cons, List.length_cons]
      omega
    · simp only [List.length_cons]
      omega
def wordAt (ps : List (Int × Int)) (a k : Nat) : V := .str (if k = 0 then intS (ps.getD a (0, 0)).1 else intS (ps.getD a (0, 0)).2)
theorem items_words (ps : List (Int × Int)) (n : Nat) (h : ps.length = n) : items2 (fun _ => 2) (wordAt ps) n = (wordsOf ps).map V.str := by
  unfold items2 wordsOf
  rw [List.flatMap_def, List.flatMap_def]
  have e : (List.range n).map (fun a => (List.range 2).map (wordAt ps a)) = ps.map fun p => [V.str (intS p.1), V.str (intS p.2)] :=
    map_range ps (0, 0) (fun p => [V.str (intS p.1), V.str (intS p.2)]) n h
  rw [e, List.map_flatten, List.map_map]
  rfl
theorem items_two (f : Nat → Nat → V) : ∀ i, (items2 (fun _ => 2) f i).length = 2 * i
  | 0 => rfl
  | i + 1 => by
    rw [items2_more, List.length_append, items_two f i, List.length_map, List.length_range]
    omega
def spLine (K : PySem.W.Frag) : Sp := fun vs H Q _ => ∃ v r m, vs = [v] ∧ Dq K H v (rowD r) ∧ isRowD (rowD r) m = true ∧ m ≤ 3 ∧ ∀ H', Same H H' → Q (.str (lineS r)) H'
section
variable {P : Program} {w : World} {K : PySem.W.Frag} {mg : Str → Option Value} {base : Heap} {C : Addr}
abbrev NLine : List Str := ["row", "name", "stretches", "bound", "ends", "stretch", "end"]
theorem scLine : FnScope NLine ["row"] (defScope sLineOf) := ⟨rfl, rfl, rfl, by decide +kernel, rfl, by decide +kernel, by decide +kernel⟩
theorem ok_line {f : Addr} {fd : FuncData} (F : FnT K "line_of" sLineOf f fd) (B : Bn mg) : FnOk P w K mg base CX0 1 f fd ["row"] (spLine K) := by
  refine F.ok scLine (fun vs H Q E h => ?_) (fun cdv A outer s H vs Q E hr h => ?_)
  · obtain ⟨v, r, m, rfl, _⟩ := h
    rfl
  · obtain ⟨v, r, m, rfl, hd, ok, hm, q⟩ := h
    have nd := scLine.nd
    refine ⟨_, PSs.nox (pss_cons (ps_asg (pv 0) (pg_tup rfl (pgs_cons (pg_name (i := 1) nd rfl (.inl rfl)) (pgs_cons (pg_name (i := 2) nd rfl (.inl rfl)) (pgs_cons (pg_name (i := 3) nd rfl (.inl rfl)) pgs_nil)))))
      (pss_cons (ps_setLc2 (i := 4) (own := [("stretch", 5), ("end", 6)]) (vs1 := [6]) (g := gName 5) (g1 := gName 6) (tt := tYes) (tt1 := tYes) rfl nd rfl rfl (sw_true rfl rfl rfl (by decide +kernel)) (pi_tup (pe_tup (StX.pa_star (pv 2) (pa_cons (pv 3) pa_nil))))
          (blkOk_by (own := [("stretch", 5), ("end", 6)]) (N := NLine) (sc := defScope sLineOf) (by decide +kernel)) (by decide) (fun _ _ _ _ _ => pg_name (i := 5) nd rfl (Or.inl rfl)) (fun _ _ _ _ _ => pts_nil)
          (fun _ _ _ _ _ => piT K (pv 5)) (fun _ _ _ _ _ => pg_name (i := 6) nd rfl (Or.inl rfl)) (fun _ _ _ _ _ => pts_nil)
          (fun _ _ _ _ _ => pe_callTy call_str_int (by rfl) B.str (by decide +kernel) (pa_cons (pv 6) pa_nil)))
      (pss_one (ps_ret (pe_join pe_str (pe_lst (pa_cons pe_str (pa_cons (pv 1) (StX.pa_star (pv 4) pa_nil))))))))), ?_⟩
    have hd1 := hd
    cases hd1 with
    | @tup a xs _ h1 h2 =>
      cases h2 with
      | @cons v1 _ _ _ e1 r1 =>
        cases r1 with
        | @cons v2 _ _ _ e2 r2 =>
          cases r2 with
          | @cons v3 _ _ _ e3 r3 =>
            cases r3
            refine ⟨_, rfl, a, _, rfl, h1, rfl, _, _, rfl, _, _, rfl, _, _, rfl, rfl, ?_⟩
            cases e1 with
            | str _ hname =>
              obtain ⟨a2, xs2, rfl, h3, h4, hl⟩ := tup_len e2
              rw [List.length_map] at hl
              have hp3 := (row_name ok).2
              have hall : DqAll K H (xs2 ++ [v3]) ((r.parts ++ [r.bd]).map strD) := by
                rw [List.map_append]
                exact h4.app (.cons e3 .nil)
              have hlen : (xs2 ++ [v3]).length = r.parts.length + 1 := by rw [List.length_append, hl]; rfl
              refine ⟨_, rfl, a2, xs2, rfl, .inl h3, _, rfl, by rw [hlen, hp3]; exact Nat.le_trans (Nat.succ_le_succ hm) (by decide), fun p hp => ⟨p, rfl, ⟨_, SqT.of upd_same⟩, fun D hD => ?_⟩⟩
              have s4 : Same H (upd H p (.tup (xs2 ++ [v3]))) := Same.new hp
              have hall1 := hall.same s4
              refine lc2_known (walk_tup (K := K) (a := p) (xs := xs2 ++ [v3])) (fun _ => 2) (wordAt (r.parts ++ [r.bd])) (fun i hi => by rw [items_two]; rw [hlen] at hi; omega) hD (fun H' s' => same_sqt s' (SqT.of upd_same)) (fun _ _ _ _ y => by obtain ⟨rfl, _⟩ := y; exact fun _ _ e => e) (fun _ => rfl) (fun _ _ => rfl) ?_ ?_
              · rintro i x H5 H6 R hi s5 ⟨rfl, hx⟩ k
                obtain ⟨d, hdi, hdq⟩ := hall1.get hx
                obtain ⟨pp, hpp, rfl⟩ : ∃ pp, (r.parts ++ [r.bd])[i]? = some pp ∧ d = strD pp := by
                  rw [List.getElem?_map] at hdi
                  cases e : (r.parts ++ [r.bd])[i]? with
                  | none => rw [e] at hdi; cases hdi
                  | some z => rw [e] at hdi; exact ⟨z, rfl, (Option.some.inj hdi).symm⟩
                have hin := row_in ok pp (List.mem_of_getElem? hpp)
                have hgd : (r.parts ++ [r.bd]).getD i (0, 0) = pp := by
                  rw [List.getD_eq_getElem?_getD, hpp]
                  rfl
                cases hdq with
                | @tup b ys _ g1 g2 =>
                  cases g2 with
                  | @cons w1 _ _ _ i1 t1 =>
                    cases t1 with
                    | @cons w2 _ _ _ i2 t2 =>
                      cases t2
                      cases i1
                      cases i2
                      refine ⟨_, rfl, b, rfl, ⟨_, same_sqt s5 g1⟩, k (Itt K b) _ _ _ (walk_tup (K := K) (a := b) (xs := [.int pp.1, .int pp.2])) (fun _ _ e => e) (fun H7 s7 => same_sqt s7 g1) (fun _ _ _ _ y => by obtain ⟨rfl, _⟩ := y; exact fun _ _ e => e) ?_⟩
                      rintro j z H7 H8 Qk hj s7 ⟨rfl, hz⟩ kk
                      have k1 := kk _ (fun _ _ e => e)
                      unfold wordAt at k1
                      rw [hgd] at k1
                      match j, hj, hz with
                      | 0, _, hz =>
                        cases hz
                        exact ⟨_, rfl, _, rfl, hin.1, k1⟩
                      | 1, _, hz =>
                        cases hz
                        exact ⟨_, rfl, _, rfl, hin.2, k1⟩
              · intro H5 s5 bD
                rw [items_words _ _ (by rw [hlen, List.length_append]; rfl)] at bD
                obtain ⟨w1, w2⟩ := words_len (r.parts ++ [r.bd]) (row_in ok)
                have l3 : (r.parts ++ [r.bd]).length ≤ 4 := by rw [List.length_append, hp3]; show m + 1 ≤ 4; omega
                refine ⟨⟨_, rfl⟩, _, rfl, _, rfl, D, _, rfl, .inr (SqL.of bD), ?_, fun l hl => ?_⟩
                · simp only [List.length_cons, List.length_append, List.length_map, List.length_nil]
                  rw [w2]
                  exact Nat.le_trans (show _ ≤ 100 by omega) (by decide)
                · rw [List.append_nil]
                  refine ⟨" ", l, [("row" : Str), r.name] ++ wordsOf (r.parts ++ [r.bd]), rfl, rfl, .inl (SqL.of upd_same), ?_, q _ (s4.trans (s5.trans (Same.new hl)))⟩
                  rw [List.map_append, List.sum_append, List.length_append, w2]
                  show 3 + (r.name.length + 0) + _ + (2 + 2 * (r.parts ++ [r.bd]).length) * 1 ≤ 16777216
                  omega
end
end Ca
set_option Elab.async false
set_option linter.all false
set_option maxRecDepth 100000
set_option maxHeartbeats 4000000
namespace Ca
open PySem L2
theorem cat_len (x y : Str) : (x ++ y).length = x.length + y.length := by
  show (x.cps ++ y.cps).size = x.cps.size + y.cps.size
  exact Array.size_append
theorem join_le (y : Str) : ∀ ps : List Str, (Str.join y ps).length ≤ (ps.map (·.length)).sum + ps.length * y.length
  | [] => Nat.zero_le _
  | [p] => by
    show p.length ≤ _
    simp only [List.map_cons, List.map_nil, List.sum_cons, List.sum_nil, List.length_cons, List.length_nil]
    omega
  | p :: z :: r => by
    have ih := join_le y (z :: r)
    show (p ++ y ++ Str.join y (z :: r)).length ≤ _
    rw [cat_len, cat_len]
    simp only [List.map_cons, List.sum_cons, List.length_cons, Nat.add_mul, Nat.one_mul] at ih ⊢
    omega
theorem line_len {r : Rw} {m : Nat} (ok : isRowD (rowD r) m = true) (hm : m ≤ 3) : (lineS r).length ≤ 16000 := by
  have hp3 := (row_name ok).2
  have l3 : (r.parts ++ [r.bd]).length ≤ 4 := by rw [List.length_append, hp3]; show m + 1 ≤ 4; omega
  obtain ⟨w1, w2⟩ := words_len (r.parts ++ [r.bd]) (row_in ok)
  have hn := (name_parts (row_name ok).1).2.1
  unfold lineS
  rw [TL.join_eq]
  refine Nat.le_trans (join_le _ _) ?_
  rw [List.map_append, List.sum_append, List.length_append, w2]
  show 3 + (r.name.length + 0) + _ + (2 + 2 * (r.parts ++ [r.bd]).length) * 1 ≤ 16000
  omega
theorem lines_len : ∀ (rs : List Rw) (m : Nat), (∀ r ∈ rs, isRowD (rowD r) m = true) → m ≤ 3 → (((rs.map lineS).map (·.length)).sum ≤ 16000 * rs.length)
  | [], _, _, _ => Nat.le_refl _
  | r :: rs, m, h, hm => by
    have ih := lines_len rs m (fun x z => h x (List.mem_cons_of_mem _ z)) hm
    have l := line_len (h r (List.mem_cons_self ..)) hm
    simp only [List.map_cons, List.sum_cons, List.length_cons]
    omega
theorem names_len : ∀ ns : List Str, (∀ x ∈ ns, nameS x = true) → (ns.map (·.length)).sum ≤ 8 * ns.length
  | [], _ => Nat.le_refl _
  | n :: ns, h => by
    have ih := names_len ns fun x z => h x (List.mem_cons_of_mem _ z)
    have l := (name_parts (h n (List.mem_cons_self ..))).2.1
    simp only [List.map_cons, List.sum_cons, List.length_cons]
    omega
def spStr (K : PySem.W.Frag) (C : Addr) : Sp := fun vs H Q _ => ∃ x ns rs, vs = [.ref x] ∧ SysAt K C H x ns rs ∧ ∀ H', Same H H' → Q (.str (pageS ns rs)) H'
section
variable {P : Program} {w : World} {K : PySem.W.Frag} {mg : Str → Option Value} {base : Heap} {C : Addr}
abbrev NStr : List Str := ["self", "first", "others", "row"]
theorem scStr : FnScope NStr ["self"] (defScope mSystemStr) := ⟨rfl, rfl, rfl, by decide +kernel, rfl, by decide +kernel, by decide +kernel⟩
theorem ok_str {f fL : Addr} {fd fdL : FuncData} (F : FnM K "__str__" "System.__str__" mSystemStr [] f fd) (S : SysC K C)
    (gL : mg "line_of" = some (.ref fL)) (GL : FnOk P w K mg base CX0 1 fL fdL ["row"] (spLine K)) (kL : PySem.W.keepIn K (.ref fL) = true) (bL : Binds K fdL ["row"] []) : FnOk P w K mg base CX0 2 f fd ["self"] (spStr K C) := by
  refine F.ok scStr (fun vs H Q E h => ?_) (fun cdv A outer s H vs Q E hr h => ?_)
  · obtain ⟨x, ns, rs, rfl, _⟩ := h
    rfl
  · obtain ⟨x, ns, rs, rfl, ⟨hN, hL, dx, u, r, hx, du, dr⟩, q⟩ := h
    have nd := scStr.nd
    refine ⟨_, PSs.nox (pss_cons (ps_set (i := 1) nd rfl (.inl rfl) (pe_join pe_str (pe_lst (pa_cons pe_str (StX.pa_star (pe_fld (pv 0) rfl) pa_nil)))))
      (pss_cons (ps_setLc (i := 2) (own := [("row", 3)]) (g := gName 3) (tt := tYes) rfl nd rfl rfl (sw_true rfl rfl rfl (by decide +kernel)) (pi_tup (pe_fld (pv 0) rfl))
          (blkOk_by (own := [("row", 3)]) (N := NStr) (sc := defScope mSystemStr) (by decide +kernel)) (fun _ _ _ _ _ => pg_name (i := 3) nd rfl (Or.inl rfl)) (fun _ _ _ _ _ => pts_nil)
          (fun _ _ _ _ _ => pe_call GL hr rfl gL kL bL .nil pass0 (pa_cons (pv 3) pa_nil)))
      (pss_one (ps_ret (pe_join pe_str (pe_lst (pa_cons (pv 1) (StX.pa_star (pv 2) pa_nil)))))))), ?_⟩
    obtain ⟨a, xs, rfl, h1, h2, hl⟩ := tup_len du
    obtain ⟨rfl, hlen⟩ := strs_of h2
    have nl := names_len ns (folk_names hN)
    have n3 := hN.hi
    refine ⟨⟨_, rfl⟩, _, rfl, x, C, dx, _, _, rfl, hx, S.cl, S.nu, rfl, a, _, rfl, .inl h1, ?_, fun l hlf => ?_⟩
    · simp only [List.length_cons, List.length_append, List.length_map, List.length_nil]
      exact Nat.le_trans (show _ ≤ 100 by omega) (by decide)
    rw [List.append_nil]
    refine ⟨" ", l, ("unknowns" : Str) :: ns, rfl, rfl, .inl (SqL.of upd_same), ?_, ?_⟩
    · simp only [List.map_cons, List.sum_cons, List.length_cons]
      show 8 + _ + (ns.length + 1) * 1 ≤ 16777216
      omega
    have s1 : Same H (upd H l (.lst ((("unknowns" : Str) :: ns).map V.str))) := Same.new hlf
    change tSeq _ _ _ _ (upd H l (.lst ((("unknowns" : Str) :: ns).map V.str)))
    generalize upd H l (.lst ((("unknowns" : Str) :: ns).map V.str)) = H1 at s1 ⊢
    obtain ⟨b, ys, rfl, g1, g2, gl⟩ := tup_len (dr.same s1)
    rw [List.length_map] at gl
    refine ⟨_, rfl, x, C, dx, _, _, rfl, s1 _ _ hx, S.cl, S.nr, rfl, b, rfl, ⟨_, g1⟩, fun D hD => ?_⟩
    refine lc_known (walk_tup (K := K) (a := b) (xs := ys)) (fun i => .str ((rs.map lineS).getD i "")) (by rw [gl]; have := hL.hi; omega) hD (fun H' s' => same_sqt s' g1) (fun _ _ _ _ y => by obtain ⟨rfl, _⟩ := y; exact fun _ _ e => e) (fun _ => rfl) ?_ ?_
    · rintro i z H5 H6 Qk hi s5 ⟨rfl, hz⟩ k
      obtain ⟨d, hdi, hdq⟩ := (g2.same s5).get hz
      have hi2 : i < rs.length := by rw [← gl]; exact hi
      rw [List.getElem?_map, List.getElem?_eq_getElem hi2] at hdi
      cases hdi
      refine ⟨_, rfl, z, rs[i], ns.length, rfl, hdq, hL.ok _ (List.getElem_mem hi2), n3, fun H7 s7 => ?_⟩
      have k1 := k H7 s7
      have en : (rs.map lineS).getD i "" = lineS rs[i] := by
        rw [List.getD_eq_getElem?_getD, List.getElem?_map, List.getElem?_eq_getElem hi2]
        rfl
      rw [en] at k1
      exact k1
    · intro H5 s5 bD
      rw [gl, map_range (rs.map lineS) "" V.str rs.length (List.length_map ..)] at bD
      have ll := lines_len rs ns.length hL.ok n3
      have r6 := hL.hi
      refine ⟨⟨_, rfl⟩, _, rfl, _, rfl, D, _, rfl, .inr (SqL.of bD), ?_, fun l2 hl2 => ?_⟩
      · simp only [List.length_cons, List.length_append, List.length_map, List.length_nil]
        exact Nat.le_trans (show _ ≤ 100 by omega) (by decide)
      rw [List.append_nil]
      refine ⟨"\n", l2, Txt.join " " (("unknowns" : Str) :: ns) :: rs.map lineS, rfl, rfl, .inl (SqL.of upd_same), ?_, q _ (s1.trans (s5.trans (Same.new hl2)))⟩
      have j1 := join_le " " (("unknowns" : Str) :: ns)
      rw [← TL.join_eq] at j1
      simp only [List.map_cons, List.sum_cons, List.length_cons, List.length_map] at j1 ⊢
      have e8 : Str.length "unknowns" = 8 := rfl
      have e1 : Str.length " " = 1 := rfl
      have e2 : Str.length "\n" = 1 := rfl
      rw [e8, e1] at j1
      rw [e2]
      omega
end
end Ca
set_option Elab.async false
set_option linter.all false
set_option maxRecDepth 100000
set_option maxHeartbeats 4000000
namespace Ca
open PySem L2
section
variable {P : Program} {w : World} {K : PySem.W.Frag} {mg : Str → Option Value} {base : Heap}
end
end Ca
set_option Elab.async false
set_option linter.all false
set_option maxRecDepth 100000
set_option maxHeartbeats 4000000
namespace Ca
open PySem L2
/-! ### data of tuples, ints and texts alone, behind changes of a list -/
mutual
def noL : PyData → Bool
  | .list _ => false
  | .dict _ => false
  | .tuple ds => noLs ds
  | _ => true
def noLs : List PyData → Bool
  | [] => true
  | d :: ds => noL d && noLs ds
end
theorem sqt_but {K : PySem.W.Frag} {H H' : Hp} {l a : Addr} {ys xs : List V} (hl : H l = some (.lst ys)) (k : Kept l H H') (h : SqT K H a xs) : SqT K H' a xs := by
  have n : ∀ o, H a = some o → (∀ zs, o ≠ .lst zs) → a ≠ l := fun o e z y => by
    rw [y, hl] at e
    cases e
    exact z _ rfl
  rcases h with (e | ⟨o, e⟩) | e
  · exact .inl (.inl (k _ _ (n _ e fun _ z => nomatch z) e))
  · exact .inl (.inr ⟨o, k _ _ (n _ e fun _ z => nomatch z) e⟩)
  · exact .inr e
mutual
theorem Dq.but {K : PySem.W.Frag} {H H' : Hp} {l : Addr} {ys : List V} (hl : H l = some (.lst ys)) (k : Kept l H H') : ∀ {d : PyData} {v : V}, noL d = true → Dq K H v d → Dq K H' v d
  | .none, _, _, h => by cases h; exact .non
  | .bool b, _, _, h => by cases h; exact .bl b
  | .int i, _, _, h => by cases h; exact .int i
  | .str x, _, _, h => by cases h with | str _ a => exact .str x a
  | .list ds, _, n, _ => by simp [noL] at n
  | .tuple ds, _, n, h => by
    cases h with
    | tup a b => exact .tup (sqt_but hl k a) (DqAll.but hl k (by simpa only [noL] using n) b)
  | .dict ds, _, n, _ => by simp [noL] at n
theorem DqAll.but {K : PySem.W.Frag} {H H' : Hp} {l : Addr} {ys : List V} (hl : H l = some (.lst ys)) (k : Kept l H H') : ∀ {ds : List PyData} {vs : List V}, noLs ds = true → DqAll K H vs ds → DqAll K H' vs ds
  | [], _, _, h => by cases h; exact .nil
  | d :: ds, _, n, h => by
    obtain ⟨n1, n2⟩ := Bool.and_eq_true_iff.mp (show (noL d && noLs ds) = true by simpa only [noLs] using n)
    cases h with
    | cons a b => exact .cons (Dq.but hl k n1 a) (DqAll.but hl k n2 b)
end
theorem urn_lst {H : Hp} {l : Addr} (u : Urn H l) : ∃ ys, H l = some (.lst ys) := by
  obtain ⟨g, x, n, _, _, _, h⟩ := u
  exact ⟨_, h⟩
theorem noL_strD (p : Int × Int) : noL (strD p) = true := rfl
theorem noLs_map {α : Type} (g : α → PyData) (h : ∀ a, noL (g a) = true) : ∀ l : List α, noLs (l.map g) = true
  | [] => rfl
  | a :: l => by
    simp only [List.map_cons, noLs]
    rw [h a, noLs_map g h l]
    rfl
theorem noL_strs (ns : List Str) : noLs (ns.map .str) = true := noLs_map _ (fun _ => rfl) ns
theorem noL_folk (ns : List Str) : noL (folkD ns) = true := noL_strs ns
theorem noL_row (r : Rw) : noL (rowD r) = true := by
  have := noLs_map strD noL_strD r.parts
  unfold rowD
  simp only [noL, noLs, this, noL_strD]
  rfl
theorem noL_rows (rs : List Rw) : noL (rowsD rs) = true := noLs_map rowD noL_row rs
/-- a comprehension that draws from the urn at l, its items kept as data -/
theorem lc_draw {J : It} {n : Nat} {G : Hp → Prop} {Y : Nat → Hp → V → Hp → Prop} (w : Walk J n G Y) {K : PySem.W.Frag} {α : Type} (g : α → PyData) (ok : Nat → α → Prop) {te : TE} {vs : List Nat} {σ : L2.St} {H1 : Hp} {D l : Addr} {Qd : Hp → Prop} {j : Nat} (hg : ∀ a, noL (g a) = true) (hn : n ≤ 100000) (hU : Urn H1 l) (hD : H1 D = none)
    (hG : ∀ H, Kept l H1 H → G H) (hY : ∀ i H x H', Y i H x H' → H' = H) (hw : ∀ x, wipe ((wipe σ vs).set j (some x)) vs = wipe σ vs)
    (hs : ∀ i x H (Qk : VK), i < n → Y i H x H → Kept l H1 H → Urn H l → (∀ y a H4, Kept l H H4 → Urn H4 l → Dq K H4 y (g a) → ok i a → Qk y H4) → te ((wipe σ vs).set j (some x)) H Qk)
    (hd : ∀ H xs (as : List α), Kept l H1 H → Urn H l → H D = some (.lst xs) → DqAll K H xs (as.map g) → as.length = n → (∀ i a, as[i]? = some a → ok i a) → Qd H) :
    ∃ W : Nat → Nat → Hp → Prop, (∃ m, W 0 m (upd H1 D (.lst []))) ∧ ∀ i m H, W i m H →
      (J.stop i H ∧ Qd H) ∨ (J.go i H ∧ ∃ Nx : Hp → Prop, (∀ H', Nx H' → ∃ m', m' < m ∧ W (i + 1) m' H') ∧ ∀ x H', J.yld i H x H' → gName j x (wipe σ vs) H' fun σ2 H2 => wipe σ2 vs = wipe σ vs ∧ tYes σ2 H2 fun b H3 =>
        if b = true then te σ2 H3 fun y H4 => ∃ acc, H4 D = some (.lst acc) ∧ acc.length < sizeLine ∧ Nx (upd H4 D (.lst (acc ++ [y]))) else Nx H3) := by
  obtain ⟨lo, hlo⟩ := hU.some
  have nDl : D ≠ l := fun z => by rw [z, hlo] at hD; cases hD
  refine lc_it w (fun i H => Kept l H1 H ∧ Urn H l ∧ ∃ xs, ∃ as : List α, H D = some (.lst xs) ∧ DqAll K H xs (as.map g) ∧ as.length = i ∧ ∀ i a, as[i]? = some a → ok i a)
    ⟨(Same.new hD).kept, hU.same (Same.new hD), [], [], upd_same, .nil, rfl, fun _ _ z => nomatch z⟩ (fun i H _ p => hG H p.1) ?_ (fun H p => by
      obtain ⟨p1, p2, xs, as, p3, p4, p5, p6⟩ := p
      exact hd H xs as p1 p2 p3 p4 p5 p6)
  rintro i x H H' hi ⟨p1, p2, xs, as, p3, p4, p5, p6⟩ yy
  obtain rfl := hY i H x H' yy
  refine ⟨hw _, rdYes (hs i x _ _ hi yy p1 p2 fun y a H4 k4 u4 q4 ok4 => ?_)⟩
  have d4 := k4 _ _ nDl p3
  obtain ⟨us, hus⟩ := urn_lst p2
  have a4 : DqAll K H4 xs (as.map g) := DqAll.but hus k4 (noLs_map g hg as) p4
  have kD : Kept D H4 (upd H4 D (.lst (xs ++ [y]))) := fun b o n e => by rw [upd_ne n]; exact e
  refine ⟨_, d4, ?_, fun b o n e => ?_, ?_, xs ++ [y], as ++ [a], upd_same, ?_, by rw [List.length_append, p5]; rfl, fun i' a' hia => ?_⟩
  · have := p4.len
    rw [List.length_map, p5] at this
    rw [this]
    exact Nat.lt_of_lt_of_le (Nat.lt_of_lt_of_le hi hn) (by decide)
  · have nb : b ≠ D := fun z => by rw [z, hD] at e; cases e
    rw [upd_ne nb]
    exact k4 _ _ n (p1 _ _ n e)
  · obtain ⟨x1, x2, x3, y1, y2, y3, y4⟩ := u4
    exact ⟨x1, x2, x3, y1, y2, y3, by rw [upd_ne nDl.symm]; exact y4⟩
  · rw [List.map_append]
    exact (DqAll.but d4 kD (noLs_map g hg as) a4).app (.cons (Dq.but d4 kD (hg a) q4) .nil)
  · by_cases c : i' < as.length
    · rw [List.getElem?_append_left c] at hia
      exact p6 i' a' hia
    · rw [List.getElem?_append_right (Nat.le_of_not_lt c)] at hia
      have e0 : i' - as.length = 0 := by
        cases z : i' - as.length with
        | zero => rfl
        | succ k => rw [z] at hia; cases hia
      rw [e0] at hia
      cases hia
      have : i' = i := by omega
      rw [this]
      exact ok4
end Ca
set_option Elab.async false
set_option linter.all false
set_option maxRecDepth 100000
set_option maxHeartbeats 4000000
namespace Ca
open PySem L2
section
variable {X : Cx}
end
def pick (ms : List Str) (b s m : Nat) : List Str := (List.range m).map fun k => ms.getD ((b + s * k) % 11) ""
section
variable {P : Program} {w : World} {K : PySem.W.Frag} {mg : Str → Option Value} {base : Heap} {C : Addr}
end
end Ca
set_option Elab.async false
set_option linter.all false
set_option maxRecDepth 100000
set_option maxHeartbeats 4000000
namespace Ca
open PySem L2
theorem two_ok {p : Int × Int} (h1 : -10000 ≤ p.1) (h2 : p.1 ≤ p.2) (h3 : p.2 ≤ 10000) : isStretchD (strD p) = true := by
  show (decide (-10000 ≤ p.1) && (decide (p.1 ≤ p.2) && decide (p.2 ≤ 10000))) = true
  rw [decide_eq_true h1, decide_eq_true h2, decide_eq_true h3]
  rfl
theorem strD_at {K : PySem.W.Frag} {H : Hp} {t : Addr} {a b : Int} (h : H t = some (.tup [.int a, .int b])) : Dq K H (.ref t) (strD (a, b)) := .tup (SqT.of h) (.cons (.int _) (.cons (.int _) .nil))
section
variable {P : Program} {w : World} {K : PySem.W.Frag} {mg : Str → Option Value} {base : Heap} {C : Addr}
end
end Ca
set_option Elab.async false
set_option linter.all false
set_option maxRecDepth 100000
set_option maxHeartbeats 4000000
namespace Ca
open PySem PySem.Spec PyProof.Rows L2
/-! ### tuples of which it is known that they have no attributes of their own -/
def TupN (H : Hp) (a : Addr) (xs : List V) : Prop := ∃ o : Obj, H a = some (.frz o (.tup xs)) ∧ o.cls = .type "tuple" ∧ o.dict = none
theorem TupN.sq {K : PySem.W.Frag} {H : Hp} {a : Addr} {xs : List V} (h : TupN H a xs) : SqT K H a xs := h.elim fun o e => .inl (.inr ⟨o, e.1⟩)
theorem TupN.same {H H' : Hp} {a : Addr} {xs : List V} (h : TupN H a xs) (s : Same H H') : TupN H' a xs := h.elim fun o e => ⟨o, s _ _ e.1, e.2⟩
theorem TupN.kept {H H' : Hp} {l a : Addr} {xs ys : List V} (hl : H l = some (.lst ys)) (h : TupN H a xs) (k : Kept l H H') : TupN H' a xs := by
  obtain ⟨o, e, r⟩ := h
  exact ⟨o, k _ _ (fun z => by rw [z, hl] at e; cases e) e, r⟩
section
variable {X : Cx} {pins : List (Addr × Obj)} {σ : L2.St} {H : Hp} {s : Shared}
end
end Ca
set_option Elab.async false
set_option linter.all false
set_option maxRecDepth 100000
set_option maxHeartbeats 4000000
namespace Ca
open PySem L2
section
variable {X : Cx}
theorem call_lenK (K : PySem.W.Frag) (h : X.K = K := by rfl) : CallR X (.builtin "len") (fun xs H Q => ∃ x n, xs = [x] ∧ LenV K x H n ∧ Q (.int n) H) := h ▸ call_len
end
theorem row_ok {r : Rw} {m : Nat} (hn : nameS r.name = true) (hp : r.parts.length = m) (h : ∀ p ∈ r.parts ++ [r.bd], isStretchD (strD p) = true) : isRowD (rowD r) m = true := by
  refine Bool.and_eq_true_iff.mpr ⟨hn, Bool.and_eq_true_iff.mpr ⟨?_, ?_⟩⟩
  · show decide ((r.parts.map strD).length = m) = true
    rw [List.length_map]
    exact decide_eq_true hp
  · show ((r.parts.map strD ++ [strD r.bd]).all isStretchD) = true
    rw [show r.parts.map strD ++ [strD r.bd] = (r.parts ++ [r.bd]).map strD by rw [List.map_append]; rfl, List.all_map, List.all_eq_true]
    exact h
section
variable {P : Program} {w : World} {K : PySem.W.Frag} {mg : Str → Option Value} {base : Heap} {C : Addr}
end
end Ca
set_option Elab.async false
set_option linter.all false
set_option maxRecDepth 100000
set_option maxHeartbeats 4000000
namespace Ca
open PySem L2
section
variable {X : Cx}
theorem pgT (K : PySem.W.Frag) {es : List Expr} {k : Nat} {pos : Pos} {t : TGs} {n : Nat} (hc : X.calm = true) (h : PGs X es t) (hK : X.K = K := by rfl) (hn : (assignEach es X.env).length = n := by rfl) (hst : (assignEach es X.env).findIdx? (·.1) = none := by rfl) : PG X (.Tuple es k pos) (gTup K n t) := hK ▸ pg_tup hc h hn hst
end
end Ca
set_option Elab.async false
set_option linter.all false
set_option maxRecDepth 100000
set_option maxHeartbeats 4000000
namespace Ca
open PySem L2
/-! ### cases: what is drawn, and what is made of it -/
abbrev Case := List Str × List Rw
theorem Lines.none (m : Nat) : Lines [] m := ⟨Nat.zero_le _, (fun _ z => nomatch z), List.nodup_nil⟩
/-- the four that are made out of the first ones -/
def four (c0 c1 : Case) : List Case := [c0, (c0.1, c0.2.reverse), (c0.1.reverse, c0.2), (c1.1, [])]
theorem SysAt.lst {K : PySem.W.Frag} {C D : Addr} {H : Hp} {x : Addr} {ns : List Str} {rs : List Rw} {ys zs : List V} (h : SysAt K C H x ns rs) (hD : H D = some (.lst ys)) : SysAt K C (upd H D (.lst zs)) x ns rs := by
  obtain ⟨h1, h2, dx, u, r, e, du, dr⟩ := h
  have k : Kept D H (upd H D (.lst zs)) := fun b o n e => by rw [upd_ne n]; exact e
  have n : x ≠ D := fun z => by rw [z, hD] at e; cases e
  exact ⟨h1, h2, dx, u, r, k _ _ n e, Dq.but hD k (noL_folk ns) du, Dq.but hD k (noL_rows rs) dr⟩
/-- systems of the cases, one each -/
def Sys (K : PySem.W.Frag) (C : Addr) (H : Hp) (xs : List Addr) (cs : List Case) : Prop := ∀ (k : Nat) (x : Addr) (c : Case), xs[k]? = some x → cs[k]? = some c → SysAt K C H x c.1 c.2
theorem Sys.same {K : PySem.W.Frag} {C : Addr} {H H' : Hp} {xs : List Addr} {cs : List Case} (h : Sys K C H xs cs) (s : Same H H') : Sys K C H' xs cs := fun k x c h1 h2 => (h k x c h1 h2).same s
theorem Sys.lst {K : PySem.W.Frag} {C D : Addr} {H : Hp} {xs : List Addr} {cs : List Case} {ys zs : List V} (h : Sys K C H xs cs) (hD : H D = some (.lst ys)) : Sys K C (upd H D (.lst zs)) xs cs := fun k x c h1 h2 => (h k x c h1 h2).lst hD
theorem Sys.nil {K : PySem.W.Frag} {C : Addr} {H : Hp} {cs : List Case} : Sys K C H [] cs := fun k x c h _ => by cases h
/-- a new instance's two objects -/
theorem made_same {H H' : Hp} {x dx C : Addr} (hx : H x = none) (hdx : H dx = none) (k : Kept x (upd (upd H dx (.own x)) x (.ins C dx [])) H') : Same H H' := fun b o e => by
  have n1 := ne_of_none e hx
  have n2 := ne_of_none e hdx
  exact k b o n1 (by rw [upd_ne n1, upd_ne n2]; exact e)
theorem made_new {H : Hp} {x dx C : Addr} (hx : H x = none) (hdx : H dx = none) : Same H (upd (upd H dx (.own x)) x (.ins C dx [])) := fun b o e => by
  rw [upd_ne (ne_of_none e hx), upd_ne (ne_of_none e hdx)]
  exact e
end Ca
set_option Elab.async false
set_option linter.all false
set_option maxRecDepth 100000
set_option maxHeartbeats 4000000
namespace Ca
open PySem PySem.Calls PyProof.Rows
open Builtin Builtin.Slice
section
variable {prog : Program} {w : World} {A : Around} {E : Value → Shared → Prop} {s : Shared}
end
end Ca
namespace Ca
open PySem PySem.Spec PyProof.Rows L2
section
variable {X : Cx}
end
end Ca
set_option Elab.async false
set_option linter.all false
set_option maxRecDepth 100000
set_option maxHeartbeats 4000000
namespace Ca
open PySem L2
section
variable {X : Cx}
theorem reprK (K : PySem.W.Frag) (hgd : X.A.guards = some []) (hu : X.A.units + 200 < cLine) (h : X.K = K := by rfl) : CallR X (.builtin "repr") (rRepr K) := h ▸ call_repr hgd hu
end
/-- a value whose repr comes through -/
def Good (K : PySem.W.Frag) (H : Hp) (v : V) (d : PyData) : Prop := Rp K H v d ∧ d.showable = true ∧ d.depth ≤ 64 ∧ d.shown.length ≤ sizeLine
end Ca
set_option Elab.async false
set_option linter.all false
set_option maxRecDepth 100000
set_option maxHeartbeats 4000000
namespace Ca
open PySem L2
/-! ### the size of what is told -/
/-! ### signs of the page -/
end Ca
set_option Elab.async false
set_option linter.all false
set_option maxRecDepth 100000
set_option maxHeartbeats 8000000
namespace Ca
open PySem L2
section
variable {X : Cx} {k : Nat} {f C : Addr} {fd : FuncData} {ps ks : List Str} {sp : Sp} {x : Str} {p pos : Pos} {kws : List Keyword} {tk : TA} {g : List Value → List Value → List Value} {gV : List V → List V → List V}
end
/-- what the law's own part leans on of System -/
structure SysE (K : PySem.W.Frag) (C fI fE fS fL fB fN fUn fRo pUn pRo pNa : Addr) : Prop where
  mkr : Mk K C fI
  eq : PySem.W.findIn K (.ref C) "__eq__" = some (some (.ref fE))
  eqf : PySem.W.isFn K (.ref fE) = true
  ne : PySem.W.findIn K (.ref C) "__ne__" = some (some (.builtin "object.__ne__"))
  ob : PySem.W.subIn K (.ref C) (.type "object") = some true
  str : PySem.W.findIn K (.ref C) "__str__" = some (some (.ref fS))
  strf : PySem.W.isFn K (.ref fS) = true
  len : PySem.W.findIn K (.ref C) "__len__" = some (some (.ref fL))
  lenf : PySem.W.isFn K (.ref fL) = true
  bool : PySem.W.findIn K (.ref C) "__bool__" = some (some (.ref fB))
  boolf : PySem.W.isFn K (.ref fB) = true
  un : PropOf K C "unknowns" pUn fUn
  ro : PropOf K C "rows" pRo fRo
  na : PropOf K C "names" pNa fN
/-- the further built-in names of the law's own part -/
structure Bm (mg : Str → Option Value) : Prop where
  rng : mg "range" = none
  zip : mg "zip" = none
  rep : mg "repr" = none
end Ca
set_option Elab.async false
set_option linter.all false
set_option maxRecDepth 100000
set_option maxHeartbeats 0
namespace Ca
open PySem PySem.Spec PyProof.Rows L2
/-! ### what the top leaves, by names -/
def topD (x : Str) (st : Stmt) : He.DefD := ⟨(x, none), x, x, defArgs st, defBody st, defScope st, [], []⟩
def memD (m q : Str) (st : Stmt) (dv : List He.Dv) : He.DefD := ⟨("System", some m), m, q, defArgs st, defBody st, defScope st, dv, []⟩
def e0A (K : PySem.W.Frag) : Addr := He.dflAt ("System", some "__init__") 0 K
/-! ### and of System -/
abbrev sysA (K : PySem.W.Frag) : Addr := He.ga K "System"
def isF (a b : Option (Option Value)) : Bool := decide (a = b)
/-- the getter of a property -/
def getA (K : PySem.W.Frag) (m : Str) : Addr := match PySem.W.recIn K (He.ma K (sysA K) m) "property" with
  | some (.ref g :: _) => g
  | _ => 0
def fnA (K : PySem.W.Frag) (a : Addr) : He.FnW := match K.lookup a with
  | some ⟨_, _, .func fd, _⟩ => some (fd.name, fd.qualname, fd.params, fd.body, fd.scope, fd.globals, fd.closure, fd.builtins)
  | _ => none
def okA (K : PySem.W.Frag) (a : Addr) (q : Str) : Bool := PySem.W.keepIn K (.ref a) && (match K.lookup a with
  | some ⟨_, _, .func fd, _⟩ => PySem.W.codeIn K fd.code q && He.dflB K fd.defaults []
  | _ => false)
theorem fun_at {K : PySem.W.Frag} {a : Addr} {n q : Str} {st : Stmt} (e : fnA K a = some (n, q, defArgs st, .stmts (defBody st), defScope st, mainGlobals, [], builtinsNs)) (c : okA K a q = true) : ∃ fd, FunD K n q (defArgs st) (defBody st) (defScope st) [] [] a fd := by
  obtain ⟨kp, c2⟩ := He.ba c
  unfold fnA at e
  cases z : K.lookup a with
  | none => rw [z] at c2; cases c2
  | some o =>
    obtain ⟨oc, od, dt, sl⟩ := o
    rw [z] at c2 e
    cases dt with
    | func fd =>
      obtain ⟨m1, m2, m3, m4, m5, m6, m7, m8, m9, m10, m11, m12, m13, m14, m15⟩ := fd
      have e2 : (some (m1, m2, m3, m4, m5, m6, m7, m15) : He.FnW) = some (n, q, defArgs st, .stmts (defBody st), defScope st, mainGlobals, [], builtinsNs) := e
      simp only [Option.some.injEq, Prod.mk.injEq] at e2
      obtain ⟨g1, g2, g3, g4, g5, g6, g7, g8⟩ := e2
      subst g1 g2 g3 g4 g5 g6 g7 g8
      obtain ⟨k1, k2⟩ := He.ba (show (PySem.W.codeIn K m13 m2 && He.dflB K m8 []) = true from c2)
      exact ⟨_, ⟨oc, od, m8, m9, m10, m11, m12, m13, m14, sl, rfl, z, k1, He.dflB_ok k2, .inl rfl⟩, kp⟩
    | _ => cases c2
def prB (K : PySem.W.Frag) (m q : Str) : Bool := isF (PySem.W.findIn K (.ref (sysA K)) m) (some (some (.ref (He.ma K (sysA K) m)))) && (isF (PySem.W.specialIn K (.ref (He.ma K (sysA K) m)) "__get__") (some (some (.builtin "property.__get__"))) &&
  (decide (PySem.W.takesIn K (.ref (He.ma K (sysA K) m)) = some true) && ((match PySem.W.recIn K (He.ma K (sysA K) m) "property" with
    | some (.ref _ :: _) => true
    | _ => false) && okA K (getA K m) q)))
def tyNames : List String := ["NoneType", "bool", "int", "str", "list", "tuple", "dict"]
def emB (K : PySem.W.Frag) : Bool := match K.lookup (e0A K) with
  | some ⟨.type c, _, .seq its _, _⟩ => decide (c = "tuple") && (decide (its.size ≤ sizeLine) && He.relAll [] its.toList)
  | _ => false
def sysB (K : PySem.W.Frag) : Bool := prB K "unknowns" "System.unknowns" && (prB K "rows" "System.rows" && (prB K "names" "System.names" && (emB K &&
  (isF (PySem.W.findIn K (.ref (sysA K)) "__ne__") (some (some (.builtin "object.__ne__"))) && (decide (PySem.W.subIn K (.ref (sysA K)) (.type "object") = some true) &&
  (isF (PySem.W.findIn K (.ref (sysA K)) "__class__") (some (some (.builtin "object.__class__"))) && (isF (PySem.W.specialIn K (.builtin "object.__class__") "__get__") (some (some (.builtin "getset_descriptor.__get__"))) &&
  (decide (PySem.W.takesIn K (.builtin "object.__class__") = some true) && (decide (PySem.W.mroIn K (sysA K) (.type "object") = some true) && (decide (PySem.W.kitOne K (.ref (sysA K)) (.ref (sysA K)) = some true) &&
  (PySem.W.notFirst K (sysA K) (.ref (sysA K)) && tyNames.all fun t => decide (PySem.W.kitOne K (.type t) (.ref (sysA K)) = some false) && PySem.W.notFirst K (sysA K) (.type t))))))))))))
def getV (n q : Str) (st : Stmt) : He.FnW := some (n, q, defArgs st, .stmts (defBody st), defScope st, mainGlobals, [], builtinsNs)
theorem isF_ok {a b : Option (Option Value)} (h : isF a b = true) : a = b := of_decide_eq_true h
theorem an {a b : Bool} (h : (a && b) = true) : a = true ∧ b = true := Bool.and_eq_true_iff.mp h
theorem pr_ok {K : PySem.W.Frag} {m q : Str} (h : prB K m q = true) : PropOf K (sysA K) m (He.ma K (sysA K) m) (getA K m) ∧ okA K (getA K m) q = true := by
  obtain ⟨h1, h⟩ := an h
  obtain ⟨h2, h⟩ := an h
  obtain ⟨h3, h⟩ := an h
  obtain ⟨h4, h5⟩ := an h
  refine ⟨⟨isF_ok h1, isF_ok h2, of_decide_eq_true h3, ?_⟩, h5⟩
  unfold getA
  cases z : PySem.W.recIn K (He.ma K (sysA K) m) "property" with
  | none => rw [z] at h4; cases h4
  | some l =>
    rw [z] at h4
    match l, h4 with
    | .ref g :: rest, _ => exact ⟨rest, rfl⟩
theorem fun_of {K : PySem.W.Frag} {x : Str} {st : Stmt} {f : Addr} {fd : FuncData} (F : FunD K x x (defArgs st) (defBody st) (defScope st) [] [] f fd) : Fun K x x st f fd := by
  obtain ⟨⟨oc, od, dV, kV, doc, pm, an, cdv, ct, osl, rfl, lk, hcd, hD, hK⟩, kp⟩ := F
  rcases hD with ⟨_, rfl⟩ | ⟨e, _⟩
  · exact fun_mk lk hcd kp
  · exact absurd rfl e
end Ca
set_option Elab.async false
set_option linter.all false
set_option maxRecDepth 100000
set_option maxHeartbeats 4000000
namespace Ca
open PySem PySem.W PySem.Calls PyProof.Rows
section
variable {prog : Program} {w : World} {A : Around} {E : Value → Shared → Prop} {hp : Heap} {g : Array GenState} {d : Drawn} {t : Nat} {os : OsState}
/-- the first field of a new exception of an own class over any built-in error class -/
theorem sto0 {B : String} {bmB : List Value} {K : W.Frag} {C x tt : Addr} {name : PySem.Str} {v : Value} {Q : Unit → Shared → Prop}
    (SF : StoreFacts B bmB "object.__setattr__" "object") (X : K.In hp)
    (hx : hp.get? x = some (W.excObj C tt none .none))
    (sa : W.findIn K (.ref C) "__setattr__" = some (some (.builtin "object.__setattr__"))) (ho : W.excOver K C bmB = true)
    (ht : W.takerIn K C name = some none) (hh : W.hasDictIn K C = true)
    (hq : ∀ h' tk' dx, (∀ b o, b ≠ x → hp.get? b = some o → h'.get? b = some o) → hp.objs.size ≤ dx → dx ≠ x →
      h'.get? x = some (W.excObj C tt (some dx) .none) → h'.Ns1 dx (fun y => if y = name then some v else none) → Q () ⟨h', g, d, tk', os⟩) :
    wpAny (model prog w) A (setAttr (.ref x) name v) Q E ⟨hp, g, d, t, os⟩ := by
  obtain ⟨cd, hc, hd'⟩ := W.any_some hh
  have hxs : x ≠ hp.objs.size := Nat.ne_of_lt (Heap.lt_size hx)
  refine W.set_plain (od := none) X ⟨hx, rfl, rfl, trivial⟩ sa ?_
  refine W.osa_openX (od := none) SF X ⟨hx, rfl, rfl, trivial⟩ ho ht fun b => ?_
  refine wpAny_bind (wpAny_pure (wpAny_bind (W.instanceDict_exc hx (W.looks_clsIn X hc) hd' ?_)))
  have hx1 : (hp.push (W.dictOf [] 0)).get? x = some (W.excObj C tt none .none) := Heap.get?_push_of_some _ hx
  refine HandSPX.store_in_new (dx := hp.objs.size) ?nd ?st
  case nd =>
    exact ⟨_, #[], _, Eq.trans (Heap.get?_update_ne _ _ _ _ hxs.symm) (Heap.get?_push_at rfl rfl), rfl, (fun e he => absurd he (by simp)), fun _ => rfl⟩
  case st =>
    intro h' tk' hn hs
    refine hq h' tk' hp.objs.size (fun b o nb e => ?_) (Nat.le_refl _) hxs.symm ?_ hn
    · have nbs := Nat.ne_of_lt (Heap.lt_size e)
      rw [hs.2 b nbs, Heap.get?_update_ne _ _ _ _ nb]
      exact Heap.get?_push_of_some _ e
    · rw [hs.2 x hxs]
      exact Heap.get?_update_self _ hx1 rfl
end
end Ca
set_option Elab.async false
set_option linter.all false
set_option maxRecDepth 100000
set_option maxHeartbeats 4000000
namespace Ca
open PySem L2
/-! ### exceptions as values -/
/-- an exception of the class at C stands at e; its one field f holds v -/
def Exc (H : Hp) (e C : Addr) (f : Str) (v : V) : Prop := ∃ d, H e = some (exo e C (some d)) ∧ H d = some (exd d [(f, v)])
theorem Exc.same {H H' : Hp} {e C : Addr} {f : Str} {v : V} (x : Exc H e C f v) (s : Same H H') : Exc H' e C f v := by
  obtain ⟨d, h1, h2⟩ := x
  exact ⟨d, s _ _ h1, s _ _ h2⟩
/-- what the written part says of an own exception class, for its fields -/
structure StoC (K : PySem.W.Frag) (C : Addr) (bmB : List Value) (f : Str) : Prop where
  sa : PySem.W.findIn K (.ref C) "__setattr__" = some (some (.builtin "object.__setattr__"))
  ov : PySem.W.excOver K C bmB = true
  tk : PySem.W.takerIn K C f = some none
  hd : PySem.W.hasDictIn K C = true

section
variable {X : Cx} {pins : List (Addr × Obj)} {σ : St} {H : Hp} {s : Shared} {a C dx : Addr} {f : Str} {y : V} {u : Value} {Q : Unit → Shared → Prop} {E : Value → Shared → Prop} {A : Around} {B : String} {bmB : List Value}
theorem sto_ok (SF : StoreFacts B bmB "object.__setattr__" "object") (T : StoC X.K C bmB f) (I : Inv X pins σ H s) (e : H a = some (exo a C none)) (ry : RelV y u)
    (h : ∀ d s', H d = none → d ≠ a → Inv X pins σ (upd (upd H d (exd d [(f, y)])) a (exo a C (some d))) s' → Q () s') :
    wpAny (model X.prog X.w) A (setAttr (.ref a) f u) Q E s := by
  obtain ⟨t1, ho⟩ := exo_at I.hok e
  obtain ⟨hp, g, dr, t, os⟩ := s
  refine sto0 SF I.kIn ho T.sa T.ov T.tk T.hd (fun h' tk' d k dn dne hx hn => ?_)
  have hd0 : H d = none := I.hok.fresh dn
  have nold : ∀ {b : Addr} {o : Obj}, hp.get? b = some o → b ≠ d := fun z => Nat.ne_of_lt (Nat.lt_of_lt_of_le (Heap.lt_size z) dn)
  have nfree : ∀ {b : Addr}, H b = none → b ≠ a := fun n z => by
    rw [z, e] at n
    cases n
  have there : ∀ b o, hp.get? b = some o → ∃ o', h'.get? b = some o' := fun b o z => by
    by_cases q : b = a
    · exact ⟨_, by rw [q]; exact hx⟩
    · exact ⟨o, k b o q z⟩
  have un : Un X.fs [] H (upd (upd H d (exd d [(f, y)])) a (exo a C (some d))) hp h' := by
    constructor
    · exact fun b o z n _ _ => k b o (nfree n) z
    · exact fun b o z n _ _ => ⟨o.slots, k b o (nfree n) z⟩
    · exact fun b o z n _ => by rw [upd_ne (nfree n), upd_ne (nold z), n]
    · exact fun b o z _ => there b o z
    · exact fun b xs z => by rw [upd_ne (at_ne e z exo_tup), upd_ne (ne_of_none z hd0), z]
    · exact fun b o v z => by rw [upd_ne (at_ne e z exo_frz), upd_ne (ne_of_none z hd0), z]
    · exact fun b ps z => ⟨#[], by rw [upd_ne (at_ne e z exo_tbl), upd_ne (ne_of_none z hd0), z]; simp⟩
  refine h d _ hd0 dne (I.un (t' := tk') un fun b o z => ?_)
  by_cases qa : b = a
  · rw [qa] at z ⊢
    rw [upd_same] at z
    cases z
    exact exo_ok hx
  · rw [upd_ne qa] at z
    by_cases qd : b = d
    · rw [qd] at z ⊢
      rw [upd_same] at z
      cases z
      exact exd_ok hn (relO_put (fs := []) ry fun _ => trivial)
    · rw [upd_ne qd] at z
      refine (I.hok b o z).stay (fun c v hc w => k c v ?_ w) (fun c hc => ?_) (fun c xs hc => ?_)
      · rcases hc with hc | hc
        · rw [hc]; exact qa
        · exact at_ne e hc exo_own
      · rw [upd_ne (at_ne e hc exo_own), upd_ne (ne_of_none hc hd0), hc]
      · rw [upd_ne (at_ne e hc exo_tup), upd_ne (ne_of_none hc hd0), hc]
/-- self.f = e in the __init__ of such a class -/
def tSto (K : PySem.W.Frag) (bmB : List Value) (f : Str) (to te : TE) : TS := fun D σ H => te σ H fun y H1 => to σ H1 fun x H2 => ∃ a C : Addr, x = .ref a ∧ StoC K C bmB f ∧ H2 a = some (exo a C none) ∧
  ∀ d, H2 d = none → d ≠ a → D.nx σ (upd (upd H2 d (exd d [(f, y)])) a (exo a C (some d)))
theorem ps_sto {o e : Expr} {to te : TE} {p' pos : Pos} (SF : StoreFacts B bmB "object.__setattr__" "object") (ho : PE X o to) (he : PE X e te) (hs : swapsWith e (some (.Attribute o f p')) pos.line X.env = pure false := by rfl) :
    PS X (.Assign [.Attribute o f p'] e pos) (tSto X.K bmB f to te) := by
  refine ⟨fun pins s σ H D I h => ?_⟩
  refine plainObj_wpAny_Assign_Attribute (thn (he.run pins s σ H _ I h) fun v s1 z1 => ?_) hs
  obtain ⟨y, H1, I1, r1, q1⟩ := z1
  refine thn (ho.run pins s1 σ H1 _ I1 q1) fun u s2 z2 => ?_
  obtain ⟨x, H2, I2, r2, a, C, ex, T, ea, q⟩ := z2
  rw [ex] at r2
  obtain rfl : u = Value.ref a := r2
  exact sto_ok SF T I2 ea r1 fun d s' n ne J => ⟨σ, _, J, q d n ne⟩
end

/-! ### the __init__ of such a class -/
def spIni (K : PySem.W.Frag) (bmB : List Value) (f : Str) : Sp := fun vs H Q _ => ∃ (a C : Addr) (v : V), vs = [.ref a, v] ∧ StoC K C bmB f ∧ H a = some (exo a C none) ∧
  ∀ d, H d = none → d ≠ a → Q .non (upd (upd H d (exd d [(f, v)])) a (exo a C (some d)))
def iA (f : Str) (p1 p2 : Pos) : Arguments := { posonlyargs := [], args := [{ arg := "self", annotation := none, pos := p1 }, { arg := f, annotation := none, pos := p2 }], vararg := none, kwonlyargs := [], kw_defaults := [], kwarg := none, defaults := [] }
def iB (f : Str) (q1 q2 q3 q4 : Pos) : List Stmt := [.Assign [.Attribute (.Name "self" q1) f q2] (.Name f q3) q4]
def iS (f : Str) : Scope := { kind := .function, names := [("self", .local), (f, .local)], isGenerator := false, isCoroutine := false, more := [] }
section
variable {P : Program} {w : World} {K : PySem.W.Frag} {mg : Str → Option Value} {base : Heap} {B : String} {bmB : List Value}
theorem scG : FnScope ["self", "given"] ["self", "given"] (iS "given") := ⟨rfl, rfl, rfl, by decide +kernel, rfl, by decide +kernel, by decide +kernel⟩
theorem scI : FnScope ["self", "index"] ["self", "index"] (iS "index") := ⟨rfl, rfl, rfl, by decide +kernel, rfl, by decide +kernel, by decide +kernel⟩
theorem ok_given {qn : Str} {p1 p2 q1 q2 q3 q4 : Pos} {fa : Addr} {fd : FuncData} (SF : StoreFacts B bmB "object.__setattr__" "object") (F : FunD K "__init__" qn (iA "given" p1 p2) (iB "given" q1 q2 q3 q4) (iS "given") [] [] fa fd) :
    FnOk P w K mg base CX0 1 fa fd ["self", "given"] (spIni K bmB "given") := by
  refine F.ok scG (fun vs H Q E h => ?_) (fun cdv A outer s H vs Q E hr h => ?_)
  · obtain ⟨a, C, v, rfl, _⟩ := h
    rfl
  · obtain ⟨a, C, v, rfl, T, ea, q⟩ := h
    exact ⟨_, PSs.nox (pss_one (ps_sto SF (pv 0) (pv 1))), _, rfl, _, rfl, a, C, rfl, T, ea, fun d n ne => q d n ne⟩
theorem ok_index {qn : Str} {p1 p2 q1 q2 q3 q4 : Pos} {fa : Addr} {fd : FuncData} (SF : StoreFacts B bmB "object.__setattr__" "object") (F : FunD K "__init__" qn (iA "index" p1 p2) (iB "index" q1 q2 q3 q4) (iS "index") [] [] fa fd) :
    FnOk P w K mg base CX0 1 fa fd ["self", "index"] (spIni K bmB "index") := by
  refine F.ok scI (fun vs H Q E h => ?_) (fun cdv A outer s H vs Q E hr h => ?_)
  · obtain ⟨a, C, v, rfl, _⟩ := h
    rfl
  · obtain ⟨a, C, v, rfl, T, ea, q⟩ := h
    exact ⟨_, PSs.nox (pss_one (ps_sto SF (pv 0) (pv 1))), _, rfl, _, rfl, a, C, rfl, T, ea, fun d n ne => q d n ne⟩
end
end Ca
set_option Elab.async false
set_option linter.all false
set_option maxRecDepth 100000
set_option maxHeartbeats 8000000
namespace Ca
open PySem PySem.W PySem.Calls PyProof.Rows PySem.HandSPX
section
variable {prog : Program} {w : World} {A : Around} {E : Value → Shared → Prop} {R : Result → Shared → Prop} {hp : Heap} {gs : Array GenState} {dr : Drawn} {tk : Nat} {os : OsState}
variable {nm q : PySem.Str} {C N : Addr} {bs bm bmB : List Value} {hdct : Bool} {sn : List PySem.Str} {sub : List Value} {ab : Bool} {col : Option Bool} {dd : Option Addr} {k0 k1 k2 k3 k5 : Option Value} {B newId initId : String}
variable {kn : PySem.Str} {u : Value}
end
end Ca
set_option Elab.async false
set_option linter.all false
set_option maxRecDepth 100000
set_option maxHeartbeats 4000000
namespace Ca
open PySem L2
/-- what the written part says of a class, for its making -/
structure MkC (K : PySem.W.Frag) (C fI : Addr) (bmB : List Value) (newId : String) : Prop where
  xI : PySem.W.excInitIn K C bmB newId = true
  kC : PySem.W.keepIn K (.ref C) = true
  iI : PySem.W.findIn K (.ref C) "__init__" = some (some (.ref fI))
  tI : PySem.W.typeIn K (.ref fI) = some (.type "function")

section
variable {X : Cx} {pins : List (Addr × Obj)} {σ : St} {H : Hp} {s : Shared} {C fI : Addr} {f x : Str} {v : V} {u : Value} {Q : VK} {B newId initId : String} {bmB : List Value} {k : Nat} {fd : FuncData} {ps : List Str}
/-- a new exception, ahead of its __init__ -/
theorem mk_new (I : Inv X pins σ H s) (us : List Value) : Inv X pins σ (upd H (s.heap.objs.size + 1) (exo (s.heap.objs.size + 1) C none)) { s with heap := (s.heap.push (PySem.W.kdv_tup us)).push (PySem.HandSPX.excO C s.heap.objs.size) } := by
  have keep : ∀ b o, s.heap.get? b = some o → ((s.heap.push (PySem.W.kdv_tup us)).push (PySem.HandSPX.excO C s.heap.objs.size)).get? b = some o := fun b o z => Heap.get?_push_of_some _ (Heap.get?_push_of_some _ z)
  have self' : ((s.heap.push (PySem.W.kdv_tup us)).push (PySem.HandSPX.excO C s.heap.objs.size)).get? (s.heap.objs.size + 1) = some (PySem.HandSPX.excO C s.heap.objs.size) := by heap_get
  exact I.laid (t' := s.toks) (a := s.heap.objs.size + 1) (o := exo (s.heap.objs.size + 1) C none) keep (Nat.le_succ _) (exo_ok self')
/-- isinstance of such an exception -/
def IsE (H : Hp) (a D : Addr) : Prop := H a = some (exo a D none) ∨ ∃ f v, Exc H a D f v
theorem IsE.same {H H' : Hp} {a D : Addr} (x : IsE H a D) (s : Same H H') : IsE H' a D := x.elim (fun e => .inl (s _ _ e)) fun ⟨f, v, e⟩ => .inr ⟨f, v, e.same s⟩
end
end Ca
set_option Elab.async false
set_option linter.all false
set_option maxRecDepth 100000
set_option maxHeartbeats 4000000
namespace Ca
open PySem PySem.Spec PyProof.Rows L2
/-! ### errors raised -/
/-- what is wished of an error with one field -/
def ErrW (E : XK) (H : Hp) (C : Addr) (f : Str) (v : V) : Prop := ∀ d H', H d = none → Same H H' → H' d = some (.xd [(f, v)]) → E (.ref C) (some d) H'
theorem same_none {H H' : Hp} {d : Addr} (s : Same H H') (n : H' d = none) : H d = none := by
  cases e : H d with
  | none => rfl
  | some o =>
    rw [s _ _ e] at n
    cases n
theorem ErrW.on {E : XK} {H0 H : Hp} {C : Addr} {f : Str} {v : V} (h : ErrW E H0 C f v) (s : Same H0 H) : ErrW E H C f v := fun d H' n s' e => h d H' (same_none s n) (s.trans s') e
/-- what the written part says of a class of errors -/
structure ErrC (K : PySem.W.Frag) (C fI : Addr) (bmB : List Value) (newId : String) (f : Str) : Prop where
  mkc : MkC K C fI bmB newId
  st : StoC K C bmB f
  exC : PySem.W.subIn K (.ref C) (.type "BaseException") = some true
  tyC : PySem.W.typeIn K (.ref C) = some (.type "type")
  isC : ExcC K C
  fld : XfC K C
  no : PySem.W.findIn K (.ref C) f = some none
/-- C(e), to be raised -/
def tErr (C : Addr) (f : Str) (ta : TA) : L2.St → Hp → XK → Prop := fun σ H Q => ta σ H fun vs H1 => ∃ v, vs = [v] ∧ ErrW Q H1 C f v
section
variable {X : Cx} {C fI : Addr} {f x : Str} {B newId initId : String} {bmB : List Value} {k : Nat} {fd : FuncData} {e : Expr} {ta : TA} {p pos pos2 : Pos}
theorem pmk_err (FB : ExcBaseFacts B newId initId bmB) (T : ErrC X.K C fI bmB newId f) (G : FnOk X.prog X.w X.K X.mg X.base CX0 k fI fd ["self", f] (spIni X.K bmB f)) (hr : Room (k + 1) X.A) (hb : Binds X.K fd ["self", f] [])
    (hm : X.mg x = some (.ref C)) (ha : PA X [e] ta) (hg : Gl X x := by rfl) (hdb : (x == ("__debug__" : Str)) = false := by decide)
    (he : starEach [e] X.env = (false, eval e X.env) :: starEach [] X.env := by rfl) (hpl : (backTo pos (starEach [] X.env)).any (·.1) = false := by rfl) :
    PMk X (.Call (.Name x p) [e] [] pos) (tErr C f ta) := by
  intro pins s σ H Q I h
  refine wpAny_Call_Name_kw (ld_glob I hg hm ?_ hdb)
  refine PySem.W.callWith_K (h₀ := X.base) I.ok.mod.kin T.mkc.kC (thn (ha.run pos pins s σ H _ I h) fun us s1 ⟨vs, H1, I1, r1, v, ev, q1⟩ => ?_) he hpl
  subst ev
  cases r1 with
  | @cons _ u _ _ r rn =>
  cases rn
  refine ⟨I1.kIn, ?_⟩
  show wpAny _ _ (call (.ref C) [u]) _ _ _
  obtain ⟨nm, N', qn, bs, bm, hdct, sn, sub, ab, col, dd, k0, k1, k2, k3, k5, hC, hT⟩ := PySem.W.excInit_of I1.kIn T.mkc.xI
  have I2 := mk_new (C := C) I1 [u]
  have hsz : s1.heap.objs.size ≤ s1.heap.objs.size + 1 := Nat.le_succ _
  have na : H1 (s1.heap.objs.size + 1) = none := I1.hok.fresh hsz
  obtain ⟨hp, g, dr, tk, os⟩ := s1
  have kk : ∀ b o, hp.get? b = some o → ((hp.push (PySem.W.kdv_tup [u])).push (PySem.HandSPX.excO C hp.objs.size)).get? b = some o := fun b o z => Heap.get?_push_of_some _ (Heap.get?_push_of_some _ z)
  refine wpAny_call (PySem.HandSPX.call_own FB hT hC (PySem.W.looks_findIn I1.kIn T.mkc.iI) (fun self => PySem.W.bind_fn I1.kIn self T.mkc.tI) (by show 1 ≤ sizeLine; decide) ?_)
  have bd := hb _ [.ref (hp.objs.size + 1), u] I2.kIn rfl
  refine codeAny_mono (G.run _ X.stack _ _ _ _ [.ref (hp.objs.size + 1), v] (fun z H' => z = .non ∧ ∃ d, H' (hp.objs.size + 1) = some (exo (hp.objs.size + 1) C (some d)) ∧ H' d = some (exd d [(f, v)]) ∧ H1 d = none ∧ Q (.ref C) (some d) (upd (del H' (hp.objs.size + 1)) d (.xd [(f, v)])))
    (fun _ _ _ => False) (hr.make C [u] []) (I2.env0.make C [u] []) bd (.cons rfl (.cons r .nil)) ⟨_, C, v, rfl, T.st, upd_same, fun d nd dne => ⟨rfl, d, upd_same, ?_, ?_, ?_⟩⟩) fun res s' z => ?_
  · rw [upd_ne dne, upd_same]
  · rw [upd_ne dne] at nd
    exact nd
  · rw [upd_ne dne] at nd
    refine q1 d _ nd (fun b o eb => ?_) upd_same
    have n1 := ne_of_none eb na
    have n2 := ne_of_none eb nd
    rw [upd_ne n2, del_ne n1, upd_ne n1, upd_ne n2, upd_ne n1]
    exact eb
  · cases res with
    | error er => exact z.elim
    | ok fl =>
      cases fl with
      | ret uu =>
        obtain ⟨z0, H2, os2, bare2, un2, hok2, rv, ev, d, ea, ed, hd1, q2⟩ := z
        subst ev
        obtain ⟨h2, g2, d2, t2, os'⟩ := s'
        exact ⟨rv, mk_end (raises_own T.exC T.tyC) I1 hsz kk un2 hok2 os2 bare2 ea ed hd1 q2⟩
      | next => exact False.elim z
      | brk => exact False.elim z
      | cont => exact False.elim z
/-- raise C(e) -/
theorem ps_err {W : WX} (FB : ExcBaseFacts B newId initId bmB) (T : ErrC X.K C fI bmB newId f) (G : FnOk X.prog X.w X.K X.mg X.base CX0 k fI fd ["self", f] (spIni X.K bmB f)) (hr : Room (k + 1) X.A) (hb : Binds X.K fd ["self", f] [])
    (hm : X.mg x = some (.ref C)) (tk : Takes X W) (ha : PA X [e] ta) (hc : X.calm = true := by rfl) (hg : Gl X x := by rfl) (hdb : (x == ("__debug__" : Str)) = false := by decide)
    (he : starEach [e] X.env = (false, eval e X.env) :: starEach [] X.env := by rfl) (hpl : (backTo pos (starEach [] X.env)).any (·.1) = false := by rfl) :
    PS X (.Raise (some (.Call (.Name x p) [e] [] pos)) none pos2) (fun _ σ H => tErr C f ta σ H fun cls d H' => W cls d σ H') :=
  ps_raise hc tk (pmk_err FB T G hr hb hm ha hg hdb he hpl)
end
end Ca
set_option Elab.async false
set_option linter.all false
set_option maxRecDepth 100000
set_option maxHeartbeats 4000000
namespace Ca
open PySem PySem.Spec PyProof.Rows L2
/-! ### o.m(k = v) -/
section
variable {X : Cx} {k : Nat} {f C : Addr} {fd : FuncData} {ps ks : List Str} {sp : Sp} {m : Str} {apos pos : Pos} {kws : List Keyword} {tk : TA} {g : List Value → List Value → List Value} {gV : List V → List V → List V} {o : Expr} {ta : TE}
end
/-! ### slices and sums of tuples, whatever object tells them -/
theorem cut_take (xs : List V) (k : Nat) : cutV xs none (some (k : Int)) = xs.take k := by
  unfold cutV
  rw [HT.sIx_none, HT.sIx_nat, List.drop_zero, Nat.sub_zero]
  by_cases h : k ≤ xs.length
  · rw [Nat.min_eq_left h]
  · rw [Nat.min_eq_right (Nat.le_of_not_le h), List.take_length, List.take_of_length_le (Nat.le_of_not_le h)]
theorem rd_no {σ : L2.St} {H : Hp} {Q : Option Int → Hp → Prop} (h : Q none H) : tNoPart σ H Q := h
theorem rd_slA {K : PySem.W.Frag} {H : Hp} {a : Addr} {xs : List V} {lo hi : Option Int} {Q : VK} (h : SqT K H a xs) (q : ∀ H' b, Same H H' → SqT K H' b (cutV xs lo hi) → Q (.ref b) H') : rSlA K (.ref a) lo hi H Q :=
  ⟨a, xs, rfl, h, fun y => q H a (fun _ _ e => e) (by
    have e : cutV xs lo hi = xs := by
      unfold cutV
      rw [y.1, y.2, List.drop_zero, Nat.sub_zero, List.take_length]
    rw [e]
    exact h), fun _ p hp => q _ p (Same.new hp) (SqT.of upd_same)⟩
theorem DqAll.take {K : PySem.W.Frag} {H : Hp} : ∀ {vs : List V} {ds : List PyData} (k : Nat), DqAll K H vs ds → DqAll K H (vs.take k) (ds.take k)
  | _, _, 0, _ => .nil
  | _, _, _ + 1, .nil => .nil
  | _, _, k + 1, .cons a t => .cons a (t.take k)
theorem DqAll.drop {K : PySem.W.Frag} {H : Hp} : ∀ {vs : List V} {ds : List PyData} (k : Nat), DqAll K H vs ds → DqAll K H (vs.drop k) (ds.drop k)
  | _, _, 0, h => h
  | _, _, _ + 1, .nil => .nil
  | _, _, k + 1, .cons _ t => t.drop k
theorem Lines.sub {rs qs : List Rw} {m : Nat} (h : qs.Sublist rs) (L : Lines rs m) : Lines qs m :=
  ⟨Nat.le_trans h.length_le L.hi, fun r z => L.ok r (h.subset z), L.nd.sublist (h.map Rw.name)⟩
/-- systems behind changes of a list -/
theorem SysAt.but {K : PySem.W.Frag} {C l : Addr} {H H' : Hp} {x : Addr} {ns : List Str} {rs : List Rw} {ys : List V} (hl : H l = some (.lst ys)) (k : Kept l H H') (h : SysAt K C H x ns rs) : SysAt K C H' x ns rs := by
  obtain ⟨h1, h2, dx, u, r, e, du, dr⟩ := h
  have n : x ≠ l := fun z => by rw [z, hl] at e; cases e
  exact ⟨h1, h2, dx, u, r, k _ _ n e, Dq.but hl k (noL_folk ns) du, Dq.but hl k (noL_rows rs) dr⟩
end Ca
set_option Elab.async false
set_option linter.all false
set_option maxRecDepth 100000
set_option maxHeartbeats 4000000
namespace Ca
open PySem PySem.Spec PyProof.Rows L2
/-! ### data told twice -/
theorem rd_sameD {K : PySem.W.Frag} {H : Hp} {a b : V} {d : PyData} {Q : VK} (ha : Dp K H a d) (hb : Dp K H b d) (sh : SeqAt.shaped d = true) (q : Q (.bl false) H) : rNeD K a b H Q :=
  ⟨d, d, ha, hb, sh, sh, by rw [SeqAt.eqv_refl _ (Bool.and_eq_true_iff.mp (show (d.canLay0 && decide (d.depth ≤ 64)) = true from sh)).1]; exact q⟩
/-! ### the repr of a case's parts -/
end Ca
set_option Elab.async false
set_option linter.all false
set_option maxRecDepth 100000
set_option maxHeartbeats 4000000
namespace Ca
open PySem L2
abbrev veT : List Value := PySem.HandSPX.veTail
/-- an error of the package over ValueError, as a def can raise it -/
structure ErrX (P : Program) (w : World) (K : PySem.W.Frag) (mg : Str → Option Value) (base : Heap) (C fI : Addr) (fd : FuncData) (f x : Str) : Prop where
  T : ErrC K C fI veT "ValueError.__new__" f
  G : FnOk P w K mg base CX0 1 fI fd ["self", f] (spIni K veT f)
  b : Binds K fd ["self", f] []
  g : mg x = some (.ref C)
theorem ps_errX {X : Cx} {C fI : Addr} {fd : FuncData} {f x : Str} {e : Expr} {ta : TA} {p pos pos2 : Pos} {W : WX} (Ex : ErrX X.prog X.w X.K X.mg X.base C fI fd f x) (hr : Room 2 X.A) (tk : Takes X W) (ha : PA X [e] ta) (hc : X.calm = true := by rfl) (hg : Gl X x := by rfl) (hdb : (x == ("__debug__" : Str)) = false := by decide)
    (he : starEach [e] X.env = (false, eval e X.env) :: starEach [] X.env := by rfl) (hpl : (backTo pos (starEach [] X.env)).any (·.1) = false := by rfl) :
    PS X (.Raise (some (.Call (.Name x p) [e] [] pos)) none pos2) (fun _ σ H => tErr C f ta σ H fun cls d H' => W cls d σ H') :=
  ps_err PySem.F.excBase_ValueError Ex.T Ex.G hr Ex.b Ex.g tk ha hc hg hdb he hpl
/-! ### the first wrong row, the first wrong unknown -/
def ixV : Option Nat → V
  | none => .non
  | some i => .int i
section
variable {P : Program} {w : World} {K : PySem.W.Frag} {mg : Str → Option Value} {base : Heap} {CR CU fIR fIU : Addr} {fdIR fdIU : FuncData}
variable {C : Addr}
end
end Ca
set_option Elab.async false
set_option linter.all false
set_option maxRecDepth 100000
set_option maxHeartbeats 4000000
namespace Ca
open PySem PySem.Spec PyProof.Rows L2 LamX
/-! ### defs that make lambdas: the code object is known -/
/-! ### a law whose defs make lambdas -/
theorem lawGT {P : Program} {w : World} {K : PySem.W.Frag} {mg mb : Str → Option Value} {k : Nat} {fa a : Addr} {cs : List (Addr × Addr)} {fd : FuncData} {x : Str} {sp : Sp} {s₁ : Shared} {vs : List Value} {ns : List Int}
    (KX : K.In s₁.heap) (hns : s₁.heap.Ns mainGlobals mg) (hb : s₁.heap.Ns builtinsNs mb) (hbb : ∀ x : Str, x ≠ "__name__" → mb x = bootBuiltins x) (hlim : s₁.heap.NoLimit) (hg : s₁.gens = #[])
    (hT : ∀ p ∈ cs, s₁.heap.get? p.2 = some { cls := .none, data := .fields #[] }) (nT : ∀ p ∈ cs, K.lookup p.2 = none) (hC : ∀ p ∈ cs, PySem.W.codeHdIn K p.1 p.2 = true)
    (hbm : ∃ (bm : Addr) (ob : Obj), mg "__builtins__" = some (.ref bm) ∧ bm ≠ builtinsNs ∧ s₁.heap.get? bm = some ob ∧ ob.cls = .type "module" ∧ ob.dict = some builtinsNs ∧ ob.data = .plain)
    (ha : s₁.heap.get? a = some { cls := .type "list", data := .seq vs.toArray }) (hi : IntsAre vs ns) (hl : ns.length ≤ sizeLine) (hr : Room k callerA)
    (F : ∀ base : Heap, K.In base → base.Ns mainGlobals mg → (∀ p ∈ cs, TabB base mg p.1 p.2) → FnG P w K mg base k fa fd [x] sp) (hbind : ∀ (s : Shared) (u : Value), BindsTo s fd ⟨[u], []⟩ [(x, u)])
    (hsp : ∀ H : Hp, (∀ p ∈ cs, H p.2 = some (.tbl #[])) → SqL K H a (ns.map V.int) → sp [.ref a] H (fun v _ => v = .bl true) E0) :
    codeAny (model P w) callerA (.call (.ref fa) ⟨[.ref a], []⟩) (fun r s' => r = .ok (.ret (.bool true)) ∧ OldK s₁.heap s'.heap ∧ s'.os = s₁.os ∧ AllBare s'.gens) s₁ := by
  have rv := vals_ints hi
  have tab : ∀ b, b ∈ cs.map (·.2) → s₁.heap.get? b = some { cls := .none, data := .fields #[] } ∧ K.lookup b = none := fun b hb => by
    obtain ⟨p, hp, rfl⟩ := List.mem_map.mp hb
    exact ⟨hT p hp, nT p hp⟩
  have aT : a ∉ cs.map (·.2) := fun z => by
    have e := (tab a z).1
    rw [ha] at e
    injection e with e
    injection e with _ _ e
    cases e
  have go : ∀ H : Hp, (∀ b u, H b = some u → (b ∈ cs.map (·.2) ∧ u = .tbl #[]) ∨ (b = a ∧ u = .frz { cls := .type "list", data := .seq vs.toArray } (.lst (ns.map V.int)) ∧ K.lookup a = none)) → (∀ b, b ∈ cs.map (·.2) → H b = some (.tbl #[])) → SqL K H a (ns.map V.int) →
      codeAny (model P w) callerA (.call (.ref fa) ⟨[.ref a], []⟩) (fun r s' => r = .ok (.ret (.bool true)) ∧ OldK s₁.heap s'.heap ∧ s'.os = s₁.os ∧ AllBare s'.gens) s₁ := by
    intro H hH hB hS
    have hok : HOk P w H s₁.heap := fun b u z => by
      rcases hH b u z with ⟨m, rfl⟩ | ⟨rfl, rfl, _⟩
      · exact (tab b m).1
      · exact ⟨ha, by rw [List.length_map]; exact hl, vs, _, rv, ha⟩
    have free : ∀ {b : Addr} {o : Obj}, s₁.heap.get? b = some o → (∀ v n, o.data ≠ .seq v n) → o.data ≠ .fields #[] → H b = none := fun {b o} e d1 d2 => by
      cases q : H b with
      | none => rfl
      | some u =>
        rcases hH b u q with ⟨m, _⟩ | ⟨rfl, _⟩
        · rw [(tab b m).1] at e
          cases e
          exact (d2 rfl).elim
        · rw [ha] at e
          cases e
          exact (d1 _ _ rfl).elim
    have dictFree : ∀ {b : Addr} {m : Str → Option Value}, s₁.heap.Ns b m → (hidT s₁.heap H).Ns b m := fun {b m} z => by
      obtain ⟨o, es, ep, e, dd, r⟩ := z
      exact ⟨o, es, ep, hidT_get e (free e (fun v n y => by rw [dd] at y; cases y) fun y => by rw [dd] at y; cases y), dd, r⟩
    have hKb : K.In (hidT s₁.heap H) := fun b o e => hidT_get (KX b o e) (by
      cases q : H b with
      | none => rfl
      | some u =>
        rcases hH b u q with ⟨m, _⟩ | ⟨rfl, _, z⟩
        · rw [(tab b m).2] at e
          cases e
        · rw [z] at e
          cases e)
    obtain ⟨mc, l1, l2⟩ := hlim
    have md : Mod K mg (hidT s₁.heap H) := { kin := hKb, glob := dictFree hns, blt := ⟨mb, dictFree hb, hbb⟩, nolimit := ⟨mc, dictFree l1, l2⟩ }
    have none' : ∀ b : Addr, b ∉ frs [] := fun b z => nomatch z
    have e0 : Env0 P w K mg (hidT s₁.heap H) callerA [] s₁ H :=
      { frames := rfl, mod := md, bs := fun b o e => of_hidT e, bsz := Nat.le_of_eq (hidT_size _ _), funs := trivial, frf := fun b z => (none' b z).elim, hok := hok, bare := .of_eq hg }
    have TB : ∀ p ∈ cs, TabB (hidT s₁.heap H) mg p.1 p.2 := fun p hp => by
      obtain ⟨bm, ob, b1, b2, b3, b4, b5, b6⟩ := hbm
      refine ⟨PySem.W.codeHd_of_K hKb (hC p hp), ⟨bm, ob, b1, b2, fun z => ?_, fun z => ?_, hidT_get b3 (free b3 (fun v n y => by rw [b6] at y; cases y) fun y => by rw [b6] at y; cases y), b4, b5, b6⟩, fun z => ?_⟩
      · obtain ⟨o, es, ep, e, dd, _⟩ := hns
        rw [← z, b3] at e
        cases e
        rw [dd] at b6
        cases b6
      · rw [z, hT p hp] at b3
        cases b3
        cases b6
      · obtain ⟨o, es, ep, e, dd, _⟩ := hns
        rw [z, hT p hp] at e
        cases e
        cases dd
    have run := (F _ hKb (dictFree hns) TB).run callerA [] s₁ H ⟨[.ref a], []⟩ [.ref a] [.ref a] (fun v _ => v = .bl true) rfl hr e0 (hbind s₁ (.ref a)) (.cons rfl .nil) (hsp H (fun p hp => hB _ (List.mem_map.mpr ⟨p, hp, rfl⟩)) hS)
    refine codeAny_mono run fun r s' z => ?_
    match r, z with
    | .error _, z => exact z.elim
    | .ok .next, z => exact z.elim
    | .ok .brk, z => exact z.elim
    | .ok .cont, z => exact z.elim
    | .ok (.ret u), z =>
      obtain ⟨v, H', os, bare, un, hok', r', q⟩ := z
      obtain rfl : v = .bl true := q
      obtain rfl : u = Value.bool true := r'
      have stays : ∀ b o, b ∉ cs.map (·.2) → s₁.heap.get? b = some o → s'.heap.get? b = some o := fun b o nb e => by
        cases q : H b with
        | none => exact un.keep b o e q (none' b) (by simp)
        | some y =>
          rcases hH b y q with ⟨m, _⟩ | ⟨rfl, rfl, _⟩
          · exact (nb m).elim
          · rw [ha] at e
            cases e
            exact (hok' b _ (un.frzs b _ _ q)).1
      have grows : ∀ b, b ∈ cs.map (·.2) → ∃ more : Array Value, s'.heap.get? b = some { cls := .none, data := .fields more } := fun b m => by
        obtain ⟨more, y⟩ := un.tbls b #[] (hB b m)
        exact ⟨_, hok' b _ y⟩
      refine ⟨rfl, ⟨fun b o e => ?_, fun b o e => ?_⟩, os, bare⟩
      · by_cases m : b ∈ cs.map (·.2)
        · obtain ⟨more, y⟩ := grows b m
          obtain ⟨p, hp, rfl⟩ := List.mem_map.mp m
          rw [hT p hp] at e
          cases e
          exact .inr (.inl ⟨((PySem.W.codeHd_of_K KX (hC p hp)).tab (hT p hp)).isCodeTable, rfl, #[], more, rfl, by rw [Array.empty_append]; exact y⟩)
        · exact .inl (stays b o m e)
      · by_cases m : b ∈ cs.map (·.2)
        · obtain ⟨more, y⟩ := grows b m
          exact ⟨_, y⟩
        · exact ⟨o, stays b o m e⟩
  cases hk : K.lookup a with
  | some o =>
    have e := KX a o hk
    rw [ha] at e
    cases e
    refine go (fun b => if b ∈ cs.map (·.2) then some (.tbl #[]) else none) (fun b u z => ?_) (fun b m => if_pos m) (.inr ⟨_, vs.toArray, _, hk, rfl, rfl, rfl, by rw [List.size_toArray, hi.length]; exact hl, by simpa using rv⟩)
    by_cases m : b ∈ cs.map (·.2)
    · have y := (if_pos m).symm.trans z
      exact .inl ⟨m, (Option.some.inj y).symm⟩
    · have y := (if_neg m).symm.trans z
      cases y
  | none =>
    refine go (fun b => if b ∈ cs.map (·.2) then some (.tbl #[]) else if b = a then some (.frz { cls := .type "list", data := .seq vs.toArray } (.lst (ns.map V.int))) else none) (fun b u z => ?_) (fun b m => if_pos m) (.inl (.inr ⟨{ cls := .type "list", data := .seq vs.toArray }, (if_neg aT).trans (if_pos rfl)⟩))
    by_cases m : b ∈ cs.map (·.2)
    · have y := (if_pos m).symm.trans z
      exact .inl ⟨m, (Option.some.inj y).symm⟩
    · have y := (if_neg m).symm.trans z
      by_cases n : b = a
      · subst n
        have y2 := (if_pos rfl).symm.trans y
        exact .inr ⟨rfl, (Option.some.inj y2).symm, hk⟩
      · have y2 := (if_neg n).symm.trans y
        cases y2
end Ca
set_option Elab.async false
set_option linter.all false
set_option maxRecDepth 100000
set_option maxHeartbeats 0
namespace Ca
open PySem PySem.Spec PyProof.Rows L2
/-! ### classes of errors, by names -/
def memE (x : Str) (q : Str) (st : Stmt) : He.DefD := ⟨(x, some "__init__"), "__init__", q, defArgs st, defBody st, defScope st, [], []⟩
abbrev exA (K : PySem.W.Frag) (x : Str) : Addr := He.ga K x
abbrev exI (K : PySem.W.Frag) (x : Str) : Addr := He.ma K (He.ga K x) "__init__"
def exFB (K : PySem.W.Frag) (x : Str) : Bool := isF (PySem.W.findIn K (.ref (exA K x)) "__getattribute__") (some (some (.builtin "BaseException.__getattribute__"))) && (isF (PySem.W.findIn K (.ref (exA K x)) "__getattr__") (some none) &&
  (decide (PySem.W.subIn K (.ref (exA K x)) (.type "BaseException") = some true) && (PySem.W.hasDictIn K (exA K x) && (isF (PySem.W.findIn K (.ref (exA K x)) "__class__") (some (some (.builtin "object.__class__"))) &&
  (isF (PySem.W.specialIn K (.builtin "object.__class__") "__get__") (some (some (.builtin "getset_descriptor.__get__"))) && (decide (PySem.W.takesIn K (.builtin "object.__class__") = some true) && (decide (PySem.W.mroIn K (exA K x) (.type "object") = some true) &&
  (PySem.W.keepIn K (.ref (exA K x)) && decide (PySem.W.typeIn K (.ref (exA K x)) = some (.type "type"))))))))))
def errB (K : PySem.W.Frag) (x f : Str) : Bool := exFB K x && (PySem.W.excInitIn K (exA K x) veT "ValueError.__new__" && (isF (PySem.W.findIn K (.ref (exA K x)) "__init__") (some (some (.ref (exI K x)))) && (decide (PySem.W.typeIn K (.ref (exI K x)) = some (.type "function")) &&
  (isF (PySem.W.findIn K (.ref (exA K x)) "__setattr__") (some (some (.builtin "object.__setattr__"))) && (PySem.W.excOver K (exA K x) veT && (decide (PySem.W.takerIn K (exA K x) f = some none) && isF (PySem.W.findIn K (.ref (exA K x)) f) (some none)))))))
theorem err_ok {K : PySem.W.Frag} {x f : Str} (h : errB K x f = true) : ErrC K (exA K x) (exI K x) veT "ValueError.__new__" f := by
  obtain ⟨h1, h⟩ := an h
  obtain ⟨b1, h⟩ := an h
  obtain ⟨b2, h⟩ := an h
  obtain ⟨b3, h⟩ := an h
  obtain ⟨b4, h⟩ := an h
  obtain ⟨b5, h⟩ := an h
  obtain ⟨b6, b7⟩ := an h
  obtain ⟨a1, h⟩ := an h1
  obtain ⟨a2, h⟩ := an h
  obtain ⟨a3, h⟩ := an h
  obtain ⟨a4, h⟩ := an h
  obtain ⟨a5, h⟩ := an h
  obtain ⟨a6, h⟩ := an h
  obtain ⟨a7, h⟩ := an h
  obtain ⟨a8, h⟩ := an h
  obtain ⟨a9, a10⟩ := an h
  exact ⟨⟨b1, a9, isF_ok b2, of_decide_eq_true b3⟩, ⟨isF_ok b4, b5, of_decide_eq_true b6, a4⟩, of_decide_eq_true a3, of_decide_eq_true a10, ⟨isF_ok a1, isF_ok a2, of_decide_eq_true a3, a4, isF_ok a5, isF_ok a6, of_decide_eq_true a7, of_decide_eq_true a8⟩, ⟨isF_ok a1, isF_ok a2, of_decide_eq_true a3, a4⟩, isF_ok b7⟩
/-! ### which is a kind of which -/
/-! ### how values reach an error's __init__ -/
theorem ini_binds {K : PySem.W.Frag} {f qn : Str} {p1 p2 : Pos} {body : List Stmt} {fa : Addr} {fd : FuncData} (hf : f = "given" ∨ f = "index") (F : FunD K "__init__" qn (iA f p1 p2) body (iS f) [] [] fa fd) : Binds K fd ["self", f] [] := by
  refine F.bindsN fun _ _ _ _ _ _ us hl => ?_
  match us, hl with
  | [_, _], _ => rcases hf with rfl | rfl <;> rfl
theorem errx_given {P : Program} {w : World} {K : PySem.W.Frag} {mg : Str → Option Value} {base : Heap} {x qn : Str} {p1 p2 q1 q2 q3 q4 : Pos} {fd : FuncData} (b : errB K x "given" = true) (g : mg x = some (.ref (exA K x)))
    (F : FunD K "__init__" qn (iA "given" p1 p2) (iB "given" q1 q2 q3 q4) (iS "given") [] [] (exI K x) fd) : ErrX P w K mg base (exA K x) (exI K x) fd "given" x :=
  ⟨err_ok b, ok_given PySem.F.store_ValueError F, ini_binds (.inl rfl) F, g⟩
theorem errx_index {P : Program} {w : World} {K : PySem.W.Frag} {mg : Str → Option Value} {base : Heap} {x qn : Str} {p1 p2 q1 q2 q3 q4 : Pos} {fd : FuncData} (b : errB K x "index" = true) (g : mg x = some (.ref (exA K x)))
    (F : FunD K "__init__" qn (iA "index" p1 p2) (iB "index" q1 q2 q3 q4) (iS "index") [] [] (exI K x) fd) : ErrX P w K mg base (exA K x) (exI K x) fd "index" x :=
  ⟨err_ok b, ok_index PySem.F.store_ValueError F, ini_binds (.inr rfl) F, g⟩
/-! ### the dict of modules -/
/-! ### tables of code objects, empty and left out -/
structure TabsOut (tf : List He.Defn) (h : Heap) (K : PySem.W.Frag) : Prop where
  hd : ∀ p ∈ tf, PySem.W.codeHdIn K (He.cT K p).1 (He.cT K p).2 = true
  out : ∀ p ∈ tf, K.lookup (He.cT K p).2 = none
  empty : ∀ p ∈ tf, h.get? (He.cT K p).2 = some { cls := .none, data := .fields #[] }
theorem tabs_out {tf : List He.Defn} {as : List Addr} {h : Heap} (e : He.tabsB h.get? tf (He.frT h.get? as) = true) : TabsOut tf h (He.frT h.get? as) := by
  have key : ∀ p ∈ tf, PySem.W.codeHdIn (He.frT h.get? as) (He.cT (He.frT h.get? as) p).1 (He.cT (He.frT h.get? as) p).2 = true ∧ ∃ o, h.get? (He.cT (He.frT h.get? as) p).2 = some o ∧ He.emptyTab o = true := fun p hp => by
    obtain ⟨u, v⟩ := He.ba (List.all_eq_true.mp e p hp)
    refine ⟨u, ?_⟩
    split at v
    · rename_i o eo
      exact ⟨o, eo, v⟩
    · cases v
  refine ⟨fun p hp => (key p hp).1, fun p hp => ?_, fun p hp => ?_⟩
  · obtain ⟨_, o, eo, et⟩ := key p hp
    exact He.frT_none eo et
  · obtain ⟨_, o, eo, et⟩ := key p hp
    rw [eo, He.emptyTab_eq et]
end Ca
set_option Elab.async false
set_option linter.all false
set_option maxRecDepth 100000
set_option maxHeartbeats 4000000
namespace Ca
open PySem PySem.Spec PyProof.Rows L2
/-! ### what the laws of answers lean on besides -/
def gcdB (K : PySem.W.Frag) : Bool := decide (PySem.W.nsIn K mainGlobals "gcd" = some (some (.builtin "math.gcd")))
def zeA (K : PySem.W.Frag) : Addr := He.ga K "ZERO"
def zeB (K : PySem.W.Frag) : Bool := match K.lookup (zeA K) with
  | some ⟨.type c, _, .seq its _, _⟩ => decide (c = "tuple") && (decide (its.size ≤ sizeLine) && He.relAll [.int 0, .int 1] its.toList)
  | _ => false
theorem gcd_ok {K : PySem.W.Frag} {h : Heap} {mg : Str → Option Value} (X : K.In h) (G : h.Ns mainGlobals mg) (c : gcdB K = true) : mg "gcd" = some (.builtin "math.gcd") := PySem.W.mg_of X G (of_decide_eq_true c)
theorem ze_ok {K : PySem.W.Frag} (h : zeB K = true) (H : Hp) : SqT K H (zeA K) [.int 0, .int 1] := by
  unfold zeB at h
  cases q : K.lookup (zeA K) with
  | none => rw [q] at h; cases h
  | some o =>
    obtain ⟨oc, od, dt, osl⟩ := o
    rw [q] at h
    cases oc with
    | type c =>
      cases dt with
      | seq its n =>
        obtain ⟨h1, h2⟩ := an (show (decide (c = "tuple") && (decide (its.size ≤ sizeLine) && He.relAll [.int 0, .int 1] its.toList)) = true from h)
        obtain ⟨h3, h4⟩ := an h2
        exact .inr ⟨_, its, n, q, congrArg Value.type (of_decide_eq_true h1), rfl, of_decide_eq_true h3, He.relAll_ok h4⟩
      | _ => cases h
    | _ => cases dt <;> cases h
end Ca
set_option Elab.async false
set_option linter.all false
set_option maxRecDepth 100000
set_option maxHeartbeats 4000000
namespace Ca.Det
/-! ### an alternating form of columns of integers -/
abbrev Col : Type := Nat → Int
abbrev Form : Type := List Col → Int
def Lin (n : Nat) (f : Form) : Prop := ∀ (l1 l2 : List Col) (u v w : Col) (a b : Int), l1.length + l2.length + 1 = n → (∀ r, w r = a * u r + b * v r) → f (l1 ++ w :: l2) = a * f (l1 ++ u :: l2) + b * f (l1 ++ v :: l2)
def Alt (n : Nat) (f : Form) : Prop := ∀ (l1 l2 : List Col) (u : Col), l1.length + l2.length + 2 = n → f (l1 ++ u :: u :: l2) = 0
def alt (f : Form) (r : Nat) : List Col → List Col → Int
  | _, [] => 0
  | pre, x :: post => x r * f (pre ++ post) - alt f r (pre ++ [x]) post
def det : Nat → Nat → Form
  | 0, _ => fun _ => 1
  | n + 1, r => fun l => alt (det n (r + 1)) r [] l
theorem alt_pre {n : Nat} {f : Form} (hf : Lin n f) (r : Nat) {u v w : Col} {a b : Int} (hw : ∀ r, w r = a * u r + b * v r) : ∀ (post p1 p2 : List Col), p1.length + p2.length + post.length = n → alt f r (p1 ++ w :: p2) post = a * alt f r (p1 ++ u :: p2) post + b * alt f r (p1 ++ v :: p2) post
  | [], _, _, _ => by simp [alt]
  | x :: post, p1, p2, h => by
    simp only [List.length_cons] at h
    have ih := alt_pre hf r hw post p1 (p2 ++ [x]) (by rw [List.length_append, List.length_singleton]; omega)
    have e := hf p1 (p2 ++ post) u v w a b (by rw [List.length_append]; omega) hw
    simp only [alt, List.append_assoc, List.cons_append] at ih e ⊢
    rw [ih, e]
    grind
theorem alt_post {n : Nat} {f : Form} (hf : Lin n f) (r : Nat) {u v w : Col} {a b : Int} (hw : ∀ r, w r = a * u r + b * v r) (q2 : List Col) : ∀ (q1 pre : List Col), pre.length + q1.length + q2.length = n → alt f r pre (q1 ++ w :: q2) = a * alt f r pre (q1 ++ u :: q2) + b * alt f r pre (q1 ++ v :: q2)
  | [], pre, h => by
    have e := alt_pre hf r hw q2 pre [] (by simpa using h)
    simp only [List.nil_append, alt]
    rw [e, hw r]
    grind
  | x :: q1, pre, h => by
    simp only [List.length_cons] at h
    have ih := alt_post hf r hw q2 q1 (pre ++ [x]) (by rw [List.length_append, List.length_singleton]; omega)
    have e := hf (pre ++ q1) q2 u v w a b (by rw [List.length_append]; omega) hw
    simp only [List.append_assoc] at e
    simp only [List.cons_append, alt]
    rw [ih, e]
    grind
theorem altz_pre {n : Nat} {f : Form} (hf : Alt n f) (r : Nat) (u : Col) : ∀ (post p1 p2 : List Col), p1.length + p2.length + post.length + 1 = n → alt f r (p1 ++ u :: u :: p2) post = 0
  | [], _, _, _ => rfl
  | x :: post, p1, p2, h => by
    simp only [List.length_cons] at h
    have ih := altz_pre hf r u post p1 (p2 ++ [x]) (by rw [List.length_append, List.length_singleton]; omega)
    have e := hf p1 (p2 ++ post) u (by rw [List.length_append]; omega)
    simp only [alt, List.append_assoc, List.cons_append] at ih e ⊢
    rw [ih, e]
    simp
theorem altz_post {n : Nat} {f : Form} (hf : Alt n f) (r : Nat) (u : Col) (q2 : List Col) : ∀ (q1 pre : List Col), pre.length + q1.length + q2.length + 1 = n → alt f r pre (q1 ++ u :: u :: q2) = 0
  | [], pre, h => by
    have e := altz_pre hf r u q2 pre [] (by simpa using h)
    simp only [List.nil_append, alt, List.append_assoc, List.cons_append] at e ⊢
    rw [e]
    omega
  | x :: q1, pre, h => by
    simp only [List.length_cons] at h
    have ih := altz_post hf r u q2 q1 (pre ++ [x]) (by rw [List.length_append, List.length_singleton]; omega)
    have e := hf (pre ++ q1) q2 u (by rw [List.length_append]; omega)
    simp only [List.append_assoc] at e
    simp only [List.cons_append, alt]
    rw [ih, e]
    simp
theorem det_lin : ∀ (n r : Nat), Lin n (det n r)
  | 0, _ => fun l1 l2 u v w a b h => by omega
  | n + 1, r => fun l1 l2 u v w a b h hw => alt_post (det_lin n (r + 1)) r hw l2 l1 [] (by simp only [List.length_nil]; omega)
theorem det_alt : ∀ (n r : Nat), Alt n (det n r)
  | 0, _ => fun l1 l2 u h => by omega
  | n + 1, r => fun l1 l2 u h => altz_post (det_alt n (r + 1)) r u l2 l1 [] (by simp only [List.length_nil]; omega)
/-! ### equal columns anywhere -/
theorem swap {n : Nat} {f : Form} (hl : Lin n f) (ha : Alt n f) (l1 l2 : List Col) (u v : Col) (h : l1.length + l2.length + 2 = n) : f (l1 ++ u :: v :: l2) = - f (l1 ++ v :: u :: l2) := by
  let w : Col := fun r => u r + v r
  have h1 := hl l1 (w :: l2) u v w 1 1 (by simp only [List.length_cons]; omega) (fun r => by show u r + v r = _; omega)
  have h2 := hl (l1 ++ [u]) l2 u v w 1 1 (by simp only [List.length_append, List.length_singleton]; omega) (fun r => by show u r + v r = _; omega)
  have h3 := hl (l1 ++ [v]) l2 u v w 1 1 (by simp only [List.length_append, List.length_singleton]; omega) (fun r => by show u r + v r = _; omega)
  have z0 := ha l1 l2 w h
  have z1 := ha l1 l2 u h
  have z2 := ha l1 l2 v h
  simp only [List.append_assoc, List.singleton_append, List.cons_append, List.nil_append] at h2 h3
  omega
theorem equal_zero {n : Nat} {f : Form} (hl : Lin n f) (ha : Alt n f) (u : Col) (l2 : List Col) : ∀ (mid l1 : List Col), l1.length + mid.length + l2.length + 2 = n → f (l1 ++ u :: (mid ++ u :: l2)) = 0
  | [], l1, h => by
    simp only [List.length_nil] at h
    exact ha l1 l2 u (by omega)
  | x :: mid, l1, h => by
    simp only [List.length_cons] at h
    have s := swap hl ha l1 (mid ++ u :: l2) u x (by simp only [List.length_append, List.length_cons]; omega)
    have ih := equal_zero hl ha u l2 mid (l1 ++ [x]) (by simp only [List.length_append, List.length_singleton]; omega)
    simp only [List.append_assoc, List.singleton_append, List.cons_append, List.nil_append] at ih ⊢
    rw [s, ih]
    rfl
/-! ### by place -/
theorem split_at {α : Type} {l : List α} {i : Nat} {a : α} (h : l[i]? = some a) : ∃ l1 l2, l = l1 ++ a :: l2 ∧ l1.length = i := by
  obtain ⟨hi, e⟩ := List.getElem?_eq_some_iff.mp h
  refine ⟨l.take i, l.drop (i + 1), ?_, by rw [List.length_take]; omega⟩
  rw [← e, ← List.drop_eq_getElem_cons hi, List.take_append_drop]
theorem set_at {α : Type} {l1 l2 : List α} {a b : α} : (l1 ++ a :: l2).set l1.length b = l1 ++ b :: l2 := by
  rw [List.set_append_right _ _ (Nat.le_refl _), Nat.sub_self]
  rfl
section
variable {n r : Nat} {B : List Col}
theorem det_set (hB : B.length = n) {i : Nat} (hi : i < n) {u v w : Col} {a b : Int} (hw : ∀ r, w r = a * u r + b * v r) : det n r (B.set i w) = a * det n r (B.set i u) + b * det n r (B.set i v) := by
  obtain ⟨l1, l2, e, h1⟩ := split_at (List.getElem?_eq_getElem (l := B) (i := i) (by omega))
  subst h1
  rw [e, set_at, set_at, set_at]
  refine det_lin n r l1 l2 u v w a b ?_ hw
  have := congrArg List.length e
  rw [List.length_append, List.length_cons] at this
  omega
theorem det_zero (hB : B.length = n) {i k : Nat} (hk : k < n) (hik : i < k) {u : Col} (h1 : B[i]? = some u) (h2 : B[k]? = some u) : det n r B = 0 := by
  obtain ⟨l1, l2, e, hl⟩ := split_at h1
  have h2' : l2[k - i - 1]? = some u := by
    rw [e, List.getElem?_append_right (by omega), hl] at h2
    rw [show k - i = (k - i - 1) + 1 by omega, List.getElem?_cons_succ] at h2
    exact h2
  obtain ⟨m, l3, e2, hm⟩ := split_at h2'
  subst e2
  rw [e]
  refine equal_zero (det_lin n r) (det_alt n r) u l3 m l1 ?_
  have := congrArg List.length e
  simp only [List.length_append, List.length_cons] at this
  omega
theorem det_same (hB : B.length = n) {i k : Nat} (hi : i < n) (hk : k < n) (hik : i ≠ k) {u : Col} (h : B[k]? = some u) : det n r (B.set i u) = 0 := by
  have g1 : (B.set i u)[i]? = some u := by rw [List.getElem?_set_self (by omega)]
  have g2 : (B.set i u)[k]? = some u := by rw [List.getElem?_set_ne hik]; exact h
  have hl : (B.set i u).length = n := by rw [List.length_set]; exact hB
  rcases Nat.lt_or_gt_of_ne hik with h' | h'
  · exact det_zero hl hk h' g1 g2
  · exact det_zero hl hi h' g2 g1
end
end Ca.Det
set_option Elab.async false
set_option linter.all false
set_option maxRecDepth 100000
set_option maxHeartbeats 4000000
namespace Ca.Det
/-! ### sums of columns -/
def lsum (c : Nat → Int) (f : Col → Int) : Nat → List Col → Int
  | _, [] => 0
  | k, x :: xs => c k * f x + lsum c f (k + 1) xs
theorem lsum_congr {c d : Nat → Int} {f g : Col → Int} : ∀ (xs : List Col) (k : Nat), (∀ i, i < xs.length → ∀ x, xs[i]? = some x → c (k + i) * f x = d (k + i) * g x) → lsum c f k xs = lsum d g k xs
  | [], _, _ => rfl
  | x :: xs, k, h => by
    have h0 := h 0 (Nat.succ_pos _) x rfl
    have ih := lsum_congr (c := c) (d := d) (f := f) (g := g) xs (k + 1) fun i hi y hy => by
      have := h (i + 1) (Nat.succ_lt_succ hi) y (by rw [List.getElem?_cons_succ]; exact hy)
      rw [show k + (i + 1) = k + 1 + i by omega] at this
      exact this
    unfold lsum
    rw [ih]
    have : c k * f x = d k * g x := h0
    omega
theorem lsum_lin {c d e : Nat → Int} {f : Col → Int} {a b : Int} (h : ∀ i, e i = a * c i + b * d i) : ∀ (xs : List Col) (k : Nat), lsum e f k xs = a * lsum c f k xs + b * lsum d f k xs
  | [], _ => by simp [lsum]
  | x :: xs, k => by
    unfold lsum
    rw [lsum_lin h xs (k + 1), h k]
    grind
theorem lsum_one {c : Nat → Int} {f : Col → Int} : ∀ (xs : List Col) (k i : Nat) (b : Col), xs[i]? = some b → (∀ l, l < xs.length → l ≠ i → ∀ x, xs[l]? = some x → c (k + l) * f x = 0) → lsum c f k xs = c (k + i) * f b
  | [], _, _, _, h, _ => by cases h
  | x :: xs, k, 0, b, h, z => by
    cases h
    have : lsum c f (k + 1) xs = lsum (fun _ => 0) f (k + 1) xs := lsum_congr xs (k + 1) fun i hi y hy => by
      have := z (i + 1) (Nat.succ_lt_succ hi) (by omega) y (by rw [List.getElem?_cons_succ]; exact hy)
      rw [show k + (i + 1) = k + 1 + i by omega] at this
      rw [this, Int.zero_mul]
    have zero : ∀ (ys : List Col) (j : Nat), lsum (fun _ => 0) f j ys = 0 := fun ys => by
      induction ys with
      | nil => intro j; rfl
      | cons y ys ih => intro j; unfold lsum; rw [ih]; simp
    unfold lsum
    rw [this, zero]
    simp
  | x :: xs, k, i + 1, b, h, z => by
    rw [List.getElem?_cons_succ] at h
    have h0 := z 0 (Nat.succ_pos _) (by omega) x rfl
    have ih := lsum_one (c := c) (f := f) xs (k + 1) i b h fun l hl n y hy => by
      have := z (l + 1) (Nat.succ_lt_succ hl) (by omega) y (by rw [List.getElem?_cons_succ]; exact hy)
      rw [show k + (l + 1) = k + 1 + l by omega] at this
      exact this
    unfold lsum
    rw [ih, show k + 1 + i = k + (i + 1) by omega]
    have : c k * f x = 0 := h0
    omega
theorem lsum_set {c : Nat → Int} {f : Col → Int} {x b : Col} : ∀ (xs : List Col) (k i : Nat), xs[i]? = some b → lsum c f k (xs.set i x) + c (k + i) * f b = lsum c f k xs + c (k + i) * f x
  | [], _, _, h => by cases h
  | y :: xs, k, 0, h => by
    cases h
    rw [List.set_cons_zero]
    simp only [lsum, Nat.add_zero]
    omega
  | y :: xs, k, i + 1, h => by
    rw [List.getElem?_cons_succ] at h
    have ih := lsum_set (c := c) (f := f) (x := x) xs (k + 1) i h
    rw [show k + 1 + i = k + (i + 1) by omega] at ih
    rw [List.set_cons_succ]
    unfold lsum
    omega
/-- two lists of coefficients that differ at one place -/
theorem lsum_but {c d : Nat → Int} {f : Col → Int} {b : Col} (xs : List Col) (i : Nat) (h : xs[i]? = some b) (e : ∀ l, l ≠ i → c l = d l) : lsum c f 0 xs = lsum d f 0 xs + (c i - d i) * f b := by
  have hl := lsum_lin (c := d) (d := fun l => c l - d l) (e := c) (f := f) (a := 1) (b := 1) (fun l => by omega) xs 0
  have h1 := lsum_one (c := fun l => c l - d l) (f := f) xs 0 i b h fun l hl n y hy => by
    simp only [Nat.zero_add]
    rw [e l n]
    simp
  simp only [Nat.zero_add] at h1
  rw [hl, h1]
  omega
/-- what is linear in a column -/
structure LinF (L : Col → Int) : Prop where
  lin : ∀ (u v w : Col) (a b : Int), (∀ r, w r = a * u r + b * v r) → L w = a * L u + b * L v
theorem LinF.sum {L : Col → Int} (h : LinF L) (c : Nat → Int) : ∀ (xs : List Col) (k : Nat), L (fun r => lsum c (fun x => x r) k xs) = lsum c L k xs
  | [], k => by
    have := h.lin (fun _ => 0) (fun _ => 0) (fun r => lsum c (fun x => x r) k []) 0 0 (fun r => by simp [lsum])
    rw [this]
    simp [lsum]
  | x :: xs, k => by
    have := h.lin x (fun r => lsum c (fun x => x r) (k + 1) xs) (fun r => lsum c (fun x => x r) k (x :: xs)) (c k) 1 (fun r => by show c k * x r + _ = _; omega)
    rw [this, h.sum c xs (k + 1)]
    show _ = c k * L x + _
    omega
theorem LinF.comb {L : Col → Int} (h : LinF L) {c : Nat → Int} {xs : List Col} {a : Int} {w : Col} (e : ∀ r, a * w r = lsum c (fun x => x r) 0 xs) : a * L w = lsum c L 0 xs := by
  rw [← h.sum c xs 0]
  have := h.lin w w (fun r => lsum c (fun x => x r) 0 xs) a 0 (fun r => by rw [← e r]; omega)
  rw [this]
  omega
theorem lin_set {n : Nat} {B : List Col} (hB : B.length = n) {i : Nat} (hi : i < n) : LinF fun w => det n 0 (B.set i w) := ⟨fun u v w a b hw => det_set hB hi hw⟩
theorem set_self {α : Type} {B : List α} {i : Nat} {b : α} (h : B[i]? = some b) : B.set i b = B := by
  apply List.ext_getElem?
  intro k
  by_cases e : i = k
  · subst e
    rw [List.getElem?_set_self (List.getElem?_eq_some_iff.mp h).1, h]
  · rw [List.getElem?_set_ne e]
/-! ### dictionaries: D times a free column is made of the basic ones -/
structure Dic (V : Nat → Col) (M : Nat) (bs fs : List Nat) (T : Nat → Nat → Int) (D : Int) : Prop where
  len : bs.length = M
  pos : 0 < D
  sg : ∃ s : Int, (s = 1 ∨ s = -1) ∧ det M 0 (bs.map V) = s * D
  eqn : ∀ (j q : Nat), fs[j]? = some q → ∀ r, D * V q r = lsum (fun i => T i j) (fun x => x r) 0 (bs.map V)
section
variable {V : Nat → Col} {M : Nat} {bs fs : List Nat} {T : Nat → Nat → Int} {D : Int}
theorem Dic.blen (h : Dic V M bs fs T D) : (bs.map V).length = M := by rw [List.length_map]; exact h.len
theorem Dic.entry (h : Dic V M bs fs T D) {s : Int} (hs : det M 0 (bs.map V) = s * D) {i j q : Nat} (hi : i < M) (hq : fs[j]? = some q) : det M 0 ((bs.map V).set i (V q)) = s * T i j := by
  have hb := h.blen
  obtain ⟨b, hbi⟩ : ∃ b, (bs.map V)[i]? = some b := ⟨_, List.getElem?_eq_getElem (by omega)⟩
  have e := (lin_set hb hi).comb (h.eqn j q hq)
  have e2 := lsum_one (c := fun i => T i j) (f := fun w => det M 0 ((bs.map V).set i w)) (bs.map V) 0 i b hbi fun l hl n x hx => by
    show _ * det M 0 ((bs.map V).set i x) = 0
    rw [det_same hb hi (by omega) (Ne.symm n) hx]
    simp
  simp only [Nat.zero_add] at e2
  rw [e2, set_self hbi, hs] at e
  have hp := h.pos
  have : D * det M 0 ((bs.map V).set i (V q)) = D * (s * T i j) := by rw [e]; grind
  exact Int.eq_of_mul_eq_mul_left (by omega) this
/-- exchanging two places turns the sign -/
theorem det_turn {B : List Col} (hB : B.length = M) {i k : Nat} (hi : i < M) (hk : k < M) (n : i ≠ k) (u w : Col) : det M 0 ((B.set i u).set k w) = - det M 0 ((B.set i w).set k u) := by
  have c : ∀ x y : Col, (B.set i x).set k y = (B.set k y).set i x := fun x y => List.set_comm x y n
  have lA : ∀ x, (B.set i x).length = M := fun x => by rw [List.length_set]; exact hB
  have lB : ∀ x, (B.set k x).length = M := fun x => by rw [List.length_set]; exact hB
  have zero : ∀ x, det M 0 ((B.set i x).set k x) = 0 := fun x => det_same (lA x) hk hi (Ne.symm n) (by rw [List.getElem?_set_self (by omega)])
  let z : Col := fun r => u r + w r
  have hz : ∀ r, z r = 1 * u r + 1 * w r := fun r => by show u r + w r = _; omega
  have e1 := det_set (r := 0) (lA z) hk hz
  have e2 := det_set (r := 0) (lB u) hi hz
  have e3 := det_set (r := 0) (lB w) hi hz
  rw [← c, ← c, ← c] at e2
  rw [← c, ← c, ← c] at e3
  have z0 := zero z
  have z1 := zero u
  have z2 := zero w
  omega
/-- the division behind an exchange leaves no rest -/
theorem Dic.exact (h : Dic V M bs fs T D) {i0 i j0 j q0 q : Nat} (hi0 : i0 < M) (hi : i < M) (n : i ≠ i0) (hq0 : fs[j0]? = some q0) (hq : fs[j]? = some q) : ∃ X : Int, D * X = T i0 j0 * T i j - T i j0 * T i0 j := by
  have hb := h.blen
  obtain ⟨s, hs1, hs⟩ := h.sg
  obtain ⟨b, hbi⟩ : ∃ b, (bs.map V)[i]? = some b := ⟨_, List.getElem?_eq_getElem (by omega)⟩
  obtain ⟨b0, hb0⟩ : ∃ b, (bs.map V)[i0]? = some b := ⟨_, List.getElem?_eq_getElem (by omega)⟩
  have hA : ((bs.map V).set i (V q)).length = M := by rw [List.length_set]; exact hb
  have e := (lin_set hA hi0).comb (h.eqn j0 q0 hq0)
  have c0 : (fun k => T k j0) i0 = T i0 j0 := rfl
  -- all other columns stand there twice
  have e2 := lsum_but (c := fun k => T k j0) (d := fun k => if k = i0 then 0 else T k j0) (f := fun w => det M 0 (((bs.map V).set i (V q)).set i0 w)) (bs.map V) i0 hb0 (fun l hl => by simp only [if_neg hl])
  have e3 := lsum_one (c := fun k => if k = i0 then 0 else T k j0) (f := fun w => det M 0 (((bs.map V).set i (V q)).set i0 w)) (bs.map V) 0 i b hbi fun l hl nl x hx => by
    simp only [Nat.zero_add]
    by_cases g : l = i0
    · simp only [if_pos g]
      simp
    · rw [det_same hA hi0 (by omega) (Ne.symm g) (by rw [List.getElem?_set_ne (Ne.symm nl)]; exact hx)]
      simp
  simp only [Nat.zero_add, if_neg n, if_pos] at e3
  have s0 : ((bs.map V).set i (V q)).set i0 b0 = (bs.map V).set i (V q) := set_self (by rw [List.getElem?_set_ne n]; exact hb0)
  have s1 := det_turn hb hi hi0 n (V q) b
  rw [set_self hbi] at s1
  have t1 := h.entry hs hi hq
  have t2 := h.entry hs hi0 hq
  rw [e2, e3] at e
  simp only [if_pos] at e
  rw [s0, s1, t1, t2] at e
  refine ⟨s * det M 0 (((bs.map V).set i (V q)).set i0 (V q0)), ?_⟩
  have ss : s * s = 1 := by rcases hs1 with rfl | rfl <;> rfl
  have : D * (s * det M 0 (((bs.map V).set i (V q)).set i0 (V q0))) = s * (D * det M 0 (((bs.map V).set i (V q)).set i0 (V q0))) := by grind
  rw [this, e]
  grind
end
end Ca.Det
set_option Elab.async false
set_option linter.all false
set_option maxRecDepth 100000
set_option maxHeartbeats 4000000
namespace Ca.Det
/-! ### an exchange -/
def exch (T : Nat → Nat → Int) (D : Int) (i0 j0 : Nat) : Nat → Nat → Int := fun i j =>
  if i = i0 then (if j = j0 then D else T i0 j) else if j = j0 then - T i j0 else (T i0 j0 * T i j - T i j0 * T i0 j) / D
def sgn (p : Int) : Int := if p > 0 then 1 else -1
theorem sgn_pos {p : Int} (h : p ≠ 0) : 0 < sgn p * p := by
  unfold sgn
  split
  · omega
  · omega
theorem sgn_sq (p : Int) : sgn p * sgn p = 1 := by
  unfold sgn
  split <;> rfl
theorem sgn_one (p : Int) : sgn p = 1 ∨ sgn p = -1 := by
  unfold sgn
  split
  · exact .inl rfl
  · exact .inr rfl
theorem lsum_but2 {c d : Nat → Int} {f : Col → Int} {b : Col} (xs : List Col) (i : Nat) (h : xs[i]? = some b) (e : ∀ l, l < xs.length → l ≠ i → c l = d l) : lsum c f 0 xs = lsum d f 0 xs + (c i - d i) * f b := by
  have h1 : lsum c f 0 xs = lsum (fun l => if l = i then c i else d l) f 0 xs := lsum_congr xs 0 fun l hl x hx => by
    simp only [Nat.zero_add]
    by_cases g : l = i
    · rw [if_pos g, g]
    · rw [if_neg g, e l hl g]
  have h2 := lsum_but (c := fun l => if l = i then c i else d l) (d := d) (f := f) xs i h (fun l n => if_neg n)
  simp only [if_pos] at h2
  rw [h1, h2]
theorem lsum_mul {c : Nat → Int} {f : Col → Int} (a : Int) (xs : List Col) (k : Nat) : lsum (fun i => a * c i) f k xs = a * lsum c f k xs := by
  have := lsum_lin (c := c) (d := c) (e := fun i => a * c i) (f := f) (a := a) (b := 0) (fun i => by omega) xs k
  rw [this]
  omega
section
variable {V : Nat → Col} {M : Nat} {bs fs : List Nat} {T : Nat → Nat → Int} {D : Int}
theorem Dic.quot (h : Dic V M bs fs T D) {i0 i j0 j q0 q : Nat} (hi0 : i0 < M) (hi : i < M) (n : i ≠ i0) (nj : j ≠ j0) (hq0 : fs[j0]? = some q0) (hq : fs[j]? = some q) : D * exch T D i0 j0 i j = T i0 j0 * T i j - T i j0 * T i0 j := by
  obtain ⟨X, e⟩ := h.exact hi0 hi n hq0 hq
  unfold exch
  rw [if_neg n, if_neg nj, ← e, Int.mul_ediv_cancel_left _ (by have := h.pos; omega)]
theorem Dic.step (h : Dic V M bs fs T D) {i0 j0 q0 b0 : Nat} (hq0 : fs[j0]? = some q0) (hb0 : bs[i0]? = some b0) (hp : T i0 j0 ≠ 0) :
    Dic V M (bs.set i0 q0) (fs.set j0 b0) (fun i j => sgn (T i0 j0) * exch T D i0 j0 i j) (sgn (T i0 j0) * T i0 j0) := by
  have hi0 : i0 < M := by rw [← h.len]; exact (List.getElem?_eq_some_iff.mp hb0).1
  have hb := h.blen
  have hB0 : (bs.map V)[i0]? = some (V b0) := by rw [List.getElem?_map, hb0]; rfl
  have hD := h.pos
  refine ⟨by rw [List.length_set]; exact h.len, sgn_pos hp, ?_, fun j q hq r => ?_⟩
  · obtain ⟨s, hs1, hs⟩ := h.sg
    have e := h.entry hs hi0 hq0
    refine ⟨s * sgn (T i0 j0), ?_, ?_⟩
    · rcases hs1 with rfl | rfl <;> rcases sgn_one (T i0 j0) with g | g <;> rw [g] <;> decide
    · rw [List.map_set, e]
      have := sgn_sq (T i0 j0)
      grind
  · rw [lsum_mul, List.map_set]
    have s1 := lsum_set (c := fun i => exch T D i0 j0 i j) (f := fun x => x r) (x := V q0) (bs.map V) 0 i0 hB0
    simp only [Nat.zero_add] at s1
    have e0 := h.eqn j0 q0 hq0 r
    have key : lsum (fun i => exch T D i0 j0 i j) (fun x => x r) 0 ((bs.map V).set i0 (V q0)) = T i0 j0 * V q r := by
      by_cases g : j = j0
      · subst g
        have qe : q = b0 := by
          rw [List.getElem?_set_self (List.getElem?_eq_some_iff.mp hq0).1] at hq
          exact (Option.some.inj hq).symm
        subst qe
        have b1 := lsum_but2 (c := fun i => exch T D i0 j i j) (d := fun i => -1 * T i j) (f := fun x => x r) (bs.map V) i0 hB0 fun l hl n => by
          show exch T D i0 j l j = _
          unfold exch
          rw [if_neg n, if_pos rfl]
          omega
        have b2 := lsum_mul (c := fun i => T i j) (f := fun x => x r) (-1) (bs.map V) 0
        have x0 : exch T D i0 j i0 j = D := by
          unfold exch
          rw [if_pos rfl, if_pos rfl]
        simp only [x0] at b1 s1
        rw [b2, ← e0] at b1
        grind
      · have hq' : fs[j]? = some q := by rw [List.getElem?_set_ne (Ne.symm g)] at hq; exact hq
        have ej := h.eqn j q hq' r
        have b1 := lsum_but2 (c := fun i => D * exch T D i0 j0 i j) (d := fun i => T i0 j0 * T i j + (- T i0 j) * T i j0) (f := fun x => x r) (bs.map V) i0 hB0 fun l hl n => by
          show D * exch T D i0 j0 l j = _
          rw [h.quot hi0 (by omega) n g hq0 hq']
          grind
        have b2 := lsum_lin (c := fun i => T i j) (d := fun i => T i j0) (e := fun i => T i0 j0 * T i j + (- T i0 j) * T i j0) (f := fun x => x r) (a := T i0 j0) (b := - T i0 j) (fun i => rfl) (bs.map V) 0
        have b3 := lsum_mul (c := fun i => exch T D i0 j0 i j) (f := fun x => x r) D (bs.map V) 0
        have x0 : exch T D i0 j0 i0 j = T i0 j := by
          unfold exch
          rw [if_pos rfl, if_neg g]
        simp only [x0] at b1 s1
        rw [b2, b3, ← ej, ← e0] at b1
        have : D * lsum (fun i => exch T D i0 j0 i j) (fun x => x r) 0 (bs.map V) = D * (T i0 j0 * V q r - T i0 j * V q0 r + T i0 j * V b0 r) := by
          rw [b1]
          grind
        have c := Int.eq_of_mul_eq_mul_left (by omega) this
        rw [c] at s1
        omega
    rw [key]
    grind
end
end Ca.Det
set_option Elab.async false
set_option linter.all false
set_option maxRecDepth 100000
set_option maxHeartbeats 4000000
namespace Ca.Det
/-! ### sums over quantities -/
def fsum (g : Nat → Nat → Int) : Nat → List Nat → Int
  | _, [] => 0
  | k, q :: l => g k q + fsum g (k + 1) l
theorem fsum_app (g : Nat → Nat → Int) (G : Nat) : ∀ (l : List Nat) (k : Nat), fsum g k (l ++ [G]) = fsum g k l + g (k + l.length) G
  | [], k => by simp [fsum]
  | q :: l, k => by
    have ih := fsum_app g G l (k + 1)
    simp only [List.cons_append, fsum, List.length_cons]
    rw [ih, show k + 1 + l.length = k + (l.length + 1) by omega]
    omega
theorem fsum_congr {g h : Nat → Nat → Int} : ∀ (l : List Nat) (k : Nat), (∀ j q, l[j]? = some q → g (k + j) q = h (k + j) q) → fsum g k l = fsum h k l
  | [], _, _ => rfl
  | q :: l, k, e => by
    have e0 := e 0 q rfl
    have ih := fsum_congr (g := g) (h := h) l (k + 1) fun j p hp => by
      have := e (j + 1) p (by rw [List.getElem?_cons_succ]; exact hp)
      rw [show k + (j + 1) = k + 1 + j by omega] at this
      exact this
    simp only [Nat.add_zero] at e0
    simp only [fsum]
    rw [ih, e0]
theorem fsum_nonneg {g : Nat → Nat → Int} : ∀ (l : List Nat) (k : Nat), (∀ j q, l[j]? = some q → 0 ≤ g (k + j) q) → 0 ≤ fsum g k l
  | [], _, _ => Int.le_refl 0
  | q :: l, k, e => by
    have e0 := e 0 q rfl
    have ih := fsum_nonneg (g := g) l (k + 1) fun j p hp => by
      have := e (j + 1) p (by rw [List.getElem?_cons_succ]; exact hp)
      rw [show k + (j + 1) = k + 1 + j by omega] at this
      exact this
    simp only [Nat.add_zero] at e0
    simp only [fsum]
    omega
theorem fsum_pos {g : Nat → Nat → Int} : ∀ (l : List Nat) (k i p : Nat), l[i]? = some p → 0 < g (k + i) p → (∀ j q, l[j]? = some q → 0 ≤ g (k + j) q) → 0 < fsum g k l
  | [], _, _, _, h, _, _ => by cases h
  | q :: l, k, 0, p, h, pos, e => by
    cases h
    have ih := fsum_nonneg (g := g) l (k + 1) fun j p hp => by
      have := e (j + 1) p (by rw [List.getElem?_cons_succ]; exact hp)
      rw [show k + (j + 1) = k + 1 + j by omega] at this
      exact this
    simp only [Nat.add_zero] at pos
    simp only [fsum]
    omega
  | q :: l, k, i + 1, p, h, pos, e => by
    have e0 := e 0 q rfl
    rw [List.getElem?_cons_succ] at h
    rw [show k + (i + 1) = k + 1 + i by omega] at pos
    have ih := fsum_pos (g := g) l (k + 1) i p h pos fun j p hp => by
      have := e (j + 1) p (by rw [List.getElem?_cons_succ]; exact hp)
      rw [show k + (j + 1) = k + 1 + j by omega] at this
      exact this
    simp only [Nat.add_zero] at e0
    simp only [fsum]
    omega
def msum (g : Nat → Int) : List Nat → Int
  | [] => 0
  | q :: l => g q + msum g l
theorem msum_perm {g : Nat → Int} {l l' : List Nat} (h : l.Perm l') : msum g l = msum g l' := by
  induction h with
  | nil => rfl
  | cons x _ ih => simp only [msum, ih]
  | swap x y l => simp only [msum]; omega
  | trans _ _ ih1 ih2 => rw [ih1, ih2]
theorem msum_app (g : Nat → Int) : ∀ l l' : List Nat, msum g (l ++ l') = msum g l + msum g l'
  | [], l' => by simp [msum]
  | q :: l, l' => by simp only [List.cons_append, msum]; rw [msum_app g l l']; omega
theorem fsum_msum (g : Nat → Int) : ∀ (l : List Nat) (k : Nat), fsum (fun _ q => g q) k l = msum g l
  | [], _ => rfl
  | q :: l, k => by simp only [fsum, msum]; rw [fsum_msum g l (k + 1)]
theorem msum_mul (g : Nat → Int) (a : Int) : ∀ l : List Nat, msum (fun q => a * g q) l = a * msum g l
  | [] => by simp [msum]
  | q :: l => by simp only [msum]; rw [msum_mul g a l]; grind
/-! ### what all dictionaries agree upon -/
def Ker (V : Nat → Col) (x : Nat → Int) (l : List Nat) : Prop := ∀ r, msum (fun q => x q * V q r) l = 0
section
variable {V : Nat → Col} {M : Nat} {bs fs : List Nat} {T : Nat → Nat → Int} {D : Int} {x : Nat → Int}
theorem lsum_bs (V : Nat → Col) (x : Nat → Int) (D : Int) (r : Nat) (c : Nat → Int) : ∀ (bs : List Nat) (k : Nat), (∀ i b, bs[i]? = some b → c (k + i) = D * x b) → lsum c (fun y => y r) k (bs.map V) = D * msum (fun q => x q * V q r) bs
  | [], _, _ => by simp [lsum, msum]
  | b :: bs, k, h => by
    have h0 := h 0 b rfl
    have ih := lsum_bs V x D r c bs (k + 1) fun i b' hb => by
      have := h (i + 1) b' (by rw [List.getElem?_cons_succ]; exact hb)
      rw [show k + (i + 1) = k + 1 + i by omega] at this
      exact this
    simp only [Nat.add_zero] at h0
    simp only [List.map_cons, lsum, msum]
    rw [ih, h0]
    grind
theorem lsum_fs (x : Nat → Int) (r : Nat) (Bm : List Col) : ∀ (fs : List Nat) (k : Nat), (∀ j q, fs[j]? = some q → D * V q r = lsum (fun i => T i (k + j)) (fun y => y r) 0 Bm) →
    lsum (fun i => fsum (fun j q => T i j * x q) k fs) (fun y => y r) 0 Bm = D * msum (fun q => x q * V q r) fs
  | [], _, _ => by
    have := lsum_mul (c := fun _ => 0) (f := fun y : Col => y r) 0 Bm 0
    simp only [fsum, msum]
    simpa using this
  | q :: fs, k, h => by
    have h0 := h 0 q rfl
    have ih := lsum_fs x r Bm fs (k + 1) fun j p hp => by
      have := h (j + 1) p (by rw [List.getElem?_cons_succ]; exact hp)
      rw [show k + (j + 1) = k + 1 + j by omega] at this
      exact this
    simp only [Nat.add_zero] at h0
    have e := lsum_lin (c := fun i => T i k) (d := fun i => fsum (fun j q => T i j * x q) (k + 1) fs) (e := fun i => fsum (fun j q => T i j * x q) k (q :: fs)) (f := fun y => y r) (a := x q) (b := 1) (fun i => by simp only [fsum]; grind) Bm 0
    rw [e, ih, ← h0]
    simp only [msum]
    grind
theorem Dic.row (h : Dic V M bs fs T D) (hx : Ker V x (bs ++ fs)) {i b : Nat} (hb : bs[i]? = some b) : D * x b + fsum (fun j q => T i j * x q) 0 fs = 0 := by
  have hi : i < M := by rw [← h.len]; exact (List.getElem?_eq_some_iff.mp hb).1
  have hB := h.blen
  have hbi : (bs.map V)[i]? = some (V b) := by rw [List.getElem?_map, hb]; rfl
  let c : Nat → Int := fun l => D * x (bs.getD l 0) + fsum (fun j q => T l j * x q) 0 fs
  have zero : ∀ r, 1 * (fun _ => 0 : Col) r = lsum c (fun y => y r) 0 (bs.map V) := fun r => by
    have e := lsum_lin (c := fun l => D * x (bs.getD l 0)) (d := fun l => fsum (fun j q => T l j * x q) 0 fs) (e := c) (f := fun y => y r) (a := 1) (b := 1) (fun l => by show D * _ + _ = _; omega) (bs.map V) 0
    have e1 := lsum_bs V x D r (fun l => D * x (bs.getD l 0)) bs 0 fun l b' hl => by
      simp only [Nat.zero_add, List.getD_eq_getElem?_getD, hl, Option.getD_some]
    have e2 := lsum_fs (V := V) (T := T) (D := D) x r (bs.map V) fs 0 fun j q hq => by
      simp only [Nat.zero_add]
      exact h.eqn j q hq r
    have k := hx r
    rw [msum_app] at k
    rw [e, e1, e2]
    grind
  have L := lin_set hB hi
  have e := L.comb zero
  have z : det M 0 ((bs.map V).set i (fun _ => 0 : Col)) = 0 := by
    have := L.lin (V b) (V b) (fun _ => 0) 0 0 (fun r => by simp)
    rw [this]
    omega
  have e2 := lsum_one (c := c) (f := fun w => det M 0 ((bs.map V).set i w)) (bs.map V) 0 i (V b) hbi fun l hl n y hy => by
    show _ * det M 0 ((bs.map V).set i y) = 0
    rw [det_same hB hi (by omega) (Ne.symm n) hy]
    simp
  simp only [Nat.zero_add] at e2
  rw [e2, z, set_self hbi] at e
  obtain ⟨s, hs1, hs⟩ := h.sg
  have hD := h.pos
  rw [hs] at e
  have nz : s * D ≠ 0 := by rcases hs1 with rfl | rfl <;> omega
  have ci : c i = 0 := by
    have e' : c i * (s * D) = 0 := by omega
    rcases Int.mul_eq_zero.mp e' with g | g
    · exact g
    · exact absurd g nz
  have : c i = D * x b + fsum (fun j q => T i j * x q) 0 fs := by
    show D * x (bs.getD i 0) + _ = _
    simp only [List.getD_eq_getElem?_getD, hb, Option.getD_some]
  omega
/-- a free quantity, the basic ones behind it -/
def plc (q : Nat) : Nat → List Nat → Option Nat
  | _, [] => none
  | k, b :: l => if b = q then some k else plc q (k + 1) l
theorem plc_some {q : Nat} : ∀ (l : List Nat) (k i : Nat), l.Nodup → l[i]? = some q → plc q k l = some (k + i)
  | [], _, _, _, h => by cases h
  | b :: l, k, 0, _, h => by
    cases h
    simp [plc]
  | b :: l, k, i + 1, nd, h => by
    rw [List.getElem?_cons_succ] at h
    obtain ⟨n1, n2⟩ := List.nodup_cons.mp nd
    have ih := plc_some (q := q) l (k + 1) i n2 h
    unfold plc
    rw [if_neg (fun z => n1 (by rw [z]; exact List.mem_of_getElem? h)), ih]
    congr 1
    omega
theorem plc_none {q : Nat} : ∀ (l : List Nat) (k : Nat), q ∉ l → plc q k l = none
  | [], _, _ => rfl
  | b :: l, k, h => by
    unfold plc
    rw [if_neg (fun z => h (by rw [z]; exact List.mem_cons_self ..)), plc_none l (k + 1) fun z => h (List.mem_cons_of_mem _ z)]
theorem Dic.col (h : Dic V M bs fs T D) (nd : (bs ++ fs).Nodup) {j f : Nat} (hf : fs[j]? = some f) : ∃ x : Nat → Int, Ker V x (bs ++ fs) ∧ x f = D ∧ (∀ i b, bs[i]? = some b → x b = - T i j) ∧ (∀ l q, fs[l]? = some q → l ≠ j → x q = 0) := by
  obtain ⟨n1, n2, n3⟩ := List.nodup_append.mp nd
  let x : Nat → Int := fun q => if q = f then D else match plc q 0 bs with | some i => - T i j | none => 0
  have hfm := List.mem_of_getElem? hf
  have xb : ∀ i b, bs[i]? = some b → x b = - T i j := fun i b hb => by
    have ne : b ≠ f := n3 b (List.mem_of_getElem? hb) f hfm
    show (if b = f then D else match plc b 0 bs with | some i => - T i j | none => 0) = _
    rw [if_neg ne, plc_some bs 0 i n1 hb]
    simp
  have xf : x f = D := by
    show (if f = f then D else _) = _
    rw [if_pos rfl]
  have xo : ∀ l q, fs[l]? = some q → l ≠ j → x q = 0 := fun l q hq nl => by
    have ne : q ≠ f := fun z => by
      rw [z] at hq
      have l1 := (List.getElem?_eq_some_iff.mp hq).1
      exact nl ((List.getElem?_inj l1 n2).mp (by rw [hq, hf]))
    show (if q = f then D else match plc q 0 bs with | some i => - T i j | none => 0) = _
    rw [if_neg ne, plc_none bs 0 (fun z => n3 q z q (List.mem_of_getElem? hq) rfl)]
  refine ⟨x, fun r => ?_, xf, xb, xo⟩
  rw [msum_app]
  have e1 := lsum_bs V x 1 r (fun i => -1 * T i j) bs 0 fun i b hb => by
    simp only [Nat.zero_add]
    rw [xb i b hb]
    omega
  have e2 := lsum_mul (c := fun i => T i j) (f := fun y => y r) (-1) (bs.map V) 0
  have e3 := h.eqn j f hf r
  have e4 : msum (fun q => x q * V q r) fs = D * V f r := by
    have single : ∀ (l : List Nat) (k : Nat), l[k]? = some f → (∀ i q, l[i]? = some q → i ≠ k → x q = 0) → msum (fun q => x q * V q r) l = D * V f r := by
      intro l
      induction l with
      | nil => intro k hk; cases hk
      | cons q l ih =>
        intro k hk hz
        cases k with
        | zero =>
          cases hk
          have zz : ∀ (l : List Nat), (∀ q ∈ l, x q = 0) → msum (fun q => x q * V q r) l = 0 := by
            intro l
            induction l with
            | nil => intro _; rfl
            | cons q l ih => intro h; simp only [msum]; rw [h q (List.mem_cons_self ..), ih fun p hp => h p (List.mem_cons_of_mem _ hp)]; simp
          simp only [msum]
          rw [zz l fun p hp => by
            obtain ⟨i, hi⟩ := List.mem_iff_getElem?.mp hp
            exact hz (i + 1) p (by rw [List.getElem?_cons_succ]; exact hi) (by omega)]
          rw [xf]
          omega
        | succ k =>
          rw [List.getElem?_cons_succ] at hk
          have h0 := hz 0 q rfl (by omega)
          have := ih k hk fun i p hp n => hz (i + 1) p (by rw [List.getElem?_cons_succ]; exact hp) (by omega)
          simp only [msum]
          rw [h0, this]
          omega
    exact single fs j hf xo
  rw [e2] at e1
  rw [e4]
  omega
end
end Ca.Det
set_option Elab.async false
set_option linter.all false
set_option maxRecDepth 100000
set_option maxHeartbeats 4000000
namespace Ca.Det
/-! ### the criss-cross method -/
structure Sta where
  bs : List Nat
  fs : List Nat
  T : Nat → Nat → Int
  D : Int
/-- m limits, n amounts, the quantities 0 to m + n - 1; the costs are m + n, the bounds m + n + 1 -/
structure Ok (V : Nat → Col) (m n : Nat) (S : Sta) : Prop where
  bl : S.bs.length = m
  fl : S.fs.length = n
  pm : (S.bs ++ S.fs).Perm (List.range (m + n))
  dic : Dic V (m + 1) (S.bs ++ [m + n]) (S.fs ++ [m + n + 1]) S.T S.D
def Wrong (m n : Nat) (S : Sta) (q : Nat) : Prop := (∃ i, S.bs[i]? = some q ∧ S.T i n < 0) ∨ (∃ j, S.fs[j]? = some q ∧ S.T m j < 0)
def exSta (S : Sta) (i j b f : Nat) : Sta := ⟨S.bs.set i f, S.fs.set j b, fun k l => sgn (S.T i j) * exch S.T S.D i j k l, sgn (S.T i j) * S.T i j⟩
/-- the exchange of a basic quantity and a free one: by rows, or by columns -/
def ByRow (m n : Nat) (S : Sta) (i j b f : Nat) : Prop := S.T i n < 0 ∧ S.T i j < 0 ∧ (∀ q, Wrong m n S q → b ≤ q) ∧ ∀ l q, S.fs[l]? = some q → S.T i l < 0 → f ≤ q
def ByCol (m n : Nat) (S : Sta) (i j b f : Nat) : Prop := S.T m j < 0 ∧ 0 < S.T i j ∧ (∀ q, Wrong m n S q → f ≤ q) ∧ ∀ l q, S.bs[l]? = some q → 0 < S.T l j → b ≤ q
structure Step (m n : Nat) (S S' : Sta) (i j b f : Nat) : Prop where
  hb : S.bs[i]? = some b
  hf : S.fs[j]? = some f
  way : ByRow m n S i j b f ∨ ByCol m n S i j b f
  to : S' = exSta S i j b f
section
variable {V : Nat → Col} {m n : Nat} {S S' : Sta} {i j b f : Nat}
theorem Ok.nd (h : Ok V m n S) : (S.bs ++ S.fs).Nodup := h.pm.nodup_iff.mpr List.nodup_range
theorem Ok.lt (h : Ok V m n S) {q : Nat} (hq : q ∈ S.bs ++ S.fs) : q < m + n := List.mem_range.mp (h.pm.mem_iff.mp hq)
theorem Ok.mem (h : Ok V m n S) {q : Nat} (hq : q < m + n) : q ∈ S.bs ∨ q ∈ S.fs := List.mem_append.mp (h.pm.mem_iff.mpr (List.mem_range.mpr hq))
theorem Ok.apart (h : Ok V m n S) {q : Nat} (hb : q ∈ S.bs) (hf : q ∈ S.fs) : False := (List.nodup_append.mp h.nd).2.2 q hb q hf rfl
theorem Ok.bsnd (h : Ok V m n S) : S.bs.Nodup := (List.nodup_append.mp h.nd).1
theorem Ok.fsnd (h : Ok V m n S) : S.fs.Nodup := (List.nodup_append.mp h.nd).2.1
theorem Ok.allPerm (h : Ok V m n S) : ((S.bs ++ [m + n]) ++ (S.fs ++ [m + n + 1])).Perm (List.range (m + n) ++ [m + n, m + n + 1]) := by
  have e : ((S.bs ++ [m + n]) ++ (S.fs ++ [m + n + 1])).Perm ((S.bs ++ S.fs) ++ ([m + n] ++ [m + n + 1])) := by
    rw [List.append_assoc, List.append_assoc]
    refine List.Perm.append_left _ ?_
    rw [← List.append_assoc, ← List.append_assoc]
    exact List.Perm.append_right _ List.perm_append_comm
  exact e.trans (List.Perm.append_right _ h.pm)
theorem Ok.allNd (h : Ok V m n S) : ((S.bs ++ [m + n]) ++ (S.fs ++ [m + n + 1])).Nodup := by
  refine h.allPerm.nodup_iff.mpr ?_
  refine List.nodup_append.mpr ⟨List.nodup_range, by simp, fun a ha b hb => ?_⟩
  have := List.mem_range.mp ha
  simp only [List.mem_cons, List.not_mem_nil, or_false] at hb
  omega
theorem perm_exchange {α : Type} {l1 l2 : List α} {i j : Nat} {a c : α} (h1 : l1[i]? = some a) (h2 : l2[j]? = some c) : (l1.set i c ++ l2.set j a).Perm (l1 ++ l2) := by
  obtain ⟨p1, p2, rfl, rfl⟩ := split_at h1
  obtain ⟨q1, q2, rfl, rfl⟩ := split_at h2
  rw [set_at, set_at]
  have mv : ∀ (x : α) (u v : List α), (u ++ x :: v).Perm (x :: (u ++ v)) := fun x u v => List.perm_middle
  refine ((mv c p1 p2).append (mv a q1 q2)).trans (List.Perm.trans ?_ ((mv a p1 p2).append (mv c q1 q2)).symm)
  rw [List.cons_append, List.cons_append]
  refine (List.Perm.cons c List.perm_middle).trans ((List.Perm.swap a c _).trans (List.Perm.cons a List.perm_middle.symm))
theorem Ok.step (h : Ok V m n S) (s : Step m n S S' i j b f) : Ok V m n S' := by
  obtain ⟨hb, hf, way, rfl⟩ := s
  have hi := (List.getElem?_eq_some_iff.mp hb).1
  have hj := (List.getElem?_eq_some_iff.mp hf).1
  refine ⟨by show (S.bs.set i f).length = m; rw [List.length_set]; exact h.bl, by show (S.fs.set j b).length = n; rw [List.length_set]; exact h.fl, (perm_exchange hb hf).trans h.pm, ?_⟩
  have hb' : (S.bs ++ [m + n])[i]? = some b := by rw [List.getElem?_append_left hi]; exact hb
  have hf' : (S.fs ++ [m + n + 1])[j]? = some f := by rw [List.getElem?_append_left hj]; exact hf
  have hp : S.T i j ≠ 0 := by
    rcases way with ⟨_, g, _⟩ | ⟨_, g, _⟩ <;> omega
  have d := h.dic.step hf' hb' hp
  rw [List.set_append_left _ _ hi, List.set_append_left _ _ hj] at d
  exact d
/-! ### signs where k comes in, and where it goes out -/
/-- from a state in which k is the next to leave: a vector that all rows of all states agree upon -/
theorem leaves (h : Ok V m n S) (s : Step m n S S' i j b f) : ∃ y : Nat → Int, Ker V y (List.range (m + n) ++ [m + n, m + n + 1]) ∧ y b < 0 ∧ (∀ q, q < m + n → q < b → 0 ≤ y q) ∧ (∀ q, q ∈ S.fs → b < q → (f ≤ b → y q = 0)) ∧
    ((y (m + n) = S.T m n ∧ y (m + n + 1) = - S.D ∧ (∀ q, Wrong m n S q → b ≤ q) ∧ ∀ q ∈ S.fs, y q = 0) ∨ (0 < y (m + n) ∧ y (m + n + 1) = 0)) := by
  have hD := h.dic.pos
  have hi := (List.getElem?_eq_some_iff.mp s.hb).1
  have hj := (List.getElem?_eq_some_iff.mp s.hf).1
  have bx : ∀ {l q : Nat}, S.bs[l]? = some q → (S.bs ++ [m + n])[l]? = some q := fun {l q} e => by rw [List.getElem?_append_left (List.getElem?_eq_some_iff.mp e).1]; exact e
  have fx : ∀ {l q : Nat}, S.fs[l]? = some q → (S.fs ++ [m + n + 1])[l]? = some q := fun {l q} e => by rw [List.getElem?_append_left (List.getElem?_eq_some_iff.mp e).1]; exact e
  have bF : (S.bs ++ [m + n])[m]? = some (m + n) := by rw [List.getElem?_append_right (by rw [h.bl]; exact Nat.le_refl _), h.bl, Nat.sub_self]; rfl
  have fG : (S.fs ++ [m + n + 1])[n]? = some (m + n + 1) := by rw [List.getElem?_append_right (by rw [h.fl]; exact Nat.le_refl _), h.fl, Nat.sub_self]; rfl
  have fl := h.fl
  rcases s.way with ⟨w1, w2, w3, w4⟩ | ⟨w1, w2, w3, w4⟩
  · obtain ⟨x, kx, x1, x2, x3⟩ := h.dic.col h.allNd fG
    refine ⟨fun q => - x q, fun r => ?_, ?_, fun q hq hk => ?_, fun q hq _ _ => ?_, .inl ⟨?_, ?_, w3, fun q hq => ?_⟩⟩
    · have := kx r
      rw [msum_perm h.allPerm] at this
      have e := msum_mul (fun q => x q * V q r) (-1) (List.range (m + n) ++ [m + n, m + n + 1])
      rw [this] at e
      have : (fun q => - x q * V q r) = (fun q => -1 * (x q * V q r)) := funext fun q => by grind
      rw [this, e]
      rfl
    · show - x b < 0
      rw [x2 i b (bx s.hb)]
      omega
    · show 0 ≤ - x q
      rcases h.mem hq with hm | hm
      · obtain ⟨l, hl⟩ := List.mem_iff_getElem?.mp hm
        rw [x2 l q (bx hl)]
        by_cases g : S.T l n < 0
        · have := w3 q (.inl ⟨l, hl, g⟩)
          omega
        · omega
      · obtain ⟨l, hl⟩ := List.mem_iff_getElem?.mp hm
        have := (List.getElem?_eq_some_iff.mp hl).1
        rw [x3 l q (fx hl) (by omega)]
        omega
    · show - x q = 0
      obtain ⟨l, hl⟩ := List.mem_iff_getElem?.mp hq
      have := (List.getElem?_eq_some_iff.mp hl).1
      rw [x3 l q (fx hl) (by omega)]
      rfl
    · show - x (m + n) = _
      rw [x2 m (m + n) bF]
      omega
    · show - x (m + n + 1) = _
      rw [x1]
    · show - x q = 0
      obtain ⟨l, hl⟩ := List.mem_iff_getElem?.mp hq
      have := (List.getElem?_eq_some_iff.mp hl).1
      rw [x3 l q (fx hl) (by omega)]
      rfl
  · obtain ⟨x, kx, x1, x2, x3⟩ := h.dic.col h.allNd (fx s.hf)
    refine ⟨x, fun r => ?_, ?_, fun q hq hk => ?_, fun q hq hk hfb => ?_, .inr ⟨?_, ?_⟩⟩
    · have := kx r
      rw [msum_perm h.allPerm] at this
      exact this
    · rw [x2 i b (bx s.hb)]
      omega
    · rcases h.mem hq with hm | hm
      · obtain ⟨l, hl⟩ := List.mem_iff_getElem?.mp hm
        rw [x2 l q (bx hl)]
        by_cases g : 0 < S.T l j
        · have := w4 l q hl g
          omega
        · omega
      · obtain ⟨l, hl⟩ := List.mem_iff_getElem?.mp hm
        by_cases g : l = j
        · rw [g, s.hf] at hl
          rw [← Option.some.inj hl, x1]
          omega
        · rw [x3 l q (fx hl) g]
          omega
    · obtain ⟨l, hl⟩ := List.mem_iff_getElem?.mp hq
      refine x3 l q (fx hl) fun z => ?_
      rw [z, s.hf] at hl
      have := Option.some.inj hl
      omega
    · rw [x2 m (m + n) bF]
      omega
    · exact x3 n _ fG (by omega)
end
end Ca.Det
set_option Elab.async false
set_option linter.all false
set_option maxRecDepth 100000
set_option maxHeartbeats 4000000
namespace Ca.Det
section
variable {V : Nat → Col} {m n : Nat} {S S' S1 S1' : Sta} {i j b i' j' f' k : Nat}
theorem Ok.ker (h : Ok V m n S) {y : Nat → Int} (hy : Ker V y (List.range (m + n) ++ [m + n, m + n + 1])) : Ker V y ((S.bs ++ [m + n]) ++ (S.fs ++ [m + n + 1])) := fun r => by
  rw [msum_perm h.allPerm]
  exact hy r
theorem Ok.bat (h : Ok V m n S) {l q : Nat} (e : S.bs[l]? = some q) : (S.bs ++ [m + n])[l]? = some q := by rw [List.getElem?_append_left (List.getElem?_eq_some_iff.mp e).1]; exact e
theorem Ok.fat (h : Ok V m n S) {l q : Nat} (e : S.fs[l]? = some q) : (S.fs ++ [m + n + 1])[l]? = some q := by rw [List.getElem?_append_left (List.getElem?_eq_some_iff.mp e).1]; exact e
theorem Ok.bF (h : Ok V m n S) : (S.bs ++ [m + n])[m]? = some (m + n) := by rw [List.getElem?_append_right (by rw [h.bl]; exact Nat.le_refl _), h.bl, Nat.sub_self]; rfl
theorem Ok.fG (h : Ok V m n S) : (S.fs ++ [m + n + 1])[n]? = some (m + n + 1) := by rw [List.getElem?_append_right (by rw [h.fl]; exact Nat.le_refl _), h.fl, Nat.sub_self]; rfl
/-- the amounts that a state tells -/
theorem Ok.atG (h : Ok V m n S) : ∃ y : Nat → Int, Ker V y (List.range (m + n) ++ [m + n, m + n + 1]) ∧ (∀ l q, S.bs[l]? = some q → y q = S.T l n) ∧ y (m + n) = S.T m n ∧ y (m + n + 1) = - S.D ∧ ∀ q ∈ S.fs, y q = 0 := by
  obtain ⟨x, kx, x1, x2, x3⟩ := h.dic.col h.allNd h.fG
  refine ⟨fun q => - x q, fun r => ?_, fun l q hl => ?_, ?_, ?_, fun q hq => ?_⟩
  · have := kx r
    rw [msum_perm h.allPerm] at this
    have e := msum_mul (fun q => x q * V q r) (-1) (List.range (m + n) ++ [m + n, m + n + 1])
    rw [this] at e
    have : (fun q => - x q * V q r) = (fun q => -1 * (x q * V q r)) := funext fun q => by grind
    rw [this, e]
    rfl
  · show - x q = _
    rw [x2 l q (h.bat hl)]
    omega
  · show - x (m + n) = _
    rw [x2 m (m + n) h.bF]
    omega
  · show - x (m + n + 1) = _
    rw [x1]
  · show - x q = 0
    obtain ⟨l, hl⟩ := List.mem_iff_getElem?.mp hq
    have := (List.getElem?_eq_some_iff.mp hl).1
    have fl := h.fl
    rw [x3 l q (h.fat hl) (by omega)]
    rfl
theorem Ok.rowAt (h : Ok V m n S) {y : Nat → Int} (hy : Ker V y (List.range (m + n) ++ [m + n, m + n + 1])) {i b : Nat} (hb : (S.bs ++ [m + n])[i]? = some b) : S.D * y b + fsum (fun j q => S.T i j * y q) 0 S.fs + S.T i n * y (m + n + 1) = 0 := by
  have e := h.dic.row (h.ker hy) hb
  rw [fsum_app, Nat.zero_add, h.fl] at e
  omega
theorem clash (h : Ok V m n S) (s : Step m n S S1 i j b k) (h' : Ok V m n S') (s' : Step m n S' S1' i' j' k f') (hbk : b ≤ k) (hfk : f' ≤ k) (e1 : ∀ q, k < q → q ∈ S.fs → q ∈ S'.fs) (e2 : ∀ q, k < q → q ∈ S'.fs → q ∈ S.fs) : False := by
  have hD := h.dic.pos
  have hD' := h'.dic.pos
  have kf : k ∈ S.fs := List.mem_of_getElem? s.hf
  have kb' : k ∈ S'.bs := List.mem_of_getElem? s'.hb
  have bb : b ∈ S.bs := List.mem_of_getElem? s.hb
  have bne : b ≠ k := fun z => h.apart (q := k) (by rw [← z]; exact bb) kf
  have ltq : ∀ {q : Nat}, q ∈ S.fs → q < m + n := fun hq => h.lt (List.mem_append_right _ hq)
  have ltb : b < m + n := h.lt (List.mem_append_left _ bb)
  obtain ⟨y, ky, yk, ylo, yhi, yG⟩ := leaves h' s'
  have uniq : ∀ l, S.fs[l]? = some k → l = j := fun l hl => by
    have l1 := (List.getElem?_eq_some_iff.mp hl).1
    exact (List.getElem?_inj l1 h.fsnd).mp (by rw [hl, s.hf])
  -- the sum over the free ones
  have sum : ∀ t : Nat, S.T t j < 0 → (∀ l q, S.fs[l]? = some q → q < k → 0 ≤ S.T t l) → 0 < fsum (fun j q => S.T t j * y q) 0 S.fs := fun t ht hq => by
    refine fsum_pos S.fs 0 j k s.hf ?_ fun l q hl => ?_
    · rw [Nat.zero_add]
      exact Int.mul_pos_of_neg_of_neg ht yk
    · rw [Nat.zero_add]
      have qf := List.mem_of_getElem? hl
      rcases Nat.lt_trichotomy q k with g | g | g
      · exact Int.mul_nonneg (hq l q hl g) (ylo q (ltq qf) g)
      · rw [g] at hl ⊢
        rw [uniq l hl]
        exact Int.le_of_lt (Int.mul_pos_of_neg_of_neg ht yk)
      · rw [yhi q (e1 q g qf) g hfk]
        simp
  rcases s.way with ⟨w1, w2, w3, w4⟩ | ⟨w1, w2, w3, w4⟩
  · have e := h.rowAt ky (h.bat s.hb)
    have p := sum i w2 fun l q hl g => by
      by_cases z : S.T i l < 0
      · have := w4 l q hl z
        omega
      · omega
    have y0 : 0 ≤ S.D * y b := Int.mul_nonneg (by omega) (ylo b ltb (by omega))
    have g0 : 0 ≤ S.T i n * y (m + n + 1) := by
      rcases yG with ⟨_, g, _⟩ | ⟨_, g⟩
      · rw [g]
        exact Int.le_of_lt (Int.mul_pos_of_neg_of_neg w1 (by omega))
      · rw [g]
        simp
    omega
  · have e := h.rowAt ky h.bF
    have p := sum m w1 fun l q hl g => by
      by_cases z : S.T m l < 0
      · have := w3 q (.inr ⟨l, hl, z⟩)
        omega
      · omega
    rcases yG with ⟨gF, gG, gw, gz⟩ | ⟨gF, gG⟩
    · obtain ⟨z, kz, zb, zF, zG, zf⟩ := h.atG
      have e' := h'.rowAt kz h'.bF
      have p' : 0 ≤ fsum (fun j q => S'.T m j * z q) 0 S'.fs := fsum_nonneg S'.fs 0 fun l q hl => by
        rw [Nat.zero_add]
        have qf := List.mem_of_getElem? hl
        have qlt := h'.lt (List.mem_append_right S'.bs qf)
        rcases Nat.lt_trichotomy q k with g | g | g
        · refine Int.mul_nonneg ?_ ?_
          · by_cases w : S'.T m l < 0
            · have := gw q (.inr ⟨l, hl, w⟩)
              omega
            · omega
          · rcases h.mem qlt with hm | hm
            · obtain ⟨l2, hl2⟩ := List.mem_iff_getElem?.mp hm
              rw [zb l2 q hl2]
              by_cases w : S.T l2 n < 0
              · have := w3 q (.inl ⟨l2, hl2, w⟩)
                omega
              · omega
            · rw [zf q hm]
              exact Int.le_refl 0
        · exact absurd qf fun w => h'.apart (by rw [g]; exact kb') w
        · rw [zf q (e2 q g qf)]
          simp
      rw [gF, gG] at e
      rw [zF, zG] at e'
      have c1 : S.D * S'.T m n = S'.T m n * S.D := Int.mul_comm _ _
      have c2 : S'.D * S.T m n = S.T m n * S'.D := Int.mul_comm _ _
      have c3 : S.T m n * -S'.D = -(S.T m n * S'.D) := Int.mul_neg _ _
      have c4 : S'.T m n * -S.D = -(S'.T m n * S.D) := Int.mul_neg _ _
      omega
    · rw [gG] at e
      have : 0 < S.D * y (m + n) := Int.mul_pos hD gF
      have : S.T m n * 0 = 0 := Int.mul_zero _
      omega
end
/-! ### no state comes back -/
def Moved (s : Nat → Sta) (a c q : Nat) : Prop := ∃ u, a ≤ u ∧ u < c ∧ ¬ (q ∈ (s u).bs ↔ q ∈ (s (u + 1)).bs)
theorem set_mem {α : Type} {l : List α} {i : Nat} {a c q : α} (nd : l.Nodup) (h : l[i]? = some a) : q ∈ l.set i c ↔ (q = c ∨ (q ∈ l ∧ q ≠ a)) := by
  obtain ⟨l1, l2, rfl, rfl⟩ := split_at h
  rw [set_at]
  obtain ⟨n1, n2, n3⟩ := List.nodup_append.mp nd
  obtain ⟨n4, n5⟩ := List.nodup_cons.mp n2
  simp only [List.mem_append, List.mem_cons]
  constructor
  · rintro (g | g | g)
    · exact .inr ⟨.inl g, n3 q g a (List.mem_cons_self ..)⟩
    · exact .inl g
    · exact .inr ⟨.inr (.inr g), fun z => n4 (by rw [← z]; exact g)⟩
  · rintro (g | ⟨g | g | g, ne⟩)
    · exact .inr (.inl g)
    · exact .inl g
    · exact absurd g ne
    · exact .inr (.inr g)
theorem flip_back {p : Nat → Prop} {a c : Nat} (h : p a ↔ p c) {u : Nat} (h1 : a ≤ u) (h2 : u < c) (h3 : ¬ (p u ↔ p (u + 1))) : (∃ v, a ≤ v ∧ v < c ∧ p v ∧ ¬ p (v + 1)) ∧ (∃ v, a ≤ v ∧ v < c ∧ ¬ p v ∧ p (v + 1)) := by
  have down : (¬ ∃ v, a ≤ v ∧ v < c ∧ ¬ p v ∧ p (v + 1)) → ∀ d v, a ≤ v → v + d ≤ c → ¬ p v → ¬ p (v + d) := fun no d => by
    induction d with
    | zero => intro v _ _ h; exact h
    | succ d ih =>
      intro v hv hc h z
      have := ih v hv (by omega) h
      exact no ⟨v + d, by omega, by omega, this, z⟩
  have up : (¬ ∃ v, a ≤ v ∧ v < c ∧ p v ∧ ¬ p (v + 1)) → ∀ d v, a ≤ v → v + d ≤ c → p v → p (v + d) := fun no d => by
    induction d with
    | zero => intro v _ _ h; exact h
    | succ d ih =>
      intro v hv hc h
      have := ih v hv (by omega) h
      exact Classical.byContradiction fun z => no ⟨v + d, by omega, by omega, this, z⟩
  refine ⟨Classical.byContradiction fun no => ?_, Classical.byContradiction fun no => ?_⟩
  · by_cases pu : p u
    · exact h3 ⟨fun _ => Classical.byContradiction fun z => no ⟨u, h1, h2, pu, z⟩, fun _ => pu⟩
    · have pu1 : p (u + 1) := Classical.byContradiction fun z => h3 ⟨fun w => absurd w pu, fun w => absurd w z⟩
      have pc := up no (c - (u + 1)) (u + 1) (by omega) (by omega) pu1
      rw [show u + 1 + (c - (u + 1)) = c by omega] at pc
      have pa := h.mpr pc
      have := up no (u - a) a (Nat.le_refl _) (by omega) pa
      rw [show a + (u - a) = u by omega] at this
      exact pu this
  · by_cases pu : p u
    · have pu1 : ¬ p (u + 1) := fun z => h3 ⟨fun _ => z, fun _ => pu⟩
      have pc := down no (c - (u + 1)) (u + 1) (by omega) (by omega) pu1
      rw [show u + 1 + (c - (u + 1)) = c by omega] at pc
      have pa : ¬ p a := fun z => pc (h.mp z)
      have := down no (u - a) a (Nat.le_refl _) (by omega) pa
      rw [show a + (u - a) = u by omega] at this
      exact this pu
    · exact h3 ⟨fun w => absurd w pu, fun w => absurd ⟨u, h1, h2, pu, w⟩ no⟩
theorem greatest {p : Nat → Prop} : ∀ (N : Nat), (∃ q, q < N ∧ p q) → ∃ k, k < N ∧ p k ∧ ∀ q, q < N → p q → q ≤ k
  | 0, ⟨q, h, _⟩ => absurd h (Nat.not_lt_zero _)
  | N + 1, ⟨q, h, hq⟩ => by
    by_cases g : p N
    · exact ⟨N, Nat.lt_succ_self _, g, fun q hq _ => Nat.le_of_lt_succ hq⟩
    · have : q ≠ N := fun z => g (z ▸ hq)
      obtain ⟨k, k1, k2, k3⟩ := greatest N ⟨q, by omega, hq⟩
      refine ⟨k, by omega, k2, fun r hr pr => ?_⟩
      have : r ≠ N := fun z => g (z ▸ pr)
      exact k3 r (by omega) pr
theorem no_cycle {V : Nat → Col} {m n : Nat} {s : Nat → Sta} {a c : Nat} (hac : a < c) (ok : ∀ u, u ≤ c → Ok V m n (s u)) (st : ∀ u, u < c → ∃ i j b f, Step m n (s u) (s (u + 1)) i j b f) (same : ∀ q, q < m + n → (q ∈ (s a).bs ↔ q ∈ (s c).bs)) : False := by
  -- what a step moves
  have mv : ∀ u i j b f, u < c → Step m n (s u) (s (u + 1)) i j b f → (b ∈ (s u).bs ∧ ¬ b ∈ (s (u + 1)).bs) ∧ (¬ f ∈ (s u).bs ∧ f ∈ (s (u + 1)).bs) ∧ ∀ q, q ≠ b → q ≠ f → (q ∈ (s u).bs ↔ q ∈ (s (u + 1)).bs) := fun u i j b f hu t => by
    have o := ok u (by omega)
    have fb : ¬ f ∈ (s u).bs := fun z => o.apart z (List.mem_of_getElem? t.hf)
    have bb := List.mem_of_getElem? t.hb
    have e : ∀ q, q ∈ (s (u + 1)).bs ↔ (q = f ∨ (q ∈ (s u).bs ∧ q ≠ b)) := fun q => by
      rw [t.to]
      exact set_mem o.bsnd t.hb
    refine ⟨⟨bb, fun z => ?_⟩, ⟨fb, (e f).mpr (.inl rfl)⟩, fun q q1 q2 => ?_⟩
    · rcases (e b).mp z with g | g
      · exact fb (g ▸ bb)
      · exact g.2 rfl
    · rw [e q]
      exact ⟨fun z => .inr ⟨z, q1⟩, fun z => z.elim (fun g => absurd g q2) fun g => g.1⟩
  obtain ⟨k, kN, km, kx⟩ : ∃ k, k < m + n ∧ Moved s a c k ∧ ∀ q, q < m + n → Moved s a c q → q ≤ k := by
    refine greatest (m + n) ?_
    obtain ⟨i, j, b, f, t⟩ := st a hac
    obtain ⟨⟨b1, b2⟩, _, _⟩ := mv a i j b f hac t
    exact ⟨b, (ok a (by omega)).lt (List.mem_append_left _ b1), a, Nat.le_refl _, hac, fun z => b2 (z.mp b1)⟩
  have moved_le : ∀ u i j b f, a ≤ u → u < c → Step m n (s u) (s (u + 1)) i j b f → b ≤ k ∧ f ≤ k := fun u i j b f ha hu t => by
    obtain ⟨⟨b1, b2⟩, ⟨f1, f2⟩, _⟩ := mv u i j b f hu t
    have o := ok u (by omega)
    exact ⟨kx b (o.lt (List.mem_append_left _ b1)) ⟨u, ha, hu, fun z => b2 (z.mp b1)⟩, kx f (o.lt (List.mem_append_right _ (List.mem_of_getElem? t.hf))) ⟨u, ha, hu, fun z => f1 (z.mpr f2)⟩⟩
  -- what is greater stays
  have stay : ∀ q, k < q → q < m + n → ∀ d, a + d ≤ c → (q ∈ (s a).bs ↔ q ∈ (s (a + d)).bs) := fun q hq hl d => by
    induction d with
    | zero => intro _; exact Iff.rfl
    | succ d ih =>
      intro hd
      refine (ih (by omega)).trans (Classical.byContradiction fun z => ?_)
      have := kx q hl ⟨a + d, by omega, by omega, z⟩
      omega
  have stay2 : ∀ q, k < q → q < m + n → ∀ u v, a ≤ u → u ≤ c → a ≤ v → v ≤ c → (q ∈ (s u).bs ↔ q ∈ (s v).bs) := fun q hq hl u v hu hu' hv hv' => by
    have x := stay q hq hl (u - a) (by omega)
    have y := stay q hq hl (v - a) (by omega)
    rw [show a + (u - a) = u by omega] at x
    rw [show a + (v - a) = v by omega] at y
    exact x.symm.trans y
  obtain ⟨w, w1, w2, w3⟩ := km
  obtain ⟨⟨v, v1, v2, v3, v4⟩, ⟨u, u1, u2, u3, u4⟩⟩ := flip_back (p := fun t => k ∈ (s t).bs) (same k kN) w1 w2 w3
  obtain ⟨i, j, b, f, t⟩ := st u u2
  obtain ⟨i', j', b', f', t'⟩ := st v v2
  have fk : f = k := by
    obtain ⟨⟨x1, x2⟩, _, x3⟩ := mv u i j b f u2 t
    by_cases g : k = b
    · exact absurd u4 (by rw [g]; exact x2)
    · by_cases g2 : k = f
      · exact g2.symm
      · exact absurd ((x3 k g g2).mpr u4) u3
  have bk : b' = k := by
    obtain ⟨_, ⟨x1, x2⟩, x3⟩ := mv v i' j' b' f' v2 t'
    by_cases g : k = f'
    · exact absurd v3 (by rw [g]; exact x1)
    · by_cases g2 : k = b'
      · exact g2.symm
      · exact absurd ((x3 k g2 g).mp v3) v4
  subst fk
  subst bk
  have o1 := ok u (by omega)
  have o2 := ok v (by omega)
  refine clash o1 t o2 t' (moved_le u i j b _ u1 u2 t).1 (moved_le v i' j' _ f' v1 v2 t').2 (fun q hq hf => ?_) (fun q hq hf => ?_)
  · have hl := o1.lt (List.mem_append_right _ hf)
    rcases o2.mem hl with g | g
    · exact absurd ((stay2 q hq hl u v u1 (by omega) v1 (by omega)).mpr g) fun z => o1.apart z hf
    · exact g
  · have hl := o2.lt (List.mem_append_right _ hf)
    rcases o1.mem hl with g | g
    · exact absurd ((stay2 q hq hl u v u1 (by omega) v1 (by omega)).mp g) fun z => o2.apart z hf
    · exact g
end Ca.Det
set_option Elab.async false
set_option linter.all false
set_option maxRecDepth 100000
set_option maxHeartbeats 4000000
namespace Ca.Det
/-! ### so it ends -/
theorem pigeon : ∀ (N t : Nat) (f : Nat → Nat), N ≤ t → (∀ u, u ≤ t → f u < N) → ∃ a c, a < c ∧ c ≤ t ∧ f a = f c
  | 0, t, f, _, h => absurd (h 0 (Nat.zero_le _)) (Nat.not_lt_zero _)
  | N + 1, t, f, hN, h => by
    by_cases g : ∃ u, u ≤ t ∧ f u = N
    · obtain ⟨u0, h0, e0⟩ := g
      by_cases pr : ∃ u, u ≤ t ∧ u ≠ u0 ∧ f u = N
      · obtain ⟨u, hu, ne, e⟩ := pr
        rcases Nat.lt_or_gt_of_ne ne with g | g
        · exact ⟨u, u0, g, h0, by rw [e, e0]⟩
        · exact ⟨u0, u, g, hu, by rw [e, e0]⟩
      · obtain ⟨a, c, h1, h2, h3⟩ := pigeon N (t - 1) (fun u => f (if u < u0 then u else u + 1)) (by omega) fun u hu => by
          show f (if u < u0 then u else u + 1) < N
          have hle : (if u < u0 then u else u + 1) ≤ t := by split <;> omega
          have hne : (if u < u0 then u else u + 1) ≠ u0 := by split <;> omega
          have := h _ hle
          have : f (if u < u0 then u else u + 1) ≠ N := fun z => pr ⟨_, hle, hne, z⟩
          omega
        refine ⟨if a < u0 then a else a + 1, if c < u0 then c else c + 1, ?_, ?_, h3⟩
        · split <;> split <;> omega
        · split <;> omega
    · exact pigeon N t f (by omega) fun u hu => by
        have := h u hu
        have : f u ≠ N := fun z => g ⟨u, hu, z⟩
        omega
open Classical in
noncomputable def mask (p : Nat → Prop) : Nat → Nat
  | 0 => 0
  | N + 1 => mask p N + if p N then 2 ^ N else 0
theorem mask_lt (p : Nat → Prop) : ∀ N, mask p N < 2 ^ N
  | 0 => by
    show 0 < 1
    decide
  | N + 1 => by
    have := mask_lt p N
    unfold mask
    rw [Nat.pow_succ]
    split <;> omega
theorem mask_inj {p r : Nat → Prop} : ∀ N, mask p N = mask r N → ∀ q, q < N → (p q ↔ r q)
  | 0, _, q, h => absurd h (Nat.not_lt_zero _)
  | N + 1, e, q, h => by
    have a := mask_lt p N
    have b := mask_lt r N
    unfold mask at e
    have top : p N ↔ r N := by
      by_cases g1 : p N <;> by_cases g2 : r N
      · exact ⟨fun _ => g2, fun _ => g1⟩
      · rw [if_pos g1, if_neg g2] at e
        omega
      · rw [if_neg g1, if_pos g2] at e
        omega
      · exact ⟨fun z => absurd z g1, fun z => absurd z g2⟩
    by_cases g : q = N
    · rw [g]
      exact top
    · refine mask_inj N ?_ q (by omega)
      by_cases g1 : p N
      · rw [if_pos g1, if_pos (top.mp g1)] at e
        omega
      · rw [if_neg g1, if_neg (fun z => g1 (top.mpr z))] at e
        omega
/-- behind so many exchanges -/
structure Reach (V : Nat → Col) (m n : Nat) (S0 : Sta) (t : Nat) (S : Sta) : Prop where
  ex : ∃ s : Nat → Sta, s 0 = S0 ∧ s t = S ∧ (∀ u, u ≤ t → Ok V m n (s u)) ∧ ∀ u, u < t → ∃ i j b f, Step m n (s u) (s (u + 1)) i j b f
section
variable {V : Nat → Col} {m n t : Nat} {S0 S S' : Sta}
theorem Reach.start (h : Ok V m n S0) : Reach V m n S0 0 S0 := ⟨fun _ => S0, rfl, rfl, fun _ _ => h, fun u hu => absurd hu (Nat.not_lt_zero _)⟩
theorem Reach.ok (h : Reach V m n S0 t S) : Ok V m n S := by
  obtain ⟨s, _, rfl, o, _⟩ := h.ex
  exact o t (Nat.le_refl _)
theorem Reach.step (h : Reach V m n S0 t S) {i j b f : Nat} (x : Step m n S S' i j b f) : Reach V m n S0 (t + 1) S' := by
  have o' := h.ok.step x
  obtain ⟨s, e0, rfl, o, st⟩ := h.ex
  refine ⟨fun u => if u ≤ t then s u else S', ?_, ?_, fun u hu => ?_, fun u hu => ?_⟩
  · simp only [Nat.zero_le, if_true]
    exact e0
  · show (if t + 1 ≤ t then _ else S') = S'
    rw [if_neg (by omega)]
  · show Ok V m n (if u ≤ t then s u else S')
    split
    · exact o u (by assumption)
    · exact o'
  · show ∃ i j b f, Step m n (if u ≤ t then s u else S') (if u + 1 ≤ t then s (u + 1) else S') i j b f
    rw [if_pos (by omega)]
    by_cases g : u + 1 ≤ t
    · rw [if_pos g]
      exact st u (by omega)
    · rw [if_neg g]
      have : u = t := by omega
      subst this
      exact ⟨i, j, b, f, x⟩
theorem Reach.bound (h : Reach V m n S0 t S) : t < 2 ^ (m + n) := by
  obtain ⟨s, _, _, o, st⟩ := h.ex
  refine Nat.lt_of_not_le fun g => ?_
  obtain ⟨a, c, h1, h2, h3⟩ := pigeon (2 ^ (m + n)) t (fun u => mask (fun q => q ∈ (s u).bs) (m + n)) g fun u _ => mask_lt _ _
  exact no_cycle h1 (fun u hu => o u (by omega)) (fun u hu => st u (by omega)) (mask_inj (m + n) h3)
/-! ### the first state -/
theorem det_unit : ∀ (k r : Nat) (E : Nat → Col), (∀ i l, i < k → l < k → E i (r + l) = if i = l then 1 else 0) → det k r ((List.range k).map E) = 1
  | 0, _, _, _ => rfl
  | k + 1, r, E, h => by
    have step : ∀ (post pre : List Nat), (∀ q ∈ post, E q r = 0) → alt (det k (r + 1)) r (pre.map E) (post.map E) = 0 := fun post => by
      induction post with
      | nil => intro pre _; rfl
      | cons q post ih =>
        intro pre hz
        have := ih (pre ++ [q]) fun p hp => hz p (List.mem_cons_of_mem _ hp)
        simp only [List.map_append, List.map_cons, List.map_nil] at this
        simp only [List.map_cons, alt]
        rw [this, hz q (List.mem_cons_self ..)]
        simp
    show alt (det k (r + 1)) r [] ((List.range (k + 1)).map E) = 1
    rw [List.range_succ_eq_map, List.map_cons, List.map_map]
    have ih := det_unit k (r + 1) (E ∘ Nat.succ) fun i l hi hl => by
      have := h (i + 1) (l + 1) (by omega) (by omega)
      show E (i + 1) (r + 1 + l) = _
      rw [show r + 1 + l = r + (l + 1) by omega, this]
      by_cases g : i = l
      · rw [if_pos g, if_pos (by omega)]
      · rw [if_neg g, if_neg (by omega)]
    have z := step ((List.range k).map Nat.succ) [0] fun q hq => by
      obtain ⟨l, hl, rfl⟩ := List.mem_map.mp hq
      have := h (l + 1) 0 (by have := List.mem_range.mp hl; omega) (by omega)
      exact this.trans (if_neg (by omega))
    have h0 := h 0 0 (by omega) (by omega)
    simp only [Nat.add_zero, if_true] at h0
    rw [List.map_map] at z
    simp only [List.map_cons, List.map_nil] at z
    simp only [alt, List.nil_append]
    rw [ih, z, h0]
    rfl
end
end Ca.Det
set_option Elab.async false
set_option linter.all false
set_option maxRecDepth 100000
set_option maxHeartbeats 4000000
namespace Ca.Det
/-! ### limits and costs -/
/-- the columns: amounts 0 to n - 1, what is left of each limit n to n + m - 1, the costs m + n, the bounds m + n + 1 -/
def colV (m n : Nat) (A : Nat → Nat → Int) (b c : Nat → Int) : Nat → Col := fun q r =>
  if q < n then (if r < m then A r q else if r = m then c q else 0) else if q ≤ m + n then (if r = q - n then 1 else 0) else (if r < m then b r else 0)
def T0 (m n : Nat) (A : Nat → Nat → Int) (b c : Nat → Int) : Nat → Nat → Int := fun i j => if i < m then (if j < n then A i j else b i) else (if j < n then c j else 0)
def S0 (m n : Nat) (A : Nat → Nat → Int) (b c : Nat → Int) : Sta := ⟨(List.range m).map (n + ·), List.range n, T0 m n A b c, 1⟩
theorem lsum_unit (E : Nat → Col) (c : Nat → Int) (r : Nat) : ∀ (k s : Nat), (∀ i, E i r = if r = i then 1 else 0) → lsum c (fun x => x r) s ((List.range' s k).map E) = if s ≤ r ∧ r < s + k then c r else 0
  | 0, s, _ => by
    show 0 = _
    rw [if_neg (by omega)]
  | k + 1, s, h => by
    have ih := lsum_unit E c r k (s + 1) h
    rw [List.range'_succ, List.map_cons]
    show c s * E s r + lsum c (fun x => x r) (s + 1) ((List.range' (s + 1) k).map E) = _
    rw [ih, h s]
    by_cases g : r = s
    · rw [if_pos g, if_neg (by omega), if_pos (by omega), g]
      omega
    · rw [if_neg g]
      by_cases g2 : s + 1 ≤ r ∧ r < s + 1 + k
      · rw [if_pos g2, if_pos (by omega)]
        omega
      · rw [if_neg g2, if_neg (by omega)]
        omega
section
variable {m n : Nat} {A : Nat → Nat → Int} {b c : Nat → Int}
theorem bs0 : (S0 m n A b c).bs ++ [m + n] = (List.range (m + 1)).map (n + ·) := by
  show (List.range m).map (n + ·) ++ [m + n] = _
  rw [List.range_succ, List.map_append, Nat.add_comm m n]
  rfl
theorem unitV (i r : Nat) (hi : i < m + 1) : colV m n A b c (n + i) r = if r = i then 1 else 0 := by
  unfold colV
  rw [if_neg (by omega), if_pos (by omega), Nat.add_sub_cancel_left]
theorem ok0 : Ok (colV m n A b c) m n (S0 m n A b c) := by
  refine ⟨by show ((List.range m).map _).length = m; rw [List.length_map, List.length_range], by show (List.range n).length = n; rw [List.length_range], ?_, ?_⟩
  · show ((List.range m).map (n + ·) ++ List.range n).Perm _
    rw [Nat.add_comm m n, List.range_add]
    exact List.perm_append_comm
  · refine ⟨by rw [bs0, List.length_map, List.length_range], by show (0 : Int) < 1; decide, ⟨1, .inl rfl, ?_⟩, fun j q hq r => ?_⟩
    · rw [bs0, List.map_map]
      have := det_unit (m + 1) 0 (colV m n A b c ∘ fun x => n + x) fun i l hi hl => by
        show colV m n A b c (n + i) (0 + l) = _
        rw [unitV i _ hi, Nat.zero_add]
        by_cases g : l = i
        · rw [if_pos g, if_pos g.symm]
        · rw [if_neg g, if_neg (Ne.symm g)]
      rw [this]
      rfl
    · rw [bs0, List.map_map]
      -- beyond the rows all is 0
      have e : lsum (fun i => T0 m n A b c i j) (fun x => x r) 0 ((List.range (m + 1)).map (colV m n A b c ∘ fun x => n + x)) = if r < m + 1 then T0 m n A b c r j else 0 := by
        have e1 : ((List.range (m + 1)).map (colV m n A b c ∘ fun x => n + x)) = (List.range' 0 (m + 1)).map (fun i r => if r = i then (1 : Int) else 0) := by
          rw [List.range_eq_range']
          refine List.map_congr_left fun i hi => ?_
          have := List.mem_range'_1.mp hi
          exact funext fun r => unitV i r (by omega)
        rw [e1, lsum_unit (fun i r => if r = i then (1 : Int) else 0) _ r (m + 1) 0 fun i => rfl]
        simp
      show 1 * colV m n A b c q r = lsum (fun i => T0 m n A b c i j) (fun x => x r) 0 _
      rw [e]
      have hq' : (List.range n ++ [m + n + 1])[j]? = some q := hq
      by_cases hj : j < n
      · rw [List.getElem?_append_left (by rw [List.length_range]; exact hj), List.getElem?_range hj] at hq'
        obtain rfl := Option.some.inj hq'
        unfold colV T0
        rw [if_pos hj]
        by_cases g : r < m
        · simp only [if_pos g, if_pos hj, if_pos (show r < m + 1 by omega)]
          omega
        · by_cases g2 : r = m
          · simp only [if_neg g, if_pos g2, if_pos hj, if_pos (show r < m + 1 by omega)]
            omega
          · simp only [if_neg g, if_neg g2, if_neg (show ¬ r < m + 1 by omega)]
            rfl
      · rw [List.getElem?_append_right (by rw [List.length_range]; omega), List.length_range] at hq'
        have : j = n := by
          have := (List.getElem?_eq_some_iff.mp hq').1
          simp only [List.length_singleton] at this
          omega
        subst this
        rw [Nat.sub_self] at hq'
        obtain rfl := Option.some.inj hq'
        unfold colV T0
        rw [if_neg (by omega), if_neg (by omega)]
        by_cases g : r < m
        · simp only [if_pos g, if_neg hj, if_pos (show r < m + 1 by omega)]
          omega
        · by_cases g2 : r < m + 1
          · simp only [if_neg g, if_neg hj, if_pos g2]
            rfl
          · simp only [if_neg g, if_neg g2]
            rfl
end
end Ca.Det
set_option Elab.async false
set_option linter.all false
set_option maxRecDepth 100000
set_option maxHeartbeats 4000000
namespace Ca.Det
/-! ### what a state tells of limits and costs -/
theorem msum_zero {g : Nat → Int} : ∀ l : List Nat, (∀ q ∈ l, g q = 0) → msum g l = 0
  | [], _ => rfl
  | q :: l, h => by
    simp only [msum]
    rw [h q (List.mem_cons_self ..), msum_zero l fun p hp => h p (List.mem_cons_of_mem _ hp)]
    rfl
theorem msum_congr {g h : Nat → Int} : ∀ l : List Nat, (∀ q ∈ l, g q = h q) → msum g l = msum h l
  | [], _ => rfl
  | q :: l, e => by
    simp only [msum]
    rw [e q (List.mem_cons_self ..), msum_congr l fun p hp => e p (List.mem_cons_of_mem _ hp)]
theorem msum_only {g : Nat → Int} {i : Nat} : ∀ l : List Nat, l.Nodup → i ∈ l → (∀ q ∈ l, q ≠ i → g q = 0) → msum g l = g i
  | [], _, h, _ => by cases h
  | q :: l, nd, h, z => by
    obtain ⟨n1, n2⟩ := List.nodup_cons.mp nd
    simp only [msum]
    by_cases e : q = i
    · subst e
      rw [msum_zero l fun p hp => z p (List.mem_cons_of_mem _ hp) fun w => n1 (w ▸ hp)]
      omega
    · have hi : i ∈ l := by
        rcases List.mem_cons.mp h with g | g
        · exact absurd g.symm e
        · exact g
      rw [z q (List.mem_cons_self ..) e, msum_only l n2 hi fun p hp => z p (List.mem_cons_of_mem _ hp)]
      omega
theorem msum_map (g : Nat → Int) (f : Nat → Nat) : ∀ l : List Nat, msum g (l.map f) = msum (fun q => g (f q)) l
  | [] => rfl
  | q :: l => by simp only [List.map_cons, msum]; rw [msum_map g f l]
def rsum (g : Nat → Int) (k : Nat) : Int := msum g (List.range k)
section
variable {m n : Nat} {A : Nat → Nat → Int} {b c : Nat → Int} {S : Sta}
theorem msum_all (g : Nat → Int) : msum g (List.range (m + n) ++ [m + n, m + n + 1]) = rsum g n + rsum (fun i => g (n + i)) m + g (m + n) + g (m + n + 1) := by
  rw [msum_app, Nat.add_comm m n, List.range_add, msum_app, msum_map]
  simp only [msum]
  show rsum g n + rsum _ m + _ = _
  omega
/-- a vector that all agree upon, by rows -/
theorem ker_rows {y : Nat → Int} (h : Ker (colV m n A b c) y (List.range (m + n) ++ [m + n, m + n + 1])) : (∀ i, i < m → rsum (fun j => A i j * y j) n + y (n + i) + b i * y (m + n + 1) = 0) ∧ rsum (fun j => c j * y j) n + y (m + n) = 0 := by
  have one : ∀ i l, l < m → (colV m n A b c (n + l) i) = if i = l then 1 else 0 := fun i l hl => unitV l i (by omega)
  refine ⟨fun i hi => ?_, ?_⟩
  · have e := h i
    rw [msum_all] at e
    have e1 : rsum (fun q => y q * colV m n A b c q i) n = rsum (fun j => A i j * y j) n := msum_congr _ fun q hq => by
      have := List.mem_range.mp hq
      unfold colV
      rw [if_pos this, if_pos hi, Int.mul_comm]
    have e2 : rsum (fun l => y (n + l) * colV m n A b c (n + l) i) m = y (n + i) := by
      have := msum_only (g := fun l => y (n + l) * colV m n A b c (n + l) i) (i := i) (List.range m) List.nodup_range (List.mem_range.mpr hi) fun q hq ne => by
        rw [one i q (List.mem_range.mp hq), if_neg (Ne.symm ne), Int.mul_zero]
      rw [one i i hi, if_pos rfl, Int.mul_one] at this
      exact this
    have e3 : colV m n A b c (m + n) i = 0 := by
      unfold colV
      rw [if_neg (by omega), if_pos (by omega), if_neg (by omega)]
    have e4 : colV m n A b c (m + n + 1) i = b i := by
      unfold colV
      rw [if_neg (by omega), if_neg (by omega), if_pos hi]
    rw [e1, e2, e3, e4] at e
    rw [Int.mul_comm (b i)]
    omega
  · have e := h m
    rw [msum_all] at e
    have e1 : rsum (fun q => y q * colV m n A b c q m) n = rsum (fun j => c j * y j) n := msum_congr _ fun q hq => by
      have := List.mem_range.mp hq
      unfold colV
      rw [if_pos this, if_neg (by omega), if_pos rfl, Int.mul_comm]
    have e2 : rsum (fun l => y (n + l) * colV m n A b c (n + l) m) m = 0 := msum_zero _ fun q hq => by
      have := List.mem_range.mp hq
      rw [one m q this, if_neg (by omega), Int.mul_zero]
    have e3 : colV m n A b c (m + n) m = 1 := by
      unfold colV
      rw [if_neg (by omega), if_pos (by omega), if_pos (by omega)]
    have e4 : colV m n A b c (m + n + 1) m = 0 := by
      unfold colV
      rw [if_neg (by omega), if_neg (by omega), if_neg (by omega)]
    rw [e1, e2, e3, e4] at e
    omega
theorem ker_of {y : Nat → Int} (h1 : ∀ i, i < m → rsum (fun j => A i j * y j) n + y (n + i) + b i * y (m + n + 1) = 0) (h2 : rsum (fun j => c j * y j) n + y (m + n) = 0) : Ker (colV m n A b c) y (List.range (m + n) ++ [m + n, m + n + 1]) := fun r => by
  have one : ∀ i l, l < m → (colV m n A b c (n + l) i) = if i = l then 1 else 0 := fun i l hl => unitV l i (by omega)
  rw [msum_all]
  by_cases hr : r < m
  · have e1 : rsum (fun q => y q * colV m n A b c q r) n = rsum (fun j => A r j * y j) n := msum_congr _ fun q hq => by
      have := List.mem_range.mp hq
      unfold colV
      rw [if_pos this, if_pos hr, Int.mul_comm]
    have e2 : rsum (fun l => y (n + l) * colV m n A b c (n + l) r) m = y (n + r) := by
      have := msum_only (g := fun l => y (n + l) * colV m n A b c (n + l) r) (i := r) (List.range m) List.nodup_range (List.mem_range.mpr hr) fun q hq ne => by
        rw [one r q (List.mem_range.mp hq), if_neg (Ne.symm ne), Int.mul_zero]
      rw [one r r hr, if_pos rfl, Int.mul_one] at this
      exact this
    have e3 : colV m n A b c (m + n) r = 0 := by
      unfold colV
      rw [if_neg (by omega), if_pos (by omega), if_neg (by omega)]
    have e4 : colV m n A b c (m + n + 1) r = b r := by
      unfold colV
      rw [if_neg (by omega), if_neg (by omega), if_pos hr]
    have := h1 r hr
    rw [e1, e2, e3, e4]
    rw [Int.mul_comm (b r)] at this
    omega
  · by_cases hr2 : r = m
    · subst hr2
      have e1 : rsum (fun q => y q * colV r n A b c q r) n = rsum (fun j => c j * y j) n := msum_congr _ fun q hq => by
        have := List.mem_range.mp hq
        unfold colV
        rw [if_pos this, if_neg (by omega), if_pos rfl, Int.mul_comm]
      have e2 : rsum (fun l => y (n + l) * colV r n A b c (n + l) r) r = 0 := msum_zero _ fun q hq => by
        have := List.mem_range.mp hq
        rw [one r q this, if_neg (by omega), Int.mul_zero]
      have e3 : colV r n A b c (r + n) r = 1 := by
        unfold colV
        rw [if_neg (by omega), if_pos (by omega), if_pos (by omega)]
      have e4 : colV r n A b c (r + n + 1) r = 0 := by
        unfold colV
        rw [if_neg (by omega), if_neg (by omega), if_neg (by omega)]
      rw [e1, e2, e3, e4]
      omega
    · have z : ∀ q, colV m n A b c q r = 0 ∨ m + n < q := fun q => by
        unfold colV
        by_cases g : q < n
        · rw [if_pos g, if_neg hr, if_neg hr2]
          exact .inl rfl
        · by_cases g2 : q ≤ m + n
          · rw [if_neg g, if_pos g2, if_neg (by omega)]
            exact .inl rfl
          · exact .inr (by omega)
      have e1 : rsum (fun q => y q * colV m n A b c q r) n = 0 := msum_zero _ fun q hq => by
        have := List.mem_range.mp hq
        rcases z q with g | g
        · rw [g, Int.mul_zero]
        · omega
      have e2 : rsum (fun l => y (n + l) * colV m n A b c (n + l) r) m = 0 := msum_zero _ fun q hq => by
        have := List.mem_range.mp hq
        rcases z (n + q) with g | g
        · rw [g, Int.mul_zero]
        · omega
      have e3 : colV m n A b c (m + n) r = 0 := by
        rcases z (m + n) with g | g
        · exact g
        · omega
      have e4 : colV m n A b c (m + n + 1) r = 0 := by
        unfold colV
        rw [if_neg (by omega), if_neg (by omega), if_neg hr]
      rw [e1, e2, e3, e4]
      omega
/-- the amounts of a state, times D -/
theorem Ok.primal (h : Ok (colV m n A b c) m n S) : ∃ y : Nat → Int, (∀ l q, S.bs[l]? = some q → y q = S.T l n) ∧ (∀ q ∈ S.fs, y q = 0) ∧ (∀ i, i < m → rsum (fun j => A i j * y j) n + y (n + i) = S.D * b i) ∧ rsum (fun j => c j * y j) n = - S.T m n := by
  obtain ⟨y, ky, y1, y2, y3, y4⟩ := h.atG
  obtain ⟨k1, k2⟩ := ker_rows ky
  refine ⟨y, y1, y4, fun i hi => ?_, by omega⟩
  have := k1 i hi
  rw [y3, Int.mul_neg, Int.mul_comm] at this
  omega
/-- the weights of a line, times D -/
theorem Ok.dual (h : Ok (colV m n A b c) m n S) {W : Nat → Int} {t d : Nat} {e : Int} (ht : (S.bs ++ [m + n])[t]? = some d) (w1 : ∀ l q, S.fs[l]? = some q → W q = S.T t l) (w2 : ∀ q ∈ S.bs, W q = if q = d then S.D else 0) (he : e = if d = m + n then S.D else 0) :
    (∀ j, j < n → rsum (fun i => A i j * W (n + i)) m = W j - e * c j) ∧ rsum (fun i => b i * W (n + i)) m = S.T t n := by
  -- a row of the state, over all quantities
  have row : ∀ y : Nat → Int, Ker (colV m n A b c) y (List.range (m + n) ++ [m + n, m + n + 1]) → rsum (fun q => W q * y q) n + rsum (fun i => W (n + i) * y (n + i)) m + e * y (m + n) + S.T t n * y (m + n + 1) = 0 := fun y ky => by
    have r := h.rowAt ky ht
    have f1 : fsum (fun j q => S.T t j * y q) 0 S.fs = msum (fun q => W q * y q) S.fs := by
      rw [← fsum_msum (fun q => W q * y q) S.fs 0]
      exact fsum_congr S.fs 0 fun j q hq => by rw [Nat.zero_add, w1 j q hq]
    have f2 : msum (fun q => W q * y q) S.bs + e * y (m + n) = S.D * y d := by
      by_cases g : d = m + n
      · rw [msum_zero S.bs fun q hq => by
          have := h.lt (List.mem_append_left S.fs hq)
          rw [w2 q hq, if_neg (by omega), Int.zero_mul], he, if_pos g, g]
        omega
      · have dm : d ∈ S.bs := by
          have := List.mem_of_getElem? ht
          rcases List.mem_append.mp this with x | x
          · exact x
          · exact absurd (List.mem_singleton.mp x) g
        rw [msum_only (i := d) S.bs h.bsnd dm fun q hq ne => by rw [w2 q hq, if_neg ne, Int.zero_mul], w2 d dm, if_pos rfl, he, if_neg g]
        omega
    have f3 : msum (fun q => W q * y q) (S.bs ++ S.fs) = rsum (fun q => W q * y q) n + rsum (fun i => W (n + i) * y (n + i)) m := by
      rw [msum_perm h.pm, Nat.add_comm m n, List.range_add, msum_app, msum_map]
      rfl
    rw [msum_app] at f3
    omega
  refine ⟨fun j hj => ?_, ?_⟩
  · let y : Nat → Int := fun q => if q < n then (if q = j then 1 else 0) else if q < m + n then - A (q - n) j else if q = m + n then - c j else 0
    have yj : ∀ q, q < n → y q = if q = j then 1 else 0 := fun q hq => if_pos hq
    have yi : ∀ i, i < m → y (n + i) = - A i j := fun i hi => by
      show (if n + i < n then _ else if n + i < m + n then - A (n + i - n) j else _) = _
      rw [if_neg (by omega), if_pos (by omega), Nat.add_sub_cancel_left]
    have yF : y (m + n) = - c j := by
      show (if m + n < n then _ else if m + n < m + n then _ else if m + n = m + n then - c j else 0) = _
      rw [if_neg (by omega), if_neg (by omega), if_pos rfl]
    have yG : y (m + n + 1) = 0 := by
      show (if m + n + 1 < n then _ else if m + n + 1 < m + n then _ else if m + n + 1 = m + n then _ else 0) = _
      rw [if_neg (by omega), if_neg (by omega), if_neg (by omega)]
    have pick : ∀ g : Nat → Int, rsum (fun q => g q * y q) n = g j := fun g => by
      have := msum_only (g := fun q => g q * y q) (i := j) (List.range n) List.nodup_range (List.mem_range.mpr hj) fun q hq ne => by
        rw [yj q (List.mem_range.mp hq), if_neg ne, Int.mul_zero]
      rw [yj j hj, if_pos rfl, Int.mul_one] at this
      exact this
    have ky := ker_of (m := m) (n := n) (A := A) (b := b) (c := c) (y := y) (fun i hi => by
      rw [pick (fun q => A i q), yi i hi, yG]
      omega) (by
      rw [pick c, yF]
      omega)
    have r := row y ky
    rw [pick W, yF, yG] at r
    have s : rsum (fun i => W (n + i) * y (n + i)) m = - rsum (fun i => A i j * W (n + i)) m := by
      have := msum_mul (fun i => A i j * W (n + i)) (-1) (List.range m)
      have e2 : rsum (fun i => W (n + i) * y (n + i)) m = msum (fun i => -1 * (A i j * W (n + i))) (List.range m) := msum_congr _ fun i hi => by
        rw [yi i (List.mem_range.mp hi)]
        grind
      rw [e2, this]
      show -1 * rsum _ m = _
      omega
    rw [s, Int.mul_neg] at r
    omega
  · let y : Nat → Int := fun q => if q < n then 0 else if q < m + n then - b (q - n) else if q = m + n then 0 else 1
    have yj : ∀ q, q < n → y q = 0 := fun q hq => if_pos hq
    have yi : ∀ i, i < m → y (n + i) = - b i := fun i hi => by
      show (if n + i < n then _ else if n + i < m + n then - b (n + i - n) else _) = _
      rw [if_neg (by omega), if_pos (by omega), Nat.add_sub_cancel_left]
    have yF : y (m + n) = 0 := by
      show (if m + n < n then _ else if m + n < m + n then _ else if m + n = m + n then 0 else 1) = _
      rw [if_neg (by omega), if_neg (by omega), if_pos rfl]
    have yG : y (m + n + 1) = 1 := by
      show (if m + n + 1 < n then _ else if m + n + 1 < m + n then _ else if m + n + 1 = m + n then _ else 1) = _
      rw [if_neg (by omega), if_neg (by omega), if_neg (by omega)]
    have none : ∀ g : Nat → Int, rsum (fun q => g q * y q) n = 0 := fun g => msum_zero _ fun q hq => by rw [yj q (List.mem_range.mp hq), Int.mul_zero]
    have ky := ker_of (m := m) (n := n) (A := A) (b := b) (c := c) (y := y) (fun i hi => by
      rw [none (fun q => A i q), yi i hi, yG]
      omega) (by
      rw [none c, yF]
      rfl)
    have r := row y ky
    rw [none W, yF, yG] at r
    have s : rsum (fun i => W (n + i) * y (n + i)) m = - rsum (fun i => b i * W (n + i)) m := by
      have := msum_mul (fun i => b i * W (n + i)) (-1) (List.range m)
      have e2 : rsum (fun i => W (n + i) * y (n + i)) m = msum (fun i => -1 * (b i * W (n + i))) (List.range m) := msum_congr _ fun i hi => by
        rw [yi i (List.mem_range.mp hi)]
        grind
      rw [e2, this]
      show -1 * rsum _ m = _
      omega
    rw [s] at r
    omega
/-- with costs of 0 nothing is wrong in a column -/
theorem Ok.free (h : Ok (colV m n A b fun _ => 0) m n S) : ∀ j, j < n → S.T m j = 0 := fun j hj => by
  obtain ⟨f, hf⟩ : ∃ f, S.fs[j]? = some f := ⟨_, List.getElem?_eq_getElem (by rw [h.fl]; exact hj)⟩
  obtain ⟨x, kx, _, x2, _⟩ := h.dic.col h.allNd (h.fat hf)
  have kx' : Ker (colV m n A b fun _ => 0) x (List.range (m + n) ++ [m + n, m + n + 1]) := fun r => by rw [← msum_perm h.allPerm]; exact kx r
  obtain ⟨_, k2⟩ := ker_rows kx'
  have z : rsum (fun j => (0 : Int) * x j) n = 0 := msum_zero _ fun q _ => Int.zero_mul _
  rw [z] at k2
  have := x2 m (m + n) h.bF
  omega
end
end Ca.Det
set_option Elab.async false
set_option linter.all false
set_option maxRecDepth 100000
set_option maxHeartbeats 4000000
namespace Ca.Det
/-! ### how great the entries are -/
def nrm (r : Nat) : Nat → Col → Nat
  | 0, _ => 0
  | k + 1, x => (x r).natAbs + nrm (r + 1) k x
def prodN (g : Col → Nat) : List Col → Nat
  | [] => 1
  | x :: l => g x * prodN g l
theorem prodN_app (g : Col → Nat) : ∀ l l' : List Col, prodN g (l ++ l') = prodN g l * prodN g l'
  | [], l' => by simp [prodN]
  | x :: l, l' => by simp only [List.cons_append, prodN]; rw [prodN_app g l l', Nat.mul_assoc]
theorem prodN_le {g h : Col → Nat} : ∀ l : List Col, (∀ x ∈ l, g x ≤ h x) → prodN g l ≤ prodN h l
  | [], _ => Nat.le_refl _
  | x :: l, e => by
    simp only [prodN]
    exact Nat.mul_le_mul (e x (List.mem_cons_self ..)) (prodN_le l fun y hy => e y (List.mem_cons_of_mem _ hy))
theorem alt_le {f : Form} {k r : Nat} (hf : ∀ l : List Col, l.length = k → (f l).natAbs ≤ prodN (nrm (r + 1) k) l) : ∀ (post pre : List Col), pre.length + post.length = k + 1 →
    (alt f r pre post).natAbs + prodN (nrm (r + 1) k) pre * prodN (nrm (r + 1) k) post ≤ prodN (nrm (r + 1) k) pre * prodN (nrm r (k + 1)) post
  | [], pre, _ => by simp [alt, prodN]
  | x :: post, pre, h => by
    simp only [List.length_cons] at h
    have ih := alt_le hf post (pre ++ [x]) (by rw [List.length_append, List.length_singleton]; omega)
    have e := hf (pre ++ post) (by rw [List.length_append]; omega)
    rw [prodN_app] at e ih
    have le := prodN_le (g := nrm (r + 1) k) (h := nrm r (k + 1)) post fun y _ => by
      show _ ≤ (y r).natAbs + nrm (r + 1) k y
      omega
    have a1 : (alt f r pre (x :: post)).natAbs ≤ (x r).natAbs * (f (pre ++ post)).natAbs + (alt f r (pre ++ [x]) post).natAbs := by
      simp only [alt]
      rw [← Int.natAbs_mul]
      omega
    simp only [prodN, Nat.mul_one] at ih ⊢
    have a2 : (x r).natAbs * (f (pre ++ post)).natAbs ≤ (x r).natAbs * (prodN (nrm (r + 1) k) pre * prodN (nrm r (k + 1)) post) := Nat.mul_le_mul_left _ (Nat.le_trans e (Nat.mul_le_mul_left _ le))
    show _ ≤ prodN (nrm (r + 1) k) pre * (((x r).natAbs + nrm (r + 1) k x) * prodN (nrm r (k + 1)) post)
    generalize (alt f r pre (x :: post)).natAbs = a at *
    generalize (alt f r (pre ++ [x]) post).natAbs = a' at *
    generalize (x r).natAbs = u at *
    generalize (f (pre ++ post)).natAbs = v at *
    generalize prodN (nrm (r + 1) k) pre = P at *
    generalize nrm (r + 1) k x = N at *
    generalize prodN (nrm (r + 1) k) post = Q at *
    generalize prodN (nrm r (k + 1)) post = R at *
    have b1 : P * ((u + N) * R) = u * (P * R) + P * N * R := by grind
    have b2 : P * (N * Q) = P * N * Q := by grind
    omega
theorem det_le : ∀ (k r : Nat) (l : List Col), l.length = k → (det k r l).natAbs ≤ prodN (nrm r k) l
  | 0, _, l, h => by
    rw [List.length_eq_zero_iff.mp h]
    show (1 : Int).natAbs ≤ 1
    decide
  | k + 1, r, l, h => by
    have := alt_le (f := det k (r + 1)) (k := k) (r := r) (det_le k (r + 1)) l [] (by simpa using h)
    simp only [prodN, Nat.one_mul] at this
    show (alt (det k (r + 1)) r [] l).natAbs ≤ _
    omega
/-- at most n of the columns are greater than 1 -/
theorem prodN_pow (g : Col → Nat) (V : Nat → Col) (K n : Nat) (hK : 1 ≤ K) : ∀ l : List Nat, (∀ q ∈ l, g (V q) ≤ K) → (∀ q ∈ l, n ≤ q → g (V q) ≤ 1) → l.Nodup → ∀ k, (∀ s : List Nat, s.Nodup → (∀ q ∈ s, q ∈ l ∧ q < n) → s.length ≤ k) → prodN g (l.map V) ≤ K ^ k
  | [], _, _, _, k, _ => Nat.one_le_pow _ _ hK
  | q :: l, big, small, nd, k, h => by
    have big' := fun p hp => big p (List.mem_cons_of_mem q hp)
    have small' := fun p hp => small p (List.mem_cons_of_mem q hp)
    obtain ⟨n1, n2⟩ := List.nodup_cons.mp nd
    simp only [List.map_cons, prodN]
    by_cases hq : q < n
    · have k1 := h [q] (by simp) fun p hp => by rw [List.mem_singleton.mp hp]; exact ⟨List.mem_cons_self .., hq⟩
      obtain ⟨k', rfl⟩ : ∃ k', k = k' + 1 := ⟨k - 1, by simp only [List.length_singleton] at k1; omega⟩
      have ih := prodN_pow g V K n hK l big' small' n2 k' fun s hs hm => by
        have := h (q :: s) (List.nodup_cons.mpr ⟨fun z => n1 (hm q z).1, hs⟩) fun p hp => by
          rcases List.mem_cons.mp hp with rfl | hp
          · exact ⟨List.mem_cons_self .., hq⟩
          · exact ⟨List.mem_cons_of_mem _ (hm p hp).1, (hm p hp).2⟩
        simp only [List.length_cons] at this
        omega
      rw [Nat.pow_succ, Nat.mul_comm (K ^ k')]
      exact Nat.mul_le_mul (big q (List.mem_cons_self ..)) ih
    · have ih := prodN_pow g V K n hK l big' small' n2 k fun s hs hm => h s hs fun p hp => ⟨List.mem_cons_of_mem _ (hm p hp).1, (hm p hp).2⟩
      have := Nat.mul_le_mul (small q (List.mem_cons_self ..) (by omega)) ih
      omega
theorem few_below : ∀ (n : Nat) (s : List Nat), s.Nodup → (∀ q ∈ s, q < n) → s.length ≤ n
  | 0, [], _, _ => Nat.le_refl _
  | 0, q :: s, _, h => absurd (h q (List.mem_cons_self ..)) (Nat.not_lt_zero _)
  | n + 1, s, nd, h => by
    have ih := few_below n (s.erase n) (nd.erase n) fun q hq => by
      have := h q (List.mem_of_mem_erase hq)
      have : q ≠ n := fun z => by
        rw [z] at hq
        exact (List.Nodup.mem_erase_iff nd).mp hq |>.1 rfl
      omega
    have := List.length_erase_le (a := n) (l := s)
    by_cases g : n ∈ s
    · rw [List.length_erase_of_mem g] at ih
      omega
    · rw [List.erase_of_not_mem g] at ih
      omega
theorem prodN_set (g : Col → Nat) (x : Col) : ∀ (l : List Col) (i : Nat), (∀ y ∈ l, 1 ≤ g y) → prodN g (l.set i x) ≤ prodN g l * (max 1 (g x))
  | [], _, _ => by simp [prodN]; omega
  | y :: l, 0, h => by
    simp only [List.set_cons_zero, prodN]
    have := h y (List.mem_cons_self ..)
    have a : g x * prodN g l ≤ max 1 (g x) * prodN g l := Nat.mul_le_mul_right _ (Nat.le_max_right _ _)
    have b : 1 * (prodN g l * max 1 (g x)) ≤ g y * (prodN g l * max 1 (g x)) := Nat.mul_le_mul_right _ this
    rw [Nat.mul_comm (max 1 (g x))] at a
    rw [Nat.mul_assoc]
    omega
  | y :: l, i + 1, h => by
    simp only [List.set_cons_succ, prodN]
    have ih := prodN_set g x l i fun z hz => h z (List.mem_cons_of_mem _ hz)
    rw [Nat.mul_assoc]
    exact Nat.mul_le_mul_left _ ih
def big1 (M : Nat) (x : Col) : Nat := max 1 (nrm 0 M x)
theorem nrm_unit (i : Nat) : ∀ (k r : Nat) (x : Col), (∀ l, x l = if l = i then 1 else 0) → nrm r k x ≤ (if r ≤ i then 1 else 0)
  | 0, r, x, _ => Nat.zero_le _
  | k + 1, r, x, h => by
    have ih := nrm_unit i k (r + 1) x h
    simp only [nrm]
    rw [h r]
    by_cases g : r = i
    · rw [if_pos g, if_pos (by omega)]
      rw [if_neg (by omega)] at ih
      show 1 + _ ≤ 1
      omega
    · rw [if_neg g]
      by_cases g2 : r ≤ i
      · rw [if_pos g2]
        rw [if_pos (by omega)] at ih
        show 0 + _ ≤ 1
        omega
      · rw [if_neg g2]
        rw [if_neg (by omega)] at ih
        show 0 + _ ≤ 0
        omega
section
variable {m n : Nat} {A : Nat → Nat → Int} {b c : Nat → Int} {S : Sta} {K : Nat}
theorem Ok.small (h : Ok (colV m n A b c) m n S) (hK : 1 ≤ K) (big : ∀ q, nrm 0 (m + 1) (colV m n A b c q) ≤ K) : S.D.natAbs ≤ K ^ n ∧ ∀ i j, i ≤ m → j ≤ n → (S.T i j).natAbs ≤ K ^ (n + 1) := by
  have lb : (S.bs ++ [m + n]).length = m + 1 := by rw [List.length_append, h.bl]; rfl
  have lm : ((S.bs ++ [m + n]).map (colV m n A b c)).length = m + 1 := by rw [List.length_map, lb]
  have ltb : ∀ q ∈ S.bs ++ [m + n], q ≤ m + n := fun q hq => by
    rcases List.mem_append.mp hq with g | g
    · have := h.lt (List.mem_append_left S.fs g)
      omega
    · rw [List.mem_singleton.mp g]
      exact Nat.le_refl _
  have unit : ∀ q, n ≤ q → q ≤ m + n → big1 (m + 1) (colV m n A b c q) ≤ 1 := fun q h1 h2 => by
    have u := nrm_unit (q - n) (m + 1) 0 (colV m n A b c q) fun l => by
      have := unitV (A := A) (b := b) (c := c) (m := m) (n := n) (q - n) l (by omega)
      rw [show n + (q - n) = q by omega] at this
      exact this
    rw [if_pos (Nat.zero_le _)] at u
    unfold big1
    omega
  have bK : ∀ q, big1 (m + 1) (colV m n A b c q) ≤ K := fun q => by
    have := big q
    unfold big1
    omega
  have base : prodN (big1 (m + 1)) ((S.bs ++ [m + n]).map (colV m n A b c)) ≤ K ^ n :=
    prodN_pow _ _ K n hK _ (fun q _ => bK q) (fun q hq hn => unit q hn (ltb q hq)) (List.nodup_append.mp h.allNd).1 n fun s hs hm => few_below n s hs fun q hq => (hm q hq).2
  have le1 : ∀ l : List Col, prodN (nrm 0 (m + 1)) l ≤ prodN (big1 (m + 1)) l := fun l => prodN_le l fun x _ => Nat.le_max_right _ _
  obtain ⟨s, hs1, hs⟩ := h.dic.sg
  have s1 : s.natAbs = 1 := by rcases hs1 with rfl | rfl <;> rfl
  refine ⟨?_, fun i j hi hj => ?_⟩
  · have := det_le (m + 1) 0 _ lm
    rw [hs, Int.natAbs_mul, s1, Nat.one_mul] at this
    exact Nat.le_trans this (Nat.le_trans (le1 _) base)
  · obtain ⟨f, hf⟩ : ∃ f, (S.fs ++ [m + n + 1])[j]? = some f := ⟨_, List.getElem?_eq_getElem (by rw [List.length_append, h.fl]; show j < n + 1; omega)⟩
    have e := h.dic.entry hs (i := i) (by omega) hf
    have d := det_le (m + 1) 0 (((S.bs ++ [m + n]).map (colV m n A b c)).set i (colV m n A b c f)) (by rw [List.length_set]; exact lm)
    rw [e, Int.natAbs_mul, s1, Nat.one_mul] at d
    have p := prodN_set (big1 (m + 1)) (colV m n A b c f) ((S.bs ++ [m + n]).map (colV m n A b c)) i fun y _ => Nat.le_max_left _ _
    have q := Nat.mul_le_mul base (show max 1 (big1 (m + 1) (colV m n A b c f)) ≤ K by have := bK f; omega)
    rw [Nat.pow_succ]
    exact Nat.le_trans d (Nat.le_trans (le1 _) (Nat.le_trans p q))
end
end Ca.Det
set_option Elab.async false
set_option linter.all false
set_option maxRecDepth 100000
set_option maxHeartbeats 8000000
namespace Ca
open PySem L2
section
variable {X : Cx}
theorem ixLt (K : PySem.W.Frag) (h : X.K = K := by rfl) : IxR X (rIxL K) := h ▸ ix_list
theorem pgTt (K : PySem.W.Frag) {es : List Expr} {k : Nat} {pos : Pos} {t : TGs} {n : Nat} (hc : X.calm = true) (h : PGs X es t) (hK : X.K = K := by rfl) (hn : (assignEach es X.env).length = n := by rfl) (hst : (assignEach es X.env).findIdx? (·.1) = none := by rfl) : PG X (.Tuple es k pos) (gTup K n t) := hK ▸ pg_tup hc h hn hst
end
/-! ### lists of whole numbers -/
def IntsAt (H : Hp) (p : Addr) (xs : List Int) : Prop := H p = some (.lst (xs.map V.int))
theorem IntsAt.same {H H' : Hp} {p : Addr} {xs : List Int} (h : IntsAt H p xs) (s : Same H H') : IntsAt H' p xs := s _ _ h
theorem IntsAt.sq {K : PySem.W.Frag} {H : Hp} {p : Addr} {xs : List Int} (h : IntsAt H p xs) : SqL K H p (xs.map V.int) := SqL.of h
theorem IntsAt.get {xs : List Int} {i : Nat} {x : Int} (h : xs[i]? = some x) : (xs.map V.int)[i]? = some (V.int x) := by rw [List.getElem?_map, h]; rfl
theorem IntsAt.back {xs : List Int} {i : Nat} {y : V} (h : (xs.map V.int)[i]? = some y) : ∃ x, xs[i]? = some x ∧ y = V.int x := by
  rw [List.getElem?_map] at h
  cases e : xs[i]? with
  | none => rw [e] at h; cases h
  | some x => rw [e] at h; exact ⟨x, rfl, (Option.some.inj h).symm⟩
theorem IntsAt.len {K : PySem.W.Frag} {H : Hp} {p : Addr} {xs : List Int} (h : IntsAt H p xs) : LenV K (.ref p) H xs.length := .inl ⟨_, SqL.of h, by rw [List.length_map]⟩
theorem getD_at {xs : List Int} {i : Nat} (h : i < xs.length) : xs[i]? = some (xs.getD i 0) := by
  rw [List.getD_eq_getElem?_getD, List.getElem?_eq_getElem h]
  rfl
/-! ### a line behind an exchange -/
def behindL (xs ps : List Int) (c : Nat) (D : Int) : List Int := ((List.range xs.length).map fun i => (ps.getD c 0 * xs.getD i 0 - xs.getD c 0 * ps.getD i 0) / D).set c (- xs.getD c 0)
def LitS (xs : List Int) : Prop := ∀ x ∈ xs, x.natAbs < 2 ^ 1000
theorem LitS.at {xs : List Int} (h : LitS xs) (i : Nat) : (xs.getD i 0).natAbs < 2 ^ 1000 := by
  by_cases g : i < xs.length
  · exact h _ (List.mem_of_getElem? (getD_at g))
  · rw [List.getD_eq_getElem?_getD, List.getElem?_eq_none (by omega)]
    decide +kernel
theorem small_mul {i j : Int} (h1 : i.natAbs < 2 ^ 1000) (h2 : j.natAbs < 2 ^ 1000) : CMulW i j := by
  have l : ∀ k : Nat, k < 2 ^ 1000 → k.log2 < 1000 := fun k hk => by
    by_cases z : k = 0
    · rw [z]; decide
    · exact (Nat.log2_lt z).mpr hk
  have := l _ h1
  have := l _ h2
  show _ < 1000000
  omega
theorem small_div {i j : Int} (h0 : 0 < j) (h1 : j.natAbs < 2 ^ 1000) : CDivW i j := by
  refine ⟨h0, ?_⟩
  have : j.natAbs.log2 < 1000 := (Nat.log2_lt (by omega)).mpr h1
  omega
def spBehind (K : PySem.W.Frag) : Sp := fun vs H Q _ => ∃ (a p : Addr) (c : Nat) (D : Int) (xs ps : List Int), vs = [.ref a, .ref p, .int c, .int D] ∧ IntsAt H a xs ∧ IntsAt H p ps ∧ xs.length = ps.length ∧ xs.length ≤ 1000 ∧ c < xs.length ∧ 0 < D ∧ D.natAbs < 2 ^ 1000 ∧ LitS xs ∧ LitS ps ∧
  ∀ H' y, Same H H' → IntsAt H' y (behindL xs ps c D) → H y = none → Q (.ref y) H'
abbrev NBh : List Str := ["line", "pivots", "column", "bottom", "behind", "entry", "pivot"]
section
variable {P : Program} {w : World} {K : PySem.W.Frag} {mg : Str → Option Value} {base : Heap}
theorem scBh : FnScope NBh ["line", "pivots", "column", "bottom"] (defScope sLineBehind) := ⟨rfl, rfl, rfl, by decide +kernel, rfl, by decide +kernel, by decide +kernel⟩
theorem ok_behind {f : Addr} {fd : FuncData} (F : FnT K "line_behind" sLineBehind f fd) (mzip : mg "zip" = none) : FnOk P w K mg base CX0 1 f fd ["line", "pivots", "column", "bottom"] (spBehind K) := by
  refine F.ok scBh (fun vs H Q E h => ?_) (fun cdv A outer s H vs Q E hr h => ?_)
  · obtain ⟨a, p, c, D, xs, ps, rfl, _⟩ := h
    rfl
  · obtain ⟨a, p, c, D, xs, ps, rfl, ha, hp, hl, h1000, hc, hD, hDs, sx, sp, q⟩ := h
    have nd := scBh.nd
    refine ⟨_, PSs.nox (pss_cons (ps_cut (ps_setLc (i := 4) (own := [("entry", 5), ("pivot", 6)]) (g := gTup K 2 (gCons (gName 5) (gCons (gName 6) gNil))) (tt := tYes) rfl nd rfl rfl (sw_true rfl rfl rfl (by decide +kernel)) (RZ.pi_zipA (by rfl) mzip (pa_cons (pv 0) (pa_cons (pv 1) pa_nil)))
        (blkOk_by (own := [("entry", 5), ("pivot", 6)]) (N := NBh) (sc := defScope sLineBehind) (by decide +kernel)) (fun _ _ _ _ _ => pgTt K rfl (pgs_cons (pg_name (i := 5) nd rfl (Or.inl rfl)) (pgs_cons (pg_name (i := 6) nd rfl (Or.inl rfl)) pgs_nil))) (fun _ _ _ _ _ => pts_nil)
        (fun _ _ _ _ _ => pe_op op_fdivW (pe_op op_sub (pe_op op_mulW (pe_ix (ixLt K) (pv 1) (pv 2) (fun _ _ => rfl)) (pv 5)) (pe_op op_mulW (pe_ix (ixLt K) (pv 0) (pv 2) (fun _ _ => rfl)) (pv 6))) (pv 3))))
      (pss_cons (ps_cut (ps_asg (pe_un un_neg (pe_ix (ixLt K) (pv 0) (pv 2) (fun _ _ => rfl))) (pg_sub (pv 4) (pv 2) set_list)))
      (pss_one (ps_ret (pv 4))))), ?_⟩
    have ha' := ha.sq (K := K)
    have hp' := hp.sq (K := K)
    have cx := getD_at hc
    have cp := getD_at (xs := ps) (i := c) (by omega)
    refine ⟨fun σ' H' => ∃ y, σ' = [some (.ref a), some (.ref p), some (.int c), some (.int D), some (.ref y), none, none] ∧ Same H H' ∧ IntsAt H' y ((List.range xs.length).map fun i => (ps.getD c 0 * xs.getD i 0 - xs.getD c 0 * ps.getD i 0) / D) ∧ H y = none, ?_, ?_⟩
    · refine ⟨_, rfl, _, rfl, a, p, _, _, rfl, .inl ⟨ha', hp', fun D' hD' => ?_⟩⟩
      refine lc_it (walk_zip (K := K) (a := a) (b := p) (xs := xs.map V.int) (ys := ps.map V.int) (n := xs.length) (by rw [List.length_map, List.length_map]; omega)) (fun i H' => Same H H' ∧ IntsAt H' D' ((List.range i).map fun i => (ps.getD c 0 * xs.getD i 0 - xs.getD c 0 * ps.getD i 0) / D)) ⟨Same.new hD', upd_same⟩ (fun i H' hi p' => ⟨(ha.same p'.1).sq, (hp.same p'.1).sq⟩) ?_ ?_
      · rintro i z H5 _ hi ⟨s5, bD⟩ ⟨T, x1, y1, rfl, hT, rfl, hx, hy⟩
        have s6 := Same.new (o := .tup [x1, y1]) hT
        have s56 := s5.trans s6
        obtain ⟨xi, hxi, rfl⟩ := IntsAt.back hx
        obtain ⟨yi, hyi, rfl⟩ := IntsAt.back hy
        have ex : xi = xs.getD i 0 := by
          have := getD_at (xs := xs) (i := i) (List.getElem?_eq_some_iff.mp hxi).1
          rw [hxi] at this
          exact Option.some.inj this
        have ey : yi = ps.getD i 0 := by
          have := getD_at (xs := ps) (i := i) (List.getElem?_eq_some_iff.mp hyi).1
          rw [hyi] at this
          exact Option.some.inj this
        subst ex
        subst ey
        refine ⟨T, _, rfl, SqT.of upd_same, rfl, _, _, rfl, _, _, rfl, rfl, rfl, rdYes ?_⟩
        have ha6 := (ha.same s56).sq (K := K)
        have hp6 := (hp.same s56).sq (K := K)
        refine ⟨_, rfl, _, rfl, p, _, _, .int (ps.getD c 0), rfl, rfl, hp6, atI_nat (IntsAt.get cp), _, rfl, _, _, rfl, rfl, small_mul (sp.at c) (sx.at i), _, rfl, _, rfl, a, _, _, .int (xs.getD c 0), rfl, rfl, ha6, atI_nat (IntsAt.get cx), _, rfl, _, _, rfl, rfl, small_mul (sx.at c) (sp.at i), _, _, rfl, rfl, _, rfl, _, _, rfl, rfl, small_div hD hDs, ?_⟩
        refine ⟨_, s6 _ _ bD, ?_, fun u o e => ?_, ?_⟩
        · rw [List.length_map, List.length_map, List.length_range]
          exact Nat.lt_of_le_of_lt (show i ≤ 1000 by omega) (by decide)
        · rw [upd_ne (ne_of_none e hD')]
          exact s56 _ _ e
        · show upd _ _ _ _ = _
          rw [upd_same, List.range_succ, List.map_append, List.map_append]
          rfl
      · rintro H5 ⟨s5, bD⟩
        exact ⟨D', rfl, s5, bD, hD'⟩
    rintro _ H1 ⟨y, rfl, s1, e1, hy⟩
    refine ⟨fun σ' H' => σ' = [some (.ref a), some (.ref p), some (.int c), some (.int D), some (.ref y), none, none] ∧ Same H H' ∧ IntsAt H' y (behindL xs ps c D), ?_, ?_⟩
    · refine ⟨_, rfl, _, rfl, a, _, _, .int (xs.getD c 0), rfl, rfl, (ha.same s1).sq, atI_nat (IntsAt.get cx), _, rfl, _, rfl, _, rfl, y, _, _, c, rfl, rfl, e1, ?_, rfl, fun b o e => ?_, ?_⟩
      · unfold ixN
        rw [if_pos (by omega), if_pos (by rw [List.length_map, List.length_map, List.length_range]; omega)]
        simp
      · rw [upd_ne (ne_of_none e hy)]
        exact s1 _ _ e
      · show upd _ _ _ _ = _
        rw [upd_same]
        unfold behindL
        rw [List.map_set]
    rintro _ H2 ⟨rfl, s2, e2⟩
    exact ⟨_, rfl, q H2 y s2 e2 hy⟩
end
end Ca
set_option Elab.async false
set_option linter.all false
set_option maxRecDepth 100000
set_option maxHeartbeats 400000
/-! min(a list of whole numbers, default=..): the least, or the default for none -/
namespace Ca
open PySem
section
variable {prog : Program} {w : World} {A : Around} {R : Result → Shared → Prop} {I S : Addr} {fp wr : List Addr} {n : Nat} {P : Nat → Value → Prop} {St : Nat → Heap → Prop} {bt : Nat → Nat → Bool}
/-- the best of the first j stands twice in S -/
def BestOf (P : Nat → Value → Prop) (bt : Nat → Nat → Bool) (j : Nat) (its : Array Value) : Prop := (j = 0 ∧ its = #[]) ∨ ∃ i v, j = i + 1 ∧ its = #[v, v] ∧ P (argBest bt i) v
theorem minD_turns (W : Walks prog w A.in1 I fp wr n P St) (cmp : CmpOf prog w A.in1 .Lt P bt) (nS : S ∉ fp) (dv : Value) (d : Nat) :
    ∀ (j : Nat) (s : Shared) (c : Nat) (its : Array Value), j + d = n → St j s.heap → s.heap.get? S = some { cls := .type "list", dict := none, data := .seq its c, slots := #[] } → BestOf P bt j its →
      (n = 0 → ∀ h' tk, (∀ b o, b ∉ wr → b ≠ S → s.heap.get? b = some o → h'.get? b = some o) → R (.ok (.ret dv)) { s with heap := h', toks := tk }) →
      (0 < n → ∀ v h' tk, P (argBest bt (n - 1)) v → (∀ b o, b ∉ wr → b ≠ S → s.heap.get? b = some o → h'.get? b = some o) → R (.ok (.ret v)) { s with heap := h', toks := tk }) →
      codeAny (model prog w) A (.builtin "min.loop" ⟨[.ref I, .none, .ref S], [("default", dv)]⟩) R s := by
  have nSw : S ∉ wr := fun h => nS (W.sub _ h)
  have again : (toString "min" ++ toString ".loop" : String) = "min.loop" := by decide
  induction d with
  | zero =>
    intro j s c its hj st hS best r0 r1
    refine codeAny_builtin F.entry_min_loop ?_
    rw [Around.under_plainId F.plain_min_loop _]
    show wpAny _ A.in1 (seqItems? (.ref S) >>= _) _ _ s
    refine wpAny_bind (wpAny_seqItems hS rfl ?_)
    show wpAny _ A.in1 (tryCatch (pyNext (.ref I)) _ >>= _) _ _ s
    have st' : St n s.heap := by rw [← hj]; exact st
    refine wpAny_bind (wpAny_tryCatch (W.done s _ _ st' fun h' tk kept => ?_))
    rcases best with ⟨rfl, rfl⟩ | ⟨i, v, rfl, rfl, hv⟩
    · show wpAny _ A.in1 (rule _ >>= _) _ _ _
      refine wpAny_bind (wpAny_rule (wpAny_pure ?_))
      exact r0 (by omega) h' tk fun b o nb _ e => kept b o nb e
    · have hS' := kept S _ nSw hS
      show wpAny _ A.in1 (updateSeq S (fun _ => #[]) >>= _) _ _ _
      refine wpAny_bind (wpAny_updateSeq hS' rfl (wpAny_bind (wpAny_letGo (wpAny_pure ?_))))
      refine r1 (by omega) v _ tk ?_ fun b o nb ns e => (Heap.get?_update_other _ _ (Ne.symm ns)).trans (kept b o nb e)
      rw [show n - 1 = i by omega]
      exact hv
  | succ d ih =>
    intro j s c its hj st hS best r0 r1
    refine codeAny_builtin F.entry_min_loop ?_
    rw [Around.under_plainId F.plain_min_loop _]
    show wpAny _ A.in1 (seqItems? (.ref S) >>= _) _ _ s
    refine wpAny_bind (wpAny_seqItems hS rfl ?_)
    show wpAny _ A.in1 (tryCatch (pyNext (.ref I)) _ >>= _) _ _ s
    refine wpAny_bind (wpAny_tryCatch (W.item j s _ _ (by omega) st fun v h' tk hv st' kept => ?_))
    have hS' := kept S _ nSw hS
    -- the next turn, whatever S holds then
    have next : ∀ (h2 : Heap) (tk2 : Nat) (c2 : Nat) (its2 : Array Value), St (j + 1) h2 → h2.get? S = some { cls := .type "list", dict := none, data := .seq its2 c2, slots := #[] } → BestOf P bt (j + 1) its2 →
        (∀ b o, b ∉ wr → b ≠ S → s.heap.get? b = some o → h2.get? b = some o) → codeAny (model prog w) A (.builtin "min.loop" ⟨[.ref I, .none, .ref S], [("default", dv)]⟩) R { s with heap := h2, toks := tk2 } := fun h2 tk2 c2 its2 a1 a2 a3 a4 =>
      ih (j + 1) { s with heap := h2, toks := tk2 } c2 its2 (by omega) a1 a2 a3 (fun z => by omega) fun z v' h' tk' hv' k' => r1 z v' h' tk' hv' fun b o nb ns e => k' b o nb ns (a4 b o nb ns e)
    rcases best with ⟨rfl, rfl⟩ | ⟨i, vb, rfl, rfl, hb⟩
    · show wpAny _ A.in1 (updateSeq S (fun _ => #[v, v]) >>= _) _ _ _
      refine wpAny_bind (wpAny_updateSeq hS' rfl ?_)
      rw [again]
      refine wpAny_pure ⟨plainId_quiet F.plain_min_loop _, next _ _ _ _ (W.frame _ _ _ st' fun b hbf o e => ?_) (Heap.get?_update_self _ hS' rfl) (.inr ⟨0, v, rfl, rfl, hv⟩) fun b o nb ns e => ?_⟩
      · exact (Heap.get?_update_other _ _ (fun z : S = b => nS (by rw [z]; exact hbf))).trans e
      · exact (Heap.get?_update_other _ _ (Ne.symm ns)).trans (kept b o nb e)
    · show wpAny _ A.in1 (tryCatch (holding [v, v] (richCompare .Lt v vb >>= _)) _ >>= _) _ _ _
      refine wpAny_bind (wpAny_tryCatch (wpAny_holding (wpAny_bind (cmp (i + 1) (argBest bt i) v vb _ _ _ hv hb ?_))))
      refine wpAny_bind (wpAny_holding (wpAny_truthy_bool ?_))
      refine wpAny_bind (wpAny_letGo (wpAny_pure ?_))
      cases less : bt (i + 1) (argBest bt i) with
      | true =>
        simp only [if_true]
        refine wpAny_bind (wpAny_updateSeq hS' rfl (wpAny_bind (wpAny_letGo ?_)))
        rw [again]
        refine wpAny_pure ⟨plainId_quiet F.plain_min_loop _, next _ _ _ _ (W.frame _ _ _ st' fun b hbf o e => ?_) (Heap.get?_update_self _ hS' rfl) (.inr ⟨i + 1, v, rfl, rfl, ?_⟩) fun b o nb ns e => ?_⟩
        · exact (Heap.get?_update_other _ _ (fun z : S = b => nS (by rw [z]; exact hbf))).trans e
        · simp only [argBest, less, if_true]
          exact hv
        · exact (Heap.get?_update_other _ _ (Ne.symm ns)).trans (kept b o nb e)
      | false =>
        simp only [Bool.false_eq_true, if_false]
        refine wpAny_bind (wpAny_letGo ?_)
        rw [again]
        refine wpAny_pure ⟨plainId_quiet F.plain_min_loop _, next _ _ _ _ st' hS' (.inr ⟨i + 1, vb, rfl, rfl, ?_⟩) fun b o nb _ e => kept b o nb e⟩
        simp only [argBest, less, Bool.false_eq_true, if_false]
        exact hb
end
section
variable {prog : Program} {w : World} {A : Around} {E : Value → Shared → Prop} {s : Shared} {l : Addr} {xs : Array (Int × Tok)}
theorem argsD_min (a d : Value) : argsOk "min" ⟨[a], [("default", d)]⟩ := by unfold argsOk; kernel_rfl
theorem call_turns {id : String} {b : Builtin} {args : List Value} {kw : List (Str × Value)} {Q : Value → Shared → Prop} (hk : builtinKind id = none) (hp : plainId id = true) (hb : entryFor table id = some b) (ha : argsOk id ⟨args, kw⟩)
    (hc : wpAny (model prog w) A.in1 (b ⟨args, kw⟩) (fun fin s' => match fin with
      | .done f => (match (Except.ok f : Result) with | .ok (.ret v) => Q v s' | .ok _ => False | .error e => E e s')
      | .again c' => c'.quiet = true ∧ codeAny (model prog w) A c' (fun r s' => match r with | .ok (.ret v) => Q v s' | .ok _ => False | .error e => E e s') s') E s) :
    wpAny (model prog w) A (call (.builtin id) args kw) Q E s := by
  refine wpAny_call (codeAny_call_builtin hp hb ?_)
  simp only [checkBuiltinCall, hk]
  cases sg : Manifest.signature? id with
  | none => exact wpAny_pure hc
  | some sig =>
    have fit : Bind.checkArgs id sig ⟨args, kw⟩ = pure () := by simpa only [argsOk, sg] using ha
    simp only [fit]
    exact wpAny_pure hc
theorem bindD (dv : Value) : Builtin.Builtins.bindParams "min" ["key", "default"] 0 ⟨[], [("default", dv)]⟩ = pure [none, some dv] := by kernel_rfl
theorem minD_call {dv : Value} {Q : Value → Shared → Prop} (hh : A.handled = none) (hl : s.heap.IsList l (intItems xs))
    (h0 : xs.size = 0 → ∀ h' tk, (∀ b o, s.heap.get? b = some o → h'.get? b = some o) → Q dv { s with heap := h', toks := tk })
    (h1 : 0 < xs.size → ∀ v h' tk, (intItems xs)[argBest (fun i j => decide (numAt xs i < numAt xs j)) (xs.size - 1)]? = some v → (∀ b o, s.heap.get? b = some o → h'.get? b = some o) → Q v { s with heap := h', toks := tk }) :
    wpAny (model prog w) A (call (.builtin "min") [.ref l] [("default", dv)]) Q E s := by
  have loop : (toString "min" ++ toString ".loop" : String) = "min.loop" := by decide
  refine call_turns F.kind_min F.plain_min F.entry_min (argsD_min (.ref l) dv) ?_
  show wpAny _ A.in1 (Builtin.Builtins.bindParams "min" ["key", "default"] 0 ⟨[], [("default", dv)]⟩ >>= _) _ _ s
  refine wpAny_bind (wpAny_of_eq (bindD dv) ?_)
  refine wpAny_bind (wpAny_pure ?_)
  refine wpAny_bind (iter_intList hl fun s₂ e st hfp hlI => ?_)
  subst e
  refine wpAny_bind (wpAny_newObj_type ?_)
  rw [loop]
  have W := Walks.list (prog := prog) (w := w) (A := A.in1) hh s.heap.objs.size l hlI (intItems xs)
  have nS : ∀ b ∈ [s.heap.objs.size, l], b ≠ (s.heap.push { cls := .type "list_iterator", data := .fields #[.ref l, .int 0 0] }).objs.size := fun b hb => Nat.ne_of_lt (hfp b hb)
  have size : (intItems xs).size = xs.size := by simp [intItems]
  have old : ∀ {h' : Heap}, (∀ b o, b ∉ [s.heap.objs.size] → b ≠ (s.heap.push { cls := .type "list_iterator", data := .fields #[.ref l, .int 0 0] }).objs.size → ((s.heap.push { cls := .type "list_iterator", data := .fields #[.ref l, .int 0 0] }).push { cls := .type "list", data := .seq #[] 0 }).get? b = some o → h'.get? b = some o) → ∀ b o, s.heap.get? b = some o → h'.get? b = some o := fun k b o e => by
    have e1 := Heap.get?_push_of_some { cls := .type "list_iterator", data := .fields #[.ref l, .int 0 0] } e
    refine k b o (fun z => ?_) (Nat.ne_of_lt (Heap.lt_size e1)) (Heap.get?_push_of_some _ e1)
    rw [List.mem_singleton.mp z] at e
    exact absurd (Heap.lt_size e) (Nat.lt_irrefl _)
  refine wpAny_pure ⟨plainId_quiet F.plain_min_loop _, ?_⟩
  refine minD_turns W (CmpOf.ints_lt (numAt xs) (fun _ _ => intItems_at)) (fun z => nS _ z rfl) dv (intItems xs).size 0 _ 0 #[] (Nat.zero_add _) (W.frame _ _ _ st fun b _ o e => Heap.get?_push_of_some _ e) (Heap.get?_push_size _ rfl) (.inl ⟨rfl, rfl⟩) (fun z h' tk k => ?_) (fun z v h' tk hv k => ?_)
  · exact h0 (by omega) h' tk (old k)
  · exact h1 (by omega) v h' tk (by rw [size] at hv; exact hv) (old k)
end
end Ca
set_option Elab.async false
set_option linter.all false
set_option maxRecDepth 100000
set_option maxHeartbeats 4000000
namespace Ca
open PySem PySem.Spec PyProof.Rows L2
/-! ### min(xs, default=None) -/
def rMinD (K : PySem.W.Frag) : List V → List V → Hp → VK → Prop := fun xs zs H Q => ∃ (a : Addr) (ns : List Int), xs = [.ref a] ∧ zs = [.non] ∧ SqL K H a (ns.map V.int) ∧ (ns = [] → Q .non H) ∧ ∀ m, m ∈ ns → (∀ y, y ∈ ns → m ≤ y) → Q (.int m) H
theorem cr_minD {X : Cx} (hc : X.calm = true) : CallRK X (.builtin "min") ["default"] (rMinD X.K) := by
  intro pins s σ H xs zs us ws Q I r1 r2 h
  obtain ⟨a, ns, rfl, rfl, hs, q0, q1⟩ := h
  obtain ⟨its, rv, hl, _⟩ := I.list hs
  rw [Vals.ref1 r1]
  have hw : ws = [Value.none] := by
    cases r2 with
    | cons h t =>
      cases t
      rw [show _ = Value.none from h]
  subst hw
  have hi := rv.ints
  obtain ⟨xs, e⟩ := hi.allInts.items
  have hn : numsOf (intItems xs).toList = ns := by rw [← e]; exact hi.numsOf
  rw [nums_intItems] at hn
  subst hn
  have hl' := hl.isList
  rw [e] at hl'
  show wpAny (model X.prog X.w) X.A (call (.builtin "min") [.ref a] [("default", .none)]) _ _ s
  refine minD_call (I.ok.hd hc) hl' (fun z h' tk k => ?_) (fun z v h' tk hv k => ?_)
  · exact ⟨.non, H, I.kept k, rfl, q0 (by
      have : xs.toList.length = 0 := by rw [Array.length_toList]; exact z
      rw [List.map_eq_nil_iff]
      exact List.eq_nil_of_length_eq_zero this)⟩
  · obtain ⟨t, rfl⟩ := intItems_at hv
    obtain ⟨h1, h2⟩ := argBest_lt (numAt xs) (xs.size - 1)
    refine ⟨.int _, H, I.kept k, ⟨_, rfl⟩, q1 _ ?_ fun y hy => ?_⟩
    · rw [numAt_eq]
      exact PySem.getD_mem (by rw [List.length_map, Array.length_toList]; omega)
    · obtain ⟨j, hj, rfl⟩ := mem_getD hy
      rw [List.length_map, Array.length_toList] at hj
      rw [← numAt_eq]
      exact h2 j (by omega)
end Ca
set_option Elab.async false
set_option linter.all false
set_option maxRecDepth 100000
set_option maxHeartbeats 8000000
namespace Ca
open PySem L2
/-! ### tables -/
structure Tb where
  rows : List (List Int)
  D : Int
  bs : List Nat
  fs : List Nat
def natL (ns : List Nat) : List Int := ns.map Int.ofNat
def LinesAt (H : Hp) (L : Addr) (rows : List (List Int)) : Prop := ∃ ps : List Addr, H L = some (.lst (ps.map V.ref)) ∧ ps.length = rows.length ∧ ∀ (i : Nat) (p : Addr) (r : List Int), ps[i]? = some p → rows[i]? = some r → IntsAt H p r
theorem LinesAt.same {H H' : Hp} {L : Addr} {rows : List (List Int)} (h : LinesAt H L rows) (s : Same H H') : LinesAt H' L rows := by
  obtain ⟨ps, h1, h2, h3⟩ := h
  exact ⟨ps, s _ _ h1, h2, fun i p r a b => (h3 i p r a b).same s⟩
def tabF (l d b f : V) : List (Str × V) := [("lines", l), ("bottom", d), ("basic", b), ("free", f)]
def TbAt (C : Addr) (H : Hp) (x : Addr) (t : Tb) : Prop := ∃ (dx L b f : Addr), H x = some (.ins C dx (tabF (.ref L) (.int t.D) (.ref b) (.ref f))) ∧ LinesAt H L t.rows ∧ IntsAt H b (natL t.bs) ∧ IntsAt H f (natL t.fs)
theorem TbAt.same {C : Addr} {H H' : Hp} {x : Addr} {t : Tb} (h : TbAt C H x t) (s : Same H H') : TbAt C H' x t := by
  obtain ⟨dx, L, b, f, h1, h2, h3, h4⟩ := h
  exact ⟨dx, L, b, f, s _ _ h1, h2.same s, h3.same s, h4.same s⟩
structure TabK (K : PySem.W.Frag) (C : Addr) : Prop where
  cl : Cls K C
  n1 : NoAttr K C "lines"
  n2 : NoAttr K C "bottom"
  n3 : NoAttr K C "basic"
  n4 : NoAttr K C "free"
def spTabInit (C : Addr) : Sp := fun vs H Q _ => ∃ x dx l d b f, vs = [.ref x, l, d, b, f] ∧ H x = some (.ins C dx []) ∧ ∀ H', Kept x H H' → H' x = some (.ins C dx (tabF l d b f)) → Q .non H'
section
variable {P : Program} {w : World} {K : PySem.W.Frag} {mg : Str → Option Value} {base : Heap} {C : Addr}
theorem scTabI : FnScope ["self", "lines", "bottom", "basic", "free"] ["self", "lines", "bottom", "basic", "free"] (defScope mTableInit) := ⟨rfl, rfl, rfl, by decide +kernel, rfl, by decide +kernel, by decide +kernel⟩
theorem ok_tabInit {f : Addr} {fd : FuncData} (F : FnM K "__init__" "Table.__init__" mTableInit [] f fd) (T : TabK K C) : FnOk P w K mg base CX0 1 f fd ["self", "lines", "bottom", "basic", "free"] (spTabInit C) := by
  refine F.ok scTabI (fun vs H Q E h => ?_) (fun cdv A outer s H vs Q E hr h => ?_)
  · obtain ⟨x, dx, l, d, b, f, rfl, _⟩ := h
    rfl
  · obtain ⟨x, dx, l, d, b, f, rfl, hx, q⟩ := h
    refine ⟨_, PSs.nox (pss_cons (ps_fld (pv 0) (pv 1) rfl) (pss_cons (ps_fld (pv 0) (pv 2) rfl) (pss_cons (ps_fld (pv 0) (pv 3) rfl) (pss_one (ps_fld (pv 0) (pv 4) rfl))))), ?_⟩
    refine ⟨_, rfl, _, rfl, x, C, dx, _, rfl, hx, T.cl, T.n1, by show 0 < 1000; decide, _, rfl, _, rfl, x, C, dx, _, rfl, upd_same, T.cl, T.n2, by show 1 < 1000; decide, _, rfl, _, rfl, x, C, dx, _, rfl, upd_same, T.cl, T.n3, by show 2 < 1000; decide, _, rfl, _, rfl, x, C, dx, _, rfl, upd_same, T.cl, T.n4, by show 3 < 1000; decide, ?_⟩
    refine q _ (fun b o n e => ?_) upd_same
    rw [upd_ne n, upd_ne n, upd_ne n, upd_ne n]
    exact e
/-! ### the place of the least number that is marked -/
def markedL : List Nat → List Bool → List Nat
  | n :: ns, true :: ms => n :: markedL ns ms
  | _ :: ns, false :: ms => markedL ns ms
  | _, _ => []
theorem marked_mem : ∀ {ns : List Nat} {ms : List Bool} {q : Nat}, q ∈ markedL ns ms ↔ ∃ l : Nat, ns[l]? = some q ∧ ms[l]? = some true
  | [], ms, q => by simp [markedL]
  | n :: ns, [], q => by simp [markedL]
  | n :: ns, true :: ms, q => by
    have ih := marked_mem (ns := ns) (ms := ms) (q := q)
    simp only [markedL, List.mem_cons, ih]
    constructor
    · rintro (rfl | ⟨l, h1, h2⟩)
      · exact ⟨0, rfl, rfl⟩
      · exact ⟨l + 1, by simpa using h1, by simpa using h2⟩
    · rintro ⟨l, h1, h2⟩
      cases l with
      | zero => cases h1; exact .inl rfl
      | succ l => exact .inr ⟨l, by simpa using h1, by simpa using h2⟩
  | n :: ns, false :: ms, q => by
    have ih := marked_mem (ns := ns) (ms := ms) (q := q)
    simp only [markedL, ih]
    constructor
    · rintro ⟨l, h1, h2⟩
      exact ⟨l + 1, by simpa using h1, by simpa using h2⟩
    · rintro ⟨l, h1, h2⟩
      cases l with
      | zero => cases h2
      | succ l => exact ⟨l, by simpa using h1, by simpa using h2⟩
theorem marked_next : ∀ {ns : List Nat} {ms : List Bool} {i n : Nat} {b : Bool}, ns[i]? = some n → ms[i]? = some b → markedL (ns.take (i + 1)) (ms.take (i + 1)) = markedL (ns.take i) (ms.take i) ++ (if b = true then [n] else [])
  | [], _, _, _, _, h, _ => by simp at h
  | _ :: _, [], _, _, _, _, h => by simp at h
  | n :: ns, m :: ms, 0, _, b, h1, h2 => by
    cases h1
    cases h2
    cases m <;> simp [markedL]
  | n :: ns, m :: ms, i + 1, n', b, h1, h2 => by
    have ih := marked_next (ns := ns) (ms := ms) (i := i) (n := n') (b := b) (by simpa using h1) (by simpa using h2)
    rw [List.take_succ_cons, List.take_succ_cons, List.take_succ_cons, List.take_succ_cons]
    cases m <;> simp [markedL, ih]
theorem marked_len : ∀ (ns : List Nat) (ms : List Bool), (markedL ns ms).length ≤ ns.length
  | [], _ => by simp [markedL]
  | n :: ns, [] => by simp [markedL]
  | n :: ns, m :: ms => by
    have := marked_len ns ms
    cases m <;> simp only [markedL, List.length_cons] <;> omega
theorem eqV_int (a b : Int) : eqV (.int a) (.int b) = decide (a = b) := by
  by_cases h : a = b
  · subst h
    rw [decide_eq_true rfl]
    show (a == a) = true
    simp
  · rw [decide_eq_false h]
    show (a == b) = false
    simpa using h
def spFirst (K : PySem.W.Frag) : Sp := fun vs H Q _ => ∃ (a p : Addr) (ns : List Nat) (ms : List Bool), vs = [.ref a, .ref p] ∧ IntsAt H a (natL ns) ∧ H p = some (.lst (ms.map V.bl)) ∧ ns.length = ms.length ∧ ns.length ≤ 1000 ∧ ns.Nodup ∧
  ((∀ l q : Nat, ns[l]? = some q → ms[l]? ≠ some true) → ∀ H', Same H H' → Q .non H') ∧
  ∀ (j f : Nat), ns[j]? = some f → ms[j]? = some true → (∀ l q : Nat, ns[l]? = some q → ms[l]? = some true → f ≤ q) → ∀ H', Same H H' → Q (.int (j : Nat)) H'
abbrev NFp : List Str := ["numbers", "marks", "marked", "number", "mark"]
theorem scFp : FnScope NFp ["numbers", "marks"] (defScope sFirstPlace) := ⟨rfl, rfl, rfl, by decide +kernel, rfl, by decide +kernel, by decide +kernel⟩
theorem ok_firstPlace {f : Addr} {fd : FuncData} (F : FnT K "first_place" sFirstPlace f fd) (mzip : mg "zip" = none) (mmin : mg "min" = none) : FnOk P w K mg base CX0 1 f fd ["numbers", "marks"] (spFirst K) := by
  refine F.ok scFp (fun vs H Q E h => ?_) (fun cdv A outer s H vs Q E hr h => ?_)
  · obtain ⟨a, p, ns, ms, rfl, _⟩ := h
    rfl
  · obtain ⟨a, p, ns, ms, rfl, ha, hp, hl, h1000, nodup, q0, q1⟩ := h
    have nd := scFp.nd
    refine ⟨_, PSs.nox (pss_cons (ps_cut (ps_setLc (i := 2) (own := [("number", 3), ("mark", 4)]) (g := gTup K 2 (gCons (gName 3) (gCons (gName 4) gNil))) rfl nd rfl rfl (sw_true rfl rfl rfl (by decide +kernel)) (RZ.pi_zipA (by rfl) mzip (pa_cons (pv 0) (pa_cons (pv 1) pa_nil)))
        (blkOk_by (own := [("number", 3), ("mark", 4)]) (N := NFp) (sc := defScope sFirstPlace) (by decide +kernel)) (fun _ _ _ _ _ => pgTt K rfl (pgs_cons (pg_name (i := 3) nd rfl (Or.inl rfl)) (pgs_cons (pg_name (i := 4) nd rfl (Or.inl rfl)) pgs_nil))) (fun _ _ _ _ _ => pts_one (pt_val (pv 4)))
        (fun _ _ _ _ _ => pv 3)))
      (pss_one (ps_ret (pe_ifExp (pt_truth (pv 2) (fun _ => rfl)) (pe_bm PySem.F.plainAttrs_list PySem.F.slot_list_index PySem.F.type_list_index mt_index (pv 0) (pa_cons (pe_callB (cr_min rfl) (by rfl) mmin PyProof.Rows.boot_min (pa_cons (pv 2) pa_nil)) pa_nil)) pe_non)))), ?_⟩
    have hp' : SqL K H p (ms.map V.bl) := SqL.of hp
    refine ⟨fun σ' H' => ∃ y, σ' = [some (.ref a), some (.ref p), some (.ref y), none, none] ∧ Same H H' ∧ IntsAt H' y (natL (markedL ns ms)), ?_, ?_⟩
    · refine ⟨_, rfl, _, rfl, a, p, _, _, rfl, .inl ⟨ha.sq, hp', fun D hD => ?_⟩⟩
      refine lc_it (walk_zip (K := K) (a := a) (b := p) (xs := (natL ns).map V.int) (ys := ms.map V.bl) (n := ns.length) (by unfold natL; rw [List.length_map, List.length_map, List.length_map]; omega)) (fun i H' => Same H H' ∧ IntsAt H' D (natL (markedL (ns.take i) (ms.take i)))) ⟨Same.new hD, upd_same⟩ (fun i H' hi p' => ⟨(ha.same p'.1).sq, SqL.of (p'.1 _ _ hp)⟩) ?_ ?_
      · rintro i z H5 _ hi ⟨s5, bD⟩ ⟨T, x1, y1, rfl, hT, rfl, hx, hy⟩
        have s6 := Same.new (o := .tup [x1, y1]) hT
        have s56 := s5.trans s6
        obtain ⟨xi, hxi, rfl⟩ := IntsAt.back hx
        obtain ⟨n, hn, rfl⟩ : ∃ n, ns[i]? = some n ∧ xi = Int.ofNat n := by
          unfold natL at hxi
          rw [List.getElem?_map] at hxi
          cases e : ns[i]? with
          | none => rw [e] at hxi; cases hxi
          | some n => rw [e] at hxi; exact ⟨n, rfl, (Option.some.inj hxi).symm⟩
        obtain ⟨b, hb, rfl⟩ : ∃ b, ms[i]? = some b ∧ y1 = V.bl b := by
          replace hy : (ms.map V.bl)[i]? = some y1 := hy
          rw [List.getElem?_map] at hy
          cases e : ms[i]? with
          | none => rw [e] at hy; cases hy
          | some b => rw [e] at hy; exact ⟨b, rfl, (Option.some.inj hy).symm⟩
        have nx := marked_next hn hb
        refine ⟨T, _, rfl, SqT.of upd_same, rfl, _, _, rfl, _, _, rfl, rfl, rfl, _, rfl, b, rfl, ?_⟩
        cases b with
        | false =>
          refine iteF ⟨s56, ?_⟩
          rw [nx]
          simp only [Bool.false_eq_true, if_false, List.append_nil]
          exact bD.same s6
        | true =>
          have ml := marked_len (ns.take i) (ms.take i)
          rw [List.length_take] at ml
          refine iteT ⟨_, rfl, _, bD.same s6, ?_, fun u o e => ?_, ?_⟩
          · unfold natL
            rw [List.length_map, List.length_map]
            exact Nat.lt_of_le_of_lt (show _ ≤ 1000 by omega) (by decide)
          · rw [upd_ne (ne_of_none e hD)]
            exact s56 _ _ e
          · show upd _ _ _ _ = _
            rw [upd_same, nx]
            unfold natL
            simp
      · rintro H5 ⟨s5, bD⟩
        rw [List.take_length, hl, List.take_length] at bD
        exact ⟨D, rfl, s5, bD⟩
    rintro _ H1 ⟨y, rfl, s1, ey⟩
    have allflat : ((natL ns).map V.int).all flatV = true := by
      rw [List.all_eq_true]
      intro v hv
      obtain ⟨i, _, rfl⟩ := List.mem_map.mp hv
      rfl
    refine ⟨_, rfl, _, .inl ⟨_, ey.sq, rfl⟩, ?_⟩
    cases hm : markedL ns ms with
    | nil =>
      refine iteF (q0 (fun l q h1 h2 => ?_) H1 s1)
      have : q ∈ markedL ns ms := marked_mem.mpr ⟨l, h1, h2⟩
      rw [hm] at this
      cases this
    | cons n0 rest =>
      rw [hm] at ey
      refine iteT ⟨_, rfl, .inl ⟨rfl, _, (ha.same s1).sq⟩, _, rfl, y, natL (n0 :: rest), rfl, ey.sq, Nat.succ_pos _, fun m hmem least => ?_⟩
      obtain ⟨n, hn, rfl⟩ := List.mem_map.mp hmem
      rw [← hm] at hn
      obtain ⟨l, h1, h2⟩ := marked_mem.mp hn
      have ll := (List.getElem?_eq_some_iff.mp h1).1
      refine ⟨a, _, .int (Int.ofNat n), l, .int (Int.ofNat n), rfl, rfl, (ha.same s1).sq, rfl, allflat, IntsAt.get (by unfold natL; rw [List.getElem?_map, h1]; rfl), by rw [eqV_int]; exact decide_eq_true rfl, fun k z' hk hz => ?_, q1 l n h1 h2 (fun k q g1 g2 => ?_) H1 s1⟩
      · obtain ⟨x, hx, rfl⟩ := IntsAt.back hz
        unfold natL at hx
        rw [List.getElem?_map] at hx
        cases e : ns[k]? with
        | none => rw [e] at hx; cases hx
        | some q =>
          rw [e] at hx
          obtain rfl := (Option.some.inj hx).symm
          rw [eqV_int]
          refine decide_eq_false fun z => ?_
          have : q = n := Int.ofNat.inj z
          rw [this, ← h1] at e
          have := (List.getElem?_inj (by omega) nodup).mp e
          omega
      · have : q ∈ markedL ns ms := marked_mem.mpr ⟨k, g1, g2⟩
        rw [hm] at this
        have := least (Int.ofNat q) (List.mem_map_of_mem this)
        exact Int.ofNat_le.mp this
end
end Ca
set_option Elab.async false
set_option linter.all false
set_option maxRecDepth 100000
set_option maxHeartbeats 4000000
namespace Ca
open PySem PySem.Spec PyProof.Rows L2
/-! ### what the laws of purses lean on besides -/
def memT (m q : Str) (st : Stmt) : He.DefD := ⟨("Table", some m), m, q, defArgs st, defBody st, defScope st, [], []⟩
def lcmB (K : PySem.W.Frag) : Bool := decide (PySem.W.nsIn K mainGlobals "lcm" = some (some (.builtin "math.lcm")))
def oneA (K : PySem.W.Frag) : Addr := He.ga K "ONE"
def oneB (K : PySem.W.Frag) : Bool := match K.lookup (oneA K) with
  | some ⟨.type c, _, .seq its _, _⟩ => decide (c = "tuple") && (decide (its.size ≤ sizeLine) && He.relAll [.int 1, .int 1] its.toList)
  | _ => false
def sysP (K : PySem.W.Frag) : Bool := gcdB K && (lcmB K && (zeB K && (oneB K && sysB K)))
theorem lcm_ok {K : PySem.W.Frag} {h : Heap} {mg : Str → Option Value} (X : K.In h) (G : h.Ns mainGlobals mg) (c : lcmB K = true) : mg "lcm" = some (.builtin "math.lcm") := PySem.W.mg_of X G (of_decide_eq_true c)
theorem one_ok {K : PySem.W.Frag} (h : oneB K = true) (H : Hp) : SqT K H (oneA K) [.int 1, .int 1] := by
  unfold oneB at h
  cases q : K.lookup (oneA K) with
  | none => rw [q] at h; cases h
  | some o =>
    obtain ⟨oc, od, dt, osl⟩ := o
    rw [q] at h
    cases oc with
    | type c =>
      cases dt with
      | seq its n =>
        obtain ⟨h1, h2⟩ := an (show (decide (c = "tuple") && (decide (its.size ≤ sizeLine) && He.relAll [.int 1, .int 1] its.toList)) = true from h)
        obtain ⟨h3, h4⟩ := an h2
        exact .inr ⟨_, its, n, q, congrArg Value.type (of_decide_eq_true h1), rfl, of_decide_eq_true h3, He.relAll_ok h4⟩
      | _ => cases h
    | _ => cases dt <;> cases h
/-- a def's keywords alone, the other way round -/
theorem kb_all {K : PySem.W.Frag} {x q : Str} {params : Arguments} {body : List Stmt} {scope : Scope} {f : Addr} {fd : FuncData} {ps ks : List Str} (F : FunD K x q params body scope [] [] f fd)
    (h : ∀ (kV doc pm : Value) (an : Option Addr) (cdv ct : Value) (us ws : List Value), us.length = 0 → ws.length = ks.length → bindArgs (PySem.W.fnOf x q params body scope .none kV doc pm an cdv ct) ⟨us, ks.zip ws⟩ = pure (ps.zip ws.reverse)) :
    KBn K fd ps 0 ks (fun _ ws => ws.reverse) (fun _ zs => zs.reverse) := by
  obtain ⟨oc, od, dV, kV, doc, pm, an, cdv, ct, osl, rfl, lk, hcd, hD, hK⟩ := F.ex
  rcases hD with ⟨_, rfl⟩ | ⟨e, _⟩
  · exact ⟨fun s us ws _ l1 l2 => .of_eq (h kV doc pm an cdv ct us ws l1 l2), fun r1 r2 => r2.reverse⟩
  · exact absurd rfl e
end Ca
set_option Elab.async false
set_option linter.all false
set_option maxRecDepth 100000
set_option maxHeartbeats 0
namespace Ca
open PySem PySem.Spec PyProof.Rows L2
def fnsk430 : List He.DefD := [topD "is_integer" sIsInteger,
  topD "is_tuple_of" sIsTupleOf,
  topD "is_name" sIsName,
  topD "is_unknown" sIsUnknown,
  topD "is_stretch" sIsStretch,
  topD "is_row" sIsRow,
  topD "check_unknowns" sCheckUnknowns,
  topD "check_rows" sCheckRows,
  topD "line_of" sLineOf,
  topD "_law_purse" sLawPurse,
  topD "_law_draw" sLawDraw,
  topD "_law_pick" sLawPick]
def fnsk431 : List He.DefD := [topD "_law_right" sLawRight,
  topD "law" sLaw,
  topD "fraction" sFraction,
  topD "plus" sPlus,
  topD "first_table" sFirstTable,
  topD "line_behind" sLineBehind,
  topD "exchanged" sExchanged,
  topD "first_place" sFirstPlace,
  topD "first_wrong" sFirstWrong,
  topD "next_exchange" sNextExchange,
  topD "settled" sSettled,
  topD "amounts_in" sAmountsIn]
def fnsk432 : List He.DefD := [topD "weights_in" sWeightsIn,
  topD "cheapest_amounts" sCheapestAmounts,
  topD "is_fraction" sIsFraction,
  topD "is_answer" sIsAnswer,
  topD "check_system" sCheckSystem,
  topD "check_seen" sCheckSeen,
  topD "in_whole_numbers" sInWholeNumbers,
  topD "seen_limit" sSeenLimit,
  topD "width_limits" sWidthLimits,
  topD "numbers_for" sNumbersFor,
  topD "clash" sClash,
  topD "fits" sFits]
def fnsk433 : List He.DefD := [topD "fitting" sFitting,
  topD "_law_low" sLawLow,
  topD "_law_plus" sLawPlus,
  topD "_law_times" sLawTimes,
  topD "_law_is_less" sLawIsLess,
  topD "_law_stretch" sLawStretch,
  topD "_law_card" sLawCard,
  topD "_law_made" sLawMade,
  topD "_law_without_last" sLawWithoutLast,
  topD "_law_has_values" sLawHasValues,
  topD "_law_is_fraction" sLawIsFraction,
  topD "_law_sum" sLawSum]
def fnsk434 : List He.DefD := [topD "_law_lies" sLawLies,
  topD "_law_is_member" sLawIsMember,
  topD "_law_answer" sLawAnswer,
  topD "_law_row_fits" sLawRowFits,
  topD "_law_clash" sLawClash,
  topD "_law_is_of" sLawIsOf,
  topD "_law_seen_right" sLawSeenRight,
  memD "__init__" "System.__init__" mSystemInit [.adr e0A],
  memD "__len__" "System.__len__" mSystemLen [],
  memD "__bool__" "System.__bool__" mSystemBool [],
  memD "__str__" "System.__str__" mSystemStr [],
  memD "__eq__" "System.__eq__" mSystemEq []]
def fnsk435 : List He.DefD := [memT "__init__" "Table.__init__" mTableInit,
  memE "NotASystem" "NotASystem.__init__" mNotASystemInit,
  memE "InvalidSeen" "InvalidSeen.__init__" mInvalidSeenInit]
def fnsk43 : List He.DefD := fnsk430 ++ fnsk431 ++ fnsk432 ++ fnsk433 ++ fnsk434 ++ fnsk435
def fask430 : List He.Fa := [.glo "is_integer", .glo "is_tuple_of", .glo "is_name", .glo "is_unknown", .glo "is_stretch", .glo "is_row", .glo "check_unknowns", .glo "check_rows", .glo "line_of", .glo "_law_purse", .glo "_law_draw", .glo "_law_pick", .glo "_law_right", .glo "law", .glo "fraction", .glo "plus"]
def fask431 : List He.Fa := [.glo "first_table", .glo "line_behind", .glo "exchanged", .glo "first_place", .glo "first_wrong", .glo "next_exchange", .glo "settled", .glo "amounts_in", .glo "weights_in", .glo "cheapest_amounts", .glo "is_fraction", .glo "is_answer", .glo "check_system", .glo "check_seen", .glo "in_whole_numbers", .glo "seen_limit"]
def fask432 : List He.Fa := [.glo "width_limits", .glo "numbers_for", .glo "clash", .glo "fits", .glo "fitting", .glo "_law_low", .glo "_law_plus", .glo "_law_times", .glo "_law_is_less", .glo "_law_stretch", .glo "_law_card", .glo "_law_made", .glo "_law_without_last", .glo "_law_has_values", .glo "_law_is_fraction", .glo "_law_sum"]
def fask433 : List He.Fa := [.glo "_law_lies", .glo "_law_is_member", .glo "_law_answer", .glo "_law_row_fits", .glo "_law_clash", .glo "_law_is_of", .glo "_law_seen_right", .glo "System", .glo "BadValue", .glo "NotASystem", .glo "InvalidSeen", .glo "ZERO", .glo "ONE", .int "MOST_UNKNOWNS" 3, .int "MOST_ROWS" 6, .int "MOST_NUMBER" 10000]
def fask434 : List He.Fa := [.int "MOST_CHARACTERS" 8, .int "MOST_SEEN" 8, .str "LETTERS" LET, .str "DIGITS" DIG, .str "BOUND" "bound", .free "isinstance", .free "int", .free "bool", .free "str", .free "tuple", .free "len", .free "all", .free "enumerate", .free "range", .free "zip", .free "repr"]
def fask435 : List He.Fa := [.free "list", .free "max", .free "min", .free "abs", .free "divmod", .free "ValueError", .free "sum", .free "any", .free "set", .free "sorted", .cls "System", .noat "System" "_unknowns", .noat "System" "_rows", .mkr "System", .meth "System" "__len__", .meth "System" "__bool__"]
def fask436 : List He.Fa := [.meth "System" "__str__", .meth "System" "__eq__", .glo "Table", .cls "Table", .noat "Table" "lines", .noat "Table" "bottom", .noat "Table" "basic", .noat "Table" "free", .mkr "Table"]
def fask43 : List He.Fa := fask430 ++ fask431 ++ fask432 ++ fask433 ++ fask434 ++ fask435 ++ fask436
def ask430 : List Addr := [3, 6, 4, 49, 59, 79, 98, 117, 136, 155, 164, 171, 176, 183, 190, 195, 202, 209, 214, 221, 226, 322, 327, 328, 335, 342, 349, 354, 361, 368, 385, 394, 399, 404, 409, 414, 419, 426, 431, 436, 443, 448, 453, 458, 463, 470, 477, 482, 489, 496, 503, 510, 517, 524, 531, 538, 543, 550, 555, 560, 565, 572, 579, 584, 591, 596, 603, 608, 613, 618, 625, 0, 48, 58, 78, 97, 116, 135, 154, 163, 170, 175, 182, 189, 194, 201, 208, 213, 220, 225, 321, 334, 341, 348, 353, 360, 367, 384, 393, 398]
def ask431 : List Addr := [403, 408, 413, 418, 425, 430, 435, 442, 447, 452, 457, 462, 469, 476, 481, 488, 495, 502, 509, 516, 523, 530, 537, 542, 549, 554, 559, 564, 571, 578, 583, 590, 595, 602, 607, 612, 617, 624, 43, 44, 45, 46, 47, 57, 60, 76, 77, 95, 96, 114, 115, 133, 134, 152, 153, 158, 159, 160, 161, 162, 165, 166, 167, 168, 169, 172, 173, 174, 177, 178, 179, 180, 181, 184, 185, 186, 187, 188, 191, 192, 193, 196, 197, 198, 199, 200, 203, 204, 205, 206, 207, 210, 211, 212, 215, 216, 217, 218, 219, 222]
def ask432 : List Addr := [223, 224, 242, 249, 258, 266, 272, 279, 286, 291, 298, 305, 312, 319, 320, 323, 324, 329, 330, 331, 332, 333, 336, 337, 338, 339, 340, 343, 344, 345, 346, 347, 350, 351, 352, 355, 356, 357, 358, 359, 362, 363, 364, 365, 366, 382, 383, 386, 387, 390, 391, 392, 395, 396, 397, 400, 401, 402, 405, 406, 407, 410, 411, 412, 415, 416, 417, 420, 421, 422, 423, 424, 427, 428, 429, 432, 433, 434, 437, 438, 439, 440, 441, 444, 445, 446, 449, 450, 451, 454, 455, 456, 459, 460, 461, 464, 465, 466, 467, 468]
def ask433 : List Addr := [471, 472, 473, 474, 475, 478, 479, 480, 483, 484, 485, 486, 487, 490, 491, 492, 493, 494, 497, 498, 499, 500, 501, 504, 505, 506, 507, 508, 511, 512, 513, 514, 515, 518, 519, 520, 521, 522, 525, 526, 527, 528, 529, 532, 533, 534, 535, 536, 539, 540, 541, 544, 545, 546, 547, 548, 551, 552, 553, 556, 557, 558, 561, 562, 563, 566, 567, 568, 569, 570, 573, 574, 575, 576, 577, 580, 581, 582, 585, 586, 587, 588, 589, 592, 593, 594, 597, 598, 599, 600, 601, 604, 605, 606, 609, 610, 611, 614, 615, 616]
def ask434 : List Addr := [619, 620, 621, 622, 623, 75, 94, 113, 132, 151, 241, 235, 247, 248, 257, 265, 271, 278, 285, 290, 297, 304, 311, 318, 381, 70, 71, 72, 73, 74, 89, 90, 91, 92, 93, 108, 109, 110, 111, 112, 127, 128, 129, 130, 131, 146, 147, 148, 149, 150, 236, 237, 238, 239, 240, 234, 246, 250, 256, 264, 270, 273, 274, 275, 276, 277, 280, 281, 282, 283, 284, 287, 288, 289, 292, 293, 294, 295, 296, 299, 300, 301, 302, 303, 306, 307, 308, 309, 310, 313, 314, 315, 316, 317, 376, 377, 378, 379, 380, 243]
def ask435 : List Addr := [244, 245, 251, 252, 253, 254, 255, 259, 260, 261, 262, 263, 267, 268, 269]
def ask43 : List Addr := ask430 ++ ask431 ++ ask432 ++ ask433 ++ ask434 ++ ask435
abbrev Alk43 : Type := Bool × He.FnW × He.FnW × He.FnW × He.AlD × Bool
def tfk43 : List He.Defn := []
def exk43 (K : PySem.W.Frag) : Bool := errB K "NotASystem" "given" && (errB K "InvalidSeen" "index")
def obsk43 (g : Addr → Option Obj) : Alk43 := (sysP (He.frT g ask43) && exk43 (He.frT g ask43), fnA (He.frT g ask43) (getA (He.frT g ask43) "unknowns"), fnA (He.frT g ask43) (getA (He.frT g ask43) "rows"), fnA (He.frT g ask43) (getA (He.frT g ask43) "names"), He.obsD fask43 fnsk43 (He.frT g ask43), He.tabsB g tfk43 (He.frT g ask43))
structure Saysk43 (h : Heap) (K : PySem.W.Frag) : Prop where
  b : sysP K = true
  e : exk43 K = true
  u : fnA K (getA K "unknowns") = getV "unknowns" "System.unknowns" mSystemUnknowns
  r : fnA K (getA K "rows") = getV "rows" "System.rows" mSystemRows
  n : fnA K (getA K "names") = getV "names" "System.names" mSystemNames
  d : He.SaysD fask43 fnsk43 K
  t : TabsOut tfk43 h K
theorem saysk43_of {h : Heap} (e : obsk43 h.get? = (true, getV "unknowns" "System.unknowns" mSystemUnknowns, getV "rows" "System.rows" mSystemRows, getV "names" "System.names" mSystemNames, He.valD fnsk43, true)) : Saysk43 h (He.frT h.get? ask43) := by
  unfold obsk43 at e
  simp only [Prod.mk.injEq] at e
  obtain ⟨e1, e2, e3, e4, e5, e6⟩ := e
  obtain ⟨e1, e0⟩ := an e1
  exact ⟨e1, e0, e2, e3, e4, e5, tabs_out e6⟩
def hkk43 : PySem.W.Hook where
  α := Alk43
  obs s := obsk43 s.heap.get?
  val _ := (true, getV "unknowns" "System.unknowns" mSystemUnknowns, getV "rows" "System.rows" mSystemRows, getV "names" "System.names" mSystemNames, He.valD fnsk43, true)
  says _ h := ∃ K : PySem.W.Frag, K.In h ∧ Saysk43 h K
  of _ _ e := ⟨_, He.frT_in, saysk43_of e⟩
  keeps _ _ _ c k := c.elim fun K z => ⟨K, z.1.keeps k, { z.2 with t := ⟨z.2.t.hd, z.2.t.out, fun p hp => k _ _ (z.2.t.empty p hp)⟩ }⟩
def obk43 (s : PySem.W.SharedT) : Alk43 := obsk43 (HandSHeadRun.getT s)
theorem obk43_eq (s : PySem.W.SharedT) : obk43 s = hkk43.obs s.abs := by
  have e : HandSHeadRun.getT s = s.abs.heap.get? := funext (HandSHeadRun.getT_eq s)
  unfold obk43
  rw [e]
  rfl
abbrev rowk43 : PySem.W.OpenRow := PySem.W.OpenLaw.row PySem.Challenge.rw_commonanswer_k43_whole_answers_that_were
def namesk430 : List Str := ["_wall", "BadValue", "InvalidText", "NotASystem", "InvalidUnknowns", "InvalidRows", "InvalidSeen", "MOST_UNKNOWNS", "MOST_ROWS", "MOST_NUMBER", "MOST_SEEN", "LETTERS", "DIGITS", "MOST_CHARACTERS", "BOUND", "is_integer"]
def namesk431 : List Str := ["is_tuple_of", "is_name", "is_unknown", "is_stretch", "is_row", "check_unknowns", "check_rows", "line_of", "integer_in", "row_in", "System", "ZERO", "ONE", "is_fraction", "fraction", "plus"]
def namesk432 : List Str := ["is_answer", "check_system", "check_seen", "Table", "first_table", "line_behind", "exchanged", "first_place", "first_wrong", "next_exchange", "settled", "amounts_in", "weights_in", "cheapest_amounts", "in_whole_numbers", "seen_limit"]
def namesk433 : List Str := ["width_limits", "numbers_for", "clash", "fits", "fitting", "_law_purse", "_law_draw", "_law_pick", "_law_low", "_law_plus", "_law_times", "_law_is_less", "_law_stretch", "_law_card", "_law_made", "_law_without_last"]
def namesk434 : List Str := ["_law_has_values", "_law_is_fraction", "_law_sum", "_law_lies", "_law_is_member", "_law_answer", "_law_row_fits", "_law_clash", "_law_is_of", "_law_seen_right", "_law_right", "gcd", "lcm"]
def namesk43 : List Str := namesk430 ++ namesk431 ++ namesk432 ++ namesk433 ++ namesk434
end Ca
set_option Elab.async false
set_option linter.all false
set_option maxRecDepth 100000
set_option maxHeartbeats 0
namespace Ca
open PySem PySem.Spec PyProof.Rows L2
theorem map3 {α β γ δ : Type} {o : Option α} {f : α → β} {g : α → γ} {k : α → δ} {a : β} {b : γ} {c : δ} (h1 : o.map (fun x => (f x, g x)) = some (a, b)) (h3 : o.map k = some c) :
    o.map (fun x => (f x, g x, k x)) = some (a, b, c) := by
  cases o with
  | none => cases h1
  | some x =>
    have e1 := Prod.mk.inj (Option.some.inj h1)
    have e3 := Option.some.inj h3
    show some (f x, g x, k x) = _
    rw [e1.1, e1.2, e3]
noncomputable abbrev wholek43 (w : World) := HandSHeadRun.wholeF (fun p => HandSHeadRun.stepQ (HandSHeadRun.denQ HandSHeadRun.tabQ) p w) HandSHeadRun.fenceQ 20000 rowk43.prog
theorem runlk43 (w : World) : (wholek43 w).map (fun x => (HandSHeadRun.looksF rowk43.prog x.1.heap x.2.abs, HandSHeadRun.seenQ (PySem.W.view rowk43.prog [0, 83]) namesk43 (importedModules rowk43.prog.main.body) (fun s => PySem.W.xlAt (PySem.W.view rowk43.prog [0, 83]) [] s && PySem.W.recOk rowk43.toRowW.records s) x.2.abs)) = some (true, PySem.W.openGood (PySem.W.view rowk43.prog [0, 83]) namesk43) := by kernel_rfl
theorem runok43 (w : World) : (wholek43 w).map (fun x => obk43 x.2) = some (hkk43.val w) := by kernel_rfl
theorem runk43 (w : World) : HandSHeadRun.RunEqI rowk43 (PySem.W.view rowk43.prog [0, 83]) hkk43 obk43 20000 namesk43 w := map3 (runlk43 w) (runok43 w)
end Ca
set_option Elab.async false
set_option linter.all false
set_option maxRecDepth 100000
set_option maxHeartbeats 8000000
namespace Ca
open PySem L2
/-! ### the first quantity that is wrong -/
def tT (t : Tb) (i j : Nat) : Int := (t.rows.getD i []).getD j 0
structure Shp (m n : Nat) (t : Tb) : Prop where
  rl : t.rows.length = m + 1
  re : ∀ r ∈ t.rows, r.length = n + 1
  bl : t.bs.length = m
  fl : t.fs.length = n
  ms : m ≤ 100
  ns : n ≤ 100
def WrongT (m n : Nat) (t : Tb) (q : Nat) : Prop := (∃ i : Nat, t.bs[i]? = some q ∧ tT t i n < 0) ∨ ∃ j : Nat, t.fs[j]? = some q ∧ tT t m j < 0
def rowMarks (m n : Nat) (t : Tb) : List Bool := (List.range m).map fun i => decide (tT t i n < 0)
def colMarks (m n : Nat) (t : Tb) : List Bool := (List.range n).map fun j => decide (tT t m j < 0)
theorem mark_at {k i : Nat} (f : Nat → Bool) (h : i < k) : ((List.range k).map f)[i]? = some (f i) := by
  rw [List.getElem?_map, List.getElem?_range h]
  rfl
theorem wrong_iff {m n : Nat} {t : Tb} (h : Shp m n t) {q : Nat} : WrongT m n t q ↔ q ∈ markedL t.bs (rowMarks m n t) ++ markedL t.fs (colMarks m n t) := by
  rw [List.mem_append, marked_mem, marked_mem]
  refine or_congr ⟨fun ⟨i, h1, h2⟩ => ⟨i, h1, ?_⟩, fun ⟨i, h1, h2⟩ => ⟨i, h1, ?_⟩⟩ ⟨fun ⟨j, h1, h2⟩ => ⟨j, h1, ?_⟩, fun ⟨j, h1, h2⟩ => ⟨j, h1, ?_⟩⟩
  · have l := (List.getElem?_eq_some_iff.mp h1).1
    have := h.bl
    rw [rowMarks, mark_at _ (by omega), decide_eq_true h2]
  · have l := (List.getElem?_eq_some_iff.mp h1).1
    have := h.bl
    rw [rowMarks, mark_at _ (by omega)] at h2
    exact of_decide_eq_true (Option.some.inj h2)
  · have l := (List.getElem?_eq_some_iff.mp h1).1
    have := h.fl
    rw [colMarks, mark_at _ (by omega), decide_eq_true h2]
  · have l := (List.getElem?_eq_some_iff.mp h1).1
    have := h.fl
    rw [colMarks, mark_at _ (by omega)] at h2
    exact of_decide_eq_true (Option.some.inj h2)
theorem row_at_T {m n : Nat} {t : Tb} (h : Shp m n t) {i : Nat} (hi : i < m + 1) : ∃ r, t.rows[i]? = some r ∧ r.length = n + 1 ∧ ∀ j, r.getD j 0 = tT t i j := by
  have hl : i < t.rows.length := by rw [h.rl]; exact hi
  refine ⟨t.rows[i], List.getElem?_eq_getElem hl, h.re _ (List.getElem_mem hl), fun j => ?_⟩
  unfold tT
  rw [List.getD_eq_getElem?_getD (l := t.rows), List.getElem?_eq_getElem hl]
  rfl
theorem atI_neg {α : Type} {xs : List α} {n : Nat} {v : α} (h : xs.length = n + 1) (hv : xs[n]? = some v) : atI xs (-1) = some v := by
  have e : ixN xs.length (-1) = some n := by
    unfold ixN
    rw [if_neg (by omega), if_pos (by omega), h]
    exact congrArg some (by omega)
  unfold atI
  rw [e]
  exact hv
theorem nat_back {ns : List Nat} {i : Nat} {y : V} (h : ((natL ns).map V.int)[i]? = some y) : ∃ n : Nat, ns[i]? = some n ∧ y = V.int (Int.ofNat n) := by
  obtain ⟨x, hx, rfl⟩ := IntsAt.back h
  unfold natL at hx
  rw [List.getElem?_map] at hx
  cases e : ns[i]? with
  | none => rw [e] at hx; cases hx
  | some n => rw [e] at hx; exact ⟨n, rfl, by rw [← Option.some.inj hx]⟩
/-- one number more, if it is marked -/
theorem mark_step {H H5 H6 : Hp} {D : Addr} {ns : List Nat} {ms : List Bool} {i n : Nat} {b : Bool} (hn : ns[i]? = some n) (hb : ms[i]? = some b) (h1000 : ns.length ≤ 1000) (hD : H D = none) (s : Same H H6) (e : IntsAt H6 D (natL (markedL (ns.take i) (ms.take i)))) :
    if b = true then (∃ acc, H6 D = some (.lst acc) ∧ acc.length < sizeLine ∧ Same H (upd H6 D (.lst (acc ++ [V.int (Int.ofNat n)]))) ∧ IntsAt (upd H6 D (.lst (acc ++ [V.int (Int.ofNat n)]))) D (natL (markedL (ns.take (i + 1)) (ms.take (i + 1)))))
    else (Same H H6 ∧ IntsAt H6 D (natL (markedL (ns.take (i + 1)) (ms.take (i + 1))))) := by
  have nx := marked_next hn hb
  cases b with
  | false =>
    refine iteF ⟨s, ?_⟩
    rw [nx]
    simp only [Bool.false_eq_true, if_false, List.append_nil]
    exact e
  | true =>
    have ml := marked_len (ns.take i) (ms.take i)
    rw [List.length_take] at ml
    refine iteT ⟨_, e, ?_, fun u o g => ?_, ?_⟩
    · unfold natL
      rw [List.length_map, List.length_map]
      exact Nat.lt_of_le_of_lt (show _ ≤ 1000 by omega) (by decide)
    · rw [upd_ne (ne_of_none g hD)]
      exact s _ _ g
    · show upd _ _ _ _ = _
      rw [upd_same, nx]
      unfold natL
      simp
def spWrong (C : Addr) : Sp := fun vs H Q _ => ∃ (x : Addr) (t : Tb) (m n : Nat), vs = [.ref x] ∧ TbAt C H x t ∧ Shp m n t ∧ ((∀ q, ¬ WrongT m n t q) → ∀ H', Same H H' → Q .non H') ∧
  ∀ q : Nat, WrongT m n t q → (∀ k, WrongT m n t k → q ≤ k) → ∀ H', Same H H' → Q (.int (q : Nat)) H'
abbrev NFw : List Str := ["table", "below", "cheaper", "number", "line", "cost"]
section
variable {P : Program} {w : World} {K : PySem.W.Frag} {mg : Str → Option Value} {base : Heap} {C : Addr}
theorem scFw : FnScope NFw ["table"] (defScope sFirstWrong) := ⟨rfl, rfl, rfl, by decide +kernel, rfl, by decide +kernel, by decide +kernel⟩
theorem ok_firstWrong {f : Addr} {fd : FuncData} (F : FnT K "first_wrong" sFirstWrong f fd) (T : TabK K C) (mzip : mg "zip" = none) (mmin : mg "min" = none) : FnOk P w K mg base CX0 1 f fd ["table"] (spWrong C) := by
  refine F.ok scFw (fun vs H Q E h => ?_) (fun cdv A outer s H vs Q E hr h => ?_)
  · obtain ⟨x, t, m, n, rfl, _⟩ := h
    rfl
  · obtain ⟨x, t, m, n, rfl, ht, hs, q0, q1⟩ := h
    have nd := scFw.nd
    refine ⟨_, PSs.nox (pss_cons (ps_cut (ps_setLc (i := 1) (own := [("number", 3), ("line", 4)]) (g := gTup K 2 (gCons (gName 3) (gCons (gName 4) gNil))) rfl nd rfl rfl (sw_true rfl rfl rfl (by decide +kernel)) (RZ.pi_zipA (by rfl) mzip (pa_cons (pe_fld (pv 0) rfl) (pa_cons (pe_fld (pv 0) rfl) pa_nil)))
        (blkOk_by (own := [("number", 3), ("line", 4)]) (N := NFw) (sc := defScope sFirstWrong) (by decide +kernel)) (fun _ _ _ _ _ => pgTt K rfl (pgs_cons (pg_name (i := 3) nd rfl (Or.inl rfl)) (pgs_cons (pg_name (i := 4) nd rfl (Or.inl rfl)) pgs_nil))) (fun _ _ _ _ _ => pts_one (pt_cmpR op_lt (pe_ix (ixLt K) (pv 4) (pe_un un_neg pe_int) (fun _ _ => rfl)) pe_int (nomark _)))
        (fun _ _ _ _ _ => pv 3)))
      (pss_cons (ps_cut (ps_setLc (i := 2) (own := [("number", 3), ("cost", 5)]) (g := gTup K 2 (gCons (gName 3) (gCons (gName 5) gNil))) rfl nd rfl rfl (sw_true rfl rfl rfl (by decide +kernel)) (RZ.pi_zipA (by rfl) mzip (pa_cons (pe_fld (pv 0) rfl) (pa_cons (pe_ix (ixLt K) (pe_fld (pv 0) rfl) (pe_un un_neg pe_int) (fun _ _ => rfl)) pa_nil)))
        (blkOk_by (own := [("number", 3), ("cost", 5)]) (N := NFw) (sc := defScope sFirstWrong) (by decide +kernel)) (fun _ _ _ _ _ => pgTt K rfl (pgs_cons (pg_name (i := 3) nd rfl (Or.inl rfl)) (pgs_cons (pg_name (i := 5) nd rfl (Or.inl rfl)) pgs_nil))) (fun _ _ _ _ _ => pts_one (pt_cmpR op_lt (pv 5) pe_int (nomark _)))
        (fun _ _ _ _ _ => pv 3)))
      (pss_one (ps_ret (pe_callBK (cr_minD rfl) (by rfl) mmin PyProof.Rows.boot_min (pa_cons (pe_op op_cat (pv 1) (pv 2)) pa_nil) (pk_cons pe_non pk_nil)))))), ?_⟩
    obtain ⟨dx, L, b, f', hx, ⟨ps, hL, hpl, hrow⟩, hb, hf⟩ := id ht
    have bl := hs.bl
    have fl := hs.fl
    have rl := hs.rl
    have m100 := hs.ms
    have n100 := hs.ns
    refine ⟨fun σ' H' => ∃ y, σ' = [some (.ref x), some (.ref y), none, none, none, none] ∧ Same H H' ∧ IntsAt H' y (natL (markedL t.bs (rowMarks m n t))), ?_, ?_⟩
    · refine ⟨_, rfl, x, C, dx, _, .ref b, rfl, hx, T.cl, T.n3, rfl, _, rfl, x, C, dx, _, .ref L, rfl, hx, T.cl, T.n1, rfl, b, L, _, _, rfl, .inl ⟨hb.sq, SqL.of hL, fun D hD => ?_⟩⟩
      refine lc_it (walk_zip (K := K) (a := b) (b := L) (xs := (natL t.bs).map V.int) (ys := ps.map V.ref) (n := m) (by unfold natL; rw [List.length_map, List.length_map, List.length_map]; omega)) (fun i H' => Same H H' ∧ IntsAt H' D (natL (markedL (t.bs.take i) ((rowMarks m n t).take i)))) ⟨Same.new hD, upd_same⟩ (fun i H' hi p' => ⟨(hb.same p'.1).sq, SqL.of (p'.1 _ _ hL)⟩) ?_ ?_
      · rintro i z H5 _ hi ⟨s5, bD⟩ ⟨T1, x1, y1, rfl, hT, rfl, hx1, hy⟩
        have s6 := Same.new (o := .tup [x1, y1]) hT
        have s56 := s5.trans s6
        obtain ⟨k, hk, rfl⟩ := nat_back hx1
        obtain ⟨r, hr1, hr2, hr3⟩ := row_at_T hs (i := i) (by omega)
        have him : i < m := hi
        obtain ⟨p, hp, rfl⟩ : ∃ p, ps[i]? = some p ∧ y1 = V.ref p := by
          replace hy : (ps.map V.ref)[i]? = some y1 := hy
          rw [List.getElem?_map] at hy
          cases e : ps[i]? with
          | none => rw [e] at hy; cases hy
          | some p => rw [e] at hy; exact ⟨p, rfl, (Option.some.inj hy).symm⟩
        have ip := (hrow i p r hp hr1).same s56
        have last : ((r.map V.int))[n]? = some (V.int (tT t i n)) := by
          rw [← hr3 n]
          exact IntsAt.get (getD_at (by omega))
        refine ⟨T1, _, rfl, SqT.of upd_same, rfl, _, _, rfl, _, _, rfl, rfl, rfl, _, rfl, _, rfl, p, _, _, .int (tT t i n), rfl, rfl, ip.sq, atI_neg (by rw [List.length_map]; exact hr2) last, _, _, rfl, rfl, _, rfl, ?_⟩
        have mk : (rowMarks m n t)[i]? = some (decide (tT t i n < 0)) := mark_at _ him
        have := mark_step (H5 := H5) hk mk (by omega) hD s56 (bD.same s6)
        refine ite2 (fun c => ?_) (fun c => ?_)
        · rw [if_pos c] at this
          exact ⟨_, rfl, this⟩
        · rw [if_neg c] at this
          exact this
      · rintro H5 ⟨s5, bD⟩
        rw [show t.bs.take m = t.bs by rw [← bl, List.take_length], show (rowMarks m n t).take m = rowMarks m n t by rw [List.take_of_length_le]; unfold rowMarks; rw [List.length_map, List.length_range]; exact Nat.le_refl _] at bD
        exact ⟨D, rfl, s5, bD⟩
    rintro _ H1 ⟨y1, rfl, s1, ey1⟩
    have hx1 := s1 _ _ hx
    have hL1 := s1 _ _ hL
    have hf1 := hf.same s1
    obtain ⟨rc, hc1, hc2, hc3⟩ := row_at_T hs (i := m) (by omega)
    obtain ⟨pc, hpc⟩ : ∃ p, ps[m]? = some p := ⟨_, List.getElem?_eq_getElem (by omega)⟩
    have ic := (hrow m pc rc hpc hc1).same s1
    refine ⟨fun σ' H' => ∃ y, σ' = [some (.ref x), some (.ref y1), some (.ref y), none, none, none] ∧ Same H1 H' ∧ IntsAt H' y (natL (markedL t.fs (colMarks m n t))), ?_, ?_⟩
    · refine ⟨_, rfl, x, C, dx, _, .ref f', rfl, hx1, T.cl, T.n4, rfl, _, rfl, x, C, dx, _, .ref L, rfl, hx1, T.cl, T.n1, rfl, _, rfl, L, _, _, .ref pc, rfl, rfl, SqL.of hL1, atI_neg (n := m) (by rw [List.length_map]; omega) (by rw [List.getElem?_map, hpc]; rfl), f', pc, _, _, rfl, .inl ⟨hf1.sq, ic.sq, fun D hD => ?_⟩⟩
      refine lc_it (walk_zip (K := K) (a := f') (b := pc) (xs := (natL t.fs).map V.int) (ys := rc.map V.int) (n := n) (by unfold natL; rw [List.length_map, List.length_map, List.length_map]; omega)) (fun i H' => Same H1 H' ∧ IntsAt H' D (natL (markedL (t.fs.take i) ((colMarks m n t).take i)))) ⟨Same.new hD, upd_same⟩ (fun i H' hi p' => ⟨(hf1.same p'.1).sq, (ic.same p'.1).sq⟩) ?_ ?_
      · rintro i z H5 _ hi ⟨s5, bD⟩ ⟨T1, x1, z1, rfl, hT, rfl, hx2, hy⟩
        have s6 := Same.new (o := .tup [x1, z1]) hT
        have s56 := s5.trans s6
        obtain ⟨k, hk, rfl⟩ := nat_back hx2
        obtain ⟨c, hc, rfl⟩ := IntsAt.back hy
        have hin : i < n := hi
        have ce : c = tT t m i := by
          rw [← hc3 i]
          have := getD_at (xs := rc) (i := i) (by omega)
          rw [hc] at this
          exact Option.some.inj this
        subst ce
        refine ⟨T1, _, rfl, SqT.of upd_same, rfl, _, _, rfl, _, _, rfl, rfl, rfl, _, rfl, _, _, rfl, rfl, _, rfl, ?_⟩
        have mk : (colMarks m n t)[i]? = some (decide (tT t m i < 0)) := mark_at _ hin
        have := mark_step (H5 := H5) hk mk (by omega) hD s56 (bD.same s6)
        refine ite2 (fun c => ?_) (fun c => ?_)
        · rw [if_pos c] at this
          exact ⟨_, rfl, this⟩
        · rw [if_neg c] at this
          exact this
      · rintro H5 ⟨s5, bD⟩
        rw [show t.fs.take n = t.fs by rw [← fl, List.take_length], show (colMarks m n t).take n = colMarks m n t by rw [List.take_of_length_le]; unfold colMarks; rw [List.length_map, List.length_range]; exact Nat.le_refl _] at bD
        exact ⟨D, rfl, s5, bD⟩
    rintro _ H2 ⟨y2, rfl, s2, ey2⟩
    have e1 := ey1.same s2
    have w1 := marked_len t.bs (rowMarks m n t)
    have w2 := marked_len t.fs (colMarks m n t)
    refine ⟨_, rfl, _, rfl, y1, y2, _, _, rfl, rfl, e1, ey2, ?_, fun y3 h3 => ?_⟩
    · unfold natL
      rw [List.length_map, List.length_map, List.length_map, List.length_map]
      exact Nat.le_trans (show _ ≤ 200 by omega) (by decide)
    have s3 := Same.new (o := .lst ((natL (markedL t.bs (rowMarks m n t))).map V.int ++ (natL (markedL t.fs (colMarks m n t))).map V.int)) h3
    have all := s1.trans (s2.trans s3)
    refine ⟨y3, natL (markedL t.bs (rowMarks m n t) ++ markedL t.fs (colMarks m n t)), rfl, rfl, SqL.of (by rw [upd_same]; unfold natL; simp), fun z => q0 (fun q hq => ?_) _ all, fun k hk least => ?_⟩
    · have := (wrong_iff hs).mp hq
      unfold natL at z
      rw [List.map_eq_nil_iff.mp z] at this
      cases this
    · obtain ⟨q, hq, rfl⟩ := List.mem_map.mp hk
      exact q1 q ((wrong_iff hs).mpr hq) (fun k hk' => Int.ofNat_le.mp (least (Int.ofNat k) (List.mem_map_of_mem ((wrong_iff hs).mp hk')))) _ all
end
end Ca
set_option Elab.async false
set_option linter.all false
set_option maxRecDepth 100000
set_option maxHeartbeats 8000000
namespace Ca
open PySem L2
/-! ### the next exchange -/
def ByRowT (m n : Nat) (t : Tb) (i j b f : Nat) : Prop := tT t i n < 0 ∧ tT t i j < 0 ∧ (∀ q, WrongT m n t q → b ≤ q) ∧ ∀ l q : Nat, t.fs[l]? = some q → tT t i l < 0 → f ≤ q
def ByColT (m n : Nat) (t : Tb) (i j b f : Nat) : Prop := tT t m j < 0 ∧ 0 < tT t i j ∧ (∀ q, WrongT m n t q → f ≤ q) ∧ ∀ l q : Nat, t.bs[l]? = some q → 0 < tT t l j → b ≤ q
/-- the row of the first wrong quantity -/
def FirstR (m n : Nat) (t : Tb) (i : Nat) : Prop := ∀ q b : Nat, WrongT m n t q → t.bs[i]? = some b → b ≤ q
/-- what is told as the next exchange -/
def NextT (m n : Nat) (t : Tb) (a c : V) : Prop :=
  (a = .non ∧ c = .non ∧ ∀ q, ¬ WrongT m n t q) ∨ (∃ i : Nat, a = .int i ∧ c = .non ∧ i < m ∧ tT t i n < 0 ∧ (∀ j, j < n → 0 ≤ tT t i j) ∧ FirstR m n t i) ∨ (∃ j : Nat, a = .non ∧ c = .int j ∧ j < n ∧ tT t m j < 0 ∧ ∀ i, i < m → tT t i j ≤ 0) ∨
  (∃ i j b f : Nat, a = .int i ∧ c = .int j ∧ t.bs[i]? = some b ∧ t.fs[j]? = some f ∧ (ByRowT m n t i j b f ∨ ByColT m n t i j b f))
theorem inV_ints (q : Nat) : ∀ ns : List Nat, inV (.int (Int.ofNat q)) ((natL ns).map V.int) = decide (q ∈ ns)
  | [] => by simp [inV, natL]
  | n :: ns => by
    have ih := inV_ints q ns
    unfold inV natL at ih ⊢
    rw [List.map_cons, List.map_cons, List.any_cons, ih, eqV_int]
    by_cases h : n = q
    · subst h
      simp
    · have h' : ¬ (Int.ofNat n = Int.ofNat q) := fun z => h (Int.ofNat.inj z)
      rw [decide_eq_false h']
      simp [Ne.symm h]
theorem flat_ints (ns : List Nat) : ((natL ns).map V.int).all flatV = true := by
  rw [List.all_eq_true]
  intro v hv
  obtain ⟨i, _, rfl⟩ := List.mem_map.mp hv
  rfl
/-- where a number stands -/
theorem idx_parts {ns : List Nat} {i q : Nat} (nd : ns.Nodup) (hq : ns[i]? = some q) : ((natL ns).map V.int)[i]? = some (V.int (Int.ofNat q)) ∧ eqV (V.int (Int.ofNat q)) (V.int (Int.ofNat q)) = true ∧ ∀ (m : Nat) (z' : V), m < i → ((natL ns).map V.int)[m]? = some z' → eqV z' (V.int (Int.ofNat q)) = false := by
  have li := (List.getElem?_eq_some_iff.mp hq).1
  refine ⟨IntsAt.get (by unfold natL; rw [List.getElem?_map, hq]; rfl), by rw [eqV_int]; exact decide_eq_true rfl, fun k z' hk hz => ?_⟩
  obtain ⟨p, hp, rfl⟩ := nat_back hz
  rw [eqV_int]
  refine decide_eq_false fun z => ?_
  rw [Int.ofNat.inj z, ← hq] at hp
  have := (List.getElem?_inj (by omega) nd).mp hp
  omega
theorem cut_lastT (xs : List V) (n : Nat) (h : xs.length = n + 1) : cutV xs none (some (-1)) = xs.take n := by
  unfold cutV
  have e : HT.sIx xs.length xs.length (some (-1)) = n := by
    show (if (-1 : Int) < 0 then ((-1 : Int) + (xs.length : Int)).toNat else min (-1 : Int).toNat xs.length) = n
    rw [if_pos (by decide), h]
    omega
  rw [e, HT.sIx_none, List.drop_zero, Nat.sub_zero]
def spNext (K : PySem.W.Frag) (C : Addr) : Sp := fun vs H Q _ => ∃ (x : Addr) (t : Tb) (m n : Nat), vs = [.ref x] ∧ TbAt C H x t ∧ Shp m n t ∧ (t.bs ++ t.fs).Nodup ∧ ∀ H' y a c, Same H H' → SqT K H' y [a, c] → NextT m n t a c → Q (.ref y) H'
abbrev NNx : List Str := ["table", "number", "row", "column", "entry", "line"]
section
variable {P : Program} {w : World} {K : PySem.W.Frag} {mg : Str → Option Value} {base : Heap} {C : Addr}
theorem scNx : FnScope NNx ["table"] (defScope sNextExchange) := ⟨rfl, rfl, rfl, by decide +kernel, rfl, by decide +kernel, by decide +kernel⟩
theorem ok_next {f fW fP : Addr} {fd fdW fdP : FuncData} (F : FnT K "next_exchange" sNextExchange f fd) (T : TabK K C)
    (gW : mg "first_wrong" = some (.ref fW)) (GW : FnOk P w K mg base CX0 1 fW fdW ["table"] (spWrong C)) (kW : PySem.W.keepIn K (.ref fW) = true) (bW : Binds K fdW ["table"] [])
    (gP : mg "first_place" = some (.ref fP)) (GP : FnOk P w K mg base CX0 1 fP fdP ["numbers", "marks"] (spFirst K)) (kP : PySem.W.keepIn K (.ref fP) = true) (bP : Binds K fdP ["numbers", "marks"] []) :
    FnOk P w K mg base CX0 2 f fd ["table"] (spNext K C) := by
  refine F.ok scNx (fun vs H Q E h => ?_) (fun cdv A outer s H vs Q E hr h => ?_)
  · obtain ⟨x, t, m, n, rfl, _⟩ := h
    rfl
  · obtain ⟨x, t, m, n, rfl, ht, hs, hnd, q⟩ := h
    have nd := scNx.nd
    refine ⟨_, PSs.nox (pss_cons (ps_cut (ps_set (i := 1) nd rfl (.inl rfl) (pe_call GW hr rfl gW kW bW .nil pass0 (pa_cons (pv 0) pa_nil))))
      (pss_cons (ps_cut (ps_if (pt_cmpR op_isN (pv 1) pe_non (nomark _)) (pss_one (ps_ret (pe_tup (pa_cons pe_non (pa_cons pe_non pa_nil))))) pss_nil))
      (pss_cons (ps_cut (ps_if (pt_cmpR op_in_seq (pv 1) (pe_fld (pv 0) rfl) rfl)
          (pss_cons (ps_cut (ps_set (i := 2) nd rfl (.inl rfl) (pe_bm PySem.F.plainAttrs_list PySem.F.slot_list_index PySem.F.type_list_index mt_index (pe_fld (pv 0) rfl) (pa_cons (pv 1) pa_nil))))
          (pss_one (ps_ret (pe_tup (pa_cons (pv 2) (pa_cons (pe_call GP hr rfl gP kP bP .nil pass0 (pa_cons (pe_fld (pv 0) rfl) (pa_cons (pe_lc (own := [("entry", 4)]) (g := gName 4) (tt := tYes) rfl nd (pi_list (pe_slice sl_list (pe_ix (ixLt K) (pe_fld (pv 0) rfl) (pv 2) (fun _ _ => rfl)) po_none (po_some (pe_un un_neg pe_int))))
              (blkOk_by (own := [("entry", 4)]) (N := NNx) (sc := defScope sNextExchange) (by decide +kernel)) (fun _ _ _ _ _ => pg_name (i := 4) nd rfl (Or.inl rfl)) (fun _ _ _ _ _ => pts_nil)
              (fun _ _ _ _ _ => pe_cmpR op_lt (pv 4) pe_int (nomark _))) pa_nil))) pa_nil)))))) pss_nil))
      (pss_cons (ps_cut (ps_set (i := 3) nd rfl (.inr rfl) (pe_bm PySem.F.plainAttrs_list PySem.F.slot_list_index PySem.F.type_list_index mt_index (pe_fld (pv 0) rfl) (pa_cons (pv 1) pa_nil))))
      (pss_one (ps_ret (pe_tup (pa_cons (pe_call GP hr rfl gP kP bP .nil pass0 (pa_cons (pe_fld (pv 0) rfl) (pa_cons (pe_lc (own := [("line", 5)]) (g := gName 5) (tt := tYes) rfl nd (pi_list (pe_slice sl_list (pe_fld (pv 0) rfl) po_none (po_some (pe_un un_neg pe_int))))
              (blkOk_by (own := [("line", 5)]) (N := NNx) (sc := defScope sNextExchange) (by decide +kernel)) (fun _ _ _ _ _ => pg_name (i := 5) nd rfl (Or.inl rfl)) (fun _ _ _ _ _ => pts_nil)
              (fun _ _ _ _ _ => pe_cmpR op_gt (pe_ix (ixLt K) (pv 5) (pv 3) (fun _ _ => rfl)) pe_int (nomark _))) pa_nil))) (pa_cons (pv 3) pa_nil))))))))), ?_⟩
    obtain ⟨dx, L, b, f', hx, ⟨ps, hL, hpl, hrow⟩, hb, hf⟩ := id ht
    have bl := hs.bl
    have fl := hs.fl
    have rl := hs.rl
    have m100 := hs.ms
    have n100 := hs.ns
    obtain ⟨nb, nf, ndis⟩ := List.nodup_append.mp hnd
    have two : 2 ≤ sizeLine := by decide
    refine ⟨fun σ' H' => ∃ v, σ' = [some (.ref x), some v, none, none, none, none] ∧ Same H H' ∧ ((v = .non ∧ ∀ q, ¬ WrongT m n t q) ∨ ∃ q : Nat, v = .int (Int.ofNat q) ∧ WrongT m n t q ∧ ∀ k, WrongT m n t k → q ≤ k), ?_, ?_⟩
    · exact ⟨_, rfl, x, t, m, n, rfl, ht, hs, fun no H' s' => ⟨_, rfl, s', .inl ⟨rfl, no⟩⟩, fun q w least H' s' => ⟨_, rfl, s', .inr ⟨q, rfl, w, least⟩⟩⟩
    rintro _ H1 ⟨v, rfl, s1, hv⟩
    have hx1 := s1 _ _ hx
    have hL1 := s1 _ _ hL
    have hb1 := hb.same s1
    have hf1 := hf.same s1
    refine ⟨fun σ' H' => σ' = [some (.ref x), some v, none, none, none, none] ∧ H' = H1 ∧ ∃ q : Nat, v = .int (Int.ofNat q) ∧ WrongT m n t q ∧ ∀ k, WrongT m n t k → q ≤ k, ?_, ?_⟩
    · refine ⟨_, rfl, rfl, _, rfl, ?_⟩
      rcases hv with ⟨rfl, no⟩ | ⟨q', rfl, w, least⟩
      · rw [decide_eq_true rfl]
        refine iteT ⟨two, fun y hy => q _ y .non .non (s1.trans (Same.new hy)) (SqT.of upd_same) (.inl ⟨rfl, rfl, no⟩)⟩
      · rw [decide_eq_false (fun z => nomatch z)]
        exact iteF ⟨rfl, rfl, q', rfl, w, least⟩
    rintro _ H2 ⟨rfl, rfl, q', rfl, w, least'⟩
    -- a basic one
    refine ⟨fun σ' H' => σ' = [some (.ref x), some (.int (Int.ofNat q')), none, none, none, none] ∧ H' = H2 ∧ q' ∉ t.bs, ?_, ?_⟩
    · refine ⟨_, rfl, _, rfl, x, C, dx, _, .ref b, rfl, hx1, T.cl, T.n3, rfl, b, _, rfl, .inl hb1.sq, rfl, flat_ints _, _, rfl, ?_⟩
      rw [inV_ints]
      by_cases hin : q' ∈ t.bs
      · rw [show (if false = true then !decide (q' ∈ t.bs) else decide (q' ∈ t.bs)) = true by simp [hin]]
        refine iteT ?_
        obtain ⟨i, hi⟩ := List.mem_iff_getElem?.mp hin
        have il := (List.getElem?_eq_some_iff.mp hi).1
        have low : tT t i n < 0 := by
          rcases w with ⟨k, hk, hw⟩ | ⟨k, hk, _⟩
          · have : i = k := (List.getElem?_inj il nb).mp (by rw [hi, hk])
            rw [this]
            exact hw
          · exact absurd rfl (ndis q' hin q' (List.mem_of_getElem? hk))
        obtain ⟨r, hr1, hr2, hr3⟩ := row_at_T hs (i := i) (by omega)
        obtain ⟨p, hp⟩ : ∃ p, ps[i]? = some p := ⟨_, List.getElem?_eq_getElem (by omega)⟩
        have ip := (hrow i p r hp hr1).same s1
        refine ⟨fun σ' H' => σ' = [some (.ref x), some (.int (Int.ofNat q')), some (.int (i : Nat)), none, none, none] ∧ H' = H2, ?_, ?_⟩
        · refine ⟨_, rfl, x, C, dx, _, .ref b, rfl, hx1, T.cl, T.n3, rfl, .inl ⟨rfl, _, hb1.sq⟩, _, rfl, b, _, .int (Int.ofNat q'), i, .int (Int.ofNat q'), rfl, rfl, hb1.sq, rfl, flat_ints _, (idx_parts nb hi).1, (idx_parts nb hi).2.1, (idx_parts nb hi).2.2, rfl, rfl⟩
        rintro _ H3 ⟨rfl, rfl⟩
        refine ⟨_, rfl, _, rfl, x, C, dx, _, .ref f', rfl, hx1, T.cl, T.n4, rfl, ?_⟩
        refine ⟨_, rfl, x, C, dx, _, .ref L, rfl, hx1, T.cl, T.n1, rfl, _, rfl, L, _, _, .ref p, rfl, rfl, SqL.of hL1, atI_nat (by rw [List.getElem?_map, hp]; rfl), _, rfl, _, rfl, p, _, rfl, ip.sq, fun y4 h4 => ?_⟩
        rw [cut_lastT _ n (by rw [List.length_map]; exact hr2)]
        have s4 := Same.new (o := .lst ((r.map V.int).take n)) h4
        refine ⟨y4, rfl, ⟨_, SqL.of upd_same⟩, fun D hD => ?_⟩
        refine lc_it (walk_list (K := K) (a := y4) (xs := (r.map V.int).take n)) (fun k H' => Same (upd H3 y4 (.lst ((r.map V.int).take n))) H' ∧ H' D = some (.lst (((List.range k).map fun j => decide (tT t i j < 0)).map V.bl))) ⟨Same.new hD, upd_same⟩ (fun k H' hk p' => SqL.of (p'.1 _ _ upd_same)) ?_ ?_
        · rintro k z H5 _ hk ⟨s5, bD⟩ ⟨rfl, hz⟩
          have kn : k < n := by
            have : k < ((r.map V.int).take n).length := hk
            rw [List.length_take, List.length_map] at this
            omega
          have ez : z = .int (tT t i k) := by
            replace hz : ((r.map V.int).take n)[k]? = some z := hz
            rw [List.getElem?_take_of_lt kn, IntsAt.get (getD_at (xs := r) (i := k) (by omega))] at hz
            rw [← hr3 k]
            exact (Option.some.inj hz).symm
          subst ez
          refine ⟨rfl, rdYes ⟨_, rfl, _, _, rfl, rfl, ?_⟩⟩
          refine ⟨_, bD, ?_, fun u o e => ?_, ?_⟩
          · rw [List.length_map, List.length_map, List.length_range]
            exact Nat.lt_of_le_of_lt (show k ≤ 100 by omega) (by decide)
          · rw [upd_ne (ne_of_none e hD)]
            exact s5 _ _ e
          · rw [upd_same, List.range_succ, List.map_append, List.map_append]
            rfl
        · rintro H5 ⟨s5, bD⟩
          have ln : ((r.map V.int).take n).length = n := by
            rw [List.length_take, List.length_map]
            omega
          rw [ln] at bD
          have s25 := s4.trans s5
          refine ⟨f', D, t.fs, (List.range n).map fun j => decide (tT t i j < 0), rfl, hf1.same s25, bD, by rw [List.length_map, List.length_range]; exact fl, by omega, nf, fun no H6 s6 => ⟨two, fun y hy => ?_⟩, fun j g hj hm least H6 s6 => ⟨two, fun y hy => ?_⟩⟩
          · refine q _ y _ _ (s1.trans (s25.trans (s6.trans (Same.new hy)))) (SqT.of upd_same) (.inr (.inl ⟨i, rfl, rfl, by omega, low, fun j hj => ?_, fun k b hk hb => by rw [hi] at hb; cases hb; exact least' k hk⟩))
            have := no j (t.fs[j]'(by omega)) (List.getElem?_eq_getElem (by omega))
            rw [mark_at _ hj] at this
            by_cases z : tT t i j < 0
            · exact absurd (by rw [decide_eq_true z]) this
            · omega
          · have jl := (List.getElem?_eq_some_iff.mp hj).1
            rw [mark_at _ (by omega)] at hm
            refine q _ y _ _ (s1.trans (s25.trans (s6.trans (Same.new hy)))) (SqT.of upd_same) (.inr (.inr (.inr ⟨i, j, q', g, rfl, rfl, hi, hj, .inl ⟨low, of_decide_eq_true (Option.some.inj hm), least', fun l k hl hlt => ?_⟩⟩)))
            have ll := (List.getElem?_eq_some_iff.mp hl).1
            exact least l k hl (by rw [mark_at _ (by omega), decide_eq_true hlt])
      · rw [show (if false = true then !decide (q' ∈ t.bs) else decide (q' ∈ t.bs)) = false by simp [hin]]
        exact iteF ⟨rfl, rfl, hin⟩
    rintro _ H3 ⟨rfl, rfl, nin⟩
    -- a free one
    obtain ⟨j, hj, low⟩ : ∃ j : Nat, t.fs[j]? = some q' ∧ tT t m j < 0 := by
      rcases w with ⟨k, hk, _⟩ | ⟨k, hk, hw⟩
      · exact absurd (List.mem_of_getElem? hk) nin
      · exact ⟨k, hk, hw⟩
    have jl := (List.getElem?_eq_some_iff.mp hj).1
    refine ⟨fun σ' H' => σ' = [some (.ref x), some (.int (Int.ofNat q')), none, some (.int (j : Nat)), none, none] ∧ H' = H3, ?_, ?_⟩
    · exact ⟨_, rfl, x, C, dx, _, .ref f', rfl, hx1, T.cl, T.n4, rfl, .inl ⟨rfl, _, hf1.sq⟩, _, rfl, f', _, .int (Int.ofNat q'), j, .int (Int.ofNat q'), rfl, rfl, hf1.sq, rfl, flat_ints _, (idx_parts nf hj).1, (idx_parts nf hj).2.1, (idx_parts nf hj).2.2, rfl, rfl⟩
    rintro _ H4 ⟨rfl, rfl⟩
    refine ⟨_, rfl, x, C, dx, _, .ref b, rfl, hx1, T.cl, T.n3, rfl, _, rfl, x, C, dx, _, .ref L, rfl, hx1, T.cl, T.n1, rfl, _, rfl, _, rfl, L, _, rfl, SqL.of hL1, fun y4 h4 => ?_⟩
    rw [cut_lastT _ m (by rw [List.length_map]; omega)]
    have s4 := Same.new (o := .lst ((ps.map V.ref).take m)) h4
    refine ⟨y4, rfl, ⟨_, SqL.of upd_same⟩, fun D hD => ?_⟩
    refine lc_it (walk_list (K := K) (a := y4) (xs := (ps.map V.ref).take m)) (fun k H' => Same (upd H4 y4 (.lst ((ps.map V.ref).take m))) H' ∧ H' D = some (.lst (((List.range k).map fun i => decide (0 < tT t i j)).map V.bl))) ⟨Same.new hD, upd_same⟩ (fun k H' hk p' => SqL.of (p'.1 _ _ upd_same)) ?_ ?_
    · rintro k z H5 _ hk ⟨s5, bD⟩ ⟨rfl, hz⟩
      have km : k < m := by
        have : k < ((ps.map V.ref).take m).length := hk
        rw [List.length_take, List.length_map] at this
        omega
      obtain ⟨p, hp⟩ : ∃ p, ps[k]? = some p := ⟨_, List.getElem?_eq_getElem (by omega)⟩
      have ez : z = .ref p := by
        replace hz : ((ps.map V.ref).take m)[k]? = some z := hz
        rw [List.getElem?_take_of_lt km, List.getElem?_map, hp] at hz
        exact (Option.some.inj hz).symm
      subst ez
      obtain ⟨r, hr1, hr2, hr3⟩ := row_at_T hs (i := k) (by omega)
      have ip := (hrow k p r hp hr1).same (s1.trans (s4.trans s5))
      have at_j : (r.map V.int)[j]? = some (V.int (tT t k j)) := by
        rw [← hr3 j]
        exact IntsAt.get (getD_at (by omega))
      refine ⟨rfl, rdYes ⟨_, rfl, _, rfl, p, _, _, .int (tT t k j), rfl, rfl, ip.sq, atI_nat at_j, _, _, rfl, rfl, ?_⟩⟩
      refine ⟨_, bD, ?_, fun u o e => ?_, ?_⟩
      · rw [List.length_map, List.length_map, List.length_range]
        exact Nat.lt_of_le_of_lt (show k ≤ 100 by omega) (by decide)
      · rw [upd_ne (ne_of_none e hD)]
        exact s5 _ _ e
      · rw [upd_same, List.range_succ, List.map_append, List.map_append]
        rfl
    · rintro H5 ⟨s5, bD⟩
      have lm : ((ps.map V.ref).take m).length = m := by
        rw [List.length_take, List.length_map]
        omega
      rw [lm] at bD
      have s25 := s4.trans s5
      refine ⟨b, D, t.bs, (List.range m).map fun i => decide (0 < tT t i j), rfl, hb1.same s25, bD, by rw [List.length_map, List.length_range]; exact bl, by omega, nb, fun no H6 s6 => ⟨_, rfl, two, fun y hy => ?_⟩, fun i g hi hm least H6 s6 => ⟨_, rfl, two, fun y hy => ?_⟩⟩
      · refine q _ y _ _ (s1.trans (s25.trans (s6.trans (Same.new hy)))) (SqT.of upd_same) (.inr (.inr (.inl ⟨j, rfl, rfl, by omega, low, fun i hi => ?_⟩)))
        have := no i (t.bs[i]'(by omega)) (List.getElem?_eq_getElem (by omega))
        rw [mark_at _ hi] at this
        by_cases z : 0 < tT t i j
        · exact absurd (by rw [decide_eq_true z]) this
        · omega
      · have il := (List.getElem?_eq_some_iff.mp hi).1
        rw [mark_at _ (by omega)] at hm
        refine q _ y _ _ (s1.trans (s25.trans (s6.trans (Same.new hy)))) (SqT.of upd_same) (.inr (.inr (.inr ⟨i, j, g, q', rfl, rfl, hi, hj, .inr ⟨low, of_decide_eq_true (Option.some.inj hm), least', fun l k hl hlt => ?_⟩⟩)))
        have ll := (List.getElem?_eq_some_iff.mp hl).1
        exact least l k hl (by rw [mark_at _ (by omega), decide_eq_true hlt])
end
end Ca
set_option Elab.async false
set_option linter.all false
set_option maxRecDepth 100000
set_option maxHeartbeats 8000000
namespace Ca
open PySem L2
section
variable {X : Cx} {o : Expr} {f : Str} {apos : Pos} {ta : TE}
theorem piListT (K : PySem.W.Frag) {tg e : Expr} {te : TE} (he : PE X e te) (h : X.K = K := by rfl) : PI X tg e (iList K te) := h ▸ pi_list he
theorem pe_fldT (K : PySem.W.Frag) (ha : PE X o ta) (hb : attributeBase o f X.env (eval o X.env) = eval o X.env) (h : X.K = K := by rfl) : PE X (.Attribute o f apos) (tFld K ta f) := h ▸ pe_fld ha hb
end
theorem cut_takeT (xs : List V) (k : Nat) (h : k ≤ xs.length) : cutV xs none (some (k : Int)) = xs.take k := by
  unfold cutV
  rw [HT.sIx_none, HT.sIx_nat, List.drop_zero, Nat.sub_zero, Nat.min_eq_left h]
theorem cut_dropT (xs : List V) (k : Nat) (h : k ≤ xs.length) : cutV xs (some (k : Int)) none = xs.drop k := by
  unfold cutV
  rw [HT.sIx_none, HT.sIx_nat, Nat.min_eq_left h]
  exact List.take_of_length_le (by rw [List.length_drop]; omega)
theorem rd_noT {σ : L2.St} {H : Hp} {Q : Option Int → Hp → Prop} (h : Q none H) : tNoPart σ H Q := h
theorem rd_slI {K : PySem.W.Frag} {H : Hp} {a : Addr} {xs ys : List Int} {lo hi : Option Int} {Q : VK} (h : IntsAt H a xs) (e : cutV (xs.map V.int) lo hi = ys.map V.int) (q : ∀ H' b, Same H H' → IntsAt H' b ys → Q (.ref b) H') : rSlL K (.ref a) lo hi H Q :=
  ⟨a, _, rfl, h.sq, fun p hp => by rw [e]; exact q _ p (Same.new hp) upd_same⟩
theorem rd_catI {H : Hp} {a b : Addr} {xs ys : List Int} {Q : VK} (h1 : IntsAt H a xs) (h2 : IntsAt H b ys) (hl : xs.length + ys.length ≤ 100000) (q : ∀ H' c, Same H H' → IntsAt H' c (xs ++ ys) → Q (.ref c) H') : rCat (.ref a) (.ref b) H Q :=
  ⟨a, b, _, _, rfl, rfl, h1, h2, by rw [List.length_map, List.length_map]; exact Nat.le_trans hl (by decide), fun p hp => by rw [← List.map_append]; exact q _ p (Same.new hp) upd_same⟩
theorem ixNt {n k : Nat} (h : k < n) : ixN n (k : Int) = some k := by
  unfold ixN
  rw [if_pos (by omega), if_pos (by omega)]
  simp
theorem apartT {H : Hp} {D q : Addr} {qs : List Addr} {r : List Int} (hD : H D = some (.lst (qs.map V.ref))) (ne : qs ≠ []) (h : IntsAt H q r) : q ≠ D := fun z => by
  unfold IntsAt at h
  rw [z, hD] at h
  injection h with h
  injection h with h
  cases qs with
  | nil => exact ne rfl
  | cons a qs =>
    cases r with
    | nil => cases h
    | cons i r =>
      have := (List.cons.inj h).1
      cases this
theorem made_sameT {H H' : Hp} {x dx C : Addr} (hx : H x = none) (hdx : H dx = none) (k : Kept x (upd (upd H dx (.own x)) x (.ins C dx [])) H') : Same H H' := fun b o e => by
  have n1 := ne_of_none e hx
  exact k b o n1 (by rw [upd_ne n1, upd_ne (ne_of_none e hdx)]; exact e)
def rowOf (t : Tb) (l : Nat) : List Int := t.rows.getD l []
def exRow (t : Tb) (i j l : Nat) : List Int := if l = i then (rowOf t i).take j ++ [t.D] ++ (rowOf t i).drop (j + 1) else behindL (rowOf t l) (rowOf t i) j t.D
/-- lists behind a list of references -/
def RefsAt (H : Hp) (D : Addr) (k : Nat) (row : Nat → List Int) : Prop := ∃ qs : List Addr, H D = some (.lst (qs.map V.ref)) ∧ qs.length = k ∧ ∀ (l : Nat) (q : Addr), qs[l]? = some q → IntsAt H q (row l)
theorem RefsAt.same {H H' : Hp} {D : Addr} {k : Nat} {row : Nat → List Int} (h : RefsAt H D k row) (s : Same H H') : RefsAt H' D k row := by
  obtain ⟨qs, h1, h2, h3⟩ := h
  exact ⟨qs, s _ _ h1, h2, fun l q hl => (h3 l q hl).same s⟩
theorem rowOf_get {t : Tb} {k l : Nat} (h : l < (rowOf t k).length) : (rowOf t k)[l]? = some (tT t k l) := getD_at h
theorem exRow_get {m n : Nat} {t : Tb} {i j : Nat} (row : ∀ k, k < m + 1 → (rowOf t k).length = n + 1) (hi : i < m) (hj : j < n) {k l : Nat} (hk : k ≤ m) (hl : l ≤ n) : (exRow t i j k)[l]? = some (Det.exch (tT t) t.D i j k l) := by
  have ri := row i (by omega)
  have rk := row k (by omega)
  unfold exRow Det.exch
  by_cases g : k = i
  · rw [if_pos g, if_pos g]
    have lt : ((rowOf t i).take j).length = j := by rw [List.length_take]; omega
    by_cases e : l = j
    · rw [if_pos e, e, List.append_assoc, List.getElem?_append_right (by omega), lt, Nat.sub_self]
      rfl
    · rw [if_neg e]
      by_cases e2 : l < j
      · rw [List.append_assoc, List.getElem?_append_left (by omega), List.getElem?_take_of_lt e2, rowOf_get (by omega)]
      · rw [List.getElem?_append_right (by rw [List.length_append, lt]; show j + 1 ≤ l; omega), List.length_append, lt, List.getElem?_drop]
        show (rowOf t i)[j + 1 + (l - (j + 1))]? = _
        rw [show j + 1 + (l - (j + 1)) = l by omega, rowOf_get (by omega)]
  · rw [if_neg g, if_neg g]
    unfold behindL
    by_cases e : l = j
    · rw [if_pos e, e, List.getElem?_set_self (by rw [List.length_map, List.length_range]; omega)]
      rfl
    · rw [if_neg e, List.getElem?_set_ne (Ne.symm e), List.getElem?_map, List.getElem?_range (by omega)]
      rfl
theorem exRow_len {m n : Nat} {t : Tb} {i j : Nat} (row : ∀ k, k < m + 1 → (rowOf t k).length = n + 1) (hi : i < m) (hj : j < n) {k : Nat} (hk : k ≤ m) : (exRow t i j k).length = n + 1 := by
  have ri := row i (by omega)
  have rk := row k (by omega)
  unfold exRow
  by_cases g : k = i
  · rw [if_pos g, List.length_append, List.length_append, List.length_take, List.length_drop]
    show _ + 1 + _ = _
    omega
  · rw [if_neg g]
    unfold behindL
    rw [List.length_set, List.length_map, List.length_range]
    exact rk
/-! ### an exchange -/
def spExch (C : Addr) : Sp := fun vs H Q _ => ∃ (x : Addr) (t : Tb) (m n i j b f : Nat), vs = [.ref x, .int (i : Nat), .int (j : Nat)] ∧ TbAt C H x t ∧ Shp m n t ∧ i < m ∧ j < n ∧ t.bs[i]? = some b ∧ t.fs[j]? = some f ∧ (∀ r ∈ t.rows, LitS r) ∧ 0 < t.D ∧ t.D.natAbs < 2 ^ 1000 ∧ tT t i j ≠ 0 ∧
  ∀ H' y t', Same H H' → TbAt C H' y t' → Shp m n t' → t'.bs = t.bs.set i f → t'.fs = t.fs.set j b → t'.D = Det.sgn (tT t i j) * tT t i j → (∀ k l, k ≤ m → l ≤ n → tT t' k l = Det.sgn (tT t i j) * Det.exch (tT t) t.D i j k l) → Q (.ref y) H'
abbrev NEx : List Str := ["table", "row", "column", "pivots", "lines", "sign", "basic", "free", "line", "entry"]
section
variable {P : Program} {w : World} {K : PySem.W.Frag} {mg : Str → Option Value} {base : Heap} {C : Addr}
theorem scEx : FnScope NEx ["table", "row", "column"] (defScope sExchanged) := ⟨rfl, rfl, rfl, by decide +kernel, rfl, by decide +kernel, by decide +kernel⟩
theorem ok_exchanged {f fB fI : Addr} {fd fdB fdI : FuncData} (F : FnT K "exchanged" sExchanged f fd) (T : TabK K C) (mlst : mg "list" = none) (gT : mg "Table" = some (.ref C)) (mk : Mk K C fI)
    (gB : mg "line_behind" = some (.ref fB)) (GB : FnOk P w K mg base CX0 1 fB fdB ["line", "pivots", "column", "bottom"] (spBehind K)) (kB : PySem.W.keepIn K (.ref fB) = true) (bB : Binds K fdB ["line", "pivots", "column", "bottom"] [])
    (GI : FnOk P w K mg base CX0 1 fI fdI ["self", "lines", "bottom", "basic", "free"] (spTabInit C)) (bI : Binds K fdI ["self", "lines", "bottom", "basic", "free"] []) :
    FnOk P w K mg base CX0 3 f fd ["table", "row", "column"] (spExch C) := by
  refine F.ok scEx (fun vs H Q E h => ?_) (fun cdv A outer s H vs Q E hr h => ?_)
  · obtain ⟨x, t, m, n, i, j, b, f, rfl, _⟩ := h
    rfl
  · obtain ⟨x, t, m, n, i, j, b0, f0, rfl, ht, hs, hi, hj, hbi, hfj, lit, hD, hDs, hp, q⟩ := h
    have nd := scEx.nd
    have hr1 : Room 1 _ := hr.mono (by decide)
    have hr2 : Room 2 _ := hr.mono (by decide)
    refine ⟨_, PSs.nox (pss_cons (ps_cut (ps_set (i := 3) nd rfl (.inr rfl) (pe_ix (ixLt K) (pe_fld (pv 0) rfl) (pv 1) (fun _ _ => rfl))))
      (pss_cons (ps_cut (ps_setLc (i := 4) (own := [("line", 8)]) (g := gName 8) (tt := tYes) rfl nd rfl rfl (sw_true rfl rfl rfl (by decide +kernel)) (pi_list (pe_fld (pv 0) rfl))
        (blkOk_by (own := [("line", 8)]) (N := NEx) (sc := defScope sExchanged) (by decide +kernel)) (fun _ _ _ _ _ => pg_name (i := 8) nd rfl (Or.inl rfl)) (fun _ _ _ _ _ => pts_nil)
        (fun _ _ _ _ _ => pe_call GB hr1 rfl gB kB bB .nil pass0 (pa_cons (pv 8) (pa_cons (pv 3) (pa_cons (pv 2) (pa_cons (pe_fldT K (pv 0) rfl) pa_nil)))))))
      (pss_cons (ps_cut (ps_asg (pe_op op_cat (pe_op op_cat (pe_slice sl_list (pv 3) po_none (po_some (pv 2))) (pe_lst (pa_cons (pe_fld (pv 0) rfl) pa_nil))) (pe_slice sl_list (pv 3) (po_some (pe_op op_add (pv 2) pe_int)) po_none)) (pg_sub (pv 4) (pv 1) set_list)))
      (pss_cons (ps_cut (ps_set (i := 5) nd rfl (.inr rfl) (pe_ifExp (pt_cmpR op_gt (pe_ix (ixLt K) (pv 3) (pv 2) (fun _ _ => rfl)) pe_int (nomark _)) pe_int (pe_un un_neg pe_int))))
      (pss_cons (ps_cut (ps_set (i := 6) nd rfl (.inl rfl) (pe_callTy call_list_of (by rfl) mlst (by decide +kernel) (pa_cons (pe_fld (pv 0) rfl) pa_nil))))
      (pss_cons (ps_cut (ps_set (i := 7) nd rfl (.inl rfl) (pe_callTy call_list_of (by rfl) mlst (by decide +kernel) (pa_cons (pe_fld (pv 0) rfl) pa_nil))))
      (pss_cons (ps_cut (ps_asg (pe_ix (ixLt K) (pe_fld (pv 0) rfl) (pv 2) (fun _ _ => rfl)) (pg_sub (pv 6) (pv 1) set_list)))
      (pss_cons (ps_cut (ps_asg (pe_ix (ixLt K) (pe_fld (pv 0) rfl) (pv 1) (fun _ _ => rfl)) (pg_sub (pv 7) (pv 2) set_list)))
      (pss_one (ps_ret (pe_make mk GI hr2 rfl gT bI .nil pass0 (pa_cons (pe_lc (own := [("line", 8)]) (g := gName 8) (tt := tYes) rfl nd (pi_list (pv 4))
          (blkOk_by (own := [("line", 8)]) (N := NEx) (sc := defScope sExchanged) (by decide +kernel)) (fun _ _ _ _ _ => pg_name (i := 8) nd rfl (Or.inl rfl)) (fun _ _ _ _ _ => pts_nil)
          (fun _ _ _ _ _ => pe_lc (own := [("entry", 9)]) (g := gName 9) (tt := tYes) rfl nd (piListT K (pv 8))
            (blkOk_by (own := [("entry", 9)]) (N := NEx) (sc := { kind := ScopeKind.function, names := [(".0", NameKind.local), ("line", NameKind.local), ("sign", NameKind.cell)], isGenerator := false, isCoroutine := false }) (by decide +kernel)) (fun _ _ _ _ _ => pg_name (i := 9) nd rfl (Or.inl rfl)) (fun _ _ _ _ _ => pts_nil)
            (fun _ _ _ _ _ => pe_op op_mul (pv 5) (pv 9))))
        (pa_cons (pe_op op_mul (pv 5) (pe_ix (ixLt K) (pv 3) (pv 2) (fun _ _ => rfl))) (pa_cons (pv 6) (pa_cons (pv 7) pa_nil))))))))))))))), ?_⟩
    obtain ⟨dx, L, b, f', hx, ⟨ps, hL, hpl, hrow⟩, hb, hf⟩ := id ht
    have bl := hs.bl
    have fl := hs.fl
    have rl := hs.rl
    have m100 := hs.ms
    have n100 := hs.ns
    have one : 1 ≤ sizeLine := by decide
    have row : ∀ k, k < m + 1 → t.rows[k]? = some (rowOf t k) ∧ (rowOf t k).length = n + 1 := fun k hk => by
      obtain ⟨r, h1, h2, h3⟩ := row_at_T hs hk
      have : rowOf t k = r := by
        unfold rowOf
        rw [List.getD_eq_getElem?_getD, h1]
        rfl
      rw [this]
      exact ⟨h1, h2⟩
    have lits : ∀ k, k < m + 1 → LitS (rowOf t k) := fun k hk => lit _ (List.mem_of_getElem? (row k hk).1)
    have addr : ∀ k, k < m + 1 → ∃ p, ps[k]? = some p ∧ IntsAt H p (rowOf t k) := fun k hk => by
      obtain ⟨p, hp⟩ : ∃ p, ps[k]? = some p := ⟨_, List.getElem?_eq_getElem (by omega)⟩
      exact ⟨p, hp, hrow k p _ hp (row k hk).1⟩
    obtain ⟨pp, hpp, ipp⟩ := addr i (by omega)
    have pl := (row i (by omega)).2
    -- the pivots
    refine ⟨fun σ' H' => σ' = [some (.ref x), some (.int (i : Nat)), some (.int (j : Nat)), some (.ref pp), none, none, none, none, none, none] ∧ H' = H, ?_, ?_⟩
    · exact ⟨_, rfl, x, C, dx, _, .ref L, rfl, hx, T.cl, T.n1, rfl, _, rfl, L, _, _, .ref pp, rfl, rfl, SqL.of hL, atI_nat (by rw [List.getElem?_map, hpp]; rfl), rfl, rfl⟩
    rintro _ H1 ⟨rfl, rfl⟩
    -- the lines behind
    refine ⟨fun σ' H' => ∃ D, σ' = [some (.ref x), some (.int (i : Nat)), some (.int (j : Nat)), some (.ref pp), some (.ref D), none, none, none, none, none] ∧ Same H1 H' ∧ H1 D = none ∧ RefsAt H' D (m + 1) fun l => behindL (rowOf t l) (rowOf t i) j t.D, ?_, ?_⟩
    · refine ⟨_, rfl, x, C, dx, _, .ref L, rfl, hx, T.cl, T.n1, rfl, L, rfl, ⟨_, SqL.of hL⟩, fun D hD' => ?_⟩
      refine lc_it (walk_list (K := K) (a := L) (xs := ps.map V.ref)) (fun k H' => Same H1 H' ∧ ∃ qs : List Addr, H' D = some (.lst (qs.map V.ref)) ∧ qs.length = k ∧ ∀ (l : Nat) (q : Addr), qs[l]? = some q → q ≠ D ∧ IntsAt H' q (behindL (rowOf t l) (rowOf t i) j t.D)) ⟨Same.new hD', [], upd_same, rfl, fun l q h => by simp at h⟩ (fun k H' hk p => SqL.of (p.1 _ _ hL)) ?_ ?_
      · rintro k z H5 _ hk ⟨s5, qs, bD, lq, hq⟩ ⟨rfl, hz⟩
        have km : k < m + 1 := by
          have : k < (ps.map V.ref).length := hk
          rw [List.length_map] at this
          omega
        obtain ⟨p, hp, ip⟩ := addr k km
        have ez : z = .ref p := by
          replace hz : (ps.map V.ref)[k]? = some z := hz
          rw [List.getElem?_map, hp] at hz
          exact (Option.some.inj hz).symm
        subst ez
        have kl := (row k km).2
        refine ⟨rfl, rdYes ⟨_, rfl, _, rfl, _, rfl, _, rfl, x, C, dx, _, .int t.D, rfl, s5 _ _ hx, T.cl, T.n2, rfl, p, pp, j, t.D, rowOf t k, rowOf t i, rfl, ip.same s5, ipp.same s5, by omega, by omega, by omega, hD, hDs, lits k km, lits i (by omega), fun H6 y s6 ey ny => ?_⟩⟩
        have ne : y ≠ D := fun z => by rw [z, bD] at ny; cases ny
        refine ⟨_, s6 _ _ bD, ?_, fun u o e => ?_, qs ++ [y], ?_, by rw [List.length_append, lq]; rfl, fun l q hl => ?_⟩
        · rw [List.length_map, lq]
          exact Nat.lt_of_le_of_lt (show k ≤ 101 by omega) (by decide)
        · rw [upd_ne (ne_of_none e hD')]
          exact s6 _ _ (s5 _ _ e)
        · rw [upd_same, List.map_append]
          rfl
        · by_cases g : l < qs.length
          · rw [List.getElem?_append_left g] at hl
            obtain ⟨n1, n2⟩ := hq l q hl
            exact ⟨n1, by show upd _ _ _ _ = _; rw [upd_ne n1]; exact s6 _ _ n2⟩
          · rw [List.getElem?_append_right (by omega)] at hl
            have l0 : l = k := by
              have := (List.getElem?_eq_some_iff.mp hl).1
              simp only [List.length_singleton] at this
              omega
            subst l0
            rw [lq, Nat.sub_self] at hl
            cases hl
            exact ⟨ne, by show upd _ _ _ _ = _; rw [upd_ne ne]; exact ey⟩
      · rintro H5 ⟨s5, qs, bD, lq, hq⟩
        rw [List.length_map] at lq
        exact ⟨D, rfl, s5, hD', qs, bD, by omega, fun l q hl => (hq l q hl).2⟩
    rintro _ H2 ⟨D, rfl, s2, hD0, ⟨qs, bD, lq, hq⟩⟩
    -- the pivots' own line
    refine ⟨fun σ' H' => σ' = [some (.ref x), some (.int (i : Nat)), some (.int (j : Nat)), some (.ref pp), some (.ref D), none, none, none, none, none] ∧ Same H1 H' ∧ RefsAt H' D (m + 1) (exRow t i j), ?_, ?_⟩
    · have ip2 := ipp.same s2
      refine ⟨_, rfl, _, rfl, _, rfl, rd_slI ip2 (ys := (rowOf t i).take j) (by rw [cut_takeT _ _ (by rw [List.length_map]; omega), List.map_take]) fun H3 a1 s3 e1 => ?_⟩
      refine ⟨_, rfl, x, C, dx, _, .int t.D, rfl, s3 _ _ (s2 _ _ hx), T.cl, T.n2, rfl, one, fun a2 h2 => ?_⟩
      have s4 := Same.new (o := .lst [.int t.D]) h2
      refine rd_catI (ys := [t.D]) (e1.same s4) upd_same (by rw [List.length_take]; show _ + 1 ≤ 100000; omega) fun H5 a3 s5 e3 => ?_
      have s25 := s3.trans (s4.trans s5)
      refine ⟨_, rfl, _, rfl, _, _, rfl, rfl, _, rfl, rd_noT (rd_slI (ip2.same s25) (ys := (rowOf t i).drop (j + 1)) (by rw [show ((j : Nat) : Int) + 1 = ((j + 1 : Nat) : Int) from rfl, cut_dropT _ _ (by rw [List.length_map]; omega), List.map_drop]) fun H6 a4 s6 e4 => ?_)⟩
      refine rd_catI (e3.same s6) e4 (by rw [List.length_append, List.length_take, List.length_drop]; show _ + 1 + _ ≤ 100000; omega) fun H7 a5 s7 e5 => ?_
      have s27 := s25.trans (s6.trans s7)
      have bD7 := s27 _ _ bD
      have qne : qs ≠ [] := fun z => by rw [z] at lq; cases lq
      have n5 := apartT bD7 qne e5
      refine ⟨_, rfl, _, rfl, D, _, _, i, rfl, rfl, bD7, ixNt (by rw [List.length_map]; omega), rfl, fun u o e => ?_, qs.set i a5, by rw [upd_same, List.map_set], by rw [List.length_set]; exact lq, fun l q hl => ?_⟩
      · rw [upd_ne (ne_of_none e hD0)]
        exact s27 _ _ (s2 _ _ e)
      · by_cases g : l = i
        · subst g
          rw [List.getElem?_set_self (by omega)] at hl
          obtain rfl := Option.some.inj hl
          show upd _ _ _ _ = _
          rw [upd_ne n5]
          unfold exRow
          rw [if_pos rfl]
          exact e5
        · rw [List.getElem?_set_ne (Ne.symm g)] at hl
          have iq := (hq l q hl).same s27
          have nq := apartT bD7 qne iq
          show upd _ _ _ _ = _
          rw [upd_ne nq]
          unfold exRow
          rw [if_neg g]
          exact iq
    rintro _ H3 ⟨rfl, s3, r3⟩
    clear hq bD lq s2
    have pe : (rowOf t i)[j]? = some (tT t i j) := getD_at (by omega)
    have sg1 := Det.sgn_one (tT t i j)
    -- the sign
    refine ⟨fun σ' H' => σ' = [some (.ref x), some (.int (i : Nat)), some (.int (j : Nat)), some (.ref pp), some (.ref D), some (.int (Det.sgn (tT t i j))), none, none, none, none] ∧ H' = H3, ?_, ?_⟩
    · refine ⟨_, rfl, _, rfl, pp, _, _, .int (tT t i j), rfl, rfl, (ipp.same s3).sq, atI_nat (IntsAt.get pe), _, _, rfl, rfl, _, rfl, ?_⟩
      unfold Det.sgn
      refine ite2 (fun c => ?_) (fun c => ?_)
      · have c' : tT t i j > 0 := of_decide_eq_true c
        rw [if_pos c']
        exact ⟨rfl, rfl⟩
      · have c' : ¬ tT t i j > 0 := fun z => c (decide_eq_true z)
        rw [if_neg c']
        exact ⟨_, rfl, rfl, rfl⟩
    rintro _ H4 ⟨rfl, rfl⟩
    -- the numbers of quantities
    refine ⟨fun σ' H' => ∃ a6, σ' = [some (.ref x), some (.int (i : Nat)), some (.int (j : Nat)), some (.ref pp), some (.ref D), some (.int (Det.sgn (tT t i j))), some (.ref a6), none, none, none] ∧ Same H4 H' ∧ H4 a6 = none ∧ IntsAt H' a6 (natL t.bs), ?_, ?_⟩
    · exact ⟨_, rfl, x, C, dx, _, .ref b, rfl, s3 _ _ hx, T.cl, T.n3, rfl, b, _, rfl, .inl (hb.same s3).sq, fun a6 h6 => ⟨a6, rfl, Same.new h6, h6, upd_same⟩⟩
    rintro _ H5 ⟨a6, rfl, s5, n6, e6⟩
    have s35 := s3.trans s5
    refine ⟨fun σ' H' => ∃ a7, σ' = [some (.ref x), some (.int (i : Nat)), some (.int (j : Nat)), some (.ref pp), some (.ref D), some (.int (Det.sgn (tT t i j))), some (.ref a6), some (.ref a7), none, none] ∧ Same H5 H' ∧ H5 a7 = none ∧ IntsAt H' a7 (natL t.fs), ?_, ?_⟩
    · exact ⟨_, rfl, x, C, dx, _, .ref f', rfl, s35 _ _ hx, T.cl, T.n4, rfl, f', _, rfl, .inl (hf.same s35).sq, fun a7 h7 => ⟨a7, rfl, Same.new h7, h7, upd_same⟩⟩
    rintro _ H6 ⟨a7, rfl, s6, n7, e7⟩
    have s36 := s35.trans s6
    have n67 : a6 ≠ a7 := fun z => by
      rw [← z] at n7
      rw [show H5 a6 = _ from e6] at n7
      cases n7
    have gf : ((natL t.fs).map V.int)[j]? = some (.int (f0 : Nat)) := IntsAt.get (by unfold natL; rw [List.getElem?_map, hfj]; rfl)
    have gb : ((natL t.bs).map V.int)[i]? = some (.int (b0 : Nat)) := IntsAt.get (by unfold natL; rw [List.getElem?_map, hbi]; rfl)
    have lenN : ∀ ns : List Nat, ((natL ns).map V.int).length = ns.length := fun ns => by unfold natL; rw [List.length_map, List.length_map]
    have setN : ∀ (ns : List Nat) (k q : Nat), ((natL ns).map V.int).set k (V.int (q : Nat)) = (natL (ns.set k q)).map V.int := fun ns k q => by
      unfold natL
      rw [List.map_set, List.map_set]
      rfl
    refine ⟨fun σ' H' => σ' = [some (.ref x), some (.int (i : Nat)), some (.int (j : Nat)), some (.ref pp), some (.ref D), some (.int (Det.sgn (tT t i j))), some (.ref a6), some (.ref a7), none, none] ∧ Same H4 H' ∧ IntsAt H' a6 (natL (t.bs.set i f0)) ∧ IntsAt H' a7 (natL t.fs), ?_, ?_⟩
    · refine ⟨_, rfl, x, C, dx, _, .ref f', rfl, s36 _ _ hx, T.cl, T.n4, rfl, _, rfl, f', _, _, .int (f0 : Nat), rfl, rfl, (hf.same s36).sq, atI_nat gf, _, rfl, _, rfl, a6, _, _, i, rfl, rfl, s6 _ _ e6, ixNt (by rw [lenN]; omega), rfl, fun u o e => ?_, ?_, ?_⟩
      · rw [upd_ne (ne_of_none e n6)]
        exact s6 _ _ (s5 _ _ e)
      · show upd _ _ _ _ = _
        rw [upd_same, setN]
      · show upd _ _ _ _ = _
        rw [upd_ne (Ne.symm n67)]
        exact e7
    rintro _ H7 ⟨rfl, s7, e67, e77⟩
    have s37 := s3.trans s7
    have n47 : H4 a7 = none := by
      cases z : H4 a7 with
      | none => rfl
      | some o => rw [s5 _ _ z] at n7; cases n7
    refine ⟨fun σ' H' => σ' = [some (.ref x), some (.int (i : Nat)), some (.int (j : Nat)), some (.ref pp), some (.ref D), some (.int (Det.sgn (tT t i j))), some (.ref a6), some (.ref a7), none, none] ∧ Same H4 H' ∧ IntsAt H' a6 (natL (t.bs.set i f0)) ∧ IntsAt H' a7 (natL (t.fs.set j b0)), ?_, ?_⟩
    · refine ⟨_, rfl, x, C, dx, _, .ref b, rfl, s37 _ _ hx, T.cl, T.n3, rfl, _, rfl, b, _, _, .int (b0 : Nat), rfl, rfl, (hb.same s37).sq, atI_nat gb, _, rfl, _, rfl, a7, _, _, j, rfl, rfl, e77, ixNt (by rw [lenN]; omega), rfl, fun u o e => ?_, ?_, ?_⟩
      · rw [upd_ne (ne_of_none e n47)]
        exact s7 _ _ e
      · show upd _ _ _ _ = _
        rw [upd_ne n67]
        exact e67
      · show upd _ _ _ _ = _
        rw [upd_same, setN]
    rintro _ H8 ⟨rfl, s8, e68, e78⟩
    clear e6 e7 e67 e77 s5 s6 s7 n7
    obtain ⟨qs, bD, lq, hq⟩ := r3.same s8
    have s18 := s3.trans s8
    -- the lines with the sign
    generalize hsg : Det.sgn (tT t i j) = sg at *
    have sgs : CMul sg (0 : Int) → True := fun _ => trivial
    have small : ∀ z : Int, CMul sg z := fun z => .inl (by rcases sg1 with g | g <;> rw [g] <;> decide)
    have rows1 : ∀ k, k < m + 1 → (rowOf t k).length = n + 1 := fun k hk => (row k hk).2
    refine ⟨_, rfl, D, rfl, ⟨_, SqL.of bD⟩, fun D2 hD2 => ?_⟩
    refine lc_it (walk_list (K := K) (a := D) (xs := qs.map V.ref)) (fun k H' => Same H8 H' ∧ ∃ us : List Addr, H' D2 = some (.lst (us.map V.ref)) ∧ us.length = k ∧ ∀ (l : Nat) (u : Addr), us[l]? = some u → u ≠ D2 ∧ IntsAt H' u ((exRow t i j l).map (sg * ·))) ⟨Same.new hD2, [], upd_same, rfl, fun l q h => by simp at h⟩ (fun k H' hk p => SqL.of (p.1 _ _ bD)) ?_ ?_
    · rintro k z _ H9 hk ⟨s9, us, bD2, lu, hu⟩ ⟨rfl, hz⟩
      have km : k < m + 1 := by
        have : k < (qs.map V.ref).length := hk
        rw [List.length_map] at this
        omega
      obtain ⟨p, hp⟩ : ∃ p, qs[k]? = some p := ⟨_, List.getElem?_eq_getElem (by omega)⟩
      have ez : z = .ref p := by
        replace hz : (qs.map V.ref)[k]? = some z := hz
        rw [List.getElem?_map, hp] at hz
        exact (Option.some.inj hz).symm
      subst ez
      have ip := (hq k p hp).same s9
      have el := exRow_len rows1 hi hj (k := k) (by omega)
      refine ⟨rfl, rdYes ⟨_, rfl, p, rfl, ⟨_, ip.sq⟩, fun D3 hD3 => ?_⟩⟩
      refine lc_it (walk_list (K := K) (a := p) (xs := (exRow t i j k).map V.int)) (fun l H' => Same H9 H' ∧ IntsAt H' D3 (((exRow t i j k).take l).map (sg * ·))) ⟨Same.new hD3, upd_same⟩ (fun l H' hl p' => (ip.same p'.1).sq) ?_ ?_
      · rintro l z _ H10 hl ⟨s10, bD3⟩ ⟨rfl, hz⟩
        obtain ⟨e, he, rfl⟩ := IntsAt.back hz
        have ln : l < n + 1 := by
          have : l < ((exRow t i j k).map V.int).length := hl
          rw [List.length_map] at this
          omega
        refine ⟨rfl, rdYes ⟨_, rfl, _, rfl, sg, e, rfl, rfl, small e, ?_⟩⟩
        refine ⟨_, bD3, ?_, fun u o g => ?_, ?_⟩
        · rw [List.length_map, List.length_map, List.length_take]
          exact Nat.lt_of_le_of_lt (show _ ≤ 101 by omega) (by decide)
        · rw [upd_ne (ne_of_none g hD3)]
          exact s10 _ _ g
        · show upd _ _ _ _ = _
          rw [upd_same, List.take_succ, he, List.map_append, List.map_append]
          rfl
      · rintro H10 ⟨s10, bD3⟩
        rw [List.length_map, List.take_length] at bD3
        have n3 : D3 ≠ D2 := fun z => by rw [z, bD2] at hD3; cases hD3
        refine ⟨_, s10 _ _ bD2, ?_, fun u o g => ?_, us ++ [D3], ?_, by rw [List.length_append, lu]; rfl, fun l u hl => ?_⟩
        · rw [List.length_map, lu]
          exact Nat.lt_of_le_of_lt (show k ≤ 101 by omega) (by decide)
        · rw [upd_ne (ne_of_none g hD2)]
          exact s10 _ _ (s9 _ _ g)
        · rw [upd_same, List.map_append]
          rfl
        · by_cases g : l < us.length
          · rw [List.getElem?_append_left g] at hl
            obtain ⟨n1, n2⟩ := hu l u hl
            exact ⟨n1, by show upd _ _ _ _ = _; rw [upd_ne n1]; exact s10 _ _ n2⟩
          · rw [List.getElem?_append_right (by omega)] at hl
            have l0 : l = k := by
              have := (List.getElem?_eq_some_iff.mp hl).1
              simp only [List.length_singleton] at this
              omega
            subst l0
            rw [lu, Nat.sub_self] at hl
            cases hl
            exact ⟨n3, by show upd _ _ _ _ = _; rw [upd_ne n3]; exact bD3⟩
    · rintro H9 ⟨s9, us, bD2, lu, hu⟩
      rw [List.length_map, lq] at lu
      refine ⟨_, rfl, _, rfl, _, rfl, pp, _, _, .int (tT t i j), rfl, rfl, ((ipp.same s18).same s9).sq, atI_nat (IntsAt.get pe), sg, tT t i j, rfl, rfl, small _, _, rfl, _, rfl, fun y dy hy hdy ne => ?_⟩
      refine ⟨y, dy, .ref D2, .int (sg * tT t i j), .ref a6, .ref a7, rfl, upd_same, fun H10 k10 e10 => ⟨rfl, ?_⟩⟩
      have s10 := made_sameT hy hdy k10
      have all := s18.trans (s9.trans s10)
      let t' : Tb := ⟨(List.range (m + 1)).map fun l => (exRow t i j l).map (sg * ·), sg * tT t i j, t.bs.set i f0, t.fs.set j b0⟩
      have rowT : ∀ k, k ≤ m → t'.rows[k]? = some ((exRow t i j k).map (sg * ·)) := fun k hk => by
        show ((List.range (m + 1)).map _)[k]? = _
        rw [List.getElem?_map, List.getElem?_range (by omega)]
        rfl
      refine q H10 y t' all ⟨dy, D2, a6, a7, e10, ⟨us, s10 _ _ bD2, ?_, fun k u r hk hr => ?_⟩, (e68.same s9).same s10, (e78.same s9).same s10⟩ ⟨?_, fun r hr => ?_, ?_, ?_, m100, n100⟩ rfl rfl rfl fun k l hk hl => ?_
      · show us.length = ((List.range (m + 1)).map _).length
        rw [List.length_map, List.length_range, lu]
      · have kl := (List.getElem?_eq_some_iff.mp hk).1
        rw [rowT k (by omega)] at hr
        obtain rfl := Option.some.inj hr
        exact ((hu k u hk).2).same s10
      · show ((List.range (m + 1)).map _).length = m + 1
        rw [List.length_map, List.length_range]
      · obtain ⟨k, hk, rfl⟩ := List.mem_map.mp hr
        rw [List.length_map]
        exact exRow_len rows1 hi hj (by have := List.mem_range.mp hk; omega)
      · show (t.bs.set i f0).length = m
        rw [List.length_set, bl]
      · show (t.fs.set j b0).length = n
        rw [List.length_set, fl]
      · show (t'.rows.getD k []).getD l 0 = _
        rw [List.getD_eq_getElem?_getD (l := t'.rows), rowT k hk, Option.getD_some, List.getD_eq_getElem?_getD, List.getElem?_map, exRow_get rows1 hi hj hk hl]
        rfl
end
end Ca
set_option Elab.async false
set_option linter.all false
set_option maxRecDepth 100000
set_option maxHeartbeats 8000000
namespace Ca
open PySem L2
/-! ### all exchanges -/
structure Rep (m n : Nat) (t : Tb) (S : Det.Sta) : Prop where
  bs : t.bs = S.bs
  fs : t.fs = S.fs
  D : t.D = S.D
  T : ∀ k l, k ≤ m → l ≤ n → tT t k l = S.T k l
section
variable {m n : Nat} {t t' : Tb} {S : Det.Sta} {V : Nat → Det.Col} {i j b f : Nat}
theorem Rep.wrong (h : Rep m n t S) (s : Shp m n t) {q : Nat} : WrongT m n t q ↔ Det.Wrong m n S q := by
  unfold WrongT Det.Wrong
  rw [← h.bs, ← h.fs]
  refine or_congr ⟨fun ⟨k, h1, h2⟩ => ⟨k, h1, ?_⟩, fun ⟨k, h1, h2⟩ => ⟨k, h1, ?_⟩⟩ ⟨fun ⟨k, h1, h2⟩ => ⟨k, h1, ?_⟩, fun ⟨k, h1, h2⟩ => ⟨k, h1, ?_⟩⟩
  · have := (List.getElem?_eq_some_iff.mp h1).1
    have := s.bl
    rw [← h.T k n (by omega) (Nat.le_refl _)]
    exact h2
  · have := (List.getElem?_eq_some_iff.mp h1).1
    have := s.bl
    rw [h.T k n (by omega) (Nat.le_refl _)]
    exact h2
  · have := (List.getElem?_eq_some_iff.mp h1).1
    have := s.fl
    rw [← h.T m k (Nat.le_refl _) (by omega)]
    exact h2
  · have := (List.getElem?_eq_some_iff.mp h1).1
    have := s.fl
    rw [h.T m k (Nat.le_refl _) (by omega)]
    exact h2
theorem Rep.step (h : Rep m n t S) (s : Shp m n t) (hb : t.bs[i]? = some b) (hf : t.fs[j]? = some f) (w : ByRowT m n t i j b f ∨ ByColT m n t i j b f) : Det.Step m n S (Det.exSta S i j b f) i j b f := by
  have il := (List.getElem?_eq_some_iff.mp hb).1
  have jl := (List.getElem?_eq_some_iff.mp hf).1
  have bl := s.bl
  have fl := s.fl
  refine ⟨by rw [← h.bs]; exact hb, by rw [← h.fs]; exact hf, ?_, rfl⟩
  rcases w with ⟨w1, w2, w3, w4⟩ | ⟨w1, w2, w3, w4⟩
  · refine .inl ⟨by rw [← h.T i n (by omega) (Nat.le_refl _)]; exact w1, by rw [← h.T i j (by omega) (by omega)]; exact w2, fun q hq => w3 q ((h.wrong s).mpr hq), fun l q hl hlt => ?_⟩
    rw [← h.fs] at hl
    have := (List.getElem?_eq_some_iff.mp hl).1
    exact w4 l q hl (by rw [h.T i l (by omega) (by omega)]; exact hlt)
  · refine .inr ⟨by rw [← h.T m j (Nat.le_refl _) (by omega)]; exact w1, by rw [← h.T i j (by omega) (by omega)]; exact w2, fun q hq => w3 q ((h.wrong s).mpr hq), fun l q hl hlt => ?_⟩
    rw [← h.bs] at hl
    have := (List.getElem?_eq_some_iff.mp hl).1
    exact w4 l q hl (by rw [h.T l j (by omega) (by omega)]; exact hlt)
theorem Rep.next (h : Rep m n t S) (hi : i < m) (hj : j < n) (e1 : t'.bs = t.bs.set i f) (e2 : t'.fs = t.fs.set j b) (e3 : t'.D = Det.sgn (tT t i j) * tT t i j) (e4 : ∀ k l, k ≤ m → l ≤ n → tT t' k l = Det.sgn (tT t i j) * Det.exch (tT t) t.D i j k l) : Rep m n t' (Det.exSta S i j b f) := by
  have p := h.T i j (by omega) (by omega)
  refine ⟨by rw [e1, h.bs]; rfl, by rw [e2, h.fs]; rfl, by rw [e3, p]; rfl, fun k l hk hl => ?_⟩
  rw [e4 k l hk hl, p]
  show _ = Det.sgn (S.T i j) * Det.exch S.T S.D i j k l
  congr 1
  unfold Det.exch
  rw [p, h.D, h.T i l (by omega) hl, h.T k j hk (by omega), h.T k l hk hl]
end
/-- entries that are not too great, in all states that can be reached -/
def Low (m n : Nat) (V : Nat → Det.Col) : Prop := ∀ S, Det.Ok V m n S → S.D.natAbs < 2 ^ 1000 ∧ ∀ i j, i ≤ m → j ≤ n → (S.T i j).natAbs < 2 ^ 1000
def spSettled (K : PySem.W.Frag) (C : Addr) : Sp := fun vs H Q _ => ∃ (x : Addr) (t : Tb) (m n : Nat) (V : Nat → Det.Col) (S : Det.Sta), vs = [.ref x] ∧ TbAt C H x t ∧ Shp m n t ∧ Rep m n t S ∧ Det.Ok V m n S ∧ Low m n V ∧
  ∀ H' y x' t' S' a c, Same H H' → SqT K H' y [.ref x', a, c] → TbAt C H' x' t' → Shp m n t' → Rep m n t' S' → Det.Ok V m n S' → NextT m n t' a c → (a = .non ∨ c = .non) → (∃ τ, Det.Reach V m n S τ S') → Q (.ref y) H'
section
variable {P : Program} {w : World} {K : PySem.W.Frag} {mg : Str → Option Value} {base : Heap} {C : Addr}
theorem scSe : FnScope ["table", "row", "column"] ["table"] (defScope sSettled) := ⟨rfl, rfl, rfl, by decide +kernel, rfl, by decide +kernel, by decide +kernel⟩
theorem ok_settled {f fN fE : Addr} {fd fdN fdE : FuncData} (F : FnT K "settled" sSettled f fd)
    (gN : mg "next_exchange" = some (.ref fN)) (GN : FnOk P w K mg base CX0 2 fN fdN ["table"] (spNext K C)) (kN : PySem.W.keepIn K (.ref fN) = true) (bN : Binds K fdN ["table"] [])
    (gE : mg "exchanged" = some (.ref fE)) (GE : FnOk P w K mg base CX0 3 fE fdE ["table", "row", "column"] (spExch C)) (kE : PySem.W.keepIn K (.ref fE) = true) (bE : Binds K fdE ["table", "row", "column"] []) :
    FnOk P w K mg base CX0 4 f fd ["table"] (spSettled K C) := by
  refine F.ok scSe (fun vs H Q E h => ?_) (fun cdv A outer s H vs Q E hr h => ?_)
  · obtain ⟨x, t, m, n, V, S, rfl, _⟩ := h
    rfl
  · obtain ⟨x, t, m, n, V, S, rfl, ht, hs, hR, hO, low, q⟩ := h
    have nd := scSe.nd
    have hr2 : Room 2 _ := hr.mono (by decide)
    refine ⟨_, PSs.nox (pss_cons (ps_cut (ps_asg (pe_call GN hr2 rfl gN kN bN .nil pass0 (pa_cons (pv 0) pa_nil)) (pgTt K rfl (pgs_cons (pg_name (i := 1) nd rfl (.inl rfl)) (pgs_cons (pg_name (i := 2) nd rfl (.inl rfl)) pgs_nil)))))
      (pss_cons (ps_cut (ps_while PassesOwn.never (PW.pt (pw_and (pt_cmpR op_notN (pv 1) pe_non (nomark _)) (pw_and1 (pt_cmpR op_notN (pv 2) pe_non (nomark _)))))
          (pss_cons (ps_cut (ps_set (i := 0) nd rfl (.inl rfl) (pe_call GE hr rfl gE kE bE .nil pass0 (pa_cons (pv 0) (pa_cons (pv 1) (pa_cons (pv 2) pa_nil))))))
          (pss_one (ps_asg (pe_call GN hr2 rfl gN kN bN .nil pass0 (pa_cons (pv 0) pa_nil)) (pgTt K rfl (pgs_cons (pg_name (i := 1) nd rfl (.inl rfl)) (pgs_cons (pg_name (i := 2) nd rfl (.inl rfl)) pgs_nil))))))))
      (pss_one (ps_ret (pe_tup (pa_cons (pv 0) (pa_cons (pv 1) (pa_cons (pv 2) pa_nil)))))))), ?_⟩
    let W : Nat → L2.St → Hp → Prop := fun k σ' H' => ∃ τ S' x' t' a c, k + τ = 2 ^ (m + n) ∧ Det.Reach V m n S τ S' ∧ σ' = [some (.ref x'), some a, some c] ∧ Same H H' ∧ TbAt C H' x' t' ∧ Shp m n t' ∧ Rep m n t' S' ∧ NextT m n t' a c
    have nds : ∀ {t' S'}, Rep m n t' S' → Det.Ok V m n S' → (t'.bs ++ t'.fs).Nodup := fun {t' S'} r o => by rw [r.bs, r.fs]; exact o.nd
    refine ⟨W (2 ^ (m + n)), ?_, ?_⟩
    · exact ⟨_, rfl, x, t, m, n, rfl, ht, hs, nds hR hO, fun H1 y a c s1 e1 nx => ⟨y, _, rfl, e1, rfl, _, _, rfl, _, _, rfl, rfl, ⟨0, S, x, t, a, c, rfl, Det.Reach.start hO, rfl, s1, ht.same s1, hs, hR, nx⟩⟩⟩
    rintro σ1 H1 hW0
    refine ⟨fun σ' H' => ∃ S' x' t' a c, σ' = [some (.ref x'), some a, some c] ∧ Same H H' ∧ TbAt C H' x' t' ∧ Shp m n t' ∧ Rep m n t' S' ∧ Det.Ok V m n S' ∧ NextT m n t' a c ∧ (a = .non ∨ c = .non) ∧ ∃ τ, Det.Reach V m n S τ S', ⟨W, ⟨_, hW0⟩, ?_⟩, ?_⟩
    · rintro k σ' H' ⟨τ, S', x', t', a, c, hk, hr', rfl, s', ht', hs', hR', nx⟩
      have hO' := hr'.ok
      have bound := hr'.bound
      have fin : a = .non ∨ c = .non → ∃ S' x'' t'' a' c', ([some (.ref x'), some a, some c] : L2.St) = [some (.ref x''), some a', some c'] ∧ Same H H' ∧ TbAt C H' x'' t'' ∧ Shp m n t'' ∧ Rep m n t'' S' ∧ Det.Ok V m n S' ∧ NextT m n t'' a' c' ∧ (a' = .non ∨ c' = .non) ∧ ∃ τ, Det.Reach V m n S τ S' := fun z => ⟨S', x', t', a, c, rfl, s', ht', hs', hR', hO', nx, z, τ, hr'⟩
      refine ⟨_, rfl, rfl, _, rfl, ?_⟩
      rcases id nx with ⟨rfl, rfl, _⟩ | ⟨i, rfl, rfl, _⟩ | ⟨j, rfl, rfl, _⟩ | ⟨i, j, b, f, rfl, rfl, hb, hf, w⟩
      · rw [decide_eq_true rfl]
        exact iteF (fin (.inl rfl))
      · rw [decide_eq_false (fun z => nomatch z)]
        refine iteT ⟨_, rfl, rfl, _, rfl, ?_⟩
        rw [decide_eq_true rfl]
        exact iteF (fin (.inr rfl))
      · rw [decide_eq_true rfl]
        exact iteF (fin (.inl rfl))
      · rw [decide_eq_false (fun z => nomatch z)]
        refine iteT ⟨_, rfl, rfl, _, rfl, ?_⟩
        rw [decide_eq_false (fun z => nomatch z)]
        have il := (List.getElem?_eq_some_iff.mp hb).1
        have jl := (List.getElem?_eq_some_iff.mp hf).1
        have bl := hs'.bl
        have fl := hs'.fl
        have st := hR'.step hs' hb hf w
        have nz : tT t' i j ≠ 0 := by rcases w with ⟨_, g, _⟩ | ⟨_, g, _⟩ <;> omega
        obtain ⟨lowD, lowT⟩ := low S' hO'
        have lits : ∀ r ∈ t'.rows, LitS r := fun r hr z hz => by
          obtain ⟨k, hk⟩ := List.mem_iff_getElem?.mp hr
          obtain ⟨l, hl⟩ := List.mem_iff_getElem?.mp hz
          have k1 := (List.getElem?_eq_some_iff.mp hk).1
          have l1 := (List.getElem?_eq_some_iff.mp hl).1
          have := hs'.rl
          have rn := hs'.re r hr
          obtain ⟨r', h1, _, h3⟩ := row_at_T hs' (i := k) (by omega)
          rw [hk] at h1
          obtain rfl := Option.some.inj h1
          have ez : z = tT t' k l := by
            rw [← h3 l]
            have := getD_at l1
            rw [hl] at this
            exact Option.some.inj this
          rw [ez, hR'.T k l (by omega) (by omega)]
          exact lowT k l (by omega) (by omega)
        refine iteT ⟨fun σ'' H'' => ∃ k', k' < k ∧ W k' σ'' H'', fun _ _ h => h, ?_⟩
        refine ⟨fun σ'' H'' => ∃ x'' t'', σ'' = [some (.ref x''), some (.int (i : Nat)), some (.int (j : Nat))] ∧ Same H H'' ∧ TbAt C H'' x'' t'' ∧ Shp m n t'' ∧ Rep m n t'' (Det.exSta S' i j b f), ?_, ?_⟩
        · exact ⟨_, rfl, _, rfl, _, rfl, x', t', m, n, i, j, b, f, rfl, ht', hs', by omega, by omega, hb, hf, lits, by rw [hR'.D]; exact hO'.dic.pos, by rw [hR'.D]; exact lowD, nz, fun H2 y t2 s2 e2 sh2 b2 f2 d2 T2 => ⟨y, t2, rfl, s'.trans s2, e2, sh2, hR'.next (by omega) (by omega) b2 f2 d2 T2⟩⟩
        rintro _ H2 ⟨x2, t2, rfl, s2, e2, sh2, R2⟩
        have r2 := hr'.step st
        exact ⟨_, rfl, x2, t2, m, n, rfl, e2, sh2, nds R2 r2.ok, fun H3 y a3 c3 s3 e3 nx3 => ⟨y, _, rfl, e3, rfl, _, _, rfl, _, _, rfl, rfl, ⟨k - 1, by omega, τ + 1, _, x2, t2, a3, c3, by omega, r2, rfl, s2.trans s3, e2.same s3, sh2, R2, nx3⟩⟩⟩
    rintro _ H2 ⟨S', x', t', a, c, rfl, s2, e2, sh2, R2, O2, nx2, stop, rea⟩
    exact ⟨_, rfl, _, rfl, _, rfl, (show 3 ≤ sizeLine by decide), fun y hy => q _ y x' t' S' a c (s2.trans (Same.new hy)) (SqT.of upd_same) (e2.same (Same.new hy)) sh2 R2 O2 nx2 stop rea⟩
end
end Ca
set_option Elab.async false
set_option linter.all false
set_option maxRecDepth 100000
set_option maxHeartbeats 8000000
namespace Ca
open PySem L2
/-! ### the first table -/
def LimsAt (K : PySem.W.Frag) (H : Hp) (a : Addr) (ls : List (List Int × Int)) : Prop := ∃ ps : List Addr, H a = some (.lst (ps.map V.ref)) ∧ ps.length = ls.length ∧ ∀ (i : Nat) (p : Addr) (l : List Int × Int), ps[i]? = some p → ls[i]? = some l → ∃ q, SqT K H p [.ref q, .int l.2] ∧ IntsAt H q l.1
theorem LimsAt.same {K : PySem.W.Frag} {H H' : Hp} {a : Addr} {ls : List (List Int × Int)} (h : LimsAt K H a ls) (s : Same H H') : LimsAt K H' a ls := by
  obtain ⟨ps, h1, h2, h3⟩ := h
  exact ⟨ps, s _ _ h1, h2, fun i p l e1 e2 => by
    obtain ⟨q, g1, g2⟩ := h3 i p l e1 e2
    exact ⟨q, same_sqt s g1, g2.same s⟩⟩
def firstTb (ls : List (List Int × Int)) (cs : List Int) : Tb := ⟨ls.map (fun l => l.1 ++ [l.2]) ++ [cs ++ [0]], 1, (List.range ls.length).map (cs.length + ·), List.range cs.length⟩
section
variable {X : Cx} {e : Expr} {es : List Expr} {p : Pos} {te : TE} {t : TA}
theorem pa_starT (K : PySem.W.Frag) (he : PE X e te) (hr : PA X es t) (h : X.K = K := by rfl) (hs : starEach (.Starred e p :: es) X.env = (true, eval e X.env) :: starEach es X.env := by rfl) : PA X (.Starred e p :: es) (StX.tStar K te t) := h ▸ StX.pa_star he hr hs
end
theorem rgV_nat (a k : Nat) : rgV (a : Int) ((a : Int) + (k : Int)) = (natL ((List.range k).map (a + ·))).map V.int := by
  unfold rgV natL
  rw [show ((a : Int) + (k : Int) - (a : Int)).toNat = k by omega, List.map_map, List.map_map]
  exact List.map_congr_left fun i _ => rfl
theorem rgV_zero (k : Nat) : rgV 0 (k : Int) = (natL (List.range k)).map V.int := by
  have := rgV_nat 0 k
  simp only [Int.natCast_zero, Int.zero_add, Nat.zero_add] at this
  rw [this]
  congr 1
  congr 1
  exact List.map_id _
def spFirstT (K : PySem.W.Frag) (C : Addr) : Sp := fun vs H Q _ => ∃ (a c : Addr) (ls : List (List Int × Int)) (cs : List Int), vs = [.ref a, .ref c] ∧ LimsAt K H a ls ∧ IntsAt H c cs ∧ (∀ l ∈ ls, l.1.length = cs.length) ∧ ls.length ≤ 100 ∧ cs.length ≤ 100 ∧
  ∀ H' y, Same H H' → TbAt C H' y (firstTb ls cs) → Q (.ref y) H'
abbrev NFt : List Str := ["limits", "costs", "lines", "last", "many", "numbers", "bound"]
section
variable {P : Program} {w : World} {K : PySem.W.Frag} {mg : Str → Option Value} {base : Heap} {C : Addr}
theorem scFt : FnScope NFt ["limits", "costs"] (defScope sFirstTable) := ⟨rfl, rfl, rfl, by decide +kernel, rfl, by decide +kernel, by decide +kernel⟩
theorem ok_firstTable {f fI : Addr} {fd fdI : FuncData} (F : FnT K "first_table" sFirstTable f fd) (mlst : mg "list" = none) (mrng : mg "range" = none) (mlen : mg "len" = none) (gT : mg "Table" = some (.ref C)) (mk : Mk K C fI)
    (GI : FnOk P w K mg base CX0 1 fI fdI ["self", "lines", "bottom", "basic", "free"] (spTabInit C)) (bI : Binds K fdI ["self", "lines", "bottom", "basic", "free"] []) :
    FnOk P w K mg base CX0 3 f fd ["limits", "costs"] (spFirstT K C) := by
  refine F.ok scFt (fun vs H Q E h => ?_) (fun cdv A outer s H vs Q E hr h => ?_)
  · obtain ⟨a, c, ls, cs, rfl, _⟩ := h
    rfl
  · obtain ⟨a, c, ls, cs, rfl, hl, hc, hn, m100, n100, q⟩ := h
    have nd := scFt.nd
    have hr2 : Room 2 _ := hr.mono (by decide)
    refine ⟨_, PSs.nox (pss_cons (ps_cut (ps_setLc (i := 2) (own := [("numbers", 5), ("bound", 6)]) (g := gTup K 2 (gCons (gName 5) (gCons (gName 6) gNil))) (tt := tYes) rfl nd rfl rfl (sw_true rfl rfl rfl (by decide +kernel)) (pi_list (pv 0))
        (blkOk_by (own := [("numbers", 5), ("bound", 6)]) (N := NFt) (sc := defScope sFirstTable) (by decide +kernel)) (fun _ _ _ _ _ => pgTt K rfl (pgs_cons (pg_name (i := 5) nd rfl (Or.inl rfl)) (pgs_cons (pg_name (i := 6) nd rfl (Or.inl rfl)) pgs_nil))) (fun _ _ _ _ _ => pts_nil)
        (fun _ _ _ _ _ => pe_lst (pa_starT K (pv 5) (pa_cons (pv 6) pa_nil)))))
      (pss_cons (ps_cut (ps_set (i := 3) nd rfl (.inl rfl) (pe_lst (StX.pa_star (pv 1) (pa_cons pe_int pa_nil)))))
      (pss_cons (ps_cut (ps_set (i := 4) nd rfl (.inl rfl) (pe_callB call_len (by rfl) mlen boot_len (pa_cons (pv 1) pa_nil))))
      (pss_one (ps_ret (pe_make mk GI hr2 rfl gT bI .nil pass0 (pa_cons (pe_lst (StX.pa_star (pv 2) (pa_cons (pv 3) pa_nil))) (pa_cons pe_int
        (pa_cons (pe_listRg rfl (by rfl) mlst (prg_2 (by rfl) mrng (pv 4) (pe_op op_add (pv 4) (pe_callB call_len (by rfl) mlen boot_len (pa_cons (pv 0) pa_nil)))))
        (pa_cons (pe_listRg rfl (by rfl) mlst (prg_1 (by rfl) mrng (pv 4))) pa_nil)))))))))), ?_⟩
    obtain ⟨ps, hL, hpl, hrow⟩ := hl
    refine ⟨fun σ' H' => ∃ D, σ' = [some (.ref a), some (.ref c), some (.ref D), none, none, none, none] ∧ Same H H' ∧ ∃ qs : List Addr, H' D = some (.lst (qs.map V.ref)) ∧ qs.length = ls.length ∧ ∀ (k : Nat) (q : Addr) (l : List Int × Int), qs[k]? = some q → ls[k]? = some l → IntsAt H' q (l.1 ++ [l.2]), ?_, ?_⟩
    · refine ⟨_, rfl, a, rfl, ⟨_, SqL.of hL⟩, fun D hD => ?_⟩
      refine lc_it (walk_list (K := K) (a := a) (xs := ps.map V.ref)) (fun k H' => Same H H' ∧ ∃ qs : List Addr, H' D = some (.lst (qs.map V.ref)) ∧ qs.length = k ∧ ∀ (r : Nat) (q : Addr) (l : List Int × Int), qs[r]? = some q → ls[r]? = some l → q ≠ D ∧ IntsAt H' q (l.1 ++ [l.2])) ⟨Same.new hD, [], upd_same, rfl, fun r q l h => by simp at h⟩ (fun k H' hk p' => SqL.of (p'.1 _ _ hL)) ?_ ?_
      · rintro k z _ H5 hk ⟨s5, qs, bD, lq, hq⟩ ⟨rfl, hz⟩
        have km : k < ls.length := by
          have : k < (ps.map V.ref).length := hk
          rw [List.length_map] at this
          omega
        obtain ⟨p, hp⟩ : ∃ p, ps[k]? = some p := ⟨_, List.getElem?_eq_getElem (by omega)⟩
        obtain ⟨l, hll⟩ : ∃ l, ls[k]? = some l := ⟨_, List.getElem?_eq_getElem km⟩
        have ez : z = .ref p := by
          replace hz : (ps.map V.ref)[k]? = some z := hz
          rw [List.getElem?_map, hp] at hz
          exact (Option.some.inj hz).symm
        subst ez
        obtain ⟨nl, g1, g2⟩ := hrow k p l hp hll
        have ln := hn l (List.mem_of_getElem? hll)
        refine ⟨p, _, rfl, same_sqt s5 g1, rfl, _, _, rfl, _, _, rfl, rfl, rfl, rdYes ⟨_, rfl, nl, _, rfl, .inr (g2.same s5).sq, _, rfl, ?_, fun D3 h3 => ?_⟩⟩
        · rw [List.length_append, List.length_map, ln]
          exact Nat.le_trans (show cs.length + 1 ≤ 101 by omega) (by decide)
        have n3 : D3 ≠ D := fun z => by rw [z, bD] at h3; cases h3
        have s6 := Same.new (o := .lst (l.1.map V.int ++ [V.int l.2])) h3
        refine ⟨_, s6 _ _ bD, ?_, fun u o g => ?_, qs ++ [D3], ?_, by rw [List.length_append, lq]; rfl, fun r q l' hr hl' => ?_⟩
        · rw [List.length_map, lq]
          exact Nat.lt_of_le_of_lt (show k ≤ 100 by omega) (by decide)
        · rw [upd_ne (ne_of_none g hD)]
          exact s6 _ _ (s5 _ _ g)
        · rw [upd_same, List.map_append]
          rfl
        · by_cases g : r < qs.length
          · rw [List.getElem?_append_left g] at hr
            obtain ⟨n1, n2⟩ := hq r q l' hr hl'
            exact ⟨n1, by show upd _ _ _ _ = _; rw [upd_ne n1]; exact s6 _ _ n2⟩
          · rw [List.getElem?_append_right (by omega)] at hr
            have l0 : r = k := by
              have := (List.getElem?_eq_some_iff.mp hr).1
              simp only [List.length_singleton] at this
              omega
            subst l0
            rw [lq, Nat.sub_self] at hr
            cases hr
            rw [hll] at hl'
            obtain rfl := Option.some.inj hl'
            refine ⟨n3, ?_⟩
            show upd _ _ _ _ = _
            rw [upd_ne n3, upd_same, List.map_append]
            rfl
      · rintro H5 ⟨s5, qs, bD, lq, hq⟩
        rw [List.length_map, hpl] at lq
        exact ⟨D, rfl, s5, qs, bD, lq, fun k q l e1 e2 => (hq k q l e1 e2).2⟩
    rintro _ H1 ⟨D, rfl, s1, qs, bD, lq, hq⟩
    refine ⟨fun σ' H' => ∃ y, σ' = [some (.ref a), some (.ref c), some (.ref D), some (.ref y), none, none, none] ∧ Same H1 H' ∧ IntsAt H' y (cs ++ [0]), ?_, ?_⟩
    · refine ⟨_, rfl, c, _, rfl, .inr (hc.same s1).sq, ?_, fun y hy => ⟨y, rfl, Same.new hy, ?_⟩⟩
      · rw [List.length_append, List.length_map]
        exact Nat.le_trans (show cs.length + 1 ≤ 101 by omega) (by decide)
      · show upd _ _ _ _ = _
        rw [upd_same, List.map_append]
        rfl
    rintro _ H2 ⟨y, rfl, s2, ey⟩
    have s12 := s1.trans s2
    refine ⟨fun σ' H' => σ' = [some (.ref a), some (.ref c), some (.ref D), some (.ref y), some (.int (cs.length : Nat)), none, none] ∧ H' = H2, ?_, ?_⟩
    · exact ⟨_, rfl, _, cs.length, rfl, (hc.same s12).len, rfl, rfl⟩
    rintro _ H3 ⟨rfl, rfl⟩
    have bD3 := s2 _ _ bD
    refine ⟨_, rfl, D, _, rfl, .inr (SqL.of bD3), _, rfl, ?_, fun L' hL' => ?_⟩
    · rw [List.length_append, List.length_map, lq]
      exact Nat.le_trans (show ls.length + 1 ≤ 101 by omega) (by decide)
    have s4 := Same.new (o := .lst (qs.map V.ref ++ [V.ref y])) hL'
    have eL : upd H3 L' (.lst (qs.map V.ref ++ [V.ref y])) L' = some (.lst ((qs ++ [y]).map V.ref)) := by rw [upd_same, List.map_append]; rfl
    generalize upd H3 L' (.lst (qs.map V.ref ++ [V.ref y])) = H4 at s4 eL ⊢
    have s14 := s12.trans s4
    have lenL : LenV K (.ref a) H4 ls.length := .inl ⟨_, SqL.of (s14 _ _ hL), by rw [List.length_map]; exact hpl.symm⟩
    refine ⟨_, rfl, _, rfl, _, rfl, _, ls.length, rfl, lenL, _, _, rfl, rfl, _, _, rfl, rfl, RgOk.of_le (by omega) (by omega) (by omega) (by omega), fun b5 h5 => ?_⟩
    rw [rgV_nat]
    have s5 := Same.new (o := .lst ((natL ((List.range ls.length).map (cs.length + ·))).map V.int)) h5
    have e5 : IntsAt (upd H4 b5 (.lst ((natL ((List.range ls.length).map (cs.length + ·))).map V.int))) b5 (natL ((List.range ls.length).map (cs.length + ·))) := upd_same
    generalize upd H4 b5 (.lst ((natL ((List.range ls.length).map (cs.length + ·))).map V.int)) = H5 at s5 e5 ⊢
    refine ⟨_, rfl, _, rfl, RgOk.of_le (by omega) (by omega) (by omega) (by omega), fun b6 h6 => ?_⟩
    rw [rgV_zero]
    have s6 := Same.new (o := .lst ((natL (List.range cs.length)).map V.int)) h6
    have e6 : IntsAt (upd H5 b6 (.lst ((natL (List.range cs.length)).map V.int))) b6 (natL (List.range cs.length)) := upd_same
    generalize upd H5 b6 (.lst ((natL (List.range cs.length)).map V.int)) = H6 at s6 e6 ⊢
    intro x dx hx hdx ne
    refine ⟨x, dx, .ref L', .int 1, .ref b5, .ref b6, rfl, upd_same, fun H7 k7 e7 => ⟨rfl, ?_⟩⟩
    have s7 := made_sameT hx hdx k7
    have s47 := s5.trans (s6.trans s7)
    refine q H7 x (s14.trans s47) ⟨dx, L', b5, b6, e7, ⟨qs ++ [y], s47 _ _ eL, ?_, fun k p r hk hr => ?_⟩, e5.same (s6.trans s7), e6.same s7⟩
    · show _ = (ls.map (fun l : List Int × Int => l.1 ++ [l.2]) ++ [cs ++ [0]]).length
      rw [List.length_append, List.length_append, List.length_map, lq]
      rfl
    · replace hr : (ls.map (fun l : List Int × Int => l.1 ++ [l.2]) ++ [cs ++ [0]])[k]? = some r := hr
      by_cases g : k < qs.length
      · rw [List.getElem?_append_left g] at hk
        rw [List.getElem?_append_left (by rw [List.length_map]; omega), List.getElem?_map] at hr
        cases e : ls[k]? with
        | none => rw [e] at hr; cases hr
        | some l =>
          rw [e] at hr
          obtain rfl := (Option.some.inj hr).symm
          exact (hq k p l hk e).same (s2.trans (s4.trans s47))
      · rw [List.getElem?_append_right (by omega)] at hk
        have l0 : k = qs.length := by
          have := (List.getElem?_eq_some_iff.mp hk).1
          simp only [List.length_singleton] at this
          omega
        rw [l0, Nat.sub_self] at hk
        cases hk
        rw [List.getElem?_append_right (by rw [List.length_map]; omega), List.length_map, show k - ls.length = 0 by omega] at hr
        cases hr
        exact ey.same (s4.trans s47)
end
end Ca
set_option Elab.async false
set_option linter.all false
set_option maxRecDepth 100000
set_option maxHeartbeats 4000000
/-! zip(a list, a tuple): one proof over kinds of what is walked -/
namespace CaZ
open PySem PySem.Spec PyProof.Rows L2 RZ
/-- a kind of things that are walked by an iterator of their own -/
structure Kd where
  It : Heap → Addr → Addr → Nat → Prop
  Sq : Heap → Addr → Array Value → Prop
  it_to : ∀ {h h' : Heap} {c l : Addr} {k : Nat}, It h c l k → (∀ o, h.get? c = some o → h'.get? c = some o) → It h' c l k
  sq_to : ∀ {h h' : Heap} {c : Addr} {xs : Array Value}, Sq h c xs → (∀ o, h.get? c = some o → h'.get? c = some o) → Sq h' c xs
  it_obj : ∀ {h : Heap} {c l : Addr} {k : Nat}, It h c l k → ∃ o, h.get? c = some o ∧ ∀ v, o.data ≠ .cell v
  next : ∀ {prog : Program} {w : World} {A : Around} {E : Value → Shared → Prop} {s : Shared} {c l : Addr} {k : Nat} {xs : Array Value} {x : Value} {Q : Value → Shared → Prop}, It s.heap c l k → Sq s.heap l xs → xs[k]? = some x →
    (∀ h', It h' c l (k + 1) → Heap.SameBut c s.heap h' → Q x { s with heap := h' }) → wpAny (model prog w) A (Builtin.SmallTypes.nextOf (.ref c)) Q E s
  stop : ∀ {prog : Program} {w : World} {A : Around} {E : Value → Shared → Prop} {s : Shared} {c l : Addr} {k : Nat} {xs : Array Value} {Q : Value → Shared → Prop}, A.handled = none → It s.heap c l k → Sq s.heap l xs → xs[k]? = none →
    (∀ h' e, Heap.ExtBut c s.heap h' → (∃ o, h'.get? e = some o ∧ o.cls = .type "StopIteration") → E (.ref e) { s with heap := h' }) → wpAny (model prog w) A (Builtin.SmallTypes.nextOf (.ref c)) Q E s
def kL : Kd where
  It := Heap.IsListIter
  Sq := Heap.IsList
  it_to := fun h f => h.at f
  sq_to := fun ⟨o, e, r⟩ f => ⟨o, f o e, r⟩
  it_obj := fun ⟨o, e, _, d⟩ => ⟨o, e, fun v z => by rw [d] at z; cases z⟩
  next := wpAny_nextOf_list_item
  stop := wpAny_nextOf_list_end
def kT : Kd where
  It := Heap.IsTupleIter
  Sq := Heap.IsTuple
  it_to := fun h f => h.at f
  sq_to := fun ⟨o, e, r⟩ f => ⟨o, f o e, r⟩
  it_obj := fun ⟨o, e, _, d⟩ => ⟨o, e, fun v z => by rw [d] at z; cases z⟩
  next := nextOf_tuple_item
  stop := nextOf_tuple_end
/-- a zip whose two iterators stand at a turn -/
structure Zp (M N : Kd) (h : Heap) (z TI TO c d l m : Addr) (k : Nat) : Prop where
  z : IsZip h z TI TO .none
  i : IsPair h TI (.ref c) (.ref d)
  o : ∃ x y, IsPair h TO x y
  a : M.It h c l k
  b : N.It h d m k
/-- all that stood stands, the zip's own four apart -/
def Apt (z TO c d : Addr) (h h' : Heap) : Prop := ∀ e o, e ≠ z → e ≠ TO → e ≠ c → e ≠ d → h.get? e = some o → h'.get? e = some o
section
variable {M N : Kd} {prog : Program} {w : World} {A : Around} {E : Value → Shared → Prop} {s : Shared} {z TI TO c d l m : Addr} {k : Nat} {xs ys : Array Value}
theorem Kd.it_same (M : Kd) {h h' : Heap} {e f l : Addr} {k : Nat} (i : M.It h e l k) (b : Heap.SameBut f h h') (n : e ≠ f) : M.It h' e l k := M.it_to i fun o q => b.extBut e o n q
theorem Kd.sq_same (M : Kd) {h h' : Heap} {e f : Addr} {xs : Array Value} (i : M.Sq h e xs) (b : Heap.SameBut f h h') (n : e ≠ f) : M.Sq h' e xs := M.sq_to i fun o q => b.extBut e o n q
/-- a turn with an item on both sides -/
theorem turn_item {x y : Value} {Q : Value → Shared → Prop} (D : ZipApart z TI TO c d l m) (W : Zp M N s.heap z TI TO c d l m k) (hl : M.Sq s.heap l xs) (hm : N.Sq s.heap m ys) (hx : xs[k]? = some x) (hy : ys[k]? = some y)
    (q : ∀ h', IsZip h' z TI TO (rawInt s.heap.objs.size) → IsPair h' TO x y → M.It h' c l (k + 1) → N.It h' d m (k + 1) → IsPair h' s.heap.objs.size x y → h'.objs.size = s.heap.objs.size + 1 → Apt z TO c d s.heap h' → Q (.ref s.heap.objs.size) { s with heap := h' }) :
    wpAny (model prog w) A (Builtin.«zip.__next__» ⟨[.ref z], []⟩) (fun fin s' => ∃ v, fin = .done (.ret v) ∧ Q v s') E s := by
  obtain ⟨g1, g2, ⟨u, v, g3⟩, g4, g5⟩ := W
  (show wpAny _ _ (field (.ref z) 2 >>= _) _ _ _); refine wpAny_bind (wpAny_field g1 rfl (x := .bool false) rfl ?_)
  (show wpAny _ _ (field (.ref z) 3 >>= _) _ _ _); refine wpAny_bind (wpAny_field g1 rfl (x := .ref TI) rfl (wpAny_bind (wpAny_seqItems g2 rfl ?_)))
  (show wpAny _ _ (Builtin.SmallTypes.ownedTupleIsFree (.ref z) >>= _) _ _ _); refine wpAny_bind ?_; unfold Builtin.SmallTypes.ownedTupleIsFree
  refine wpAny_bind (wpAny_field g1 rfl (x := .none) rfl (wpAny_pure ?_)); simp only [if_true]; refine wpAny_bind (wpAny_rule (wpAny_bind (wpAny_field g1 rfl (x := .ref TO) rfl ?_)))
  refine wpAny_bind (wpAny_setField_rec g1 (by simp) fun p1 z1 b1 => wpAny_bind ?_); simp only [List.zipIdx_cons, List.zipIdx_nil, List.forIn_cons, List.forIn_nil]
  refine wpAny_bind (wpAny_bind (wpAny_onRaise ?_)); (show wpAny _ _ (Builtin.SmallTypes.nextOf (.ref c) >>= _) _ _ _)
  refine wpAny_bind (M.next (M.it_same g4 b1 D.i1z) (M.sq_same hl b1 D.l1z) hx fun p2 i2 b2 => wpAny_pure ?_)
  have o2 : IsPair p2 TO u v := b2.extBut _ _ D.TOi1 (b1.extBut _ _ D.TOz g3)
  refine wpAny_bind (wpAny_seqItems o2 rfl (wpAny_bind (wpAny_updateSeq_pair o2 fun p3 o3' b3 => wpAny_bind (wpAny_letGo (wpAny_pure ?_)))))
  have o3 : IsPair p3 TO x v := o3'
  refine wpAny_bind (wpAny_bind (wpAny_onRaise ?_)); (show wpAny _ _ (Builtin.SmallTypes.nextOf (.ref d) >>= _) _ _ _)
  refine wpAny_bind (N.next (N.it_same (N.it_same (N.it_same g5 b1 D.i2z) b2 D.i12.symm) b3 D.TOi2.symm) (N.sq_same (N.sq_same (N.sq_same hm b1 D.l2z) b2 D.l2i1) b3 D.l2TO) hy fun p4 i4 b4 => wpAny_pure ?_)
  have o4 : IsPair p4 TO x v := b4.extBut _ _ D.TOi2 o3
  refine wpAny_bind (wpAny_seqItems o4 rfl (wpAny_bind (wpAny_updateSeq_pair o4 fun p5 o5' b5 => wpAny_bind (wpAny_letGo (wpAny_pure (wpAny_pure ?_))))))
  have o5 : IsPair p5 TO x y := o5'
  have z5 : IsZip p5 z TI TO .ellipsis := b5.extBut _ _ D.TOz.symm (b4.extBut _ _ D.i2z.symm (b3.extBut _ _ D.TOz.symm (b2.extBut _ _ D.i1z.symm z1)))
  have a5 : Apt z TO c d s.heap p5 := fun e o e1 e2 e3 e4 r => b5.extBut _ _ e2 (b4.extBut _ _ e4 (b3.extBut _ _ e2 (b2.extBut _ _ e3 (b1.extBut _ _ e1 r))))
  have c5 : M.It p5 c l (k + 1) := M.it_same (M.it_same (M.it_same i2 b3 D.TOi1.symm) b4 D.i12) b5 D.TOi1.symm
  have d5 : N.It p5 d m (k + 1) := N.it_same i4 b5 D.TOi2.symm
  have size5 : p5.objs.size = s.heap.objs.size := b5.1.trans (b4.1.trans (b3.1.trans (b2.1.trans b1.1)))
  have zl : z < p5.objs.size := Heap.lt_size z5
  refine wpAny_bind (wpAny_seqItems o5 rfl (wpAny_bind (wpAny_newTuple ?_)))
  (show wpAny _ _ (Builtin.SmallTypes.ownedTupleHandOut (.ref z) (.ref p5.objs.size) >>= _) _ _ _); refine wpAny_bind ?_; unfold Builtin.SmallTypes.ownedTupleHandOut
  have z6 : IsZip (p5.push { cls := .type "tuple", data := .seq #[x, y] }) z TI TO .ellipsis := Heap.get?_push_of_some _ z5
  refine wpAny_bind (wpAny_setField_rec z6 (by simp) fun p7 z7' b7 => ?_)
  have z7 : IsZip p7 z TI TO (rawInt p5.objs.size) := z7'
  refine wpAny_setField_rec z7 (by simp) fun p8 z8' b8 => wpAny_pure ⟨_, rfl, ?_⟩
  have z8 : IsZip p8 z TI TO (rawInt p5.objs.size) := z8'
  have new : IsPair p8 p5.objs.size x y := b8.extBut _ _ (Nat.ne_of_gt zl) (b7.extBut _ _ (Nat.ne_of_gt zl) (Heap.get?_push_size _ rfl))
  have size8 : p8.objs.size = p5.objs.size + 1 := b8.1.trans (b7.1.trans (Heap.size_push ..))
  have rest : ∀ e o, e ≠ z → p5.get? e = some o → p8.get? e = some o := fun e o n r => b8.extBut _ _ n (b7.extBut _ _ n (Heap.get?_push_of_some _ r))
  rw [size5] at z8 new size8
  (show Q (.ref p5.objs.size) _); rw [size5]
  exact q p8 z8 (rest _ _ D.TOz o5) (M.it_to c5 fun o r => rest _ o D.i1z r) (N.it_to d5 fun o r => rest _ o D.i2z r) new size8 fun e o e1 e2 e3 e4 r => rest e o e1 (a5 e o e1 e2 e3 e4 r)
/-- a turn at which one side has come to its end -/
theorem turn_end {Q : Fin → Shared → Prop} (hh : A.handled = none) (D : ZipApart z TI TO c d l m) (W : Zp M N s.heap z TI TO c d l m k) (hl : M.Sq s.heap l xs) (hm : N.Sq s.heap m ys) (hend : xs[k]? = none ∨ ys[k]? = none)
    (q : ∀ h' e, Apt z TO c d s.heap h' → (∃ o, h'.get? e = some o ∧ o.cls = .type "StopIteration") → E (.ref e) { s with heap := h' }) : wpAny (model prog w) A (Builtin.«zip.__next__» ⟨[.ref z], []⟩) Q E s := by
  obtain ⟨g1, g2, ⟨u, v, g3⟩, g4, g5⟩ := W
  (show wpAny _ _ (field (.ref z) 2 >>= _) _ _ _); refine wpAny_bind (wpAny_field g1 rfl (x := .bool false) rfl ?_)
  (show wpAny _ _ (field (.ref z) 3 >>= _) _ _ _); refine wpAny_bind (wpAny_field g1 rfl (x := .ref TI) rfl (wpAny_bind (wpAny_seqItems g2 rfl ?_)))
  (show wpAny _ _ (Builtin.SmallTypes.ownedTupleIsFree (.ref z) >>= _) _ _ _); refine wpAny_bind ?_; unfold Builtin.SmallTypes.ownedTupleIsFree
  refine wpAny_bind (wpAny_field g1 rfl (x := .none) rfl (wpAny_pure ?_)); simp only [if_true]; refine wpAny_bind (wpAny_rule (wpAny_bind (wpAny_field g1 rfl (x := .ref TO) rfl ?_)))
  refine wpAny_bind (wpAny_setField_rec g1 (by simp) fun p1 z1' b1 => wpAny_bind ?_); simp only [List.zipIdx_cons, List.zipIdx_nil, List.forIn_cons, List.forIn_nil]
  have z1 : IsZip p1 z TI TO .ellipsis := z1'
  refine wpAny_bind (wpAny_bind (wpAny_onRaise ?_)); (show wpAny _ _ (Builtin.SmallTypes.nextOf (.ref c) >>= _) _ _ _)
  have apart : ∀ {h : Heap} {e : Addr} {o : Obj}, IsZip h z TI TO .ellipsis → h.get? e = some o → o.cls = .type "StopIteration" → e ≠ z := fun r1 r2 r3 r4 => by
    rw [r4, r1] at r2
    cases r2
    simp at r3
  cases hx : xs[k]? with
  | none =>
    refine wpAny_bind (M.stop hh (M.it_same g4 b1 D.i1z) (M.sq_same hl b1 D.l1z) hx fun p2 e b2 he => ?_)
    obtain ⟨o, ho, hc⟩ := he
    have z2 : IsZip p2 z TI TO .ellipsis := b2 _ _ D.i1z.symm z1
    exact wpAny_setField_rec z2 (by simp) fun p3 _ b3 => q p3 e (fun f r e1 _ e3 _ g => b3.extBut _ _ e1 (b2 _ _ e3 (b1.extBut _ _ e1 g))) ⟨o, b3.extBut _ _ (apart z2 ho hc) ho, hc⟩
  | some x =>
    have hy : ys[k]? = none := hend.elim (fun r => by rw [hx] at r; cases r) id
    refine wpAny_bind (M.next (M.it_same g4 b1 D.i1z) (M.sq_same hl b1 D.l1z) hx fun p2 i2 b2 => wpAny_pure ?_)
    have o2 : IsPair p2 TO u v := b2.extBut _ _ D.TOi1 (b1.extBut _ _ D.TOz g3)
    refine wpAny_bind (wpAny_seqItems o2 rfl (wpAny_bind (wpAny_updateSeq_pair o2 fun p3 _ b3 => wpAny_bind (wpAny_letGo (wpAny_pure ?_)))))
    refine wpAny_bind (wpAny_bind (wpAny_onRaise ?_)); (show wpAny _ _ (Builtin.SmallTypes.nextOf (.ref d) >>= _) _ _ _)
    refine wpAny_bind (N.stop hh (N.it_same (N.it_same (N.it_same g5 b1 D.i2z) b2 D.i12.symm) b3 D.TOi2.symm) (N.sq_same (N.sq_same (N.sq_same hm b1 D.l2z) b2 D.l2i1) b3 D.l2TO) hy fun p4 e b4 he => ?_)
    obtain ⟨o, ho, hc⟩ := he
    have z4 : IsZip p4 z TI TO .ellipsis := b4 _ _ D.i2z.symm (b3.extBut _ _ D.TOz.symm (b2.extBut _ _ D.i1z.symm z1))
    exact wpAny_setField_rec z4 (by simp) fun p5 _ b5 => q p5 e (fun f r e1 e2 e3 e4 g => b5.extBut _ _ e1 (b4 _ _ e4 (b3.extBut _ _ e2 (b2.extBut _ _ e3 (b1.extBut _ _ e1 g))))) ⟨o, b5.extBut _ _ (apart z4 ho hc) ho, hc⟩
theorem next_item {x y : Value} {Q : Option Value → Shared → Prop} (D : ZipApart z TI TO c d l m) (W : Zp M N s.heap z TI TO c d l m k) (hl : M.Sq s.heap l xs) (hm : N.Sq s.heap m ys) (hx : xs[k]? = some x) (hy : ys[k]? = some y)
    (q : ∀ h', IsZip h' z TI TO (rawInt s.heap.objs.size) → IsPair h' TO x y → M.It h' c l (k + 1) → N.It h' d m (k + 1) → IsPair h' s.heap.objs.size x y → h'.objs.size = s.heap.objs.size + 1 → Apt z TO c d s.heap h' → Q (some (.ref s.heap.objs.size)) { s with heap := h' }) :
    wpAny (model prog w) A (pyNext (.ref z)) Q E s := by
  have ty : s.TypeIs (.ref z) "zip" := ⟨_, W.z, rfl⟩
  unfold pyNext
  exact wpAny_bind (wpAny_attempt (wpAny_callSpecial?_slot (name := Str.ofString "__next__") ty F.slot_zip_next (wpAny_call_entry F.slot_zip_next ty F.entry_zip_next (turn_item D W hl hm hx hy fun h' a1 a2 a3 a4 a5 a6 a7 => wpAny_pure (q h' a1 a2 a3 a4 a5 a6 a7)) (F.args_zip_next_1 _))))
theorem next_end {Q : Option Value → Shared → Prop} (hh : A.handled = none) (D : ZipApart z TI TO c d l m) (W : Zp M N s.heap z TI TO c d l m k) (hl : M.Sq s.heap l xs) (hm : N.Sq s.heap m ys) (hend : xs[k]? = none ∨ ys[k]? = none)
    (q : ∀ h', Apt z TO c d s.heap h' → Q none { s with heap := h' }) : wpAny (model prog w) A (pyNext (.ref z)) Q E s := by
  have ty : s.TypeIs (.ref z) "zip" := ⟨_, W.z, rfl⟩
  unfold pyNext
  refine wpAny_bind (wpAny_attempt (wpAny_callSpecial?_slot (name := Str.ofString "__next__") ty F.slot_zip_next (wpAny_call_entry F.slot_zip_next ty F.entry_zip_next (turn_end hh D W hl hm hend fun h' e a he => ?_) (F.args_zip_next_1 _))))
  obtain ⟨o, ho, hc⟩ := he
  exact wpAny_bind (wpAny_isInstance (T := "StopIteration") (b := true) ⟨o, ho, hc⟩ isSubtype_stop (wpAny_pure (q _ a)))
end
/-- the heap behind zip(l, m): two iterators, two pairs, the zip -/
abbrev zm1 (h : Heap) (l : Addr) : Heap := h.push { cls := .type "list_iterator", data := .fields #[.ref l, .int 0 0] }
abbrev zm2 (h : Heap) (l m : Addr) : Heap := (zm1 h l).push { cls := .type "tuple_iterator", data := .fields #[.ref m, .int 0 0] }
abbrev zm3 (h : Heap) (l m : Addr) : Heap := (zm2 h l m).push { cls := .type "tuple", data := .seq #[.ref h.objs.size, .ref (zm1 h l).objs.size] }
abbrev zm4 (h : Heap) (l m : Addr) : Heap := (zm3 h l m).push { cls := .type "tuple", data := .seq #[.none, .none] }
abbrev zm5 (h : Heap) (l m : Addr) : Heap := (zm4 h l m).push { cls := .type "zip", data := .fields #[.none, .bool false, .bool false, .ref (zm2 h l m).objs.size, .ref (zm3 h l m).objs.size] }
theorem zm_new (l m : Addr) (xs ys : Array Value) : Meets (Builtin.«zip.__new__» ⟨[.type "zip", .ref l, .ref m], []⟩) (fun _ R s => s.heap.IsList l xs ∧ s.heap.IsTuple m ys ∧ R (.ok (.ret (.ref (zm4 s.heap l m).objs.size))) { s with heap := zm5 s.heap l m }) :=
  .of_wp fun prog w A R s h => by
    obtain ⟨hp, g, d, tk, os⟩ := s
    obtain ⟨a, b, q⟩ := h
    have sub := sub_zip
    have a' : Heap.IsList (Shared.heap ⟨hp, g, d, tk, os⟩) l xs := a
    have b' : Heap.IsTuple (Shared.heap ⟨hp.push { cls := .type "list_iterator", data := .fields #[.ref l, .int 0 0] }, g, d, tk, os⟩) m ys := Heap.IsTuple.push b _
    wp_walk using wpAny_pyIter_list a', wpAny_pyIter_tuple b'
    exact ⟨_, rfl, q⟩
section
variable {prog : Program} {w : World} {A : Around} {E : Value → Shared → Prop} {s : Shared}
theorem call_zm {l m : Addr} {xs ys : Array Value} {Q : Value → Shared → Prop} (a : s.heap.IsList l xs) (b : s.heap.IsTuple m ys)
    (q : ∀ h', Zp kL kT h' (s.heap.objs.size + 4) (s.heap.objs.size + 2) (s.heap.objs.size + 3) s.heap.objs.size (s.heap.objs.size + 1) l m 0 → (∀ e o, s.heap.get? e = some o → h'.get? e = some o) → Q (.ref (s.heap.objs.size + 4)) { s with heap := h' }) : wpAny (model prog w) A (call (.type "zip") [.ref l, .ref m]) Q E s := by
  refine callType_new F.called_zip (by decide) (F.typeCall_zip_2 _ _) (F.newCall_zip_2 _ _) (fun obj => F.args_object_init_3 obj _ _) F.entry_zip_new (zm_new l m xs ys) ⟨a, b, ?_⟩
  generalize hn : s.heap.objs.size = n at q
  have e1 : (zm1 s.heap l).objs.size = n + 1 := by rw [Heap.size_push, hn]
  have e2 : (zm2 s.heap l m).objs.size = n + 2 := by rw [Heap.size_push, e1]
  have e3 : (zm3 s.heap l m).objs.size = n + 3 := by rw [Heap.size_push, e2]
  have e4 : (zm4 s.heap l m).objs.size = n + 4 := by rw [Heap.size_push, e3]
  have up : ∀ {h : Heap} {c : Addr} {o u : Obj}, h.get? c = some o → (h.push u).get? c = some o := fun r => Heap.get?_push_of_some _ r
  have o5 : (zm5 s.heap l m).get? (zm4 s.heap l m).objs.size = some { cls := .type "zip", data := .fields #[.none, .bool false, .bool false, .ref (zm2 s.heap l m).objs.size, .ref (zm3 s.heap l m).objs.size] } := Heap.get?_push_size _ rfl
  have o4 : (zm5 s.heap l m).get? (zm3 s.heap l m).objs.size = some { cls := .type "tuple", data := .seq #[.none, .none] } := up (Heap.get?_push_size _ rfl)
  have o3 : (zm5 s.heap l m).get? (zm2 s.heap l m).objs.size = some { cls := .type "tuple", data := .seq #[.ref s.heap.objs.size, .ref (zm1 s.heap l).objs.size] } := up (up (Heap.get?_push_size _ rfl))
  have o2 : (zm5 s.heap l m).get? (zm1 s.heap l).objs.size = some { cls := .type "tuple_iterator", data := .fields #[.ref m, .int 0 0] } := up (up (up (Heap.get?_push_size _ rfl)))
  have o1 : (zm5 s.heap l m).get? s.heap.objs.size = some { cls := .type "list_iterator", data := .fields #[.ref l, .int 0 0] } := up (up (up (up (Heap.get?_push_size _ rfl))))
  rw [e2, e3, e4] at o5
  rw [e3] at o4
  rw [e1, e2, hn] at o3
  rw [e1] at o2
  rw [hn] at o1
  show _ ∧ _
  rw [e4]
  exact ⟨⟨_, o5, rfl⟩, q _ ⟨o5, o3, ⟨_, _, o4⟩, ⟨_, o1, rfl, rfl⟩, ⟨_, o2, rfl, rfl⟩⟩ fun e o r => up (up (up (up (up r))))⟩
end
/-- a list at a and a tuple at b, walked together -/
def ItzM (K : PySem.W.Frag) (a b : Addr) : It :=
  ⟨fun i H => ∃ (xs ys : List V) (x y : V), SqL K H a xs ∧ SqT K H b ys ∧ xs[i]? = some x ∧ ys[i]? = some y,
    fun i H v H' => ∃ T x y, v = .ref T ∧ H T = none ∧ H' = upd H T (.tup [x, y]) ∧ (∀ xs, SqL K H a xs → xs[i]? = some x) ∧ ∀ ys, SqT K H b ys → ys[i]? = some y,
    fun i H => ∃ xs ys : List V, SqL K H a xs ∧ SqT K H b ys ∧ (xs.length ≤ i ∨ ys.length ≤ i)⟩
theorem turn_zm {P : Program} {w : World} {K : PySem.W.Frag} {elts : List Expr} {kk : Nat} {tpos : Pos} {a b z TI TO c d : Addr} (D : ZipApart z TI TO c d a b) :
    Turn P w K (.Tuple elts kk tpos) (ItzM K a b) [z, TI, TO, c, d] z (fun i h => Zp kL kT h z TI TO c d a b i) where
  mem := List.mem_cons_self ..
  obj := fun i h W e he => by
    have cases5 : e = z ∨ e = TI ∨ e = TO ∨ e = c ∨ e = d := by simpa using he
    obtain ⟨g1, g2, ⟨u, v, g3⟩, g4, g5⟩ := W
    rcases cases5 with rfl | rfl | rfl | rfl | rfl
    · exact ⟨_, g1, fun v q => nomatch q⟩
    · exact ⟨_, g2, fun v q => nomatch q⟩
    · exact ⟨_, g3, fun v q => nomatch q⟩
    · exact kL.it_obj g4
    · exact kT.it_obj g5
  keep := fun i h h' W f => by
    obtain ⟨g1, g2, ⟨u, v, g3⟩, g4, g5⟩ := W
    exact ⟨f z (by simp) _ g1, f TI (by simp) _ g2, ⟨u, v, f TO (by simp) _ g3⟩, kL.it_to g4 (f c (by simp)), kT.it_to g5 (f d (by simp))⟩
  item := by
    rintro X rfl rfl rfl hc i pins s σ H E I hf W ⟨xs, ys, x, y, hqx, hqy, hx, hy⟩
    obtain ⟨its, rv, p, _⟩ := I.list hqx
    obtain ⟨its2, rv2, p2, _⟩ := I.tuple hqy
    obtain ⟨u, hu, ru⟩ := rv.get hx
    obtain ⟨u2, hu2, ru2⟩ := rv2.get hy
    have zl : z < s.heap.objs.size := Heap.lt_size W.z
    have lts : ∀ e ∈ [z, TI, TO, c, d], e < s.heap.objs.size := fun e he => by
      have cases5 : e = z ∨ e = TI ∨ e = TO ∨ e = c ∨ e = d := by simpa using he
      obtain ⟨g1, g2, ⟨u, v, g3⟩, ⟨_, g4, _⟩, ⟨_, g5, _⟩⟩ := W
      rcases cases5 with rfl | rfl | rfl | rfl | rfl
      · exact zl
      · exact Heap.lt_size g2
      · exact Heap.lt_size g3
      · exact Heap.lt_size g4
      · exact Heap.lt_size g5
    refine next_item (M := kL) (N := kT) D W p.isList p2 (x := u) (y := u2) (by simpa using hu) (by simpa using hu2) fun h' z' o' c' d' new size ap => ⟨_, rfl, wpAny_letOwnedTupleGo_zip (s := { s with heap := h' }) z' fun h'' z'' sb => ?_⟩
    have new2 : h''.get? s.heap.objs.size = some { cls := .type "tuple", data := .seq #[u, u2] } := (sb.2 _ (Nat.ne_of_gt zl)).trans new
    have obj : ObjOk X.prog X.w (upd H s.heap.objs.size (.tup [x, y])) h'' s.heap.objs.size (.tup [x, y]) := ⟨by show 2 ≤ sizeLine; decide, [u, u2], .cons ru (.cons ru2 .nil), ⟨_, new2, rfl, _, rfl⟩⟩
    have stays : ∀ e o, e ∉ [z, TI, TO, c, d] → s.heap.get? e = some o → h''.get? e = some o := fun e o n r => (sb.2 e (fun q => n (by simp [q]))).trans (ap e o (fun q => n (by simp [q])) (fun q => n (by simp [q])) (fun q => n (by simp [q])) (fun q => n (by simp [q])) r)
    have I1 : Inv X pins σ (upd H s.heap.objs.size (.tup [x, y])) { s with heap := h'' } := I.turnedNew (t' := s.toks) (ch := [z, TI, TO, c, d]) stays hf (Nat.le_refl _) obj
    refine ⟨.ref s.heap.objs.size, _, I1, rfl, ⟨_, x, y, rfl, I.hok.fresh (Nat.le_refl _), rfl, fun l hl => by rw [I.list_inj hl hqx]; exact hx, fun l hl => by rw [I.tuple_inj hl hqy]; exact hy⟩, ⟨z'', ?_, ⟨u, u2, (sb.2 _ D.TOz).trans o'⟩, kL.it_to c' fun o q => (sb.2 _ D.i1z).trans q, kT.it_to d' fun o q => (sb.2 _ D.i2z).trans q⟩, fun e he => ?_⟩
    · exact (sb.2 _ D.TIz).trans (ap _ _ D.TIz D.TITO D.TIi1 D.TIi2 W.i)
    · rw [upd_ne (Nat.ne_of_lt (lts e he))]
      exact (hf e he).1
  done := by
    rintro X rfl rfl rfl hc i pins s σ H E I hf W ⟨xs, ys, hqx, hqy, hend⟩
    obtain ⟨its, rv, p, _⟩ := I.list hqx
    obtain ⟨its2, rv2, p2, _⟩ := I.tuple hqy
    have l1 := rv.length
    have l2 := rv2.length
    have ends : its.toArray[i]? = none ∨ its2.toArray[i]? = none := hend.imp (fun q => by simp; omega) fun q => by simp; omega
    exact next_end (M := kL) (N := kT) (I.ok.hd hc) D W p.isList p2 ends fun h' ap => ⟨rfl, I.turnedL (t' := s.toks) (ch := [z, TI, TO, c, d]) (fun e o n r => ap e o (fun q => n (by simp [q])) (fun q => n (by simp [q])) (fun q => n (by simp [q])) (fun q => n (by simp [q])) r) hf⟩
  self := fun A i s Q E W q => wpAny_pyIter_zip W.z q
def iZipM (K : PySem.W.Frag) (ta : TA) : TI := fun σ H R => ta σ H fun vs H1 => ∃ a b xs ys, vs = [.ref a, .ref b] ∧ SqL K H1 a xs ∧ SqT K H1 b ys ∧ R (ItzM K a b) H1
theorem pi_zipM {X : Cx} {e e2 : Expr} {ta : TA} {p pos tpos : Pos} {elts : List Expr} {kk : Nat} (hg : Gl X "zip") (hm : X.mg "zip" = none) (ha : PA X [e, e2] ta)
    (h1 : starEach [e, e2] X.env = (false, eval e X.env) :: starEach [e2] X.env := by rfl) (h2 : (backTo pos (starEach [e2] X.env)).any (·.1) = false := by rfl) : PI X (.Tuple elts kk tpos) (.Call (.Name "zip" p) [e, e2] [] pos) (iZipM X.K ta) := by
  constructor
  intro pins s σ H R I h
  refine Call_ (ld_blt I hg hm PyProof.Rows.boot_zip (PyProof.Rows.callWith_type1 (thn (ha.run pos pins s σ H _ I h) ?_) h1 h2))
  rintro us s1 ⟨vs, H1, I1, r1, a, b, xs, ys, rfl, hqx, hqy, q⟩
  obtain ⟨ua, t1, rfl, ra, r1⟩ : ∃ u t, us = u :: t ∧ RelV (.ref a) u ∧ Vals [.ref b] t := by cases r1 with | cons x y => exact ⟨_, _, rfl, x, y⟩
  obtain rfl := Vals.ref1 r1
  cases ra
  obtain ⟨its, rv, p1, _⟩ := I1.list hqx
  obtain ⟨its2, rv2, p2, _⟩ := I1.tuple hqy
  obtain ⟨o2, ho2, _⟩ := id p2
  refine call_zm p1.isList p2 fun h' W keep => wpAny_pyIter_zip W.z ?_
  have I2 : Inv X pins σ H1 { s1 with heap := h' } := I1.kept (t' := s1.toks) keep
  refine ⟨s1.heap.objs.size + 4, [s1.heap.objs.size + 4, s1.heap.objs.size + 2, s1.heap.objs.size + 3, s1.heap.objs.size, s1.heap.objs.size + 1], _, _, H1, rfl, I2, turn_zm (PySem.W.ktu_apart s1.heap.objs.size a b p1.lt (Heap.lt_size ho2)), W, fun e he => ?_, q⟩
  have le : s1.heap.objs.size ≤ e := by
    have cases5 : e = s1.heap.objs.size + 4 ∨ e = s1.heap.objs.size + 2 ∨ e = s1.heap.objs.size + 3 ∨ e = s1.heap.objs.size ∨ e = s1.heap.objs.size + 1 := by simpa using he
    rcases cases5 with r | r | r | r | r <;> rw [r] <;> first | exact Nat.le_add_right _ _ | exact Nat.le_refl _
  exact I1.fpOk le (I1.hok.fresh le)
theorem walk_zm {K : PySem.W.Frag} {a b : Addr} {xs ys : List V} {n : Nat} (h1 : xs.length = n) (h2 : ys.length = n) : Walk (ItzM K a b) n (fun H => SqL K H a xs ∧ SqT K H b ys) (YPair (fun i => xs[i]?) (fun i => ys[i]?)) where
  goes := fun i H hi q => ⟨xs, ys, xs[i], ys[i], q.1, q.2, List.getElem?_eq_getElem (by omega), List.getElem?_eq_getElem (by omega)⟩
  stops := fun H q => ⟨xs, ys, q.1, q.2, .inl (by omega)⟩
  yields := fun i H v H' _ q y => let ⟨T, x, z, e1, e2, e3, e4, e5⟩ := y; ⟨T, x, z, e1, e2, e3, e4 xs q.1, e5 ys q.2⟩
theorem walk_zt {K : PySem.W.Frag} {a b : Addr} {xs ys : List V} {n : Nat} (h1 : xs.length = n) (h2 : ys.length = n) : Walk (RZ.ItzT K a b) n (fun H => SqT K H a xs ∧ SqT K H b ys) (YPair (fun i => xs[i]?) (fun i => ys[i]?)) where
  goes := fun i H hi q => ⟨xs, ys, xs[i], ys[i], q.1, q.2, List.getElem?_eq_getElem (by omega), List.getElem?_eq_getElem (by omega)⟩
  stops := fun H q => ⟨xs, ys, q.1, q.2, .inl (by omega)⟩
  yields := fun i H v H' _ q y => let ⟨T, x, z, e1, e2, e3, e4, e5⟩ := y; ⟨T, x, z, e1, e2, e3, e4 xs q.1, e5 ys q.2⟩
end CaZ
set_option Elab.async false
set_option linter.all false
set_option maxRecDepth 100000
set_option maxHeartbeats 4000000
namespace Ca
open PySem L2
/-! ### fractions -/
def frD (f : Int × Int) : PyData := .tuple [.int f.1, .int f.2]
def frsD (fs : List (Int × Int)) : PyData := .tuple (fs.map frD)
def isFracD : PyData → Bool
  | .tuple [.int a, .int b] => decide (0 < b) && decide (Nat.gcd a.natAbs b.natAbs = 1)
  | _ => false
def isAnsD (d : PyData) (m : Nat) : Bool := isTupN d m && (partsOf d).all isFracD
/-- p / q is a / b, in smaller terms -/
structure Red (a b p q : Int) : Prop where
  pos : 0 < q
  ex : ∃ g : Int, 0 < g ∧ p * g = a ∧ q * g = b
  cop : Nat.gcd p.natAbs q.natAbs = 1
theorem Red.le {a b p q : Int} (h : Red a b p q) : p.natAbs ≤ a.natAbs ∧ q.natAbs ≤ b.natAbs := by
  obtain ⟨g, hg, e1, e2⟩ := h.ex
  have : 1 ≤ g.natAbs := by omega
  constructor
  · rw [← e1, Int.natAbs_mul]
    exact Nat.le_mul_of_pos_right _ this
  · rw [← e2, Int.natAbs_mul]
    exact Nat.le_mul_of_pos_right _ this
theorem Red.cross {a b p q : Int} (h : Red a b p q) : p * b = a * q := by
  obtain ⟨g, hg, e1, e2⟩ := h.ex
  rw [← e1, ← e2, Int.mul_comm q g, ← Int.mul_assoc, Int.mul_right_comm]
theorem red_of {a b : Int} (hb : 0 < b) : Red a b (a / ((Nat.gcd a.natAbs b.natAbs : Nat) : Int)) (b / ((Nat.gcd a.natAbs b.natAbs : Nat) : Int)) := by
  have g0 : 0 < Nat.gcd a.natAbs b.natAbs := Nat.gcd_pos_of_pos_right _ (by omega)
  have d1 : ((Nat.gcd a.natAbs b.natAbs : Nat) : Int) ∣ a := Int.ofNat_dvd_left.mpr (Nat.gcd_dvd_left _ _)
  have d2 : ((Nat.gcd a.natAbs b.natAbs : Nat) : Int) ∣ b := Int.ofNat_dvd_left.mpr (Nat.gcd_dvd_right _ _)
  have gp : (0 : Int) < ((Nat.gcd a.natAbs b.natAbs : Nat) : Int) := by omega
  refine ⟨Int.ediv_pos_of_pos_of_dvd hb (by omega) d2, ⟨_, gp, Int.ediv_mul_cancel d1, Int.ediv_mul_cancel d2⟩, ?_⟩
  rw [Int.natAbs_ediv_of_dvd d1, Int.natAbs_ediv_of_dvd d2, Int.natAbs_natCast]
  rw [Nat.gcd_div (Nat.gcd_dvd_left _ _) (Nat.gcd_dvd_right _ _)]
  exact Nat.div_self g0
theorem fr_at {K : PySem.W.Frag} {H : Hp} {v : V} {f : Int × Int} (h : Dq K H v (frD f)) : ∃ a, v = .ref a ∧ SqT K H a [.int f.1, .int f.2] := by
  obtain ⟨a, xs, rfl, h1, h2, _⟩ := tup_len h
  cases h2 with
  | cons e1 r1 =>
  cases r1 with
  | cons e2 r2 =>
  cases r2
  cases e1
  cases e2
  exact ⟨a, rfl, h1⟩
theorem fr_of {K : PySem.W.Frag} {H : Hp} {a : Addr} {p q : Int} (h : H a = some (.tup [.int p, .int q])) : Dq K H (.ref a) (frD (p, q)) := .tup (SqT.of h) (.cons (.int _) (.cons (.int _) .nil))
def spFraction (K : PySem.W.Frag) : Sp := fun vs H Q _ => ∃ a b : Int, vs = [.int a, .int b] ∧ 0 < b ∧ b.natAbs < 2 ^ 8000 ∧ ∀ H' y p q, Same H H' → Dq K H' y (frD (p, q)) → Red a b p q → Q y H'
/-- a fraction of not too many digits -/
structure FrOk (n : Nat) (f : Int × Int) : Prop where
  pos : 0 < f.2
  t : f.1.natAbs < 2 ^ n
  b : f.2.natAbs < 2 ^ n
def spPlus (K : PySem.W.Frag) : Sp := fun vs H Q _ => ∃ x y f g, vs = [x, y] ∧ Dq K H x (frD f) ∧ Dq K H y (frD g) ∧ FrOk 2000 f ∧ FrOk 2000 g ∧ ∀ H' z p q, Same H H' → Dq K H' z (frD (p, q)) → Red (f.1 * g.2 + g.1 * f.2) (f.2 * g.2) p q → Q z H'
theorem FrOk.wide {f g : Int × Int} (hf : FrOk 2000 f) (hg : FrOk 2000 g) : 0 < f.2 * g.2 ∧ (f.2 * g.2).natAbs < 2 ^ 8000 := by
  refine ⟨Int.mul_pos hf.pos hg.pos, Nat.lt_of_lt_of_le (wide_lt hf.b hg.b) (Nat.pow_le_pow_right (by decide) (by decide))⟩
section
variable {P : Program} {w : World} {K : PySem.W.Frag} {mg : Str → Option Value} {base : Heap}
theorem scFraction : FnScope ["top", "bottom", "shared"] ["top", "bottom"] (defScope sFraction) := ⟨rfl, rfl, rfl, by decide +kernel, rfl, by decide +kernel, by decide +kernel⟩
theorem ok_fraction {f : Addr} {fd : FuncData} (F : FnT K "fraction" sFraction f fd) (mgcd : mg "gcd" = some (.builtin "math.gcd")) : FnOk P w K mg base CX0 1 f fd ["top", "bottom"] (spFraction K) := by
  refine F.ok scFraction (fun vs H Q E h => ?_) (fun cdv A outer s H vs Q E hr h => ?_)
  · obtain ⟨a, b, rfl, _⟩ := h
    rfl
  · obtain ⟨a, b, rfl, hb, hs, q⟩ := h
    have nd := scFraction.nd
    refine ⟨_, PSs.nox (pss_cons (ps_set (i := 2) nd rfl (.inl rfl) (pe_callBfun cr_gcd rfl mgcd (pa_cons (pv 0) (pa_cons (pv 1) pa_nil))))
      (pss_one (ps_ret (pe_tup (pa_cons (pe_op op_fdivW (pv 0) (pv 2)) (pa_cons (pe_op op_fdivW (pv 1) (pv 2)) pa_nil)))))), ?_⟩
    have g0 : 0 < Nat.gcd a.natAbs b.natAbs := Nat.gcd_pos_of_pos_right _ (by omega)
    have g1 : Nat.gcd a.natAbs b.natAbs ≤ b.natAbs := Nat.gcd_le_right _ (by omega)
    have cd : ∀ i : Int, CDivW i ((Nat.gcd a.natAbs b.natAbs : Nat) : Int) := fun i => wide_div (b := 8000) (by omega) (by rw [Int.natAbs_natCast]; exact Nat.lt_of_le_of_lt g1 hs) (by decide) (by decide)
    refine ⟨_, rfl, _, rfl, a, b, rfl, _, rfl, _, rfl, _, _, rfl, rfl, cd _, _, rfl, _, rfl, _, _, rfl, rfl, cd _, by show 2 ≤ sizeLine; decide, fun p hp => ?_⟩
    exact q _ _ _ _ (Same.new hp) (fr_of upd_same) (red_of hb)
theorem scPlus : FnScope ["one", "other"] ["one", "other"] (defScope sPlus) := ⟨rfl, rfl, rfl, by decide +kernel, rfl, by decide +kernel, by decide +kernel⟩
theorem ok_plus {f fF : Addr} {fd fdF : FuncData} (F : FnT K "plus" sPlus f fd) (gF : mg "fraction" = some (.ref fF)) (GF : FnOk P w K mg base CX0 1 fF fdF ["top", "bottom"] (spFraction K)) (kF : PySem.W.keepIn K (.ref fF) = true) (bF : Binds K fdF ["top", "bottom"] []) :
    FnOk P w K mg base CX0 2 f fd ["one", "other"] (spPlus K) := by
  refine F.ok scPlus (fun vs H Q E h => ?_) (fun cdv A outer s H vs Q E hr h => ?_)
  · obtain ⟨x, y, f, g, rfl, _⟩ := h
    rfl
  · obtain ⟨x, y, f, g, rfl, dx, dy, hf, hg, q⟩ := h
    obtain ⟨a, rfl, ha⟩ := fr_at dx
    obtain ⟨b, rfl, hb⟩ := fr_at dy
    refine ⟨_, PSs.nox (pss_one (ps_ret (pe_call GF hr rfl gF kF bF .nil pass0 (pa_cons (pe_op op_add (pe_op op_mulW (pe_ix ix_tup (pv 0) pe_int (fun _ _ => rfl)) (pe_ix ix_tup (pv 1) pe_int (fun _ _ => rfl))) (pe_op op_mulW (pe_ix ix_tup (pv 1) pe_int (fun _ _ => rfl)) (pe_ix ix_tup (pv 0) pe_int (fun _ _ => rfl))))
      (pa_cons (pe_op op_mulW (pe_ix ix_tup (pv 0) pe_int (fun _ _ => rfl)) (pe_ix ix_tup (pv 1) pe_int (fun _ _ => rfl))) pa_nil))))), ?_⟩
    have m : ∀ {i j : Int}, i.natAbs < 2 ^ 2000 → j.natAbs < 2 ^ 2000 → CMulW i j := fun h1 h2 => wide_mul h1 h2 (by decide) (by decide) (by decide)
    obtain ⟨w1, w2⟩ := hf.wide hg
    refine ⟨_, rfl, a, _, 0, _, rfl, rfl, ha, atI_nat (j := 0) rfl, _, rfl, b, _, 1, _, rfl, rfl, hb, atI_nat (j := 1) rfl, _, _, rfl, rfl, m hf.t hg.b, ?_⟩
    refine ⟨_, rfl, b, _, 0, _, rfl, rfl, hb, atI_nat (j := 0) rfl, _, rfl, a, _, 1, _, rfl, rfl, ha, atI_nat (j := 1) rfl, _, _, rfl, rfl, m hg.t hf.b, _, _, rfl, rfl, ?_⟩
    refine ⟨_, rfl, a, _, 1, _, rfl, rfl, ha, atI_nat (j := 1) rfl, _, rfl, b, _, 1, _, rfl, rfl, hb, atI_nat (j := 1) rfl, _, _, rfl, rfl, m hf.b hg.b, _, _, rfl, w1, w2, q⟩
end
end Ca
set_option Elab.async false
set_option linter.all false
set_option maxRecDepth 100000
set_option maxHeartbeats 8000000
namespace Ca
open PySem L2
/-! ### the amounts of a table -/
theorem sqt_updT {K : PySem.W.Frag} {H : Hp} {a y : Addr} {xs ys : List V} {o : HO} (hy : H y = some (.lst ys)) (h : SqT K H a xs) : SqT K (upd H y o) a xs := by
  rcases h with (e | ⟨o', e⟩) | e
  · exact .inl (.inl (by rw [upd_ne (fun z => by rw [z, hy] at e; cases e)]; exact e))
  · exact .inl (.inr ⟨o', by rw [upd_ne (fun z => by rw [z, hy] at e; cases e)]; exact e⟩)
  · exact .inr e
theorem fr_updT {K : PySem.W.Frag} {H : Hp} {y : Addr} {v : V} {ys : List V} {o : HO} {p : Int × Int} (hy : H y = some (.lst ys)) (h : Dq K H v (frD p)) : Dq K (upd H y o) v (frD p) := by
  obtain ⟨a, rfl, s⟩ := fr_at h
  exact .tup (sqt_updT hy s) (.cons (.int _) (.cons (.int _) .nil))
/-- what is told of the quantity q by the first k lines -/
def AmtOf (n : Nat) (t : Tb) (k q : Nat) (p : Int × Int) : Prop := (∃ l : Nat, l < k ∧ t.bs[l]? = some q ∧ Red (tT t l n) t.D p.1 p.2) ∨ ((∀ l : Nat, l < k → t.bs[l]? ≠ some q) ∧ p = (0, 1))
def AmtsAt (K : PySem.W.Frag) (H : Hp) (y : Addr) (n : Nat) (t : Tb) (k : Nat) : Prop := ∃ vs : List V, H y = some (.lst vs) ∧ vs.length = n ∧ ∀ (q : Nat) (v : V), vs[q]? = some v → ∃ p, Dq K H v (frD p) ∧ AmtOf n t k q p
def spAmts (K : PySem.W.Frag) (C : Addr) : Sp := fun vs H Q _ => ∃ (x : Addr) (t : Tb) (m n : Nat), vs = [.ref x, .int (n : Nat)] ∧ TbAt C H x t ∧ Shp m n t ∧ t.bs.Nodup ∧ 0 < t.D ∧ t.D.natAbs < 2 ^ 1000 ∧ ∀ H' y, Same H H' → AmtsAt K H' y n t m → Q (.ref y) H'
abbrev NAm : List Str := ["table", "many", "amounts", "number", "line", "_"]
section
variable {P : Program} {w : World} {K : PySem.W.Frag} {mg : Str → Option Value} {base : Heap} {C : Addr}
theorem scAm : FnScope ["table", "many", "amounts", "number", "line", "_"] ["table", "many"] (defScope sAmountsIn) := ⟨rfl, rfl, rfl, by decide +kernel, rfl, by decide +kernel, by decide +kernel⟩
theorem ok_amounts {f fF zA : Addr} {fd fdF : FuncData} (F : FnT K "amounts_in" sAmountsIn f fd) (T : TabK K C) (mzip : mg "zip" = none) (mrng : mg "range" = none) (gZ : mg "ZERO" = some (.ref zA)) (hZ : ∀ H : Hp, SqT K H zA [.int 0, .int 1])
    (gF : mg "fraction" = some (.ref fF)) (GF : FnOk P w K mg base CX0 1 fF fdF ["top", "bottom"] (spFraction K)) (kF : PySem.W.keepIn K (.ref fF) = true) (bF : Binds K fdF ["top", "bottom"] []) :
    FnOk P w K mg base CX0 2 f fd ["table", "many"] (spAmts K C) := by
  refine F.ok scAm (fun vs H Q E h => ?_) (fun cdv A outer s H vs Q E hr h => ?_)
  · obtain ⟨x, t, m, n, rfl, _⟩ := h
    rfl
  · obtain ⟨x, t, m, n, rfl, ht, hs, hnd, hD, hDs, q⟩ := h
    have nd := scAm.nd
    have hr1 : Room 1 _ := hr.mono (by decide)
    refine ⟨_, PSs.nox (pss_cons (ps_cut (ps_setLc (i := 2) (own := [("_", 5)]) (g := gName 5) (tt := tYes) rfl nd rfl rfl (sw_true rfl rfl rfl (by decide +kernel)) (pi_range1 rfl mrng (pa_cons (pv 1) pa_nil))
        (blkOk_by (own := [("_", 5)]) (N := NAm) (sc := defScope sAmountsIn) (by decide +kernel)) (fun _ _ _ _ _ => pg_name (i := 5) nd rfl (Or.inl rfl)) (fun _ _ _ _ _ => pts_nil)
        (fun _ _ _ _ _ => pe_glob (v := .ref zA) rfl gZ rfl)))
      (pss_cons (ps_cut (ps_for PassesOwn.never rfl (RZ.pi_zipA (by rfl) mzip (pa_cons (pe_fld (pv 0) rfl) (pa_cons (pe_fld (pv 0) rfl) pa_nil))) (pgTt K rfl (pgs_cons (pg_name (i := 3) nd rfl (.inl rfl)) (pgs_cons (pg_name (i := 4) nd rfl (.inl rfl)) pgs_nil)))
        (pss_one (ps_if (pt_cmpR op_lt (pv 3) (pv 1) (nomark _)) (pss_one (ps_asg (pe_call GF hr1 rfl gF kF bF .nil pass0 (pa_cons (pe_ix (ixLt K) (pv 4) (pe_un un_neg pe_int) (fun _ _ => rfl)) (pa_cons (pe_fld (pv 0) rfl) pa_nil))) (pg_sub (pv 2) (pv 3) set_list))) pss_nil))))
      (pss_one (ps_ret (pv 2))))), ?_⟩
    obtain ⟨dx, L, b, f', hx, ⟨ps, hL, hpl, hrow⟩, hb, hf⟩ := id ht
    have bl := hs.bl
    have fl := hs.fl
    have rl := hs.rl
    have m100 := hs.ms
    have n100 := hs.ns
    refine ⟨fun σ' H' => ∃ y, σ' = [some (.ref x), some (.int (n : Nat)), some (.ref y), none, none, none] ∧ Same H H' ∧ H y = none ∧ AmtsAt K H' y n t 0, ?_, ?_⟩
    · refine ⟨_, rfl, _, rfl, by omega, by omega, fun D hD' => ?_⟩
      refine lc_it (walk_range (lo := 0) (n := n)) (fun k H' => Same H H' ∧ H' D = some (.lst (List.replicate k (V.ref zA)))) ⟨Same.new hD', upd_same⟩ (fun _ _ _ _ => trivial) ?_ ?_
      · rintro k z _ H5 hk ⟨s5, bD⟩ ⟨rfl, hz⟩
        refine ⟨rfl, rdYes ?_⟩
        refine ⟨_, bD, ?_, fun u o g => ?_, ?_⟩
        · rw [List.length_replicate]
          exact Nat.lt_of_lt_of_le (show k < 101 by have : k < n := hk; omega) (by decide)
        · rw [upd_ne (ne_of_none g hD')]
          exact s5 _ _ g
        · rw [upd_same, List.replicate_succ']
      · rintro H5 ⟨s5, bD⟩
        refine ⟨D, rfl, s5, hD', _, bD, List.length_replicate .., fun q' v hv => ⟨(0, 1), ?_, .inr ⟨fun l hl => absurd hl (Nat.not_lt_zero _), rfl⟩⟩⟩
        have := List.eq_of_mem_replicate (List.mem_of_getElem? hv)
        rw [this]
        exact .tup (hZ _) (.cons (.int _) (.cons (.int _) .nil))
    rintro _ H1 ⟨y, rfl, s1, hy, am⟩
    refine ⟨fun σ' H' => ∃ o3 o4, σ' = [some (.ref x), some (.int (n : Nat)), some (.ref y), o3, o4, none] ∧ Same H H' ∧ AmtsAt K H' y n t m, ?_, ?_⟩
    · refine ⟨_, rfl, x, C, dx, _, .ref b, rfl, s1 _ _ hx, T.cl, T.n3, rfl, _, rfl, x, C, dx, _, .ref L, rfl, s1 _ _ hx, T.cl, T.n1, rfl, b, L, _, _, rfl, .inl ⟨(hb.same s1).sq, SqL.of (s1 _ _ hL), ?_⟩⟩
      refine for_it (walk_zip (K := K) (a := b) (b := L) (xs := (natL t.bs).map V.int) (ys := ps.map V.ref) (n := m) (by unfold natL; rw [List.length_map, List.length_map, List.length_map]; omega)) (fun i σ' H' => ∃ o3 o4, σ' = [some (.ref x), some (.int (n : Nat)), some (.ref y), o3, o4, none] ∧ Same H H' ∧ AmtsAt K H' y n t i) ⟨_, _, rfl, s1, am⟩ (fun i σ' H' hi p' => by
        obtain ⟨_, _, _, s', _⟩ := p'
        exact ⟨(hb.same s').sq, SqL.of (s' _ _ hL)⟩) ?_ (fun σ' H' p' => p')
      rintro i z _ H4 H5 hi ⟨o3, o4, rfl, s5, vs, bD, lv, hv⟩ ⟨T1, x1, y1, rfl, hT, rfl, hx2, hyy⟩
      have s6 := Same.new (o := .tup [x1, y1]) hT
      have s56 := s5.trans s6
      obtain ⟨k, hk, rfl⟩ := nat_back hx2
      have him : i < m := hi
      obtain ⟨r, hr1, hr2, hr3⟩ := row_at_T hs (i := i) (by omega)
      obtain ⟨p, hp, rfl⟩ : ∃ p, ps[i]? = some p ∧ y1 = V.ref p := by
        replace hyy : (ps.map V.ref)[i]? = some y1 := hyy
        rw [List.getElem?_map] at hyy
        cases e : ps[i]? with
        | none => rw [e] at hyy; cases hyy
        | some p => rw [e] at hyy; exact ⟨p, rfl, (Option.some.inj hyy).symm⟩
      have ip := (hrow i p r hp hr1).same s56
      have last : ((r.map V.int))[n]? = some (V.int (tT t i n)) := by
        rw [← hr3 n]
        exact IntsAt.get (getD_at (by omega))
      -- a line more
      have more : ∀ q' p', q' ≠ k → AmtOf n t i q' p' → AmtOf n t (i + 1) q' p' := fun q' p' ne h => by
        rcases h with ⟨l, h1, h2, h3⟩ | ⟨h1, h2⟩
        · exact .inl ⟨l, by omega, h2, h3⟩
        · refine .inr ⟨fun l hl => ?_, h2⟩
          by_cases g : l = i
          · rw [g, hk]
            exact fun z => ne (Option.some.inj z).symm
          · exact h1 l (by omega)
      have bD6 := s6 _ _ bD
      have hv6 : ∀ (q' : Nat) (v : V), vs[q']? = some v → ∃ g, Dq K (upd H4 T1 (.tup [.int (Int.ofNat k), .ref p])) v (frD g) ∧ AmtOf n t i q' g := fun q' v e => by
        obtain ⟨g, h1, h2⟩ := hv q' v e
        exact ⟨g, h1.same s6, h2⟩
      refine ⟨T1, _, rfl, SqT.of upd_same, rfl, _, _, rfl, _, _, rfl, rfl, ?_⟩
      refine ⟨_, rfl, _, rfl, _, _, rfl, rfl, _, rfl, ?_⟩
      refine ite2 (fun c => ?_) (fun c => ?_)
      · have kn : k < n := Int.ofNat_lt.mp (of_decide_eq_true c)
        refine ⟨_, rfl, _, rfl, p, _, _, .int (tT t i n), rfl, rfl, ip.sq, atI_neg (by rw [List.length_map]; exact hr2) last, _, rfl, x, C, dx, _, .int t.D, rfl, s56 _ _ hx, T.cl, T.n2, rfl, tT t i n, t.D, rfl, hD, Nat.lt_trans hDs (Nat.pow_lt_pow_right (by decide) (by decide)), fun H7 z p1 q1 s7 dz rd => ?_⟩
        have bD7 := s7 _ _ bD6
        refine ⟨_, rfl, _, rfl, y, vs, _, k, rfl, rfl, bD7, ixNt (by omega), ?_⟩
        refine ⟨_, _, rfl, fun u o g => ?_, vs.set k z, upd_same, by rw [List.length_set]; exact lv, fun q' v e => ?_⟩
        · rw [upd_ne (ne_of_none g hy)]
          exact s7 _ _ (s56 _ _ g)
        · by_cases g : q' = k
          · rw [g, List.getElem?_set_self (by omega)] at e
            obtain rfl := Option.some.inj e
            exact ⟨(p1, q1), fr_updT bD7 dz, .inl ⟨i, Nat.lt_succ_self _, by rw [g]; exact hk, rd⟩⟩
          · rw [List.getElem?_set_ne (Ne.symm g)] at e
            obtain ⟨w1, h1, h2⟩ := hv6 q' v e
            exact ⟨w1, fr_updT bD7 (h1.same s7), more q' w1 g h2⟩
      · have kn : ¬ k < n := fun z => c (decide_eq_true (Int.ofNat_lt.mpr z))
        refine ⟨_, _, rfl, s56, vs, bD6, lv, fun q' v e => ?_⟩
        obtain ⟨w1, h1, h2⟩ := hv6 q' v e
        have ql := (List.getElem?_eq_some_iff.mp e).1
        exact ⟨w1, h1, more q' w1 (by omega) h2⟩
    rintro _ H2 ⟨o3, o4, rfl, s2, am2⟩
    exact ⟨_, rfl, q H2 y s2 am2⟩
end
end Ca
set_option Elab.async false
set_option linter.all false
set_option maxRecDepth 100000
set_option maxHeartbeats 8000000
namespace Ca
open PySem L2
/-! ### the weights of a line of a table -/
/-- what is told of the quantity q by the first k free ones -/
def WgtF (t : Tb) (row k q : Nat) (p : Int × Int) : Prop := (∃ l : Nat, l < k ∧ t.fs[l]? = some q ∧ Red (tT t row l) t.D p.1 p.2) ∨ ((∀ l : Nat, l < k → t.fs[l]? ≠ some q) ∧ p = (0, 1))
def WgtOf (n : Nat) (t : Tb) (row q : Nat) (p : Int × Int) : Prop := (t.bs[row]? = some q ∧ p = (1, 1)) ∨ (t.bs[row]? ≠ some q ∧ WgtF t row n q p)
def FrsAt (K : PySem.W.Frag) (H : Hp) (y : Addr) (n : Nat) (R : Nat → Int × Int → Prop) : Prop := ∃ vs : List V, H y = some (.lst vs) ∧ vs.length = n ∧ ∀ (q : Nat) (v : V), vs[q]? = some v → ∃ p, Dq K H v (frD p) ∧ R q p
theorem FrsAt.same {K : PySem.W.Frag} {H H' : Hp} {y : Addr} {n : Nat} {R : Nat → Int × Int → Prop} (h : FrsAt K H y n R) (s : Same H H') : FrsAt K H' y n R := by
  obtain ⟨vs, h1, h2, h3⟩ := h
  exact ⟨vs, s _ _ h1, h2, fun q v e => by
    obtain ⟨p, g1, g2⟩ := h3 q v e
    exact ⟨p, g1.same s, g2⟩⟩
theorem FrsAt.imp {K : PySem.W.Frag} {H : Hp} {y : Addr} {n : Nat} {R R' : Nat → Int × Int → Prop} (h : FrsAt K H y n R) (i : ∀ q p, q < n → R q p → R' q p) : FrsAt K H y n R' := by
  obtain ⟨vs, h1, h2, h3⟩ := h
  exact ⟨vs, h1, h2, fun q v e => by
    obtain ⟨p, g1, g2⟩ := h3 q v e
    exact ⟨p, g1, i q p (by rw [← h2]; exact (List.getElem?_eq_some_iff.mp e).1) g2⟩⟩
/-- one of them written -/
theorem FrsAt.set {K : PySem.W.Frag} {H : Hp} {y : Addr} {n k : Nat} {R R' : Nat → Int × Int → Prop} {z : V} {p : Int × Int} {vs : List V} (hy : H y = some (.lst vs)) (hv : ∀ (q : Nat) (v : V), vs[q]? = some v → ∃ p, Dq K H v (frD p) ∧ R q p) (lv : vs.length = n) (dz : Dq K H z (frD p)) (r : R' k p) (i : ∀ q p, q < n → q ≠ k → R q p → R' q p) : FrsAt K (upd H y (.lst (vs.set k z))) y n R' := by
  refine ⟨vs.set k z, upd_same, by rw [List.length_set]; exact lv, fun q v e => ?_⟩
  by_cases g : q = k
  · subst g
    have ql := (List.getElem?_eq_some_iff.mp e).1
    rw [List.length_set] at ql
    rw [List.getElem?_set_self ql] at e
    obtain rfl := Option.some.inj e
    exact ⟨p, fr_updT hy dz, r⟩
  · rw [List.getElem?_set_ne (Ne.symm g)] at e
    obtain ⟨w1, h1, h2⟩ := hv q v e
    exact ⟨w1, fr_updT hy h1, i q w1 (by rw [← lv]; exact (List.getElem?_eq_some_iff.mp e).1) g h2⟩
def spWgts (K : PySem.W.Frag) (C : Addr) : Sp := fun vs H Q _ => ∃ (x : Addr) (t : Tb) (m n row : Nat), vs = [.ref x, .int (row : Nat), .int (n : Nat)] ∧ TbAt C H x t ∧ Shp m n t ∧ (t.bs ++ t.fs).Perm (List.range (m + n)) ∧ row ≤ m ∧ 0 < t.D ∧ t.D.natAbs < 2 ^ 1000 ∧ ∀ H' y, Same H H' → FrsAt K H' y m (fun i p => WgtOf n t row (n + i) p) → Q (.ref y) H'
abbrev NWg : List Str := ["table", "row", "many", "weights", "number", "entry", "_"]
section
variable {P : Program} {w : World} {K : PySem.W.Frag} {mg : Str → Option Value} {base : Heap} {C : Addr}
theorem scWg : FnScope ["table", "row", "many", "weights", "number", "entry", "_"] ["table", "row", "many"] (defScope sWeightsIn) := ⟨rfl, rfl, rfl, by decide +kernel, rfl, by decide +kernel, by decide +kernel⟩
theorem ok_weights {f fF zA oA : Addr} {fd fdF : FuncData} (F : FnT K "weights_in" sWeightsIn f fd) (T : TabK K C) (mzip : mg "zip" = none) (mrng : mg "range" = none) (mlen : mg "len" = none) (gZ : mg "ZERO" = some (.ref zA)) (hZ : ∀ H : Hp, SqT K H zA [.int 0, .int 1])
    (gO : mg "ONE" = some (.ref oA)) (hO : ∀ H : Hp, SqT K H oA [.int 1, .int 1])
    (gF : mg "fraction" = some (.ref fF)) (GF : FnOk P w K mg base CX0 1 fF fdF ["top", "bottom"] (spFraction K)) (kF : PySem.W.keepIn K (.ref fF) = true) (bF : Binds K fdF ["top", "bottom"] []) :
    FnOk P w K mg base CX0 2 f fd ["table", "row", "many"] (spWgts K C) := by
  refine F.ok scWg (fun vs H Q E h => ?_) (fun cdv A outer s H vs Q E hr h => ?_)
  · obtain ⟨x, t, m, n, row, rfl, _⟩ := h
    rfl
  · obtain ⟨x, t, m, n, row, rfl, ht, hs, hpm, hrow0, hD, hDs, q⟩ := h
    have nd := scWg.nd
    have hr1 : Room 1 _ := hr.mono (by decide)
    refine ⟨_, PSs.nox (pss_cons (ps_cut (ps_setLc (i := 3) (own := [("_", 6)]) (g := gName 6) (tt := tYes) rfl nd rfl rfl (sw_true rfl rfl rfl (by decide +kernel)) (pi_range1 rfl mrng (pa_cons (pe_op op_add (pe_callB call_len (by rfl) mlen boot_len (pa_cons (pe_fld (pv 0) rfl) pa_nil)) (pe_callB call_len (by rfl) mlen boot_len (pa_cons (pe_fld (pv 0) rfl) pa_nil))) pa_nil))
        (blkOk_by (own := [("_", 6)]) (N := NWg) (sc := defScope sWeightsIn) (by decide +kernel)) (fun _ _ _ _ _ => pg_name (i := 6) nd rfl (Or.inl rfl)) (fun _ _ _ _ _ => pts_nil)
        (fun _ _ _ _ _ => pe_glob (v := .ref zA) rfl gZ rfl)))
      (pss_cons (ps_cut (ps_for PassesOwn.never rfl (RZ.pi_zipA (by rfl) mzip (pa_cons (pe_fld (pv 0) rfl) (pa_cons (pe_ix (ixLt K) (pe_fld (pv 0) rfl) (pv 1) (fun _ _ => rfl)) pa_nil))) (pgTt K rfl (pgs_cons (pg_name (i := 4) nd rfl (.inl rfl)) (pgs_cons (pg_name (i := 5) nd rfl (.inl rfl)) pgs_nil)))
        (pss_one (ps_asg (pe_call GF hr1 rfl gF kF bF .nil pass0 (pa_cons (pv 5) (pa_cons (pe_fld (pv 0) rfl) pa_nil))) (pg_sub (pv 3) (pv 4) set_list)))))
      (pss_cons (ps_cut (ps_if (pt_cmpR op_lt (pv 1) (pe_callB call_len (by rfl) mlen boot_len (pa_cons (pe_fld (pv 0) rfl) pa_nil)) (nomark _)) (pss_one (ps_asg (pe_glob (v := .ref oA) rfl gO rfl) (pg_sub (pv 3) (pe_ix (ixLt K) (pe_fld (pv 0) rfl) (pv 1) (fun _ _ => rfl)) set_list))) pss_nil))
      (pss_one (ps_ret (pe_slice sl_list (pv 3) (po_some (pv 2)) po_none)))))), ?_⟩
    obtain ⟨dx, L, b, f', hx, ⟨ps, hL, hpl, hrow⟩, hb, hf⟩ := id ht
    have bl := hs.bl
    have fl := hs.fl
    have rl := hs.rl
    have m100 := hs.ms
    have n100 := hs.ns
    have below : ∀ q' ∈ t.bs ++ t.fs, q' < m + n := fun q' h => List.mem_range.mp (hpm.mem_iff.mp h)
    have nodup : (t.bs ++ t.fs).Nodup := hpm.nodup_iff.mpr List.nodup_range
    refine ⟨fun σ' H' => ∃ y, σ' = [some (.ref x), some (.int (row : Nat)), some (.int (n : Nat)), some (.ref y), none, none, none] ∧ Same H H' ∧ H y = none ∧ FrsAt K H' y (m + n) (fun q p => WgtF t row 0 q p), ?_, ?_⟩
    · refine ⟨_, rfl, x, C, dx, _, .ref b, rfl, hx, T.cl, T.n3, rfl, _, t.bs.length, rfl, .inl ⟨_, hb.sq, by unfold natL; rw [List.length_map, List.length_map]⟩, _, rfl, x, C, dx, _, .ref f', rfl, hx, T.cl, T.n4, rfl, _, t.fs.length, rfl, .inl ⟨_, hf.sq, by unfold natL; rw [List.length_map, List.length_map]⟩, _, _, rfl, rfl, ?_⟩
      refine ⟨((t.bs.length + t.fs.length : Nat) : Int), rfl, by omega, by omega, fun D hD' => ?_⟩
      refine lc_it (walk_range (lo := 0) (n := t.bs.length + t.fs.length)) (fun k H' => Same H H' ∧ H' D = some (.lst (List.replicate k (V.ref zA)))) ⟨Same.new hD', upd_same⟩ (fun _ _ _ _ => trivial) ?_ ?_
      · rintro k z _ H5 hk ⟨s5, bD⟩ ⟨rfl, hz⟩
        refine ⟨rfl, rdYes ?_⟩
        refine ⟨_, bD, ?_, fun u o g => ?_, ?_⟩
        · rw [List.length_replicate]
          exact Nat.lt_of_lt_of_le (show k < 201 by have : k < t.bs.length + t.fs.length := hk; omega) (by decide)
        · rw [upd_ne (ne_of_none g hD')]
          exact s5 _ _ g
        · rw [upd_same, List.replicate_succ']
      · rintro H5 ⟨s5, bD⟩
        refine ⟨D, rfl, s5, hD', _, bD, by rw [List.length_replicate]; omega, fun q' v hv => ⟨(0, 1), ?_, .inr ⟨fun l hl => absurd hl (Nat.not_lt_zero _), rfl⟩⟩⟩
        have := List.eq_of_mem_replicate (List.mem_of_getElem? hv)
        rw [this]
        exact .tup (hZ _) (.cons (.int _) (.cons (.int _) .nil))
    rintro _ H1 ⟨y, rfl, s1, hy, am⟩
    obtain ⟨r, hr1, hr2, hr3⟩ := row_at_T hs (i := row) (by omega)
    obtain ⟨p, hp⟩ : ∃ p, ps[row]? = some p := ⟨_, List.getElem?_eq_getElem (by omega)⟩
    have ip := hrow row p r hp hr1
    refine ⟨fun σ' H' => ∃ o4 o5, σ' = [some (.ref x), some (.int (row : Nat)), some (.int (n : Nat)), some (.ref y), o4, o5, none] ∧ Same H H' ∧ FrsAt K H' y (m + n) (fun q p => WgtF t row n q p), ?_, ?_⟩
    · refine ⟨_, rfl, x, C, dx, _, .ref f', rfl, s1 _ _ hx, T.cl, T.n4, rfl, _, rfl, x, C, dx, _, .ref L, rfl, s1 _ _ hx, T.cl, T.n1, rfl, _, rfl, L, _, _, .ref p, rfl, rfl, SqL.of (s1 _ _ hL), atI_nat (by rw [List.getElem?_map, hp]; rfl), f', p, _, _, rfl, .inl ⟨(hf.same s1).sq, (ip.same s1).sq, ?_⟩⟩
      refine for_it (walk_zip (K := K) (a := f') (b := p) (xs := (natL t.fs).map V.int) (ys := r.map V.int) (n := n) (by unfold natL; rw [List.length_map, List.length_map, List.length_map]; omega)) (fun i σ' H' => ∃ o4 o5, σ' = [some (.ref x), some (.int (row : Nat)), some (.int (n : Nat)), some (.ref y), o4, o5, none] ∧ Same H H' ∧ FrsAt K H' y (m + n) (fun q p => WgtF t row i q p)) ⟨_, _, rfl, s1, am⟩ (fun i σ' H' hi p' => by
        obtain ⟨_, _, _, s', _⟩ := p'
        exact ⟨(hf.same s').sq, (ip.same s').sq⟩) ?_ (fun σ' H' p' => p')
      rintro i z _ H4 H5 hi ⟨o4, o5, rfl, s5, vs, bD, lv, hv⟩ ⟨T1, x1, y1, rfl, hT, rfl, hx2, hyy⟩
      have s6 := Same.new (o := .tup [x1, y1]) hT
      have s56 := s5.trans s6
      obtain ⟨k, hk, rfl⟩ := nat_back hx2
      obtain ⟨e, he, rfl⟩ := IntsAt.back hyy
      have hin : i < n := hi
      have ee : e = tT t row i := by
        rw [← hr3 i]
        have := getD_at (xs := r) (i := i) (by omega)
        rw [he] at this
        exact Option.some.inj this
      subst ee
      have kmn := below k (List.mem_append_right _ (List.mem_of_getElem? hk))
      refine ⟨T1, _, rfl, SqT.of upd_same, rfl, _, _, rfl, _, _, rfl, rfl, ?_⟩
      refine ⟨_, rfl, _, rfl, x, C, dx, _, .int t.D, rfl, s56 _ _ hx, T.cl, T.n2, rfl, tT t row i, t.D, rfl, hD, Nat.lt_trans hDs (Nat.pow_lt_pow_right (by decide) (by decide)), fun H7 z p1 q1 s7 dz rd => ?_⟩
      have bD7 := s7 _ _ (s6 _ _ bD)
      refine ⟨_, rfl, _, rfl, y, vs, _, k, rfl, rfl, bD7, ixNt (by omega), ?_⟩
      refine ⟨_, _, rfl, fun u o g => ?_, FrsAt.set (R := fun q p => WgtF t row i q p) (p := (p1, q1)) bD7 (fun q' v e => ?_) lv dz (.inl ⟨i, Nat.lt_succ_self _, hk, rd⟩) fun q' p' _ ne h => ?_⟩
      · rw [upd_ne (ne_of_none g hy)]
        exact s7 _ _ (s56 _ _ g)
      · obtain ⟨g, h1, h2⟩ := hv q' v e
        exact ⟨g, (h1.same s6).same s7, h2⟩
      · rcases h with ⟨l, h1, h2, h3⟩ | ⟨h1, h2⟩
        · exact .inl ⟨l, by omega, h2, h3⟩
        · refine .inr ⟨fun l hl => ?_, h2⟩
          by_cases g : l = i
          · rw [g, hk]
            exact fun z => ne (Option.some.inj z).symm
          · exact h1 l (by omega)
    rintro _ H2 ⟨o4, o5, rfl, s2, am2⟩
    refine ⟨fun σ' H' => σ' = [some (.ref x), some (.int (row : Nat)), some (.int (n : Nat)), some (.ref y), o4, o5, none] ∧ Same H H' ∧ FrsAt K H' y (m + n) (fun q p => WgtOf n t row q p), ?_, ?_⟩
    · refine ⟨_, rfl, _, rfl, x, C, dx, _, .ref b, rfl, s2 _ _ hx, T.cl, T.n3, rfl, _, t.bs.length, rfl, .inl ⟨_, (hb.same s2).sq, by unfold natL; rw [List.length_map, List.length_map]⟩, _, _, rfl, rfl, _, rfl, ?_⟩
      refine ite2 (fun c => ?_) (fun c => ?_)
      · have rm : row < t.bs.length := Int.ofNat_lt.mp (of_decide_eq_true c)
        obtain ⟨k, hk⟩ : ∃ k, t.bs[row]? = some k := ⟨_, List.getElem?_eq_getElem rm⟩
        have kmn := below k (List.mem_append_left _ (List.mem_of_getElem? hk))
        obtain ⟨vs, bD, lv, hv⟩ := am2
        refine ⟨_, rfl, _, rfl, x, C, dx, _, .ref b, rfl, s2 _ _ hx, T.cl, T.n3, rfl, _, rfl, b, _, _, .int (k : Nat), rfl, rfl, (hb.same s2).sq, atI_nat (IntsAt.get (by unfold natL; rw [List.getElem?_map, hk]; rfl)), y, vs, _, k, rfl, rfl, bD, ixNt (by omega), rfl, fun u o g => ?_, FrsAt.set (p := (1, 1)) bD hv lv (.tup (hO _) (.cons (.int _) (.cons (.int _) .nil))) (.inl ⟨hk, rfl⟩) fun q' p' _ ne h => .inr ⟨fun z => ne ?_, h⟩⟩
        · rw [upd_ne (ne_of_none g hy)]
          exact s2 _ _ g
        · rw [hk] at z
          exact (Option.some.inj z).symm
      · have rm : ¬ row < t.bs.length := fun z => c (decide_eq_true (Int.ofNat_lt.mpr z))
        exact ⟨rfl, s2, am2.imp fun q' p' _ h => .inr ⟨(by rw [List.getElem?_eq_none (by omega)]; exact (fun z => nomatch z)), h⟩⟩
    rintro _ H3 ⟨rfl, s3, vs, bD, lv, hv⟩
    refine ⟨_, rfl, _, rfl, _, rfl, rd_noT ?_⟩
    refine ⟨y, vs, rfl, SqL.of bD, fun y2 h2 => ?_⟩
    rw [cut_dropT _ _ (by omega)]
    have s4 := Same.new (o := .lst (vs.drop n)) h2
    refine q _ y2 (s3.trans s4) ⟨vs.drop n, upd_same, by rw [List.length_drop]; omega, fun i v e => ?_⟩
    rw [List.getElem?_drop] at e
    obtain ⟨g, h1, h2⟩ := hv (n + i) v e
    exact ⟨g, h1.same s4, h2⟩
end
end Ca
set_option Elab.async false
set_option linter.all false
set_option maxRecDepth 100000
set_option maxHeartbeats 8000000
namespace Ca
open PySem L2
/-! ### limits and costs as a program -/
def limA (ls : List (List Int × Int)) (i j : Nat) : Int := (ls.getD i ([], 0)).1.getD j 0
def limB (ls : List (List Int × Int)) (i : Nat) : Int := (ls.getD i ([], 0)).2
def cosC (cs : List Int) (j : Nat) : Int := cs.getD j 0
abbrev VOf (ls : List (List Int × Int)) (cs : List Int) : Nat → Det.Col := Det.colV ls.length cs.length (limA ls) (limB ls) (cosC cs)
abbrev S0Of (ls : List (List Int × Int)) (cs : List Int) : Det.Sta := Det.S0 ls.length cs.length (limA ls) (limB ls) (cosC cs)
section
variable {ls : List (List Int × Int)} {cs : List Int}
theorem shp0 (hn : ∀ l ∈ ls, l.1.length = cs.length) (m100 : ls.length ≤ 100) (n100 : cs.length ≤ 100) : Shp ls.length cs.length (firstTb ls cs) := by
  refine ⟨?_, fun r hr => ?_, ?_, ?_, m100, n100⟩
  · show (ls.map _ ++ [cs ++ [0]]).length = _
    rw [List.length_append, List.length_map]
    rfl
  · replace hr : r ∈ ls.map (fun l : List Int × Int => l.1 ++ [l.2]) ++ [cs ++ [0]] := hr
    rcases List.mem_append.mp hr with h | h
    · obtain ⟨l, hl, rfl⟩ := List.mem_map.mp h
      rw [List.length_append, hn l hl]
      rfl
    · rw [List.mem_singleton.mp h, List.length_append]
      rfl
  · show ((List.range ls.length).map _).length = _
    rw [List.length_map, List.length_range]
  · show (List.range cs.length).length = _
    rw [List.length_range]
theorem rep0 (hn : ∀ l ∈ ls, l.1.length = cs.length) : Rep ls.length cs.length (firstTb ls cs) (S0Of ls cs) := by
  refine ⟨rfl, rfl, rfl, fun k l hk hl => ?_⟩
  show ((ls.map (fun l : List Int × Int => l.1 ++ [l.2]) ++ [cs ++ [0]]).getD k []).getD l 0 = Det.T0 ls.length cs.length (limA ls) (limB ls) (cosC cs) k l
  unfold Det.T0
  have last : ∀ (r : List Int) (z : Int), r.length = cs.length → (r ++ [z]).getD l 0 = if l < cs.length then r.getD l 0 else z := fun r z hr => by
    rw [List.getD_eq_getElem?_getD]
    by_cases g : l < cs.length
    · rw [if_pos g, List.getElem?_append_left (by omega), List.getD_eq_getElem?_getD]
    · rw [if_neg g, List.getElem?_append_right (by omega), show l - r.length = 0 by omega]
      rfl
  by_cases g : k < ls.length
  · have e : (ls.map (fun l : List Int × Int => l.1 ++ [l.2]) ++ [cs ++ [0]]).getD k [] = ls[k].1 ++ [ls[k].2] := by
      rw [List.getD_eq_getElem?_getD, List.getElem?_append_left (by rw [List.length_map]; exact g), List.getElem?_map, List.getElem?_eq_getElem g]
      rfl
    rw [if_pos g, e, last _ _ (hn _ (List.getElem_mem g))]
    unfold limA limB
    rw [List.getD_eq_getElem?_getD (l := ls), List.getElem?_eq_getElem g]
    rfl
  · have e : (ls.map (fun l : List Int × Int => l.1 ++ [l.2]) ++ [cs ++ [0]]).getD k [] = cs ++ [0] := by
      rw [List.getD_eq_getElem?_getD, List.getElem?_append_right (by rw [List.length_map]; omega), List.length_map, show k - ls.length = 0 by omega]
      rfl
    rw [if_neg g, e, last _ _ rfl]
    rfl
theorem ok0Of : Det.Ok (VOf ls cs) ls.length cs.length (S0Of ls cs) := Det.ok0
end
end Ca
set_option Elab.async false
set_option linter.all false
set_option maxRecDepth 100000
set_option maxHeartbeats 8000000
namespace Ca
open PySem L2
/-! ### the least costs of amounts -/
def zerosOf (cs : List Int) : List Int := List.replicate cs.length 0
/-- a state of these limits, for these costs or for none -/
def StOf (ls : List (List Int × Int)) (cs : List Int) (t : Tb) : Prop := ∃ S, Rep ls.length cs.length t S ∧ Det.Ok (VOf ls cs) ls.length cs.length S ∧ ∃ τ, Det.Reach (VOf ls cs) ls.length cs.length (S0Of ls cs) τ S
def Told (K : PySem.W.Frag) (H : Hp) (ls : List (List Int × Int)) (cs : List Int) (a w : V) : Prop :=
  (∃ (y : Addr) (t : Tb) (i : Nat), a = .non ∧ w = .ref y ∧ Shp ls.length cs.length t ∧ (StOf ls cs t ∨ StOf ls (zerosOf cs) t) ∧ i < ls.length ∧ tT t i cs.length < 0 ∧ (∀ j, j < cs.length → 0 ≤ tT t i j) ∧ FrsAt K H y ls.length (fun k p => WgtOf cs.length t i (cs.length + k) p) ∧ FirstR ls.length cs.length t i) ∨
  (∃ (y y2 : Addr) (t : Tb), a = .ref y ∧ w = .ref y2 ∧ Shp ls.length cs.length t ∧ StOf ls cs t ∧ (∀ q, ¬ WrongT ls.length cs.length t q) ∧ AmtsAt K H y cs.length t ls.length ∧ FrsAt K H y2 ls.length fun k p => WgtOf cs.length t ls.length (cs.length + k) p) ∨
  (∃ (y : Addr) (t t' : Tb) (j : Nat), a = .ref y ∧ w = .non ∧ Shp ls.length cs.length t ∧ StOf ls (zerosOf cs) t ∧ (∀ q, ¬ WrongT ls.length cs.length t q) ∧ AmtsAt K H y cs.length t ls.length ∧ Shp ls.length cs.length t' ∧ StOf ls cs t' ∧ j < cs.length ∧ tT t' ls.length j < 0 ∧ ∀ i, i < ls.length → tT t' i j ≤ 0)
def spCheap (K : PySem.W.Frag) (d : Nat) : Sp := fun vs H Q _ => ∃ (a c : Addr) (ls : List (List Int × Int)) (cs : List Int), vs = [.ref a, .ref c] ∧ LimsAt K H a ls ∧ IntsAt H c cs ∧ (∀ l ∈ ls, l.1.length = cs.length) ∧ ls.length ≤ 100 ∧ cs.length ≤ 100 ∧
  Low ls.length cs.length (VOf ls cs) ∧ Low ls.length cs.length (VOf ls (zerosOf cs)) ∧ d ≠ 0 ∧ (d = 1 → cs = zerosOf cs) ∧ ∀ H' y a' w', Same H H' → SqT K H' y [a', w'] → Told K H' ls cs a' w' → Q (.ref y) H'
abbrev NCh : List Str := ["limits", "costs", "many", "table", "row", "column", "amounts", "weights"]
theorem zeros_len (cs : List Int) : (zerosOf cs).length = cs.length := List.length_replicate ..
theorem zeros_idem (cs : List Int) : zerosOf (zerosOf cs) = zerosOf cs := by
  unfold zerosOf
  rw [List.length_replicate]
theorem zeros_cos (cs : List Int) : cosC (zerosOf cs) = fun _ => 0 := by
  funext j
  unfold cosC zerosOf
  rw [List.getD_eq_getElem?_getD, List.getElem?_replicate]
  split <;> rfl
/-- no column is stuck where costs are 0 -/
theorem zero_free {ls : List (List Int × Int)} {cs : List Int} {t : Tb} (h : StOf ls (zerosOf cs) t) {j : Nat} (hj : j < (zerosOf cs).length) : tT t ls.length j = 0 := by
  obtain ⟨S, rp, ok, _⟩ := h
  rw [rp.T _ _ (Nat.le_refl _) (Nat.le_of_lt hj)]
  have ok' : Det.Ok (Det.colV ls.length (zerosOf cs).length (limA ls) (limB ls) fun _ => 0) ls.length (zerosOf cs).length S := by
    rw [← zeros_cos cs]
    exact ok
  exact ok'.free j hj
section
variable {P : Program} {w : World} {K : PySem.W.Frag} {mg : Str → Option Value} {base : Heap} {C : Addr}
theorem scCh : FnScope NCh ["limits", "costs"] (defScope sCheapestAmounts) := ⟨rfl, rfl, rfl, by decide +kernel, rfl, by decide +kernel, by decide +kernel⟩
theorem ok_cheap {f fS fT fA fW : Addr} {fd fdS fdT fdA fdW : FuncData} (F : FnT K "cheapest_amounts" sCheapestAmounts f fd) (mlen : mg "len" = none)
    (gC : mg "cheapest_amounts" = some (.ref f)) (bC : Binds K fd ["limits", "costs"] [])
    (gS : mg "settled" = some (.ref fS)) (GS : FnOk P w K mg base CX0 4 fS fdS ["table"] (spSettled K C)) (kS : PySem.W.keepIn K (.ref fS) = true) (bS : Binds K fdS ["table"] [])
    (gT : mg "first_table" = some (.ref fT)) (GT : FnOk P w K mg base CX0 3 fT fdT ["limits", "costs"] (spFirstT K C)) (kT : PySem.W.keepIn K (.ref fT) = true) (bT : Binds K fdT ["limits", "costs"] [])
    (gA : mg "amounts_in" = some (.ref fA)) (GA : FnOk P w K mg base CX0 2 fA fdA ["table", "many"] (spAmts K C)) (kA : PySem.W.keepIn K (.ref fA) = true) (bA : Binds K fdA ["table", "many"] [])
    (gW : mg "weights_in" = some (.ref fW)) (GW : FnOk P w K mg base CX0 2 fW fdW ["table", "row", "many"] (spWgts K C)) (kW : PySem.W.keepIn K (.ref fW) = true) (bW : Binds K fdW ["table", "row", "many"] []) :
    ∀ d : Nat, FnOk P w K mg base CX0 (d + 4) f fd ["limits", "costs"] (spCheap K d) := by
  intro d
  induction d with
  | zero =>
    refine F.ok scCh (fun vs H Q E h => ?_) (fun cdv A outer s H vs Q E hr h => ?_)
    · obtain ⟨a, c, ls, cs, rfl, _⟩ := h
      rfl
    · obtain ⟨a, c, ls, cs, _, _, _, _, _, _, _, _, h0, _⟩ := h
      exact absurd rfl h0
  | succ d GC =>
    have kC := F.kp
    refine F.ok scCh (fun vs H Q E h => ?_) (fun cdv A outer s H vs Q E hr h => ?_)
    · obtain ⟨a, c, ls, cs, rfl, _⟩ := h
      rfl
    · obtain ⟨a, c, ls, cs, rfl, hl, hc, hn, m100, n100, low, low0, _, hz, q⟩ := h
      have nd := scCh.nd
      have hr4 : Room 4 _ := hr.mono (by omega)
      have hr3 : Room 3 _ := hr.mono (by omega)
      have hr2 : Room 2 _ := hr.mono (by omega)
      refine ⟨_, PSs.nox (pss_cons (ps_cut (ps_set (i := 2) nd rfl (.inl rfl) (pe_callB call_len (by rfl) mlen boot_len (pa_cons (pv 1) pa_nil))))
        (pss_cons (ps_cut (ps_asg (pe_call GS hr4 rfl gS kS bS .nil pass0 (pa_cons (pe_call GT hr3 rfl gT kT bT .nil pass0 (pa_cons (pv 0) (pa_cons (pv 1) pa_nil))) pa_nil)) (pgTt K rfl (pgs_cons (pg_name (i := 3) nd rfl (.inl rfl)) (pgs_cons (pg_name (i := 4) nd rfl (.inl rfl)) (pgs_cons (pg_name (i := 5) nd rfl (.inl rfl)) pgs_nil))))))
        (pss_cons (ps_cut (ps_if (pt_cmpR op_notN (pv 4) pe_non (nomark _)) (pss_one (ps_ret (pe_tup (pa_cons pe_non (pa_cons (pe_call GW hr2 rfl gW kW bW .nil pass0 (pa_cons (pv 3) (pa_cons (pv 4) (pa_cons (pv 2) pa_nil)))) pa_nil))))) pss_nil))
        (pss_cons (ps_cut (ps_if (pt_cmpR op_isN (pv 5) pe_non (nomark _)) (pss_one (ps_ret (pe_tup (pa_cons (pe_call GA hr2 rfl gA kA bA .nil pass0 (pa_cons (pv 3) (pa_cons (pv 2) pa_nil))) (pa_cons (pe_call GW hr2 rfl gW kW bW .nil pass0 (pa_cons (pv 3) (pa_cons (pe_callB call_len (by rfl) mlen boot_len (pa_cons (pv 0) pa_nil)) (pa_cons (pv 2) pa_nil)))) pa_nil))))) pss_nil))
        (pss_cons (ps_cut (ps_asg (pe_call GC hr rfl gC kC bC .nil pass0 (pa_cons (pv 0) (pa_cons (pe_op op_rep (pe_lst (pa_cons pe_int pa_nil)) (pv 2)) pa_nil))) (pgTt K rfl (pgs_cons (pg_name (i := 6) nd rfl (.inl rfl)) (pgs_cons (pg_name (i := 7) nd rfl (.inl rfl)) pgs_nil)))))
        (pss_one (ps_ret (pe_tup (pa_cons (pv 6) (pa_cons (pe_ifExp (pt_cmpR op_isN (pv 6) pe_non (nomark _)) (pv 7) pe_non) pa_nil)))))))))), ?_⟩
      have two : 2 ≤ sizeLine := by decide
      have sh0 := shp0 hn m100 n100
      have rp0 := rep0 (cs := cs) hn
      refine ⟨fun σ' H' => σ' = [some (.ref a), some (.ref c), some (.int (cs.length : Nat)), none, none, none, none, none] ∧ H' = H, ?_, ?_⟩
      · exact ⟨_, rfl, _, cs.length, rfl, hc.len, rfl, rfl⟩
      rintro _ H1 ⟨rfl, rfl⟩
      refine ⟨fun σ' H' => ∃ x t S r k, σ' = [some (.ref a), some (.ref c), some (.int (cs.length : Nat)), some (.ref x), some r, some k, none, none] ∧ Same H1 H' ∧ TbAt C H' x t ∧ Shp ls.length cs.length t ∧ Rep ls.length cs.length t S ∧ Det.Ok (VOf ls cs) ls.length cs.length S ∧ NextT ls.length cs.length t r k ∧ (r = .non ∨ k = .non) ∧ ∃ τ, Det.Reach (VOf ls cs) ls.length cs.length (S0Of ls cs) τ S, ?_, ?_⟩
      · exact ⟨_, rfl, _, rfl, a, c, ls, cs, rfl, hl, hc, hn, m100, n100, fun H2 y s2 e2 => ⟨y, _, _, _, _, _, rfl, e2, sh0, rp0, ok0Of, low, fun H3 y3 x t S r k s3 e3 tb sh rp ok nx st re => ⟨y3, _, rfl, e3, rfl, _, _, rfl, _, _, rfl, _, _, rfl, rfl, ⟨x, t, S, r, k, rfl, s2.trans s3, tb, sh, rp, ok, nx, st, re⟩⟩⟩⟩
      rintro _ H2 ⟨x, t, S, r, k, rfl, s2, tb, sh, rp, ok, nx, st, re⟩
      have hD : 0 < t.D := by rw [rp.D]; exact ok.dic.pos
      have hDs : t.D.natAbs < 2 ^ 1000 := by rw [rp.D]; exact (low S ok).1
      have hpm : (t.bs ++ t.fs).Perm (List.range (ls.length + cs.length)) := by rw [rp.bs, rp.fs]; exact ok.pm
      have hnb : t.bs.Nodup := by rw [rp.bs]; exact ok.bsnd
      have so : StOf ls cs t := ⟨S, rp, ok, re⟩
      -- a row that is stuck
      refine ⟨fun σ' H' => σ' = [some (.ref a), some (.ref c), some (.int (cs.length : Nat)), some (.ref x), some r, some k, none, none] ∧ H' = H2 ∧ r = .non, ?_, ?_⟩
      · refine ⟨_, rfl, rfl, _, rfl, ?_⟩
        rcases id nx with ⟨rfl, rfl, _⟩ | ⟨i, rfl, rfl, g1, g2, g3⟩ | ⟨j, rfl, rfl, _⟩ | ⟨i, j, b, f, rfl, rfl, _⟩
        · rw [decide_eq_true rfl]
          exact iteF ⟨rfl, rfl, rfl⟩
        · rw [decide_eq_false (fun z => nomatch z)]
          refine iteT ⟨_, rfl, _, rfl, _, rfl, x, t, ls.length, cs.length, i, rfl, tb, sh, hpm, by omega, hD, hDs, fun H3 y s3 fr => ⟨two, fun y2 h2 => ?_⟩⟩
          have s4 := Same.new (o := .tup [.non, .ref y]) h2
          exact q _ y2 .non (.ref y) (s2.trans (s3.trans s4)) (SqT.of upd_same) (.inl ⟨y, t, i, rfl, rfl, sh, .inl so, g1, g2, g3.1, fr.same s4, g3.2⟩)
        · rw [decide_eq_true rfl]
          exact iteF ⟨rfl, rfl, rfl⟩
        · rcases st with z | z <;> cases z
      rintro _ H3 ⟨rfl, rfl, rfl⟩
      -- nothing is wrong
      refine ⟨fun σ' H' => ∃ j : Nat, σ' = [some (.ref a), some (.ref c), some (.int (cs.length : Nat)), some (.ref x), some .non, some (.int (j : Nat)), none, none] ∧ H' = H3 ∧ j < cs.length ∧ tT t ls.length j < 0 ∧ ∀ i, i < ls.length → tT t i j ≤ 0, ?_, ?_⟩
      · refine ⟨_, rfl, rfl, _, rfl, ?_⟩
        rcases id nx with ⟨_, rfl, no⟩ | ⟨i, z, _⟩ | ⟨j, _, rfl, g1, g2, g3⟩ | ⟨i, j, b, f, z, _⟩
        · rw [decide_eq_true rfl]
          refine iteT ⟨_, rfl, _, rfl, x, t, ls.length, cs.length, rfl, tb, sh, hnb, hD, hDs, fun H4 y s4 am => ?_⟩
          refine ⟨_, rfl, _, rfl, _, ls.length, rfl, ?_, _, rfl, x, t, ls.length, cs.length, ls.length, rfl, tb.same s4, sh, hpm, Nat.le_refl _, hD, hDs, fun H5 y5 s5 fr => ⟨two, fun y2 h2 => ?_⟩⟩
          · obtain ⟨ps, h1, h2, _⟩ := hl.same (s2.trans s4)
            exact .inl ⟨_, SqL.of h1, by rw [List.length_map]; exact h2.symm⟩
          have s6 := Same.new (o := .tup [.ref y, .ref y5]) h2
          obtain ⟨vs, v1, v2, v3⟩ := am
          have am' : AmtsAt K (upd H5 y2 (.tup [.ref y, .ref y5])) y cs.length t ls.length := ⟨vs, s6 _ _ (s5 _ _ v1), v2, fun q' v e => by
            obtain ⟨g, h1, h2⟩ := v3 q' v e
            exact ⟨g, (h1.same s5).same s6, h2⟩⟩
          exact q _ y2 (.ref y) (.ref y5) (s2.trans (s4.trans (s5.trans s6))) (SqT.of upd_same) (.inr (.inl ⟨y, y5, t, rfl, rfl, sh, so, no, am', fr.same s6⟩))
        · cases z
        · rw [decide_eq_false (fun z => nomatch z)]
          exact iteF ⟨j, rfl, rfl, g1, g2, g3⟩
        · cases z
      rintro _ H4 ⟨j, rfl, rfl, j1, j2, j3⟩
      -- costs of 0
      have hzl := zeros_len cs
      have d1 : d ≠ 0 := fun z => by
        have e := hz (by omega)
        have so' : StOf ls (zerosOf cs) t := by rw [← e]; exact so
        have := zero_free so' (j := j) (by rw [hzl]; exact j1)
        omega
      refine ⟨fun σ' H' => ∃ v u, σ' = [some (.ref a), some (.ref c), some (.int (cs.length : Nat)), some (.ref x), some .non, some (.int (j : Nat)), some v, some u] ∧ Same H1 H' ∧ Told K H' ls (zerosOf cs) v u, ?_, ?_⟩
      · refine ⟨_, rfl, (show 1 ≤ sizeLine by decide), fun p1 h1 => ⟨_, rfl, p1, (cs.length : Nat), _, rfl, rfl, upd_same, by omega, by omega, ?_, fun p2 h2 => ?_⟩⟩
        · show 1 * ((cs.length : Nat) : Int).toNat ≤ sizeLine
          rw [Int.toNat_natCast]
          exact Nat.le_trans (show 1 * cs.length ≤ 100 by omega) (by decide)
        have s5 := Same.new (o := .lst [.int 0]) h1
        have s6 := Same.new (o := .lst (List.replicate ((cs.length : Nat) : Int).toNat [V.int 0]).flatten) h2
        have s56 := s2.trans (s5.trans s6)
        have ez : IntsAt (upd (upd H4 p1 (.lst [.int 0])) p2 (.lst (List.replicate ((cs.length : Nat) : Int).toNat [V.int 0]).flatten)) p2 (zerosOf cs) := by
          show upd _ _ _ _ = _
          rw [upd_same, Int.toNat_natCast]
          unfold zerosOf
          rw [List.map_replicate, List.flatten_replicate_singleton]
        refine ⟨a, p2, ls, zerosOf cs, rfl, hl.same s56, ez, fun l h => by rw [hzl]; exact hn l h, m100, by rw [hzl]; exact n100, by rw [hzl]; exact low0, by rw [hzl, zeros_idem]; exact low0, d1, fun _ => (zeros_idem cs).symm, fun H7 y v u s7 e7 td => ⟨y, _, rfl, e7, rfl, _, _, rfl, _, _, rfl, rfl, ⟨v, u, rfl, s56.trans s7, td⟩⟩⟩
      rintro _ H7 ⟨v, u, rfl, s7, td⟩
      rcases td with ⟨y, t2, i, rfl, rfl, sh2, st2, i1, i2, i3, fr⟩ | ⟨y, y2, t2, rfl, rfl, sh2, st2, no, am, fr⟩ | ⟨y, t2, t3, j', rfl, rfl, sh2, st2, no, am, sh3, st3, k1, k2, k3⟩
      · rw [hzl] at sh2 i2 i3 fr
        refine ⟨_, rfl, _, rfl, rfl, _, rfl, ?_⟩
        rw [decide_eq_true rfl]
        refine iteT ⟨_, rfl, two, fun z hz' => ?_⟩
        have s8 := Same.new (o := .tup [.non, .ref y]) hz'
        have st2' : StOf ls cs t2 ∨ StOf ls (zerosOf cs) t2 := by
          rcases st2 with g | g
          · exact .inr g
          · rw [zeros_idem] at g
            exact .inr g
        exact q _ z .non (.ref y) (s7.trans s8) (SqT.of upd_same) (.inl ⟨y, t2, i, rfl, rfl, sh2, st2', i1, i2, i3, fr.1.same s8, fr.2⟩)
      · rw [hzl] at sh2 no am
        refine ⟨_, rfl, _, rfl, rfl, _, rfl, ?_⟩
        rw [decide_eq_false (fun z => nomatch z)]
        refine iteF ⟨two, fun z hz' => ?_⟩
        have s8 := Same.new (o := .tup [.ref y, .non]) hz'
        obtain ⟨vs, v1, v2, v3⟩ := am
        have am' : AmtsAt K (upd H7 z (.tup [.ref y, .non])) y cs.length t2 ls.length := ⟨vs, s8 _ _ v1, v2, fun q' v e => by
          obtain ⟨g, h1, h2⟩ := v3 q' v e
          exact ⟨g, h1.same s8, h2⟩⟩
        exact q _ z (.ref y) .non (s7.trans s8) (SqT.of upd_same) (.inr (.inr ⟨y, t2, t, j, rfl, rfl, sh2, st2, no, am', sh, so, j1, j2, j3⟩))
      · have := zero_free st3 (j := j') k1
        omega
end
end Ca
set_option Elab.async false
set_option linter.all false
set_option maxRecDepth 100000
set_option maxHeartbeats 8000000
namespace Ca
open PySem L2
/-! ### a row as a limit for sure answers -/
section
variable {P : Program} {w : World} {K : PySem.W.Frag} {mg : Str → Option Value} {base : Heap}
end
end Ca
set_option Elab.async false
set_option linter.all false
set_option maxRecDepth 100000
set_option maxHeartbeats 4000000
namespace Ca
open PySem L2
/-! ### how great the entries of all tables of these limits are -/
theorem nrm_le {E : Nat} {x : Det.Col} (h : ∀ r, (x r).natAbs ≤ E) : ∀ k r, Det.nrm r k x ≤ k * E
  | 0, _ => Nat.zero_le _
  | k + 1, r => by
    have := nrm_le h k (r + 1)
    have := h r
    simp only [Det.nrm]
    rw [Nat.succ_mul]
    omega
structure Mild (ls : List (List Int × Int)) (cs : List Int) (E : Nat) : Prop where
  one : 1 ≤ E
  l1 : ∀ l ∈ ls, ∀ x ∈ l.1, x.natAbs ≤ E
  l2 : ∀ l ∈ ls, l.2.natAbs ≤ E
  c : ∀ x ∈ cs, x.natAbs ≤ E
theorem getD_le {xs : List Int} {E : Nat} (h : ∀ x ∈ xs, x.natAbs ≤ E) (i : Nat) : (xs.getD i 0).natAbs ≤ E := by
  by_cases g : i < xs.length
  · exact h _ (List.mem_of_getElem? (getD_at g))
  · rw [List.getD_eq_getElem?_getD, List.getElem?_eq_none (by omega)]
    exact Nat.zero_le _
theorem Mild.col {ls : List (List Int × Int)} {cs : List Int} {E : Nat} (h : Mild ls cs E) (q r : Nat) : (VOf ls cs q r).natAbs ≤ E := by
  have one := h.one
  have row : ∀ k, k < ls.length → (∀ x ∈ (ls.getD k ([], 0)).1, x.natAbs ≤ E) ∧ (ls.getD k ([], 0)).2.natAbs ≤ E := fun k hk => by
    have e : ls.getD k ([], 0) = ls[k] := by rw [List.getD_eq_getElem?_getD, List.getElem?_eq_getElem hk]; rfl
    rw [e]
    exact ⟨h.l1 _ (List.getElem_mem hk), h.l2 _ (List.getElem_mem hk)⟩
  show (Det.colV ls.length cs.length (limA ls) (limB ls) (cosC cs) q r).natAbs ≤ E
  unfold Det.colV limA limB cosC
  split
  · split
    · rename_i g
      exact getD_le (row r g).1 q
    · split
      · exact getD_le h.c q
      · exact Nat.zero_le _
  · split
    · split
      · exact one
      · exact Nat.zero_le _
    · split
      · rename_i g
        exact (row r g).2
      · exact Nat.zero_le _
theorem Mild.low {ls : List (List Int × Int)} {cs : List Int} {E : Nat} (h : Mild ls cs E) (hk : ((ls.length + 1) * E) ^ (cs.length + 1) < 2 ^ 1000) : Low ls.length cs.length (VOf ls cs) := by
  intro S ok
  have k1 : 1 ≤ (ls.length + 1) * E := Nat.mul_pos (Nat.succ_pos _) h.one
  obtain ⟨d, t⟩ := Det.Ok.small ok k1 fun q => nrm_le (fun r => h.col q r) _ _
  exact ⟨Nat.lt_of_le_of_lt (Nat.le_trans d (Nat.pow_le_pow_right k1 (Nat.le_succ _))) hk, fun i j hi hj => Nat.lt_of_le_of_lt (t i j hi hj) hk⟩
end Ca
set_option Elab.async false
set_option linter.all false
set_option maxRecDepth 100000
set_option maxHeartbeats 4000000
namespace Ca
open PySem L2
section
variable {P : Program} {w : World} {K : PySem.W.Frag} {mg : Str → Option Value} {base : Heap}
end
/-! ### sums -/
end Ca
set_option Elab.async false
set_option linter.all false
set_option maxRecDepth 100000
set_option maxHeartbeats 8000000
namespace Ca
open PySem L2
/-! ### a sure answer of least cost -/
end Ca
set_option Elab.async false
set_option linter.all false
set_option maxRecDepth 100000
set_option maxHeartbeats 4000000
/-! zip(a tuple, a list) -/
namespace CaZ
open PySem PySem.Spec PyProof.Rows L2 RZ
/-- the heap behind zip(l, m): two iterators, two pairs, the zip -/
abbrev zq1 (h : Heap) (l : Addr) : Heap := h.push { cls := .type "tuple_iterator", data := .fields #[.ref l, .int 0 0] }
abbrev zq2 (h : Heap) (l m : Addr) : Heap := (zq1 h l).push { cls := .type "list_iterator", data := .fields #[.ref m, .int 0 0] }
abbrev zq3 (h : Heap) (l m : Addr) : Heap := (zq2 h l m).push { cls := .type "tuple", data := .seq #[.ref h.objs.size, .ref (zq1 h l).objs.size] }
abbrev zq4 (h : Heap) (l m : Addr) : Heap := (zq3 h l m).push { cls := .type "tuple", data := .seq #[.none, .none] }
abbrev zq5 (h : Heap) (l m : Addr) : Heap := (zq4 h l m).push { cls := .type "zip", data := .fields #[.none, .bool false, .bool false, .ref (zq2 h l m).objs.size, .ref (zq3 h l m).objs.size] }
theorem zq_new (l m : Addr) (xs ys : Array Value) : Meets (Builtin.«zip.__new__» ⟨[.type "zip", .ref l, .ref m], []⟩) (fun _ R s => s.heap.IsTuple l xs ∧ s.heap.IsList m ys ∧ R (.ok (.ret (.ref (zq4 s.heap l m).objs.size))) { s with heap := zq5 s.heap l m }) :=
  .of_wp fun prog w A R s h => by
    obtain ⟨hp, g, d, tk, os⟩ := s
    obtain ⟨a, b, q⟩ := h
    have sub := sub_zip
    have a' : Heap.IsTuple (Shared.heap ⟨hp, g, d, tk, os⟩) l xs := a
    have b' : Heap.IsList (Shared.heap ⟨hp.push { cls := .type "tuple_iterator", data := .fields #[.ref l, .int 0 0] }, g, d, tk, os⟩) m ys := Heap.IsList.push b _
    wp_walk using wpAny_pyIter_tuple a', wpAny_pyIter_list b'
    exact ⟨_, rfl, q⟩
section
variable {prog : Program} {w : World} {A : Around} {E : Value → Shared → Prop} {s : Shared}
theorem call_zq {l m : Addr} {xs ys : Array Value} {Q : Value → Shared → Prop} (a : s.heap.IsTuple l xs) (b : s.heap.IsList m ys)
    (q : ∀ h', Zp kT kL h' (s.heap.objs.size + 4) (s.heap.objs.size + 2) (s.heap.objs.size + 3) s.heap.objs.size (s.heap.objs.size + 1) l m 0 → (∀ e o, s.heap.get? e = some o → h'.get? e = some o) → Q (.ref (s.heap.objs.size + 4)) { s with heap := h' }) : wpAny (model prog w) A (call (.type "zip") [.ref l, .ref m]) Q E s := by
  refine callType_new F.called_zip (by decide) (F.typeCall_zip_2 _ _) (F.newCall_zip_2 _ _) (fun obj => F.args_object_init_3 obj _ _) F.entry_zip_new (zq_new l m xs ys) ⟨a, b, ?_⟩
  generalize hn : s.heap.objs.size = n at q
  have e1 : (zq1 s.heap l).objs.size = n + 1 := by rw [Heap.size_push, hn]
  have e2 : (zq2 s.heap l m).objs.size = n + 2 := by rw [Heap.size_push, e1]
  have e3 : (zq3 s.heap l m).objs.size = n + 3 := by rw [Heap.size_push, e2]
  have e4 : (zq4 s.heap l m).objs.size = n + 4 := by rw [Heap.size_push, e3]
  have up : ∀ {h : Heap} {c : Addr} {o u : Obj}, h.get? c = some o → (h.push u).get? c = some o := fun r => Heap.get?_push_of_some _ r
  have o5 : (zq5 s.heap l m).get? (zq4 s.heap l m).objs.size = some { cls := .type "zip", data := .fields #[.none, .bool false, .bool false, .ref (zq2 s.heap l m).objs.size, .ref (zq3 s.heap l m).objs.size] } := Heap.get?_push_size _ rfl
  have o4 : (zq5 s.heap l m).get? (zq3 s.heap l m).objs.size = some { cls := .type "tuple", data := .seq #[.none, .none] } := up (Heap.get?_push_size _ rfl)
  have o3 : (zq5 s.heap l m).get? (zq2 s.heap l m).objs.size = some { cls := .type "tuple", data := .seq #[.ref s.heap.objs.size, .ref (zq1 s.heap l).objs.size] } := up (up (Heap.get?_push_size _ rfl))
  have o2 : (zq5 s.heap l m).get? (zq1 s.heap l).objs.size = some { cls := .type "list_iterator", data := .fields #[.ref m, .int 0 0] } := up (up (up (Heap.get?_push_size _ rfl)))
  have o1 : (zq5 s.heap l m).get? s.heap.objs.size = some { cls := .type "tuple_iterator", data := .fields #[.ref l, .int 0 0] } := up (up (up (up (Heap.get?_push_size _ rfl))))
  rw [e2, e3, e4] at o5
  rw [e3] at o4
  rw [e1, e2, hn] at o3
  rw [e1] at o2
  rw [hn] at o1
  show _ ∧ _
  rw [e4]
  exact ⟨⟨_, o5, rfl⟩, q _ ⟨o5, o3, ⟨_, _, o4⟩, ⟨_, o1, rfl, rfl⟩, ⟨_, o2, rfl, rfl⟩⟩ fun e o r => up (up (up (up (up r))))⟩
end
/-- a tuple at a and a list at b, walked together -/
def ItzQ (K : PySem.W.Frag) (a b : Addr) : It :=
  ⟨fun i H => ∃ (xs ys : List V) (x y : V), SqT K H a xs ∧ SqL K H b ys ∧ xs[i]? = some x ∧ ys[i]? = some y,
    fun i H v H' => ∃ T x y, v = .ref T ∧ H T = none ∧ H' = upd H T (.tup [x, y]) ∧ (∀ xs, SqT K H a xs → xs[i]? = some x) ∧ ∀ ys, SqL K H b ys → ys[i]? = some y,
    fun i H => ∃ xs ys : List V, SqT K H a xs ∧ SqL K H b ys ∧ (xs.length ≤ i ∨ ys.length ≤ i)⟩
theorem turn_zq {P : Program} {w : World} {K : PySem.W.Frag} {elts : List Expr} {kk : Nat} {tpos : Pos} {a b z TI TO c d : Addr} (D : ZipApart z TI TO c d a b) :
    Turn P w K (.Tuple elts kk tpos) (ItzQ K a b) [z, TI, TO, c, d] z (fun i h => Zp kT kL h z TI TO c d a b i) where
  mem := List.mem_cons_self ..
  obj := fun i h W e he => by
    have cases5 : e = z ∨ e = TI ∨ e = TO ∨ e = c ∨ e = d := by simpa using he
    obtain ⟨g1, g2, ⟨u, v, g3⟩, g4, g5⟩ := W
    rcases cases5 with rfl | rfl | rfl | rfl | rfl
    · exact ⟨_, g1, fun v q => nomatch q⟩
    · exact ⟨_, g2, fun v q => nomatch q⟩
    · exact ⟨_, g3, fun v q => nomatch q⟩
    · exact kT.it_obj g4
    · exact kL.it_obj g5
  keep := fun i h h' W f => by
    obtain ⟨g1, g2, ⟨u, v, g3⟩, g4, g5⟩ := W
    exact ⟨f z (by simp) _ g1, f TI (by simp) _ g2, ⟨u, v, f TO (by simp) _ g3⟩, kT.it_to g4 (f c (by simp)), kL.it_to g5 (f d (by simp))⟩
  item := by
    rintro X rfl rfl rfl hc i pins s σ H E I hf W ⟨xs, ys, x, y, hqx, hqy, hx, hy⟩
    obtain ⟨its, rv, p, _⟩ := I.tuple hqx
    obtain ⟨its2, rv2, p2, _⟩ := I.list hqy
    obtain ⟨u, hu, ru⟩ := rv.get hx
    obtain ⟨u2, hu2, ru2⟩ := rv2.get hy
    have zl : z < s.heap.objs.size := Heap.lt_size W.z
    have lts : ∀ e ∈ [z, TI, TO, c, d], e < s.heap.objs.size := fun e he => by
      have cases5 : e = z ∨ e = TI ∨ e = TO ∨ e = c ∨ e = d := by simpa using he
      obtain ⟨g1, g2, ⟨u, v, g3⟩, ⟨_, g4, _⟩, ⟨_, g5, _⟩⟩ := W
      rcases cases5 with rfl | rfl | rfl | rfl | rfl
      · exact zl
      · exact Heap.lt_size g2
      · exact Heap.lt_size g3
      · exact Heap.lt_size g4
      · exact Heap.lt_size g5
    refine next_item (M := kT) (N := kL) D W p p2.isList (x := u) (y := u2) (by simpa using hu) (by simpa using hu2) fun h' z' o' c' d' new size ap => ⟨_, rfl, wpAny_letOwnedTupleGo_zip (s := { s with heap := h' }) z' fun h'' z'' sb => ?_⟩
    have new2 : h''.get? s.heap.objs.size = some { cls := .type "tuple", data := .seq #[u, u2] } := (sb.2 _ (Nat.ne_of_gt zl)).trans new
    have obj : ObjOk X.prog X.w (upd H s.heap.objs.size (.tup [x, y])) h'' s.heap.objs.size (.tup [x, y]) := ⟨by show 2 ≤ sizeLine; decide, [u, u2], .cons ru (.cons ru2 .nil), ⟨_, new2, rfl, _, rfl⟩⟩
    have stays : ∀ e o, e ∉ [z, TI, TO, c, d] → s.heap.get? e = some o → h''.get? e = some o := fun e o n r => (sb.2 e (fun q => n (by simp [q]))).trans (ap e o (fun q => n (by simp [q])) (fun q => n (by simp [q])) (fun q => n (by simp [q])) (fun q => n (by simp [q])) r)
    have I1 : Inv X pins σ (upd H s.heap.objs.size (.tup [x, y])) { s with heap := h'' } := I.turnedNew (t' := s.toks) (ch := [z, TI, TO, c, d]) stays hf (Nat.le_refl _) obj
    refine ⟨.ref s.heap.objs.size, _, I1, rfl, ⟨_, x, y, rfl, I.hok.fresh (Nat.le_refl _), rfl, fun l hl => by rw [I.tuple_inj hl hqx]; exact hx, fun l hl => by rw [I.list_inj hl hqy]; exact hy⟩, ⟨z'', ?_, ⟨u, u2, (sb.2 _ D.TOz).trans o'⟩, kT.it_to c' fun o q => (sb.2 _ D.i1z).trans q, kL.it_to d' fun o q => (sb.2 _ D.i2z).trans q⟩, fun e he => ?_⟩
    · exact (sb.2 _ D.TIz).trans (ap _ _ D.TIz D.TITO D.TIi1 D.TIi2 W.i)
    · rw [upd_ne (Nat.ne_of_lt (lts e he))]
      exact (hf e he).1
  done := by
    rintro X rfl rfl rfl hc i pins s σ H E I hf W ⟨xs, ys, hqx, hqy, hend⟩
    obtain ⟨its, rv, p, _⟩ := I.tuple hqx
    obtain ⟨its2, rv2, p2, _⟩ := I.list hqy
    have l1 := rv.length
    have l2 := rv2.length
    have ends : its.toArray[i]? = none ∨ its2.toArray[i]? = none := hend.imp (fun q => by simp; omega) fun q => by simp; omega
    exact next_end (M := kT) (N := kL) (I.ok.hd hc) D W p p2.isList ends fun h' ap => ⟨rfl, I.turnedL (t' := s.toks) (ch := [z, TI, TO, c, d]) (fun e o n r => ap e o (fun q => n (by simp [q])) (fun q => n (by simp [q])) (fun q => n (by simp [q])) (fun q => n (by simp [q])) r) hf⟩
  self := fun A i s Q E W q => wpAny_pyIter_zip W.z q
def iZipQ (K : PySem.W.Frag) (ta : TA) : TI := fun σ H R => ta σ H fun vs H1 => ∃ a b xs ys, vs = [.ref a, .ref b] ∧ SqT K H1 a xs ∧ SqL K H1 b ys ∧ R (ItzQ K a b) H1
theorem pi_zipQ {X : Cx} {e e2 : Expr} {ta : TA} {p pos tpos : Pos} {elts : List Expr} {kk : Nat} (hg : Gl X "zip") (hm : X.mg "zip" = none) (ha : PA X [e, e2] ta)
    (h1 : starEach [e, e2] X.env = (false, eval e X.env) :: starEach [e2] X.env := by rfl) (h2 : (backTo pos (starEach [e2] X.env)).any (·.1) = false := by rfl) : PI X (.Tuple elts kk tpos) (.Call (.Name "zip" p) [e, e2] [] pos) (iZipQ X.K ta) := by
  constructor
  intro pins s σ H R I h
  refine Call_ (ld_blt I hg hm PyProof.Rows.boot_zip (PyProof.Rows.callWith_type1 (thn (ha.run pos pins s σ H _ I h) ?_) h1 h2))
  rintro us s1 ⟨vs, H1, I1, r1, a, b, xs, ys, rfl, hqx, hqy, q⟩
  obtain ⟨ua, t1, rfl, ra, r1⟩ : ∃ u t, us = u :: t ∧ RelV (.ref a) u ∧ Vals [.ref b] t := by cases r1 with | cons x y => exact ⟨_, _, rfl, x, y⟩
  obtain rfl := Vals.ref1 r1
  cases ra
  obtain ⟨its, rv, p1, _⟩ := I1.tuple hqx
  obtain ⟨its2, rv2, p2, _⟩ := I1.list hqy
  obtain ⟨o2, ho2, _⟩ := id p1
  refine call_zq p1 p2.isList fun h' W keep => wpAny_pyIter_zip W.z ?_
  have I2 : Inv X pins σ H1 { s1 with heap := h' } := I1.kept (t' := s1.toks) keep
  refine ⟨s1.heap.objs.size + 4, [s1.heap.objs.size + 4, s1.heap.objs.size + 2, s1.heap.objs.size + 3, s1.heap.objs.size, s1.heap.objs.size + 1], _, _, H1, rfl, I2, turn_zq (PySem.W.ktu_apart s1.heap.objs.size a b (Heap.lt_size ho2) p2.lt), W, fun e he => ?_, q⟩
  have le : s1.heap.objs.size ≤ e := by
    have cases5 : e = s1.heap.objs.size + 4 ∨ e = s1.heap.objs.size + 2 ∨ e = s1.heap.objs.size + 3 ∨ e = s1.heap.objs.size ∨ e = s1.heap.objs.size + 1 := by simpa using he
    rcases cases5 with r | r | r | r | r <;> rw [r] <;> first | exact Nat.le_add_right _ _ | exact Nat.le_refl _
  exact I1.fpOk le (I1.hok.fresh le)
theorem walk_zq {K : PySem.W.Frag} {a b : Addr} {xs ys : List V} {n : Nat} (h1 : xs.length = n) (h2 : ys.length = n) : Walk (ItzQ K a b) n (fun H => SqT K H a xs ∧ SqL K H b ys) (YPair (fun i => xs[i]?) (fun i => ys[i]?)) where
  goes := fun i H hi q => ⟨xs, ys, xs[i], ys[i], q.1, q.2, List.getElem?_eq_getElem (by omega), List.getElem?_eq_getElem (by omega)⟩
  stops := fun H q => ⟨xs, ys, q.1, q.2, .inl (by omega)⟩
  yields := fun i H v H' _ q y => let ⟨T, x, z, e1, e2, e3, e4, e5⟩ := y; ⟨T, x, z, e1, e2, e3, e4 xs q.1, e5 ys q.2⟩
end CaZ
set_option Elab.async false
set_option linter.all false
set_option maxRecDepth 100000
set_option maxHeartbeats 4000000
namespace Ca
open PySem L2 LamX
/-! ### what stays, but for tables of code objects and a list at l -/
def KeptN (l : Addr) (H H' : Hp) : Prop := ∀ b o, b ≠ l → H b = some o → (∀ ps, o ≠ .tbl ps) → H' b = some o
theorem KeptN.refl (l : Addr) (H : Hp) : KeptN l H H := fun _ _ _ h _ => h
theorem KeptN.trans {l : Addr} {H H1 H2 : Hp} (a : KeptN l H H1) (b : KeptN l H1 H2) : KeptN l H H2 := fun c o n h t => b c o n (a c o n h t) t
theorem Kept.n {l : Addr} {H H' : Hp} (k : Kept l H H') : KeptN l H H' := fun b o n h _ => k b o n h
theorem same_extN {H H' : Hp} (s : Same H H') : ExtN H H' := fun b o h _ => s b o h
theorem sameN {l : Addr} {H H' : Hp} (s : Same H H') : KeptN l H H' := fun b o _ h _ => s b o h
theorem Urn.extN {H H' : Hp} {l : Addr} (u : Urn H l) (k : ExtN H H') : Urn H' l := by
  obtain ⟨g, x, n, h1, h2, h3, h⟩ := u
  exact ⟨g, x, n, h1, h2, h3, k _ _ h fun _ z => nomatch z⟩
theorem seqL_ext {K : PySem.W.Frag} {H H' : Hp} {a : Addr} {xs : List V} (k : ExtN H H') (h : SqL K H a xs) : SqL K H' a xs := by
  rcases h with (e | ⟨o, e⟩) | e
  · exact .inl (.inl (k _ _ e fun _ z => nomatch z))
  · exact .inl (.inr ⟨o, k _ _ e fun _ z => nomatch z⟩)
  · exact .inr e
theorem seqT_ext {K : PySem.W.Frag} {H H' : Hp} {a : Addr} {xs : List V} (k : ExtN H H') (h : SqT K H a xs) : SqT K H' a xs := by
  rcases h with (e | ⟨o, e⟩) | e
  · exact .inl (.inl (k _ _ e fun _ z => nomatch z))
  · exact .inl (.inr ⟨o, k _ _ e fun _ z => nomatch z⟩)
  · exact .inr e
mutual
theorem Dq.extN {K : PySem.W.Frag} {H H' : Hp} (k : ExtN H H') : ∀ {d : PyData} {v : V}, Dq K H v d → Dq K H' v d
  | .none, _, h => by cases h; exact .non
  | .bool b, _, h => by cases h; exact .bl b
  | .int i, _, h => by cases h; exact .int i
  | .str x, _, h => by cases h with | str _ a => exact .str x a
  | .list ds, _, h => by
    cases h with
    | lst a b => exact .lst (seqL_ext k a) (DqAll.extN k b)
  | .tuple ds, _, h => by
    cases h with
    | tup a b => exact .tup (seqT_ext k a) (DqAll.extN k b)
  | .dict ds, _, h => by
    cases h with
    | dic a => exact .dic (k _ _ a fun _ z => nomatch z)
theorem DqAll.extN {K : PySem.W.Frag} {H H' : Hp} (k : ExtN H H') : ∀ {ds : List PyData} {vs : List V}, DqAll K H vs ds → DqAll K H' vs ds
  | [], _, h => by cases h; exact .nil
  | d :: ds, _, h => by
    cases h with
    | cons a b => exact .cons (Dq.extN k a) (DqAll.extN k b)
end
mutual
theorem dpExt {K : PySem.W.Frag} {H H' : Hp} (k : ExtN H H') : ∀ {d : PyData} {v : V}, Dp K H v d → Dp K H' v d
  | .none, _, h => by cases h; exact .non
  | .bool b, _, h => by cases h; exact .bl b
  | .int i, _, h => by cases h; exact .int i
  | .str x, _, h => by cases h; exact .str x
  | .list ds, _, h => by
    cases h with
    | lst a b => exact .lst (seqL_ext k a) (dpAllExt k b)
  | .tuple ds, _, h => by
    cases h with
    | tup a b => exact .tup (seqT_ext k a) (dpAllExt k b)
  | .dict ds, _, h => by cases h
theorem dpAllExt {K : PySem.W.Frag} {H H' : Hp} (k : ExtN H H') : ∀ {ds : List PyData} {vs : List V}, DpAll K H vs ds → DpAll K H' vs ds
  | [], _, h => by cases h; exact .nil
  | d :: ds, _, h => by
    cases h with
    | cons a b => exact .cons (dpExt k a) (dpAllExt k b)
end
theorem Good.extN {K : PySem.W.Frag} {H H' : Hp} {v : V} {d : PyData} (g : Good K H v d) (k : ExtN H H') : Good K H' v d := by
  obtain ⟨r, g⟩ := g
  refine ⟨?_, g⟩
  cases r with
  | dat D sd => exact .dat (dpExt k D) sd
  | dic h D nd => exact .dic (k _ _ h fun _ z => nomatch z) (dpAllExt k D) nd
  | dee SM D => exact .dee SM (De.mono k D)
theorem SysAt.extN {K : PySem.W.Frag} {C : Addr} {H H' : Hp} {x : Addr} {ns : List Str} {rs : List Rw} (h : SysAt K C H x ns rs) (k : ExtN H H') : SysAt K C H' x ns rs := by
  obtain ⟨h1, h2, dx, u, r, e, du, dr⟩ := h
  exact ⟨h1, h2, dx, u, r, k _ _ e (fun _ z => (nomatch z)), du.extN k, dr.extN k⟩
/-! ### data whose lists stand apart from l -/
mutual
inductive Dr (K : PySem.W.Frag) (l : Addr) (H : Hp) : V → PyData → Prop
  | non : Dr K l H .non .none
  | bl (b : Bool) : Dr K l H (.bl b) (.bool b)
  | int (i : Int) : Dr K l H (.int i) (.int i)
  | str (x : Str) (h : x.length ≤ 1000) : Dr K l H (.str x) (.str x)
  | lst {a : Addr} {xs : List V} {ds : List PyData} : a ≠ l → SqL K H a xs → DrAll K l H xs ds → Dr K l H (.ref a) (.list ds)
  | tup {a : Addr} {xs : List V} {ds : List PyData} : SqT K H a xs → DrAll K l H xs ds → Dr K l H (.ref a) (.tuple ds)
  | dic {a : Addr} : H a = some (.dK []) → Dr K l H (.ref a) (.dict [])
inductive DrAll (K : PySem.W.Frag) (l : Addr) (H : Hp) : List V → List PyData → Prop
  | nil : DrAll K l H [] []
  | cons {v : V} {vs : List V} {d : PyData} {ds : List PyData} : Dr K l H v d → DrAll K l H vs ds → DrAll K l H (v :: vs) (d :: ds)
end
theorem sql_butN {K : PySem.W.Frag} {H H' : Hp} {l a : Addr} {xs : List V} (n : a ≠ l) (k : KeptN l H H') (h : SqL K H a xs) : SqL K H' a xs := by
  rcases h with (e | ⟨o, e⟩) | e
  · exact .inl (.inl (k _ _ n e fun _ z => nomatch z))
  · exact .inl (.inr ⟨o, k _ _ n e fun _ z => nomatch z⟩)
  · exact .inr e
theorem sqt_butN {K : PySem.W.Frag} {H H' : Hp} {l a : Addr} {ys xs : List V} (hl : H l = some (.lst ys)) (k : KeptN l H H') (h : SqT K H a xs) : SqT K H' a xs := by
  have n : ∀ o, H a = some o → (∀ zs, o ≠ .lst zs) → a ≠ l := fun o e z y => by
    rw [y, hl] at e
    cases e
    exact z _ rfl
  rcases h with (e | ⟨o, e⟩) | e
  · exact .inl (.inl (k _ _ (n _ e fun _ z => nomatch z) e fun _ z => nomatch z))
  · exact .inl (.inr ⟨o, k _ _ (n _ e fun _ z => nomatch z) e fun _ z => nomatch z⟩)
  · exact .inr e
mutual
theorem Dr.but {K : PySem.W.Frag} {H H' : Hp} {l : Addr} {ys : List V} (hl : H l = some (.lst ys)) (k : KeptN l H H') : ∀ {d : PyData} {v : V}, Dr K l H v d → Dr K l H' v d
  | .none, _, h => by cases h; exact .non
  | .bool b, _, h => by cases h; exact .bl b
  | .int i, _, h => by cases h; exact .int i
  | .str x, _, h => by cases h with | str _ a => exact .str x a
  | .list ds, _, h => by
    cases h with
    | lst n a b => exact .lst n (sql_butN n k a) (DrAll.but hl k b)
  | .tuple ds, _, h => by
    cases h with
    | tup a b => exact .tup (sqt_butN hl k a) (DrAll.but hl k b)
  | .dict ds, _, h => by
    cases h with
    | dic a => exact .dic (k _ _ (fun z => by rw [z, hl] at a; cases a) a fun _ z => nomatch z)
theorem DrAll.but {K : PySem.W.Frag} {H H' : Hp} {l : Addr} {ys : List V} (hl : H l = some (.lst ys)) (k : KeptN l H H') : ∀ {ds : List PyData} {vs : List V}, DrAll K l H vs ds → DrAll K l H' vs ds
  | [], _, h => by cases h; exact .nil
  | d :: ds, _, h => by
    cases h with
    | cons a b => exact .cons (Dr.but hl k a) (DrAll.but hl k b)
end
mutual
theorem Dr.dq {K : PySem.W.Frag} {H : Hp} {l : Addr} : ∀ {d : PyData} {v : V}, Dr K l H v d → Dq K H v d
  | .none, _, h => by cases h; exact .non
  | .bool b, _, h => by cases h; exact .bl b
  | .int i, _, h => by cases h; exact .int i
  | .str x, _, h => by cases h with | str _ a => exact .str x a
  | .list ds, _, h => by
    cases h with
    | lst n a b => exact .lst a (DrAll.dq b)
  | .tuple ds, _, h => by
    cases h with
    | tup a b => exact .tup a (DrAll.dq b)
  | .dict ds, _, h => by
    cases h with
    | dic a => exact .dic a
theorem DrAll.dq {K : PySem.W.Frag} {H : Hp} {l : Addr} : ∀ {ds : List PyData} {vs : List V}, DrAll K l H vs ds → DqAll K H vs ds
  | [], _, h => by cases h; exact .nil
  | d :: ds, _, h => by
    cases h with
    | cons a b => exact .cons (Dr.dq a) (DrAll.dq b)
end
mutual
theorem dr_of {K : PySem.W.Frag} {H : Hp} {l : Addr} : ∀ {d : PyData} {v : V}, noL d = true → Dq K H v d → Dr K l H v d
  | .none, _, _, h => by cases h; exact .non
  | .bool b, _, _, h => by cases h; exact .bl b
  | .int i, _, _, h => by cases h; exact .int i
  | .str x, _, _, h => by cases h with | str _ a => exact .str x a
  | .list ds, _, n, _ => by simp [noL] at n
  | .tuple ds, _, n, h => by
    cases h with
    | tup a b => exact .tup a (drAll_of (by simpa only [noL] using n) b)
  | .dict ds, _, n, _ => by simp [noL] at n
theorem drAll_of {K : PySem.W.Frag} {H : Hp} {l : Addr} : ∀ {ds : List PyData} {vs : List V}, noLs ds = true → DqAll K H vs ds → DrAll K l H vs ds
  | [], _, _, h => by cases h; exact .nil
  | d :: ds, _, n, h => by
    obtain ⟨n1, n2⟩ := Bool.and_eq_true_iff.mp (show (noL d && noLs ds) = true by simpa only [noLs] using n)
    cases h with
    | cons a b => exact .cons (dr_of n1 a) (drAll_of n2 b)
end
theorem DrAll.len {K : PySem.W.Frag} {H : Hp} {l : Addr} : ∀ {vs : List V} {ds : List PyData}, DrAll K l H vs ds → vs.length = ds.length
  | _, _, .nil => rfl
  | _, _, .cons _ t => congrArg Nat.succ t.len
theorem DrAll.get {K : PySem.W.Frag} {H : Hp} {l : Addr} : ∀ {vs : List V} {ds : List PyData} {i : Nat} {v : V}, DrAll K l H vs ds → vs[i]? = some v → ∃ d, ds[i]? = some d ∧ Dr K l H v d
  | _, _, 0, _, .cons a _, e => by
    cases e
    exact ⟨_, rfl, a⟩
  | _, _, i + 1, _, .cons _ t, e => t.get (i := i) e
theorem DrAll.app {K : PySem.W.Frag} {H : Hp} {l : Addr} : ∀ {vs ws : List V} {ds es : List PyData}, DrAll K l H vs ds → DrAll K l H ws es → DrAll K l H (vs ++ ws) (ds ++ es)
  | _, _, _, _, .nil, h => h
  | _, _, _, _, .cons a t, h => .cons a (t.app h)
theorem Dr.same {K : PySem.W.Frag} {H H' : Hp} {l : Addr} {ys : List V} (hl : H l = some (.lst ys)) (s : Same H H') {d : PyData} {v : V} (h : Dr K l H v d) : Dr K l H' v d := Dr.but hl (sameN s) h
theorem DrAll.same {K : PySem.W.Frag} {H H' : Hp} {l : Addr} {ys : List V} (hl : H l = some (.lst ys)) (s : Same H H') {ds : List PyData} {vs : List V} (h : DrAll K l H vs ds) : DrAll K l H' vs ds := DrAll.but hl (sameN s) h
/-! ### an error that is told -/
/-! ### o.m(k = v), which may raise -/
section
variable {X : Cx} {CX : CXT} {E : XK} {k : Nat} {f C : Addr} {fd : FuncData} {ps ks : List Str} {sp : Sp} {m : Str} {apos pos : Pos} {kws : List Keyword} {tk : TA} {g : List Value → List Value → List Value} {gV : List V → List V → List V} {o : Expr} {ta : TE}
end
end Ca
set_option Elab.async false
set_option linter.all false
set_option maxRecDepth 100000
set_option maxHeartbeats 8000000
namespace Ca
open PySem L2
/-! ### rows of signs -/
section
variable {P : Program} {w : World} {K : PySem.W.Frag} {mg : Str → Option Value} {base : Heap}
end
end Ca
set_option Elab.async false
set_option linter.all false
set_option maxRecDepth 100000
set_option maxHeartbeats 4000000
namespace Ca
open PySem L2
/-! ### what tables tell, in rational numbers -/
def qsum (f : Nat → Rat) : Nat → Rat
  | 0 => 0
  | n + 1 => qsum f n + f n
theorem qsum_congr {f g : Nat → Rat} : ∀ n, (∀ i, i < n → f i = g i) → qsum f n = qsum g n
  | 0, _ => rfl
  | n + 1, h => by
    simp only [qsum]
    rw [qsum_congr n fun i hi => h i (by omega), h n (by omega)]
theorem qsum_le {f g : Nat → Rat} : ∀ n, (∀ i, i < n → f i ≤ g i) → qsum f n ≤ qsum g n
  | 0, _ => Rat.le_refl
  | n + 1, h => by
    simp only [qsum]
    have a := qsum_le n fun i hi => h i (by omega)
    have b := h n (by omega)
    grind
theorem qsum_zero : ∀ n, qsum (fun _ => 0) n = 0
  | 0 => rfl
  | n + 1 => by simp only [qsum]; rw [qsum_zero n]; grind
theorem qsum_nonneg {f : Nat → Rat} (n : Nat) (h : ∀ i, i < n → 0 ≤ f i) : 0 ≤ qsum f n := by
  have := qsum_le (f := fun _ => 0) n h
  rwa [qsum_zero] at this
theorem qsum_add (f g : Nat → Rat) : ∀ n, qsum (fun i => f i + g i) n = qsum f n + qsum g n
  | 0 => by simp only [qsum]; grind
  | n + 1 => by simp only [qsum]; rw [qsum_add f g n]; grind
theorem qsum_mul (c : Rat) (f : Nat → Rat) : ∀ n, qsum (fun i => c * f i) n = c * qsum f n
  | 0 => by simp only [qsum]; grind
  | n + 1 => by simp only [qsum]; rw [qsum_mul c f n]; grind
theorem qsum_swap (f : Nat → Nat → Rat) (m : Nat) : ∀ n, qsum (fun j => qsum (fun i => f i j) m) n = qsum (fun i => qsum (fun j => f i j) n) m
  | 0 => by
    simp only [qsum]
    exact (qsum_zero m).symm
  | n + 1 => by
    simp only [qsum]
    rw [qsum_swap f m n, ← qsum_add]
theorem rsum_succ (g : Nat → Int) (n : Nat) : Det.rsum g (n + 1) = Det.rsum g n + g n := by
  unfold Det.rsum
  rw [List.range_succ, Det.msum_app]
  simp only [Det.msum]
  omega
theorem rsum_q (g : Nat → Int) : ∀ n, ((Det.rsum g n : Int) : Rat) = qsum (fun i => ((g i : Int) : Rat)) n
  | 0 => rfl
  | n + 1 => by
    rw [rsum_succ, Rat.intCast_add, rsum_q g n]
    rfl
/-- amounts that keep limits -/
def Feas (ls : List (List Int × Int)) (n : Nat) (x : Nat → Rat) : Prop := (∀ j, j < n → 0 ≤ x j) ∧ ∀ i, i < ls.length → qsum (fun j => ((limA ls i j : Int) : Rat) * x j) n ≤ ((limB ls i : Int) : Rat)
section
variable {ls : List (List Int × Int)} {cs : List Int} {t : Tb}
theorem div_nonneg' {a b : Int} (ha : 0 ≤ a) (hb : 0 < b) : (0 : Rat) ≤ (a : Rat) / (b : Rat) := by
  have h1 : (0 : Rat) ≤ (a : Rat) := by exact_mod_cast ha
  have h2 : (0 : Rat) < (b : Rat) := by exact_mod_cast hb
  rw [Rat.div_def]
  exact Rat.mul_nonneg h1 (Rat.le_of_lt (Rat.inv_pos.mpr h2))
/-- nothing is wrong: amounts that keep all limits, told by the table -/
theorem feas_of (sh : Shp ls.length cs.length t) (so : StOf ls cs t) (no : ∀ q, ¬ WrongT ls.length cs.length t q) : ∃ x : Nat → Rat, Feas ls cs.length x ∧ ∀ q p, q < cs.length → AmtOf cs.length t ls.length q p → x q = (p.1 : Rat) / (p.2 : Rat) := by
  obtain ⟨S, rp, ok, _⟩ := so
  obtain ⟨y, y1, y2, y3, _⟩ := ok.primal
  have D0 : 0 < S.D := ok.dic.pos
  have Dq : (0 : Rat) < (S.D : Rat) := by exact_mod_cast D0
  have pos : ∀ q, q < cs.length + ls.length → 0 ≤ y q := fun q hq => by
    have hp := ok.pm.mem_iff (a := q)
    have hm : q ∈ S.bs ++ S.fs := hp.mpr (List.mem_range.mpr (by omega))
    rcases List.mem_append.mp hm with h | h
    · obtain ⟨l, hl⟩ := List.mem_iff_getElem?.mp h
      rw [y1 l q hl]
      have ll := (List.getElem?_eq_some_iff.mp hl).1
      have bl := ok.bl
      by_cases g : S.T l cs.length < 0
      · exact absurd ((rp.wrong sh).mpr (.inl ⟨l, hl, g⟩)) (no q)
      · omega
    · rw [y2 q h]
      exact Int.le_refl 0
  refine ⟨fun q => (y q : Rat) / (S.D : Rat), ⟨fun j hj => div_nonneg' (pos j (by omega)) D0, fun i hi => ?_⟩, fun q p hq am => ?_⟩
  · have e := y3 i hi
    have p := pos (cs.length + i) (by omega)
    have le : Det.rsum (fun j => limA ls i j * y j) cs.length ≤ S.D * limB ls i := by omega
    have leq : ((Det.rsum (fun j => limA ls i j * y j) cs.length : Int) : Rat) ≤ ((S.D * limB ls i : Int) : Rat) := by exact_mod_cast le
    rw [rsum_q, Rat.intCast_mul] at leq
    have e2 : qsum (fun j => ((limA ls i j * y j : Int) : Rat)) cs.length = (S.D : Rat) * qsum (fun j => (limA ls i j : Rat) * ((y j : Rat) / (S.D : Rat))) cs.length := by
      rw [← qsum_mul]
      refine qsum_congr _ fun j _ => ?_
      rw [Rat.intCast_mul]
      have : (S.D : Rat) ≠ 0 := by grind
      grind
    rw [e2] at leq
    exact Rat.le_of_mul_le_mul_left leq Dq
  · have tD : t.D = S.D := rp.D
    rcases am with ⟨l, l1, l2, rd⟩ | ⟨h, rfl⟩
    · rw [rp.bs] at l2
      rw [rp.T l cs.length (by omega) (Nat.le_refl _), tD] at rd
      show (y q : Rat) / (S.D : Rat) = _
      rw [y1 l q l2]
      have c := rd.cross
      have p2 := rd.pos
      have c' : (p.1 : Rat) * (S.D : Rat) = (S.T l cs.length : Rat) * (p.2 : Rat) := by exact_mod_cast c
      have p2' : (0 : Rat) < (p.2 : Rat) := by exact_mod_cast p2
      have h1 : (S.D : Rat) ≠ 0 := by grind
      have h2 : (p.2 : Rat) ≠ 0 := by grind
      grind
    · have hm : q ∈ S.bs ++ S.fs := (ok.pm.mem_iff (a := q)).mpr (List.mem_range.mpr (by omega))
      rcases List.mem_append.mp hm with hb | hf
      · obtain ⟨l, hl⟩ := List.mem_iff_getElem?.mp hb
        have ll := (List.getElem?_eq_some_iff.mp hl).1
        have bl := ok.bl
        exact absurd (by rw [rp.bs]; exact hl) (h l (by omega))
      · show (y q : Rat) / (S.D : Rat) = _
        rw [y2 q hf]
        have h1 : (S.D : Rat) ≠ 0 := by grind
        show ((0 : Int) : Rat) / (S.D : Rat) = ((0 : Int) : Rat) / ((1 : Int) : Rat)
        grind
/-- a row that is stuck: no amounts keep all limits -/
theorem unfeas_of (sh : Shp ls.length cs.length t) (so : StOf ls cs t) {i : Nat} (hi : i < ls.length) (h1 : tT t i cs.length < 0) (h2 : ∀ j, j < cs.length → 0 ≤ tT t i j) : ∀ x : Nat → Rat, ¬ Feas ls cs.length x := by
  obtain ⟨S, rp, ok, _⟩ := so
  have D0 : 0 < S.D := ok.dic.pos
  have bl := ok.bl
  have fl := ok.fl
  have nd := ok.bsnd
  obtain ⟨b, hb⟩ : ∃ b, S.bs[i]? = some b := ⟨_, List.getElem?_eq_getElem (by omega)⟩
  have bmem : b ∈ S.bs := List.mem_of_getElem? hb
  have blt : b < ls.length + cs.length := by
    have := (ok.pm.mem_iff (a := b)).mp (List.mem_append_left _ bmem)
    exact List.mem_range.mp this
  have fnd : (S.bs ++ S.fs).Nodup := ok.pm.nodup_iff.mpr List.nodup_range
  obtain ⟨_, fnd1, dis⟩ := List.nodup_append.mp fnd
  -- the weights
  let W : Nat → Int := fun q => if q ∈ S.fs then S.T i (S.fs.idxOf q) else if q = b then S.D else 0
  have w1 : ∀ l q, S.fs[l]? = some q → W q = S.T i l := fun l q hq => by
    have qm : q ∈ S.fs := List.mem_of_getElem? hq
    show (if q ∈ S.fs then S.T i (S.fs.idxOf q) else _) = _
    rw [if_pos qm]
    have ll := (List.getElem?_eq_some_iff.mp hq).1
    have e : S.fs.idxOf q = l := by
      have hlt : S.fs.idxOf q < S.fs.length := List.idxOf_lt_length_iff.mpr qm
      have g := List.getElem_idxOf hlt
      refine (List.getElem?_inj hlt fnd1).mp ?_
      rw [List.getElem?_eq_getElem hlt, g, hq]
    rw [e]
  have w2 : ∀ q ∈ S.bs, W q = if q = b then S.D else 0 := fun q hq => by
    show (if q ∈ S.fs then _ else _) = _
    rw [if_neg fun z => dis q hq q z rfl]
  have ht : (S.bs ++ [ls.length + cs.length])[i]? = some b := by rw [List.getElem?_append_left (by omega)]; exact hb
  have he : (0 : Int) = if b = ls.length + cs.length then S.D else 0 := by rw [if_neg (by omega)]
  obtain ⟨d1, d2⟩ := Det.Ok.dual ok ht w1 w2 he
  have wpos : ∀ q, q < ls.length + cs.length → 0 ≤ W q := fun q hq => by
    rcases List.mem_append.mp ((ok.pm.mem_iff (a := q)).mpr (List.mem_range.mpr hq)) with h | h
    · rw [w2 q h]
      split <;> omega
    · obtain ⟨l, hl⟩ := List.mem_iff_getElem?.mp h
      rw [w1 l q hl]
      have ll := (List.getElem?_eq_some_iff.mp hl).1
      rw [← rp.T i l (by omega) (by omega)]
      exact h2 l (by omega)
  have neg : S.T i cs.length < 0 := by
    rw [← rp.T i cs.length (by omega) (Nat.le_refl _)]
    exact h1
  rintro x ⟨x0, xl⟩
  -- both ways round
  have a1 : (0 : Rat) ≤ qsum (fun j => ((W j : Int) : Rat) * x j) cs.length := qsum_nonneg _ fun j hj => by
    have : (0 : Rat) ≤ ((W j : Int) : Rat) := by exact_mod_cast wpos j (by omega)
    exact Rat.mul_nonneg this (x0 j hj)
  have a2 : qsum (fun j => ((W j : Int) : Rat) * x j) cs.length = qsum (fun k => ((W (cs.length + k) : Int) : Rat) * qsum (fun j => ((limA ls k j : Int) : Rat) * x j) cs.length) ls.length := by
    have e : ∀ j, j < cs.length → ((W j : Int) : Rat) * x j = qsum (fun k => ((W (cs.length + k) : Int) : Rat) * (((limA ls k j : Int) : Rat) * x j)) ls.length := fun j hj => by
      have := d1 j hj
      rw [Int.zero_mul, Int.sub_zero] at this
      rw [← this, rsum_q]
      rw [Rat.mul_comm, ← qsum_mul]
      refine qsum_congr _ fun k _ => ?_
      rw [Rat.intCast_mul]
      grind
    rw [qsum_congr _ e, qsum_swap]
    exact qsum_congr _ fun k _ => qsum_mul _ _ _
  have a3 : qsum (fun k => ((W (cs.length + k) : Int) : Rat) * qsum (fun j => ((limA ls k j : Int) : Rat) * x j) cs.length) ls.length ≤ qsum (fun k => ((limB ls k * W (cs.length + k) : Int) : Rat)) ls.length := qsum_le _ fun k hk => by
    have : (0 : Rat) ≤ ((W (cs.length + k) : Int) : Rat) := by exact_mod_cast wpos (cs.length + k) (by omega)
    have := Rat.mul_le_mul_of_nonneg_left (xl k hk) this
    rw [Rat.intCast_mul]
    grind
  rw [← rsum_q, d2] at a3
  have a4 : ((S.T i cs.length : Int) : Rat) < 0 := by exact_mod_cast neg
  grind
end
end Ca
set_option Elab.async false
set_option linter.all false
set_option maxRecDepth 100000
set_option maxHeartbeats 8000000
namespace Ca
/-! ### leaving out the last unknown of rows of whole numbers (each below with each above) -/
abbrev FRow := List Int × Int
def dotI (r : List Int) (x : Nat → Rat) : Rat := qsum (fun j => ((r.getD j 0 : Int) : Rat) * x j) r.length
def SatF (S : List FRow) (x : Nat → Rat) : Prop := ∀ p ∈ S, dotI p.1 x ≤ ((p.2 : Int) : Rat)
def lastI (r : List Int) : Int := r.getD (r.length - 1) 0
def mixI (r t : List Int) : List Int := List.zipWith (fun a b => a * -lastI t + b * lastI r) r.dropLast t.dropLast
/-- what is found behind leaving out the last unknown -/
def FoundF (S : List FRow) (p : FRow) : Prop := (∃ r ∈ S, lastI r.1 = 0 ∧ p = (r.1.dropLast, r.2)) ∨ ∃ r ∈ S, ∃ t ∈ S, lastI r.1 > 0 ∧ lastI t.1 < 0 ∧ p = (mixI r.1 t.1, r.2 * -lastI t.1 + t.2 * lastI r.1)
theorem dotI_last {r : List Int} {n : Nat} (h : r.length = n + 1) (x : Nat → Rat) : dotI r x = dotI r.dropLast x + ((lastI r : Int) : Rat) * x n := by
  unfold dotI lastI
  rw [List.length_dropLast, h]
  show qsum _ n + _ = qsum _ n + _
  congr 1
  refine qsum_congr _ fun j hj => ?_
  rw [List.getD_eq_getElem?_getD, List.getD_eq_getElem?_getD, List.getElem?_dropLast, if_pos (by omega)]
theorem dotI_mix {r t : List Int} {n : Nat} (hr : r.length = n + 1) (ht : t.length = n + 1) (x : Nat → Rat) : dotI (mixI r t) x = dotI r.dropLast x * (-((lastI t : Int) : Rat)) + dotI t.dropLast x * ((lastI r : Int) : Rat) := by
  have lr : r.dropLast.length = n := by rw [List.length_dropLast, hr]; rfl
  have lt : t.dropLast.length = n := by rw [List.length_dropLast, ht]; rfl
  have lm : (mixI r t).length = n := by
    unfold mixI
    rw [List.length_zipWith, lr, lt, Nat.min_self]
  have e1 : dotI r.dropLast x * (-((lastI t : Int) : Rat)) = qsum (fun j => (-((lastI t : Int) : Rat)) * (((r.dropLast.getD j 0 : Int) : Rat) * x j)) n := by
    rw [qsum_mul]
    unfold dotI
    rw [lr, Rat.mul_comm]
  have e2 : dotI t.dropLast x * ((lastI r : Int) : Rat) = qsum (fun j => ((lastI r : Int) : Rat) * (((t.dropLast.getD j 0 : Int) : Rat) * x j)) n := by
    rw [qsum_mul]
    unfold dotI
    rw [lt, Rat.mul_comm]
  rw [e1, e2, ← qsum_add]
  unfold dotI
  rw [lm]
  refine qsum_congr _ fun j hj => ?_
  have j1 : j < r.dropLast.length := by omega
  have j2 : j < t.dropLast.length := by omega
  have e3 : (mixI r t).getD j 0 = r.dropLast.getD j 0 * -lastI t + t.dropLast.getD j 0 * lastI r := by
    unfold mixI
    rw [List.getD_eq_getElem?_getD, List.getElem?_zipWith, List.getD_eq_getElem?_getD, List.getD_eq_getElem?_getD, List.getElem?_eq_getElem j1, List.getElem?_eq_getElem j2]
    rfl
  rw [e3, Rat.intCast_add, Rat.intCast_mul, Rat.intCast_mul, Rat.intCast_neg]
  grind
theorem ex_max : ∀ (l : List Rat), l ≠ [] → ∃ m ∈ l, ∀ x ∈ l, x ≤ m
  | [], h => absurd rfl h
  | [a], _ => ⟨a, List.mem_singleton.mpr rfl, fun x hx => by rw [List.mem_singleton.mp hx]; exact Rat.le_refl⟩
  | a :: b :: l, _ => by
    obtain ⟨m, hm, h⟩ := ex_max (b :: l) (List.cons_ne_nil _ _)
    by_cases c : a ≤ m
    · refine ⟨m, List.mem_cons_of_mem _ hm, fun x hx => ?_⟩
      rcases List.mem_cons.mp hx with rfl | hx
      · exact c
      · exact h x hx
    · refine ⟨a, List.mem_cons_self .., fun x hx => ?_⟩
      rcases List.mem_cons.mp hx with rfl | hx
      · exact Rat.le_refl
      · exact Rat.le_trans (h x hx) (Rat.le_of_lt (Rat.not_le.mp c))
theorem ex_min (l : List Rat) : ∃ m, ∀ x ∈ l, m ≤ x := by
  induction l with
  | nil => exact ⟨0, fun x hx => by cases hx⟩
  | cons a l ih =>
    obtain ⟨m, h⟩ := ih
    by_cases c : a ≤ m
    · refine ⟨a, fun x hx => ?_⟩
      rcases List.mem_cons.mp hx with rfl | hx
      · exact Rat.le_refl
      · exact Rat.le_trans c (h x hx)
    · refine ⟨m, fun x hx => ?_⟩
      rcases List.mem_cons.mp hx with rfl | hx
      · exact Rat.le_of_lt (Rat.not_le.mp c)
      · exact h x hx
theorem ex_between {ls us : List Rat} (h : ∀ a ∈ ls, ∀ b ∈ us, a ≤ b) : ∃ z, (∀ a ∈ ls, a ≤ z) ∧ ∀ b ∈ us, z ≤ b := by
  by_cases c : ls = []
  · subst c
    obtain ⟨m, hm⟩ := ex_min us
    exact ⟨m, fun a ha => (by cases ha), hm⟩
  · obtain ⟨m, hm, k⟩ := ex_max ls c
    exact ⟨m, k, fun b hb => h m hm b hb⟩
theorem dotI_congr {r : List Int} {x y : Nat → Rat} (h : ∀ j, j < r.length → x j = y j) : dotI r x = dotI r y := qsum_congr _ fun j hj => by rw [h j hj]
/-- some values keep the rows just if some keep those found behind leaving out the last unknown -/
theorem fm_step {S : List FRow} {n : Nat} (hl : ∀ p ∈ S, p.1.length = n + 1) : (∃ x, SatF S x) ↔ ∃ x, ∀ p, FoundF S p → dotI p.1 x ≤ ((p.2 : Int) : Rat) := by
  constructor
  · rintro ⟨x, hx⟩
    refine ⟨x, fun p hp => ?_⟩
    rcases hp with ⟨r, hr, z, rfl⟩ | ⟨r, hr, t, ht, pos, neg, rfl⟩
    · have := hx r hr
      rw [dotI_last (hl r hr), z] at this
      show dotI r.1.dropLast x ≤ _
      have e : ((0 : Int) : Rat) * x n = 0 := by rw [show ((0 : Int) : Rat) = 0 from rfl, Rat.zero_mul]
      rw [e, Rat.add_zero] at this
      exact this
    · have h1 := hx r hr
      have h2 := hx t ht
      rw [dotI_last (hl r hr)] at h1
      rw [dotI_last (hl t ht)] at h2
      show dotI (mixI r.1 t.1) x ≤ ((r.2 * -lastI t.1 + t.2 * lastI r.1 : Int) : Rat)
      rw [dotI_mix (hl r hr) (hl t ht), Rat.intCast_add, Rat.intCast_mul, Rat.intCast_mul, Rat.intCast_neg]
      have p1 : (0 : Rat) < ((lastI r.1 : Int) : Rat) := by exact_mod_cast pos
      have p2 : ((lastI t.1 : Int) : Rat) < 0 := by exact_mod_cast neg
      have q2 : (0 : Rat) ≤ -((lastI t.1 : Int) : Rat) := by grind
      have m1 := Rat.mul_le_mul_of_nonneg_right h1 q2
      have m2 := Rat.mul_le_mul_of_nonneg_right h2 (Rat.le_of_lt p1)
      grind
  · rintro ⟨y, hy⟩
    have key : ∃ z : Rat, (∀ t ∈ S, lastI t.1 < 0 → (((t.2 : Int) : Rat) - dotI t.1.dropLast y) / ((lastI t.1 : Int) : Rat) ≤ z) ∧ ∀ r ∈ S, lastI r.1 > 0 → z ≤ (((r.2 : Int) : Rat) - dotI r.1.dropLast y) / ((lastI r.1 : Int) : Rat) := by
      obtain ⟨z, h1, h2⟩ := ex_between (ls := (S.filter fun t => decide (lastI t.1 < 0)).map fun t => (((t.2 : Int) : Rat) - dotI t.1.dropLast y) / ((lastI t.1 : Int) : Rat)) (us := (S.filter fun r => decide (lastI r.1 > 0)).map fun r => (((r.2 : Int) : Rat) - dotI r.1.dropLast y) / ((lastI r.1 : Int) : Rat)) fun a ha b hb => by
        obtain ⟨t, ht, rfl⟩ := List.mem_map.mp ha
        obtain ⟨r, hr, rfl⟩ := List.mem_map.mp hb
        obtain ⟨ht, neg⟩ := List.mem_filter.mp ht
        obtain ⟨hr, pos⟩ := List.mem_filter.mp hr
        replace neg := of_decide_eq_true neg
        replace pos := of_decide_eq_true pos
        have h := hy _ (.inr ⟨r, hr, t, ht, pos, neg, rfl⟩)
        rw [dotI_mix (hl r hr) (hl t ht), Rat.intCast_add, Rat.intCast_mul, Rat.intCast_mul, Rat.intCast_neg] at h
        have p1 : (0 : Rat) < ((lastI r.1 : Int) : Rat) := by exact_mod_cast pos
        have p2 : ((lastI t.1 : Int) : Rat) < 0 := by exact_mod_cast neg
        generalize ((lastI r.1 : Int) : Rat) = A at h p1 ⊢
        generalize ((lastI t.1 : Int) : Rat) = B at h p2 ⊢
        generalize dotI r.1.dropLast y = X at h ⊢
        generalize dotI t.1.dropLast y = Y at h ⊢
        generalize ((r.2 : Int) : Rat) = b1 at h ⊢
        generalize ((t.2 : Int) : Rat) = b2 at h ⊢
        have A0 : A ≠ 0 := by grind
        have B0 : B ≠ 0 := by grind
        refine Rat.not_lt.mp fun lt => ?_
        have pq : 0 < A * -B := Rat.mul_pos p1 (by grind)
        have := Rat.mul_lt_mul_of_pos_left lt pq
        have e1 : A * -B * ((b1 - X) / A) = -B * (b1 - X) := by grind
        have e2 : A * -B * ((b2 - Y) / B) = -A * (b2 - Y) := by grind
        rw [e1, e2] at this
        grind
      exact ⟨z, fun t ht neg => h1 _ (List.mem_map.mpr ⟨t, List.mem_filter.mpr ⟨ht, decide_eq_true neg⟩, rfl⟩), fun r hr pos => h2 _ (List.mem_map.mpr ⟨r, List.mem_filter.mpr ⟨hr, decide_eq_true pos⟩, rfl⟩)⟩
    obtain ⟨z, h1, h2⟩ := key
    refine ⟨fun j => if j = n then z else y j, fun p hp => ?_⟩
    have hlp := hl p hp
    have e : dotI p.1.dropLast (fun j => if j = n then z else y j) = dotI p.1.dropLast y := dotI_congr fun j hj => by
      rw [List.length_dropLast, hlp] at hj
      rw [if_neg (by omega)]
    rw [dotI_last hlp, e]
    show _ + _ * (if n = n then z else y n) ≤ _
    rw [if_pos rfl]
    rcases Int.lt_trichotomy (lastI p.1) 0 with c | c | c
    · have k := h1 p hp c
      have p2 : ((lastI p.1 : Int) : Rat) < 0 := by exact_mod_cast c
      generalize ((lastI p.1 : Int) : Rat) = B at k p2 ⊢
      generalize dotI p.1.dropLast y = Y at k ⊢
      generalize ((p.2 : Int) : Rat) = b at k ⊢
      have B0 : B ≠ 0 := by grind
      have := Rat.mul_le_mul_of_nonneg_left k (show 0 ≤ -B by grind)
      have e2 : -B * ((b - Y) / B) = -(b - Y) := by grind
      rw [e2] at this
      grind
    · have h := hy _ (.inl ⟨p, hp, c, rfl⟩)
      rw [c, show ((0 : Int) : Rat) = 0 from rfl, Rat.zero_mul, Rat.add_zero]
      exact h
    · have k := h2 p hp c
      have p1 : (0 : Rat) < ((lastI p.1 : Int) : Rat) := by exact_mod_cast c
      generalize ((lastI p.1 : Int) : Rat) = A at k p1 ⊢
      generalize dotI p.1.dropLast y = X at k ⊢
      generalize ((p.2 : Int) : Rat) = b at k ⊢
      have A0 : A ≠ 0 := by grind
      have := Rat.mul_le_mul_of_nonneg_left k (Rat.le_of_lt p1)
      have e1 : A * ((b - X) / A) = b - X := by grind
      rw [e1] at this
      grind
/-- rows of no unknowns -/
theorem fm_none {S : List FRow} (hl : ∀ p ∈ S, p.1 = []) : (∃ x, SatF S x) ↔ ∀ p ∈ S, 0 ≤ p.2 := by
  have e : ∀ x : Nat → Rat, dotI [] x = 0 := fun x => rfl
  constructor
  · rintro ⟨x, hx⟩ p hp
    have := hx p hp
    rw [hl p hp, e] at this
    exact_mod_cast this
  · intro h
    refine ⟨fun _ => 0, fun p hp => ?_⟩
    rw [hl p hp, e]
    have := h p hp
    exact_mod_cast this
end Ca
set_option Elab.async false
set_option linter.all false
set_option maxRecDepth 100000
/-! sets whose elements are objects of any kind of keys (HeapKind): the search of one -/
namespace Ca.SetK
open PySem PySem.Spec PyProof.Rows L2
section
variable {P : Program} {w : World} {K : Type} [DecidableEq K]
/-- what adding to a set asks of the kind besides -/
structure Ask (κ : HeapKind P w K) : Prop where
  stay : ∀ {h h' : Heap} {k : K} {b : Addr}, κ.is h k b → (∀ c o vs n, h.get? c = some o → o.data = .seq vs n → h'.get? c = some o) → κ.is h' k b
  noCls : ∀ {A : Around} {E : Value → Shared → Prop} {s : Shared} {k : K} {b : Addr} {Q : Bool → Shared → Prop}, κ.is s.heap k b → Q false s → wpAny (model P w) A (ofAClassStatement 8 (.ref b)) Q E s
  byVal : ∀ {A : Around} {E : Value → Shared → Prop} {s : Shared} {k : K} {b : Addr} {Q : Bool → Shared → Prop}, κ.is s.heap k b → Q true s → wpAny (model P w) A (hashByValue 8 (.ref b)) Q E s
variable {κ : HeapKind P w K} {A : Around} {E : Value → Shared → Prop} {s : Shared}
/-- asking for a key among keys shows nothing -/
theorem unseen (q : Ask κ) {k : K} {b : Addr} (hb : κ.is s.heap k b) {ys : List Value} (hys : ∀ y ∈ ys, ∃ k2 c, y = Value.ref c ∧ κ.is s.heap k2 c) {Q : Bool → Shared → Prop} (done : Q false s) :
    wpAny (model P w) A (searchCouldBeSeen (.ref b) ys) Q E s := by
  unfold searchCouldBeSeen
  refine wpAny_bind (wpAny_forIn_list _ (fun left acc z => (acc.1 = none ∧ z = s) ∧ ∀ y ∈ left, ∃ k2 c, y = Value.ref c ∧ κ.is s.heap k2 c) _ (fun y left acc z hz => ?_) (fun acc z hz => ?_) _ _ ⟨⟨rfl, rfl⟩, hys⟩)
  · obtain ⟨⟨h0, rfl⟩, hl⟩ := hz
    obtain ⟨k2, c, rfl, hc⟩ := hl y List.mem_cons_self
    have tl := fun u (hu : u ∈ left) => hl u (List.mem_cons_of_mem _ hu)
    dsimp only
    split
    · exact wpAny_pure ⟨⟨rfl, rfl⟩, tl⟩
    · refine wpAny_bind (κ.quiet hb ?_)
      simp only [Bool.not_true, Bool.false_eq_true, if_false]
      refine wpAny_bind (κ.quiet hc ?_)
      simp only [Bool.not_true, Bool.false_eq_true, if_false]
      refine wpAny_bind (q.noCls hb ?_)
      simp only [Bool.false_eq_true, if_false]
      refine wpAny_bind (q.noCls hc ?_)
      simp only [Bool.false_eq_true, if_false]
      exact wpAny_pure ⟨⟨rfl, rfl⟩, tl⟩
  · obtain ⟨⟨h0, rfl⟩, _⟩ := hz
    obtain ⟨r1, r2⟩ := acc
    simp only at h0
    subst h0
    exact wpAny_pure done
/-- the entries of a set of these keys -/
def ents (κ : HeapKind P w K) (L : List (Addr × K)) : List (Int × Value) := L.map fun e => (κ.hash e.2, .ref e.1)
theorem ents_len (L : List (Addr × K)) : (ents κ L).length = L.length := List.length_map _
/-- the set at a: its entries es, its table t, its keys L -/
structure Tbl (κ : HeapKind P w K) (h : Heap) (a : Addr) (L : List (Addr × K)) (es : Array (Int × Value)) (ep : Nat) (t : SetTable) : Prop where
  at' : ∃ o, h.get? a = some o ∧ o.ExactSet ∧ o.data = .set es ep t
  es' : es.toList = ents κ L
  tab : TabOk t (L.map fun e => κ.hash e.2)
  one : (L.map Prod.snd).Nodup
  key : ∀ e ∈ L, κ.is h e.2 e.1
  pl : t.plain = true
  ld : w.params.followText "set-order" = true ∨ t.led = true
  gap : L.length * 5 < t.mask * 3
variable {a : Addr} {L : List (Addr × K)} {es : Array (Int × Value)} {ep : Nat} {t : SetTable}
theorem Tbl.len (T : Tbl κ s.heap a L es ep t) : es.size = L.length := by
  rw [← Array.length_toList, T.es', ents_len]
theorem Tbl.psize (T : Tbl κ s.heap a L es ep t) : t.place.size = L.length := T.tab.sz.trans (List.length_map _)
theorem Tbl.fit (T : Tbl κ s.heap a L es ep t) : t.fits es.size = true := by
  have h1 := T.psize
  have h2 := T.len
  have h3 := T.gap
  unfold SetTable.fits SetTable.fill
  rw [T.tab.dm]
  simp only [Bool.and_eq_true, beq_iff_eq, decide_eq_true_eq]
  constructor
  · omega
  · show t.place.size + 0 ≤ _
    omega
theorem Tbl.nth (T : Tbl κ s.heap a L es ep t) {i : Nat} {e : Addr × K} (h : L[i]? = some e) : es[i]? = some (κ.hash e.2, Value.ref e.1) := by
  rw [← Array.getElem?_toList, T.es']
  simp [ents, h]
theorem Tbl.stays (T : Tbl κ s.heap a L es ep t) : ¬ t.gaveWay = true := by
  have := mask_odd T.tab.mok
  simp [SetTable.gaveWay, this]
/-- the probe at step c of the way for a hash, in a table of this mask -/
abbrev pr (m : Nat) (g : Int) (c : Nat) : SetTable.Probe := L2.nth m (runAt m (SetTable.bits g % (m + 1)) (SetTable.bits g)) c
theorem pr_j (m : Nat) (g : Int) (c : Nat) : (pr m g c).j = way m g c := rfl
theorem pr_add (m : Nat) (g : Int) (c d : Nat) : L2.nth m (pr m g c) d = pr m g (c + d) := (nth_add m c _ d).symm
theorem nth_dum (m : Nat) : ∀ (n : Nat) (p : SetTable.Probe), p.dummy = none → (L2.nth m p n).dummy = none
  | 0, _, h => h
  | n + 1, p, h => nth_dum m n (adv m p) (by unfold adv; split <;> exact h)
/-- THE SEARCH, from step c on -/
theorem hunt (T : Tbl κ s.heap a L es ep t) (q : Ask κ) {x : Addr} {k : K} (hx : κ.is s.heap k x) (hr : κ.room A) {N : Nat} (hN : N < 10 * SetTable.turns t.mask)
    (gap : way t.mask (κ.hash k) N ∉ t.place.toList) (full : ∀ c, c < N → way t.mask (κ.hash k) c ∈ t.place.toList) {Q : SetFound → Shared → Prop}
    (yes : k ∈ L.map Prod.snd → Q (.there none) s) (no : k ∉ L.map Prod.snd → Q (.free (way t.mask (κ.hash k) N) false) s) :
    ∀ (f c : Nat) (st : Option SetTable.Probe), st.getD (t.probeStart (κ.hash k)) = pr t.mask (κ.hash k) c → c ≤ N → N < f + c →
      (∀ (i : Nat) e, L[i]? = some e → e.2 = k → ∃ d, c ≤ d ∧ d < N ∧ t.place.toList[i]? = some (way t.mask (κ.hash k) d)) →
      wpAny (model P w) A (setSearchFrom a (.ref x) (κ.hash k) true f st) Q E s := by
  intro f
  induction f with
  | zero => intro c st _ h1 h2; omega
  | succ f ih =>
    intro c st hst hc hf ahead
    obtain ⟨o, ho, hex, hd⟩ := T.at'
    -- the hash that stands at i
    have hat : ∀ (i : Nat) e, L[i]? = some e → (es[i]?.map Prod.fst).getD 0 = κ.hash e.2 := fun i e he => by rw [T.nth he]; rfl
    have sp := go_spec t T.tab.ris T.tab.dm (fun i => (es[i]?.map Prod.fst).getD 0) (κ.hash k) (10 * SetTable.turns t.mask) (N - c) (pr t.mask (κ.hash k) c) (nth_dum _ c _ rfl) (by omega)
      (fun d hd' => by rw [pr_add, pr_j]; exact full _ (by omega)) (by rw [pr_add, pr_j, show c + (N - c) = N by omega]; exact gap)
    rw [setSearchFrom_succ]
    refine wpAny_bind (wpAny_setState_of ho hd T.fit ?_)
    dsimp only
    refine wp_if_neg T.stays ?_
    try refine wpAny_bind (wpAny_pure ?_)
    rcases sp with ⟨d, i, hd1, hi, hh, first, hp⟩ | ⟨none', hp⟩
    · -- somebody stands there
      have e0 : t.probe (fun i => (es[i]?.map Prod.fst).getD 0) (κ.hash k) (st.getD (t.probeStart (κ.hash k))) = some (.candidate (way t.mask (κ.hash k) (c + d)) i (pr t.mask (κ.hash k) (c + d + 1))) := by
        rw [hst, Nat.add_assoc, ← pr_add, ← pr_j, ← pr_add]
        exact hp
      rw [e0]
      dsimp only
      rw [pr_add, pr_j] at hi
      have il : i < L.length := by
        have h1 := (List.getElem?_eq_some_iff.mp hi).1
        rw [Array.length_toList, T.psize] at h1
        exact h1
      obtain ⟨e, he⟩ : ∃ e, L[i]? = some e := ⟨_, List.getElem?_eq_getElem il⟩
      have em : e ∈ L := List.mem_of_getElem? he
      have sl : t.slot (way t.mask (κ.hash k) (c + d)) = .live i := slot_live T.tab.ris hi
      have go : wpAny (model P w) A (searchRest a (.ref x) (κ.hash k) true f es t (way t.mask (κ.hash k) (c + d)) i (pr t.mask (κ.hash k) (c + d + 1))) Q E s := by
        unfold searchRest
        rw [T.nth he]
        dsimp only
        refine wpAny_bind (wpAny_holding (κ.eqBool hr (T.key e em) hx ?_))
        refine wpAny_bind (wpAny_setState_of ho hd T.fit ?_)
        dsimp only
        by_cases ek : e.2 = k
        · refine wp_if_pos (by simp [ek]) (wpAny_pure (yes ?_))
          exact List.mem_map.mpr ⟨e, em, ek⟩
        refine wp_if_neg (by simp [ek]) ?_
        try refine wpAny_bind (wpAny_pure ?_)
        rw [sameMem]
        dsimp only
        simp only [if_true, sl, T.nth he]
        refine wpAny_bind (wpAny_isSame_ref_self (wpAny_bind (wpAny_pure ?_)))
        simp only [if_true]
        refine wp_if_neg (by simp [ek]) ?_
        refine ih (c + d + 1) _ rfl (by omega) (by omega) fun j u hu uk => ?_
        obtain ⟨z, z1, z2, z3⟩ := ahead j u hu uk
        refine ⟨z, ?_, z2, z3⟩
        -- what is sought has not been passed
        by_cases lt : z < c + d
        · exact absurd ((hat j u hu).trans (congrArg κ.hash uk)) (first (z - c) j (by omega) (by rw [pr_add, pr_j, show c + (z - c) = z by omega]; exact z3))
        by_cases eq : z = c + d
        · subst eq
          have s2 := slot_live T.tab.ris z3
          rw [sl] at s2
          injection s2 with s2
          subst s2
          rw [he] at hu
          cases hu
          exact absurd uk ek
        omega
      by_cases tl : t.led = true
      · refine wp_if_neg (by simp [tl]) ?_
        try refine wpAny_bind (wpAny_pure ?_)
        exact go
      · refine wp_if_pos (by simp [tl]) ?_
        refine wpAny_bind (unseen q hx (fun y hy => ?_) ?_)
        · obtain ⟨u, hu, uy⟩ := List.mem_map.mp hy
          have hu2 : u ∈ es.toList := by
            rw [Array.toList_filter] at hu
            exact (List.mem_filter.mp hu).1
          rw [T.es'] at hu2
          obtain ⟨v, hv, vu⟩ := List.mem_map.mp hu2
          exact ⟨v.2, v.1, by rw [← uy, ← vu], T.key v hv⟩
        · refine wp_if_neg (by decide) ?_
          try refine wpAny_bind (wpAny_pure ?_)
          exact go
    · -- nobody stands there
      have e0 : t.probe (fun i => (es[i]?.map Prod.fst).getD 0) (κ.hash k) (st.getD (t.probeStart (κ.hash k))) = some (.empty (way t.mask (κ.hash k) N) none) := by
        have e1 : way t.mask (κ.hash k) N = (L2.nth t.mask (pr t.mask (κ.hash k) c) (N - c)).j := by
          rw [pr_add, pr_j, show c + (N - c) = N by omega]
        rw [hst, e1]
        exact hp
      rw [e0]
      dsimp only
      refine wpAny_pure (no fun hm => ?_)
      obtain ⟨u, hu, uk⟩ := List.mem_map.mp hm
      obtain ⟨j, hj⟩ := List.mem_iff_getElem?.mp hu
      obtain ⟨z, z1, z2, z3⟩ := ahead j u hj uk
      exact none' (z - c) j (by omega) (by rw [pr_add, pr_j, show c + (z - c) = z by omega]; exact z3) ((hat j u hj).trans (congrArg κ.hash uk))
/-- the search that adding makes -/
theorem seek (T : Tbl κ s.heap a L es ep t) (q : Ask κ) {x : Addr} {k : K} (hx : κ.is s.heap k x) (hr : κ.room A) {Q : SetFound → Shared → Prop}
    (yes : k ∈ L.map Prod.snd → Q (.there none) s)
    (no : ∀ N, k ∉ L.map Prod.snd → way t.mask (κ.hash k) N ∉ t.place.toList → (∀ c, c < N → way t.mask (κ.hash k) c ∈ t.place.toList) → Q (.free (way t.mask (κ.hash k) N) false) s) :
    wpAny (model P w) A (setSearch a (.ref x) (κ.hash k) true) Q E s := by
  obtain ⟨N, hN, gap, full⟩ := T.tab.first (by have := T.gap; rw [List.length_map]; omega) (κ.hash k)
  have small : 10 * SetTable.turns t.mask < 9999 := by
    unfold SetTable.turns
    rcases T.tab.mok with e | e | e <;> omega
  unfold setSearch
  refine hunt T q hx hr hN gap full yes (fun hn => no N hn gap full) _ 0 none rfl (Nat.zero_le _) (by omega) fun i e he ek => ?_
  have il : i < t.place.toList.length := by
    rw [Array.length_toList, T.psize]
    exact (List.getElem?_eq_some_iff.mp he).1
  obtain ⟨d, hd, e1⟩ := T.tab.before gap (i := i) (j := t.place.toList[i]) (by simp [he, ek]) (List.getElem?_eq_getElem il)
  exact ⟨d, Nat.zero_le _, hd, by rw [e1]; exact List.getElem?_eq_getElem il⟩
end
end Ca.SetK
set_option Elab.async false
set_option linter.all false
set_option maxRecDepth 100000
/-! sets whose elements are objects of any kind of keys: one more, and the table laid anew -/
namespace Ca.SetK
open PySem PySem.Spec PyProof.Rows L2
section
variable {P : Program} {w : World} {K : Type} [DecidableEq K] {κ : HeapKind P w K} {A : Around} {E : Value → Shared → Prop} {s : Shared}
/-- keys are no sets: they stay where a set alone is changed -/
theorem is_same (q : Ask κ) {h h' : Heap} {k : K} {a b : Addr} {o : Obj} {es : Array (Int × Value)} {ep : Nat} {t : SetTable} (hb : κ.is h k b) (ho : h.get? a = some o) (hd : o.data = .set es ep t) (sb : Heap.SameBut a h h') : κ.is h' k b := by
  refine q.stay hb fun c u vs n hu hs => ?_
  by_cases e : c = a
  · rw [e, ho] at hu
    rw [← Option.some.inj hu, hd] at hs
    cases hs
  · exact (sb.2 c e).trans hu
/-- a list with one put in -/
def ins {α : Type} (L : List α) (i : Nat) (x : α) : List α := L.take i ++ x :: L.drop i
theorem ins_perm {α : Type} (L : List α) (i : Nat) (x : α) : (ins L i x).Perm (x :: L) := by
  have h := List.perm_middle (a := x) (l₁ := L.take i) (l₂ := L.drop i)
  rwa [List.take_append_drop] at h
theorem ins_map {α β : Type} (f : α → β) (L : List α) (i : Nat) (x : α) : (ins L i x).map f = ins (L.map f) i (f x) := by
  simp [ins]
/-- entries in another order are the entries of the keys in that order -/
theorem turned (L : List (Addr × K)) (es : Array (Int × Value)) (he : es.toList = ents κ L) : ∀ is : List Nat, (∀ i ∈ is, i < L.length) →
    is.filterMap (fun i => es[i]?) = ents κ (is.filterMap fun i => L[i]?) ∧ ((is.filterMap fun i => L[i]?).map fun e => κ.hash e.2) = is.map fun i => (es.map Prod.fst).getD i 0
  | [], _ => ⟨rfl, rfl⟩
  | i :: is, h => by
    obtain ⟨ih1, ih2⟩ := turned L es he is fun j hj => h j (List.mem_cons_of_mem _ hj)
    have il := h i List.mem_cons_self
    obtain ⟨e, hi⟩ : ∃ e, L[i]? = some e := ⟨_, List.getElem?_eq_getElem il⟩
    have hes : es[i]? = some (κ.hash e.2, Value.ref e.1) := by
      rw [← Array.getElem?_toList, he]
      simp [ents, hi]
    have hf : (es.map Prod.fst).getD i 0 = κ.hash e.2 := by
      rw [Array.getD_eq_getD_getElem?, Array.getElem?_map, hes]
      rfl
    constructor
    · rw [List.filterMap_cons_some hes, List.filterMap_cons_some hi, ih1]
      rfl
    · rw [List.filterMap_cons_some hi, List.map_cons, List.map_cons, ih2, hf]
theorem all_back {α : Type} (L : List α) : (List.range L.length).filterMap (fun i => L[i]?) = L := by
  apply List.ext_getElem?
  intro j
  have h : ∀ n, n ≤ L.length → (List.range n).filterMap (fun i => L[i]?) = L.take n := by
    intro n
    induction n with
    | zero => intro _; rfl
    | succ n ih =>
      intro hn
      rw [List.range_succ, List.filterMap_append, ih (by omega), List.take_add_one]
      congr 1
  rw [h _ (Nat.le_refl _), List.take_length]
variable {a : Addr} {L : List (Addr × K)} {es : Array (Int × Value)} {ep : Nat} {t : SetTable}
/-- laid anew in a greater table -/
theorem relay (q : Ask κ) {o : Obj} (ho : s.heap.get? a = some o) (hx : o.ExactSet) (hd : o.data = .set es ep t) (he : es.toList = ents κ L) (hp : t.place.size = es.size) (dm : t.dummies = #[]) (fl : es.size ≤ t.mask)
    (one : (L.map Prod.snd).Nodup) (key : ∀ e ∈ L, κ.is s.heap e.2 e.1) (pl : t.plain = true) (ld : w.params.followText "set-order" = true ∨ t.led = true) {want M : Nat}
    (hw : SetTable.sizeAbove want - 1 = M) (hM : MaskOk M) (h128 : SetTable.sizeAbove want ≤ 128) (gap : L.length * 5 < M * 3) {Q : Unit → Shared → Prop}
    (next : ∀ h' L2 es2 ep2 t2, Heap.SameBut a s.heap h' → Tbl κ h' a L2 es2 ep2 t2 → L2.Perm L → Q () { s with heap := h' }) : wpAny (model P w) A (setRelay a want) Q E s := by
  have el : es.size = L.length := by rw [← Array.length_toList, he, ents_len]
  have fit : t.fits es.size = true := by
    unfold SetTable.fits SetTable.fill
    rw [dm]
    simp only [Bool.and_eq_true, beq_iff_eq, decide_eq_true_eq]
    exact ⟨hp, by show t.place.size + 0 ≤ _; omega⟩
  obtain ⟨t2, order, e, perm, tab, em, elD, epl, _⟩ := relaid_ok t (hs := es.map Prod.fst) (wanted := want) hw hM (by rw [Array.size_map, el]; omega)
  rw [Array.size_map, el] at perm
  obtain ⟨r1, r2⟩ := turned L es he order.toList fun i hi => List.mem_range.mp (perm.mem_iff.mp hi)
  have pm : (order.toList.filterMap fun i => L[i]?).Perm L := by
    have h := perm.filterMap fun i => L[i]?
    rwa [all_back] at h
  rw [← r2] at tab
  have ef : (order.filterMap fun i => es[i]?).toList = ents κ (order.toList.filterMap fun i => L[i]?) := by
    rw [Array.toList_filterMap]
    exact r1
  generalize (order.toList.filterMap fun i => L[i]?) = L2 at tab pm ef
  generalize hes2 : (order.filterMap fun i => es[i]?) = es2 at ef
  have sz : es2.size = es.size := by rw [← Array.length_toList, ef, ents_len, pm.length_eq, el]
  rw [setRelay_eq]
  refine wpAny_bind (wpAny_setState_of ho hd fit ?_)
  dsimp only
  refine wp_if_neg (by rw [sizeLine_eq]; omega) ?_
  try refine wpAny_bind (wpAny_pure ?_)
  rw [e]
  dsimp only
  rw [hes2]
  refine wpAny_bind ?_
  refine wp_if_neg (by simp [sz]) ?_
  try refine wpAny_bind (wpAny_pure ?_)
  refine wpAny_pure ?_
  dsimp only
  refine wpAny_storeSet_of ho hd ?_ (by rw [sz, el, sizeLine_eq]; have := gap; rcases hM with z | z | z <;> omega)
  have sb := Heap.SameBut.update s.heap a (Obj.putSet es2 t2)
  refine next _ L2 es2 (ep + 1) t2 sb ?_ pm
  exact { at' := ⟨_, store_at ho hd, ⟨hx.1, hx.2.1, hx.2.2⟩, rfl⟩, es' := ef, tab := tab, one := (pm.map Prod.snd).nodup_iff.mpr one,
          key := fun u hu => is_same q (key u (pm.mem_iff.mp hu)) ho hd sb, pl := epl.trans pl, ld := by rw [elD]; exact ld, gap := by rw [pm.length_eq, em]; exact gap }
/-- ADDING a key: the set holds it then -/
theorem put (T : Tbl κ s.heap a L es ep t) (q : Ask κ) {x : Addr} {k : K} (hx : κ.is s.heap k x) (hr : κ.room A) (few : L.length + 1 < 76) {Q : Bool → Shared → Prop}
    (next : ∀ b h' L2 es2 ep2 t2, Heap.SameBut a s.heap h' → Tbl κ h' a L2 es2 ep2 t2 → (k ∈ L.map Prod.snd → L2 = L) → (k ∉ L.map Prod.snd → L2.Perm ((x, k) :: L)) → Q b { s with heap := h' }) :
    wpAny (model P w) A (setAddHashed a (.ref x) (κ.hash k)) Q E s := by
  obtain ⟨o, ho, hex, hd⟩ := T.at'
  have el := T.len
  have gap := T.gap
  unfold setAddHashed
  refine wpAny_holding ?_
  rw [show (100000 : Nat) = 99999 + 1 from rfl, setAddHashedIn_succ]
  refine wpAny_bind (wpAny_setState_of ho hd T.fit ?_)
  dsimp only
  refine wp_if_neg (by simp [byScan, Value.scannable]) ?_
  try refine wpAny_bind (wpAny_pure ?_)
  refine wpAny_bind (seek T q hx hr (fun hm => ?_) fun N hm free full => ?_)
  · dsimp only
    exact wpAny_pure (next false s.heap L es ep t (Heap.SameBut.refl a s.heap) T (fun _ => rfl) fun z => (z hm).elim)
  dsimp only
  refine wpAny_bind (wpAny_setState_of ho hd T.fit ?_)
  dsimp only
  obtain ⟨p1, p2, p3, p4, p5, p6, _, _, p9⟩ := T.tab.put free full
  generalize hb : SetTable.below t.place (way t.mask (κ.hash k) N) = at0 at p1 p2 p3
  generalize hpt : t.put (way t.mask (κ.hash k) N) = pt at p1 p3 p4 p5 p6 p9 ⊢
  obtain ⟨t1, pos⟩ := pt
  dsimp only at p1 p3 p4 p5 p6 p9 ⊢
  subst p1
  have pl1 : t1.plain = true := p6.trans T.pl
  first
    | (refine wpAny_bind ?_; refine wp_if_pos pl1 ?_; refine q.byVal hx ?_)
    | refine wp_if_pos pl1 (wpAny_bind (q.byVal hx ?_))
  simp only [if_true]
  have e1 : (SetTable.insertAt es pos (κ.hash k, Value.ref x)).toList = ents κ (ins L pos (x, k)) := by
    rw [SetTable.toList_insertAt, T.es']
    unfold ents
    rw [ins_map]
    rfl
  have pm := ins_perm L pos (x, k)
  have ll : (ins L pos (x, k)).length = L.length + 1 := pm.length_eq
  have tab1 : TabOk t1 ((ins L pos (x, k)).map fun e => κ.hash e.2) := by
    rw [ins_map]
    exact p3
  have one1 : ((ins L pos (x, k)).map Prod.snd).Nodup := (pm.map Prod.snd).nodup_iff.mpr (List.nodup_cons.mpr ⟨hm, T.one⟩)
  generalize SetTable.insertAt es pos (κ.hash k, Value.ref x) = es1 at e1 ⊢
  generalize ins L pos (x, k) = L1 at e1 pm ll tab1 one1
  have sz : es1.size = L.length + 1 := by rw [← Array.length_toList, e1, ents_len, ll]
  refine wpAny_bind (wpAny_storeSet_of ho hd ?_ (by rw [sz, sizeLine_eq]; omega))
  have sb := Heap.SameBut.update s.heap a (Obj.putSet es1 t1)
  have ho1 := store_at (es' := es1) (t' := t1) ho hd
  generalize s.heap.update a (Obj.putSet es1 t1) = h1 at sb ho1 ⊢
  have key1 : ∀ e ∈ L1, κ.is h1 e.2 e.1 := fun e he => by
    rcases List.mem_cons.mp (pm.mem_iff.mp he) with z | z
    · rw [z]; exact is_same q hx ho hd sb
    · exact is_same q (T.key e z) ho hd sb
  have ld1 : w.params.followText "set-order" = true ∨ t1.led = true := by rw [p5]; exact T.ld
  have full1 : t1.tooFull = decide ((L.length + 1) * 5 ≥ t1.mask * 3) := by
    unfold SetTable.tooFull
    rw [p9, List.length_map]
  by_cases tf : t1.tooFull = true
  · first
      | (refine wpAny_bind ?_; refine wp_if_pos (by simp [tf]) ?_)
      | (refine wp_if_pos (by simp [tf]) ?_; refine wpAny_bind ?_)
    rw [full1, decide_eq_true_eq, p4] at tf
    rw [el]
    have go : ∀ M, SetTable.sizeAbove (SetTable.grown (L.length + 1)) = M + 1 → MaskOk M → (L.length + 1) * 5 < M * 3 →
        wpAny (model P w) A (setRelay a (SetTable.grown (L.length + 1))) (fun _ z => wpAny (model P w) A (pure true) Q E z) E { s with heap := h1 } := fun M m1 m2 m3 => by
      refine relay (s := { s with heap := h1 }) q ho1 ⟨hex.1, hex.2.1, hex.2.2⟩ rfl e1 (by rw [tab1.sz, List.length_map, ll, sz]) tab1.dm (by rw [sz, p4]; omega) one1 key1 pl1 ld1 (by omega) m2 (by rw [m1]; rcases m2 with z | z | z <;> omega) (by rw [ll]; exact m3) ?_
      intro h2 L2 es2 ep2 t2 sb2 T2 pm2
      exact wpAny_pure (next true h2 L2 es2 ep2 t2 (sb.trans sb2) T2 (fun z => (hm z).elim) fun _ => pm2.trans pm)
    rcases T.tab.mok with z | z | z
    · obtain e4 : L.length = 4 := by rw [z] at tf gap; omega
      exact go 31 (by rw [e4]; exact size_20) (.inr (.inl rfl)) (by omega)
    · obtain e18 : L.length = 18 := by rw [z] at tf gap; omega
      exact go 127 (by rw [e18]; exact size_76) (.inr (.inr rfl)) (by omega)
    · rw [z] at tf
      omega
  · first
      | refine wp_if_neg (by simp [tf]) ?_
      | (refine wpAny_bind ?_; refine wp_if_neg (by simp [tf]) ?_; refine wpAny_pure ?_)
    refine wpAny_pure (next true h1 L1 es1 (ep + 1) t1 sb ?_ (fun z => (hm z).elim) fun _ => pm)
    rw [full1, decide_eq_true_eq] at tf
    exact { at' := ⟨_, ho1, ⟨hex.1, hex.2.1, hex.2.2⟩, rfl⟩, es' := e1, tab := tab1, one := one1, key := key1, pl := pl1, ld := ld1, gap := by rw [ll]; omega }
end
end Ca.SetK
set_option Elab.async false
set_option linter.all false
set_option maxRecDepth 100000
/-! set(a list of keys) -/
namespace Ca.SetK
open PySem PySem.Spec PyProof.Rows L2
section
variable {P : Program} {w : World} {K : Type} [DecidableEq K] {κ : HeapKind P w K} {A : Around} {E : Value → Shared → Prop} {s : Shared}
/-- L has just the keys of the first i of ks -/
structure Had (ks : List (Addr × K)) (i : Nat) (L : List (Addr × K)) : Prop where
  from' : ∀ e ∈ L, e ∈ ks
  every : ∀ (j : Nat) e, j < i → ks[j]? = some e → e.2 ∈ L.map Prod.snd
  few : L.length ≤ i
theorem Had.none (ks : List (Addr × K)) : Had ks 0 [] := ⟨fun _ h => (by cases h), fun _ _ h => (by omega), Nat.le_refl _⟩
theorem Had.again {ks L : List (Addr × K)} {i : Nat} {e : Addr × K} (g : Had ks i L) (h : ks[i]? = some e) (m : e.2 ∈ L.map Prod.snd) : Had ks (i + 1) L :=
  ⟨g.from', fun j u hj hu => (by
    rcases Nat.lt_succ_iff_lt_or_eq.mp hj with z | rfl
    · exact g.every j u z hu
    · rw [h] at hu
      cases hu
      exact m), Nat.le_succ_of_le g.few⟩
theorem Had.more {ks L L2 : List (Addr × K)} {i : Nat} {e : Addr × K} (g : Had ks i L) (h : ks[i]? = some e) (pm : L2.Perm (e :: L)) : Had ks (i + 1) L2 :=
  ⟨fun u hu => (by
    rcases List.mem_cons.mp (pm.mem_iff.mp hu) with rfl | z
    · exact List.mem_of_getElem? h
    · exact g.from' u z), fun j u hj hu => (by
    rw [(pm.map Prod.snd).mem_iff, List.map_cons]
    rcases Nat.lt_succ_iff_lt_or_eq.mp hj with z | rfl
    · exact List.mem_cons_of_mem _ (g.every j u z hu)
    · rw [h] at hu
      cases hu
      exact List.mem_cons_self), by rw [pm.length_eq]; exact Nat.succ_le_succ g.few⟩
theorem is_keep (q : Ask κ) {h h' : Heap} {k : K} {b : Addr} (x : κ.is h k b) (hk : ∀ c o, h.get? c = some o → h'.get? c = some o) : κ.is h' k b := q.stay x fun c o _ _ e _ => hk c o e
theorem Tbl.keep (q : Ask κ) {h h' : Heap} {a : Addr} {L : List (Addr × K)} {es : Array (Int × Value)} {ep : Nat} {t : SetTable} (T : Tbl κ h a L es ep t) (ha : ∀ o, h.get? a = some o → h'.get? a = some o) (hk : ∀ e ∈ L, κ.is h' e.2 e.1) : Tbl κ h' a L es ep t := by
  obtain ⟨o, ho, r⟩ := T.at'
  exact { at' := ⟨o, ha o ho, r⟩, es' := T.es', tab := T.tab, one := T.one, key := hk, pl := T.pl, ld := T.ld, gap := T.gap }
/-- the object of a new set -/
abbrev fresh (w : World) : Obj := { cls := .type "set", dict := none, data := .set #[] 0 (.fresh 0 0 (!w.params.followText "set-order")) }
theorem tbl_new {h : Heap} {a : Addr} (ho : h.get? a = some (fresh w)) : Tbl κ h a [] #[] 0 (.fresh 0 0 (!w.params.followText "set-order")) where
  at' := ⟨_, ho, ⟨rfl, rfl, rfl⟩, rfl⟩
  es' := rfl
  tab := ⟨List.Pairwise.nil, rfl, rfl, .inl rfl, fun x hx => (by cases hx), fun i h j hi => (by simp at hi)⟩
  one := List.nodup_nil
  key := fun p hp => (by cases hp)
  pl := rfl
  ld := by
    show _ ∨ (!w.params.followText "set-order") = true
    cases w.params.followText "set-order" <;> simp
  gap := by
    show 0 * 5 < 7 * 3
    decide
/-- the turns of set(..) over what is walked -/
theorem turns (q : Ask κ) {I S : Addr} {fp wr : List Addr} {G : Array GenState → Array GenState → Prop} {n : Nat} {Pv : Nat → Value → Prop} {St : Nat → Shared → Prop} {R : Result → Shared → Prop} (W : WalksS P w A.in1 I fp wr G n Pv St) (nS : S ∉ fp)
    (ks : List (Addr × K)) (hn : n = ks.length) (few : ks.length < 76) (val : ∀ i v, Pv i v → ∃ e, ks[i]? = some e ∧ v = .ref e.1) (h0 : Heap) (hk : ∀ e ∈ ks, κ.is h0 e.2 e.1) (S0 : h0.get? S = none) (w0 : ∀ b ∈ wr, h0.get? b = none) (hr : κ.room A.in1) :
    ∀ (d i : Nat) (s : Shared), i + d = n → St i s → (∀ b o, h0.get? b = some o → s.heap.get? b = some o) → (∃ L es ep t, Tbl κ s.heap S L es ep t ∧ Had ks i L) →
      (∀ z L es ep t, Moved (S :: wr) G s z → Tbl κ z.heap S L es ep t → Had ks n L → (∀ b o, h0.get? b = some o → z.heap.get? b = some o) → R (.ok (.ret .none)) z) →
      codeAny (model P w) A (.builtin "set.update.loop" ⟨[.ref S, .ref I], []⟩) R s := by
  have nW : S ∉ wr := fun h => nS (W.sub _ h)
  have up : ∀ b ∈ wr, b ∈ S :: wr := fun b hb => List.mem_cons_of_mem _ hb
  have kept : ∀ {y z : Shared}, Moved wr G y z → (∀ b o, h0.get? b = some o → y.heap.get? b = some o) → ∀ b o, h0.get? b = some o → z.heap.get? b = some o := fun hm old b o e =>
    hm.heap b o (fun hb => by rw [w0 b hb] at e; cases e) (old b o e)
  intro d
  induction d with
  | zero =>
    intro i s hi st old ⟨L, es, ep, t, T, g⟩ out
    obtain rfl : i = n := by omega
    refine codeAny_builtin F.entry_set_update_loop ?_
    rw [Around.under_plainId F.plain_set_update_loop _]
    show wpAny _ A.in1 (pyNext (.ref I) >>= _) _ _ s
    refine wpAny_bind (W.done s _ _ st fun z hm => ?_)
    show wpAny _ A.in1 (ret Value.none) _ _ z
    have old2 := kept hm old
    exact wpAny_pure (out z L es ep t (hm.mono up) (T.keep q (fun o e => hm.heap S o nW e) fun e he => is_keep q (hk e (g.from' e he)) old2) g old2)
  | succ d ih =>
    intro i s hi st old ⟨L, es, ep, t, T, g⟩ out
    refine codeAny_builtin F.entry_set_update_loop ?_
    rw [Around.under_plainId F.plain_set_update_loop _]
    show wpAny _ A.in1 (pyNext (.ref I) >>= _) _ _ s
    refine wpAny_bind (W.item i s _ _ (by omega) st fun v z hv st2 hm => ?_)
    obtain ⟨e, he, rfl⟩ := val i v hv
    have old2 := kept hm old
    have T2 : Tbl κ z.heap S L es ep t := T.keep q (fun o e => hm.heap S o nW e) fun u hu => is_keep q (hk u (g.from' u hu)) old2
    have hx : κ.is z.heap e.2 e.1 := is_keep q (hk e (List.mem_of_getElem? he)) old2
    show wpAny _ A.in1 (holding [Value.ref e.1] (setAdd S (.ref e.1)) >>= _) _ _ z
    refine wpAny_bind (wpAny_holding ?_)
    unfold setAdd
    refine wpAny_holding (wpAny_bind (κ.pyHash hr hx ?_))
    refine put (s := { z with toks := z.toks + κ.draws e.2 }) T2 q hx hr (by have := g.few; omega) fun b h2 L2 es2 ep2 t2 sb T3 c1 c2 => ?_
    have g2 : Had ks (i + 1) L2 := by
      by_cases m : e.2 ∈ L.map Prod.snd
      · rw [c1 m]; exact g.again he m
      · exact g.more he (c2 m)
    have old3 : ∀ b o, h0.get? b = some o → h2.get? b = some o := fun b o u => (sb.2 b fun y => by rw [y, S0] at u; cases u).trans (old2 b o u)
    refine wpAny_pure ⟨plainId_quiet F.plain_set_update_loop _, ih (i + 1) _ (by omega) (W.frame _ z _ _ st2 (Nat.le_add_right _ _) fun b hb o u => ?_) old3 ⟨L2, es2, ep2, t2, T3, g2⟩ fun y L4 es4 ep4 t4 m4 T4 g4 old4 => ?_⟩
    · exact (sb.2 b fun y : b = S => nS (y ▸ hb)).trans u
    · refine out y L4 es4 ep4 t4 (Moved.trans W.gtrans ((hm.mono up).then_heap (Nat.le_add_right _ _) fun b o hb u => ?_) m4) T4 g4 old4
      exact (sb.2 b fun y : b = S => hb (y ▸ List.mem_cons_self)).trans u
end
end Ca.SetK
set_option Elab.async false
set_option linter.all false
set_option maxRecDepth 100000
set_option maxHeartbeats 3200000
/-! set(a list of keys): the call -/
namespace Ca.SetK
open PySem PySem.Spec PyProof.Rows L2
section
variable {P : Program} {w : World} {K : Type} [DecidableEq K] {κ : HeapKind P w K} {A : Around} {E : Value → Shared → Prop} {s : Shared}
/-- what stands behind the call -/
def Out (κ : HeapKind P w K) (s : Shared) (ks : List (Addr × K)) (z : Shared) : Prop := ∃ h2 tk L es ep t, z = { s with heap := h2, toks := tk } ∧ Tbl κ h2 s.heap.objs.size L es ep t ∧ Had ks ks.length L ∧ ∀ b o, s.heap.get? b = some o → h2.get? b = some o
/-- set.__init__ of a new set -/
theorem init_ (q : Ask κ) {l : Addr} {items : Array Value} (ks : List (Addr × K)) (hh : A.handled = none) (hl : s.heap.IsList l items) (hit : items.toList = ks.map fun e => Value.ref e.1)
    (hk : ∀ e ∈ ks, κ.is s.heap e.2 e.1) (few : ks.length < 76) (hr : κ.room A.in1) :
    wpAny (model P w) A (Builtin.«set.__init__» ⟨[.ref s.heap.objs.size, .ref l], []⟩) (fun fin z => match fin with
      | .done (.ret r) => r = .none ∧ Out κ s ks z
      | _ => False) E { s with heap := s.heap.push (fresh w) } := by
  have sz : items.size = ks.length := by rw [← Array.length_toList, hit, List.length_map]
  obtain ⟨ol, hol, hcl, nl, hdl⟩ := id hl
  have ll : l < s.heap.objs.size := Heap.lt_size hol
  have hl1 : (s.heap.push (fresh w)).IsList l items := hl.push _
  have z1 : (s.heap.push (fresh w)).objs.size = s.heap.objs.size + 1 := Heap.size_push ..
  have hT : Shared.TypeIs { s with heap := s.heap.push (fresh w) } (.ref l) "list" := hl1.typeIs
  have hsls := F.sub_list_set
  have hslf := F.sub_list_frozenset
  have hne : (Value.type "list" == Value.type "dict") = false := by decide
  have above : ∀ b, s.heap.objs.size ≤ b → s.heap.get? b = none := fun b hb => Heap.get?_none_of_le hb
  obtain ⟨ocls, odict, odata, oslots⟩ := ol
  simp only at hcl hdl
  subst hcl
  subst hdl
  have hol' : (s.heap.push (fresh w)).get? l = some { cls := .type "list", dict := odict, data := .seq items nl, slots := oslots } := Heap.get?_push_of_some _ hol
  have nI : l ≠ (s.heap.push (fresh w)).objs.size := by rw [z1]; exact Nat.ne_of_lt (Nat.lt_succ_of_lt ll)
  unfold Builtin.«set.__init__» noKeywords Builtin.Frozenset.updateFrom
  generalize hPI : pyIter = PI
  wp_walk
  subst hPI
  refine wpAny_pyIter_list hl1 ?_
  refine wpAny_bind (wpAny_runValue ?_)
  have hh1 : A.in1.handled = none := by simp [hh]
  have nS : s.heap.objs.size ∉ [(s.heap.push (fresh w)).objs.size, l] := by
    rw [z1]
    simp only [List.mem_cons, List.not_mem_nil, or_false, not_or]
    exact ⟨Nat.ne_of_lt (Nat.lt_succ_self _), Nat.ne_of_gt ll⟩
  have val : ∀ (i : Nat) (v : Value), items[i]? = some v → ∃ e, ks[i]? = some e ∧ v = .ref e.1 := fun i v hv => by
    rw [← Array.getElem?_toList, hit, List.getElem?_map] at hv
    cases hq : ks[i]? with
    | none => rw [hq] at hv; cases hv
    | some e =>
      rw [hq] at hv
      exact ⟨e, rfl, (Option.some.inj hv).symm⟩
  refine turns q ((Walks.list hh1 _ l nI items).toS) (S := s.heap.objs.size) nS ks sz few val s.heap hk (above _ (Nat.le_refl _)) (fun b hb => above b (by
    rw [List.mem_singleton.mp hb, z1]
    exact Nat.le_succ _)) hr items.size 0 _ (Nat.zero_add _) ⟨⟨_, Heap.get?_push_size _ rfl, rfl, rfl⟩, hl1.push _⟩ (fun b o e => Heap.get?_push_of_some _ (Heap.get?_push_of_some _ e)) ?_ ?_
  · exact ⟨[], #[], 0, _, tbl_new (Heap.get?_push_of_some _ (Heap.get?_push_size _ rfl)), Had.none ks⟩
  · intro z L es ep t hm T g old
    obtain ⟨h2, g2, d2, tk, os2⟩ := z
    obtain rfl : g2 = s.gens := hm.gens
    obtain rfl : d2 = s.drawn := hm.drawn
    obtain rfl : os2 = s.os := hm.os
    rw [sz] at g
    show wpAny _ _ _ _ _ _
    refine wpAny_pure ?_
    show wpAny _ _ (ret Value.none) _ _ _
    exact wpAny_pure ⟨rfl, h2, tk, L, es, ep, t, rfl, T, g, old⟩
/-- set(xs) -/
theorem call_set (q : Ask κ) {l : Addr} {items : Array Value} (ks : List (Addr × K)) (hh : A.handled = none) (hl : s.heap.IsList l items) (hit : items.toList = ks.map fun e => Value.ref e.1)
    (hk : ∀ e ∈ ks, κ.is s.heap e.2 e.1) (few : ks.length < 76) (hr : ∀ B : Around, B.units ≤ A.units + 4 → κ.room B) {Q : Value → Shared → Prop}
    (out : ∀ z, Out κ s ks z → Q (.ref s.heap.objs.size) z) : wpAny (model P w) A (call (.type "set") [.ref l]) Q E s := by
  obtain ⟨c, tl, hmro⟩ := F.called_set.mro
  have hmade := F.called_set.made
  have hsub := F.called_set.sub
  refine wpAny_call (codeAny_of_tree ?_)
  show wpAny _ _ (callAny (.type "set") _) _ _ _
  refine wpAny_pure ⟨Code.quiet_builtin _ (by decide +kernel), codeAny_builtin F.entry_type_call ?_⟩
  rw [Around.under_plain (weight_type_call_type "set" [.ref l] []) rfl]
  have c1 := F.called_set.notType
  have c2 := F.called_set.canCreate
  have c3 := F.typeCall_set_1 (.ref l)
  repeat (any_goals (first | assumption | wp_step))
  refine codeAny_mono (code_set_led1 (.ref l) (E := E) (Q₁ := fun v z => v = .ref s.heap.objs.size ∧ z = { s with heap := s.heap.push (fresh w) }) ⟨rfl, rfl⟩) fun r z hr1 => ?_
  cases r with
  | error e => exact hr1
  | ok fl =>
    cases fl with
    | ret v =>
      obtain ⟨rfl, rfl⟩ := hr1
      have hT : Shared.TypeIs { s with heap := s.heap.push (fresh w) } (.ref s.heap.objs.size) "set" := ⟨_, Heap.get?_push_size _ rfl, rfl⟩
      have i1 := F.called_set.init.lookup
      have i2 := F.called_set.init.bind (.ref s.heap.objs.size)
      repeat (any_goals (first | assumption | wp_step))
      refine codeAny_mono (codeAny_call_builtin (R := wants (fun r z => r = .none ∧ Out κ s ks z) E) F.called_set.init.plain F.entry_set_init (check_set_init_1 hT ?_)) fun r2 z2 hr2 => ?_
      · refine wpAny_mono (init_ (A := A.in1.in1) (E := E) q ks (by simp [hh]) hl hit hk few (hr _ (Nat.le_succ _))) (fun fin z hz => ?_) fun e z hz => hz
        cases fin with
        | done f =>
          cases f with
          | ret r => exact hz
          | _ => exact hz.elim
        | again _ => exact hz.elim
      · cases r2 with
        | error e => exact hr2
        | ok f2 =>
          cases f2 with
          | ret r =>
            obtain ⟨rfl, hz⟩ := hr2
            repeat (any_goals (first | assumption | wp_step))
            obtain ⟨h2, tk, L, es, ep, t, rfl, T, g, old⟩ := hz
            exact out _ ⟨h2, tk, L, es, ep, t, rfl, T, g, old⟩
          | _ => exact hr2.elim
    | _ => exact hr1.elim
end
end Ca.SetK
set_option Elab.async false
set_option linter.all false
set_option maxRecDepth 100000
/-! pairs of a tuple of whole numbers and a whole number, as keys -/
namespace Ca.SetK
open PySem PySem.Spec PyProof.Rows L2
abbrev Pk := List Int × Int
def encK (k : Pk) : NestedKey := .tup [.tup (k.1.map .num), .num k.2]
def encD (k : Pk) : PyData := .tuple [.tuple (k.1.map .int), .int k.2]
theorem encK_inj {x y : Pk} (h : encK x = encK y) : x = y := by
  obtain ⟨a, b⟩ := x
  obtain ⟨c, d⟩ := y
  simp only [encK, NestedKey.tup.injEq, List.cons.injEq, NestedKey.num.injEq, and_true] at h
  obtain ⟨h1, rfl⟩ := h
  have : a = c := by
    have inj : ∀ (u v : List Int), u.map NestedKey.num = v.map NestedKey.num → u = v := by
      intro u
      induction u with
      | nil => intro v hv; cases v with | nil => rfl | cons _ _ => cases hv
      | cons i u ih =>
        intro v hv
        cases v with
        | nil => cases hv
        | cons j v =>
          simp only [List.map_cons, List.cons.injEq, NestedKey.num.injEq] at hv
          rw [hv.1, ih v hv.2]
    exact inj a c h1
  rw [this]
theorem dep0 : ∀ ns : List Int, NestedKey.depthAll (ns.map .num) = 0
  | [] => rfl
  | n :: ns => by
    show max (NestedKey.depth (.num n)) (NestedKey.depthAll (ns.map .num)) = 0
    rw [dep0 ns]
    rfl
theorem depK (k : Pk) : (encK k).depth = 2 := by
  show max (NestedKey.depthAll (k.1.map .num) + 1) (max 0 0) + 1 = 2
  rw [dep0]
  rfl
/-- the tuple at b holds such a pair -/
def Kp (h : Heap) (k : Pk) (b : Addr) : Prop := ∃ (o o2 : Obj) (c : Addr) (us : Array Value) (tk : Tok) (n m : Nat), h.get? b = some o ∧ o.cls = .type "tuple" ∧ o.data = .seq #[.ref c, .int k.2 tk] n ∧ h.get? c = some o2 ∧ o2.cls = .type "tuple" ∧ o2.data = .seq us m ∧ IntsAre us.toList k.1
theorem nall {h : Heap} {us : List Value} {ns : List Int} (r : IntsAre us ns) : NestedAll h (ns.map .num) us := by
  induction r with
  | nil => exact .nil
  | cons i t _ ih => exact .cons (.int i t) ih
theorem rall {h : Heap} {us : List Value} {ns : List Int} (r : IntsAre us ns) : ReadsAll h us (ns.map .int) [] := by
  induction r with
  | nil => exact .nil
  | cons i t _ ih => exact ReadsAll.cons (as := []) (.int i t) ih
theorem Kp.nest {h : Heap} {k : Pk} {b : Addr} (x : Kp h k b) : NestedIs h (encK k) (.ref b) := by
  obtain ⟨o, o2, c, us, tk, n, m, h1, h2, h3, h4, h5, h6, h7⟩ := x
  exact .tup h1 h2 h3 (.cons (.tup h4 h5 h6 (nall h7)) (.cons (.int _ _) .nil))
theorem Kp.data {h : Heap} {k : Pk} {b : Addr} (x : Kp h k b) : Reads h (.ref b) (encD k) [] := by
  obtain ⟨o, o2, c, us, tk, n, m, h1, h2, h3, h4, h5, h6, h7⟩ := x
  exact .tuple h1 h2 h3 (ReadsAll.cons (as := []) (.tuple h4 h5 h6 (rall h7)) (ReadsAll.cons (as := []) (.int _ _) .nil))
theorem Kp.stay {h h' : Heap} {k : Pk} {b : Addr} (x : Kp h k b) (old : ∀ c o vs n, h.get? c = some o → o.data = .seq vs n → h'.get? c = some o) : Kp h' k b := by
  obtain ⟨o, o2, c, us, tk, n, m, h1, h2, h3, h4, h5, h6, h7⟩ := x
  exact ⟨o, o2, c, us, tk, n, m, old _ _ _ _ h1 h3, h2, h3, old _ _ _ _ h4 h6, h5, h6, h7⟩
section
variable {P : Program} {w : World}
/-- the kind of such keys -/
def pairK (P : Program) (w : World) : HeapKind P w Pk where
  is := Kp
  hash := fun k => (encK k).hash w
  draws := fun k => (encK k).draws
  room := fun A => A.units + 8 < cLine
  inj := fun hx hy => encK_inj (NestedIs.inj _ _ _ hx.nest hy.nest)
  keeps := fun {h h' k a d o es ep} x ho hd hs => x.stay fun c u vs n hu hc => by
    by_cases e : c = d
    · rw [e, ho] at hu
      rw [← Option.some.inj hu, hd] at hc
      cases hc
    · exact (hs.2 c e).trans hu
  pyHash := fun hu hk h => pyHash_key _ _ _ _ _ hk.nest (by rw [depK]; omega) h
  eqBool := fun {A E s x y a b Q} hu hx hy h => eqAt_key _ _ A s _ _ hx.nest hy.nest (by rw [depK, depK]; omega) _ _ _ _ (by
    rw [← NestedKey.decide_eq, show decide (encK x = encK y) = decide (x = y) from decide_eq_decide.mpr ⟨encK_inj, fun e => by rw [e]⟩]
    exact h)
  quiet := fun {A E s k a Q} hk h => quiet_key _ _ 8 s hk.nest (by rw [depK]; omega) A E Q h
variable {A : Around} {E : Value → Shared → Prop} {s : Shared}
/-- asked of a tuple: no class statement among what it holds -/
theorem noCls_tup {n : Nat} {b : Addr} {o : Obj} {vs : Array Value} {m : Nat} {Q : Bool → Shared → Prop} (ho : s.heap.get? b = some o) (hc : o.cls = .type "tuple") (hd : o.data = .seq vs m)
    (each : ∀ v ∈ vs.toList, ∀ Q : Bool → Shared → Prop, Q false s → wpAny (model P w) A (ofAClassStatement n v) Q E s) (h : Q false s) : wpAny (model P w) A (ofAClassStatement (n + 1) (.ref b)) Q E s := by
  have hT : s.TypeIs (.ref b) "tuple" := ⟨o, ho, hc⟩
  have e : (("tuple" : String) == "tuple") = true := by decide
  unfold ofAClassStatement
  refine wpAny_bind (wpAny_typeOf hT ?_)
  dsimp only
  simp only [e, if_true, Bool.not_true, Bool.false_eq_true, if_false]
  try refine wpAny_bind (wpAny_pure ?_)
  try simp only [Bool.not_true, Bool.false_eq_true, if_false]
  refine wpAny_bind (m := seqItems? (.ref b)) (wpAny_seqItems ho hd ?_)
  dsimp only
  refine wpAny_bind ?_
  show wpAny _ _ (forIn vs _ _) _ _ s
  rw [← Array.forIn_toList]
  refine wpAny_forIn_list _ (fun left acc z => (acc.1 = none ∧ z = s) ∧ ∀ v ∈ left, v ∈ vs.toList) _ (fun v left acc z hz => ?_) (fun acc z hz => ?_) _ _ ⟨⟨rfl, rfl⟩, fun v hv => hv⟩
  · obtain ⟨⟨h0, rfl⟩, hl⟩ := hz
    refine wpAny_bind (each v (hl v List.mem_cons_self) _ ?_)
    simp only [Bool.false_eq_true, if_false]
    exact wpAny_pure ⟨⟨rfl, rfl⟩, fun u hu => hl u (List.mem_cons_of_mem _ hu)⟩
  · obtain ⟨⟨h0, rfl⟩, _⟩ := hz
    obtain ⟨r1, r2⟩ := acc
    simp only at h0
    subst h0
    exact wpAny_pure h
/-- asked of a tuple: its hash is its value's, if those of what it holds are -/
theorem byVal_tup {n : Nat} {b : Addr} {o : Obj} {vs : Array Value} {m : Nat} {Q : Bool → Shared → Prop} (ho : s.heap.get? b = some o) (hc : o.cls = .type "tuple") (hd : o.data = .seq vs m)
    (each : ∀ v ∈ vs.toList, ∀ Q : Bool → Shared → Prop, Q true s → wpAny (model P w) A (hashByValue n v) Q E s) (h : Q true s) : wpAny (model P w) A (hashByValue (n + 1) (.ref b)) Q E s := by
  have hT : s.TypeIs (.ref b) "tuple" := ⟨o, ho, hc⟩
  unfold hashByValue
  refine wpAny_bind (wpAny_specialOf hT F.slot_tuple_hash.lookup ?_)
  refine wpAny_bind (m := seqItems? (.ref b)) (wpAny_seqItems ho hd ?_)
  refine wpAny_bind ?_
  show wpAny _ _ (forIn vs _ _) _ _ s
  rw [← Array.forIn_toList]
  refine wpAny_forIn_list _ (fun left acc z => (acc.1 = none ∧ z = s) ∧ ∀ v ∈ left, v ∈ vs.toList) _ (fun v left acc z hz => ?_) (fun acc z hz => ?_) _ _ ⟨⟨rfl, rfl⟩, fun v hv => hv⟩
  · obtain ⟨⟨h0, rfl⟩, hl⟩ := hz
    refine wpAny_bind (each v (hl v List.mem_cons_self) _ ?_)
    simp only [Bool.not_true, Bool.false_eq_true, if_false]
    exact wpAny_pure ⟨⟨rfl, rfl⟩, fun u hu => hl u (List.mem_cons_of_mem _ hu)⟩
  · obtain ⟨⟨h0, rfl⟩, _⟩ := hz
    obtain ⟨r1, r2⟩ := acc
    simp only at h0
    subst h0
    exact wpAny_pure h
theorem int_of {us : List Value} {ns : List Int} (r : IntsAre us ns) : ∀ v ∈ us, ∃ i t, v = Value.int i t := by
  induction r with
  | nil => intro v hv; cases hv
  | cons i t _ ih =>
    intro v hv
    rcases List.mem_cons.mp hv with rfl | z
    · exact ⟨i, t, rfl⟩
    · exact ih v z
theorem askK : Ask (pairK P w) where
  stay := fun x old => Kp.stay x old
  noCls := fun {A E s k b Q} x h => by
    obtain ⟨o, o2, c, us, tk, n, m, h1, h2, h3, h4, h5, h6, h7⟩ := x
    refine noCls_tup (n := 7) h1 h2 h3 (fun v hv Q2 hq => ?_) h
    have hv2 : v = .ref c ∨ v = .int k.2 tk := by simpa using hv
    rcases hv2 with rfl | rfl
    · refine noCls_tup (n := 6) h4 h5 h6 (fun u hu Q3 hq3 => ?_) hq
      obtain ⟨i, t, rfl⟩ := int_of h7 u hu
      rw [ofAClass_int]
      exact wpAny_pure hq3
    · rw [ofAClass_int]
      exact wpAny_pure hq
  byVal := fun {A E s k b Q} x h => by
    obtain ⟨o, o2, c, us, tk, n, m, h1, h2, h3, h4, h5, h6, h7⟩ := x
    refine byVal_tup (n := 7) h1 h2 h3 (fun v hv Q2 hq => ?_) h
    have hv2 : v = .ref c ∨ v = .int k.2 tk := by simpa using hv
    rcases hv2 with rfl | rfl
    · refine byVal_tup (n := 6) h4 h5 h6 (fun u hu Q3 hq3 => ?_) hq
      obtain ⟨i, t, rfl⟩ := int_of h7 u hu
      rw [hashBy_int]
      exact wpAny_pure hq3
    · rw [hashBy_int]
      exact wpAny_pure hq
end
end Ca.SetK
set_option Elab.async false
set_option linter.all false
set_option maxRecDepth 100000
set_option maxHeartbeats 1600000
/-! sorted(set(..)) of pairs of a tuple of whole numbers and a whole number: over the layer -/
namespace Ca.SetK
open PySem PySem.Spec PyProof.Rows PySem.W L2
section
variable {P : Program} {w : World} {A : Around} {E : Value → Shared → Prop} {s : Shared}
theorem alikeK (x y : Addr × Pk) : alike (encD x.2) (encD y.2) = true := by
  show (alikeAll (x.2.1.map .int) (y.2.1.map .int) && (true && true)) = true
  rw [alike_ints]
  rfl
theorem depD (k : Pk) : (encD k).depth ≤ 2 := by
  have h : (encD k).depth = max (PyData.depthAll (k.1.map .int) + 1) (max 0 0) + 1 := rfl
  rw [h, depth_ints]
  decide
/-- values that are those of keys, in some order -/
theorem as_keys {L : List (Addr × Pk)} : ∀ vs : List Value, (∀ v ∈ vs, ∃ e ∈ L, v = Value.ref e.1) → ∃ L1 : List (Addr × Pk), vs = L1.map (fun e => Value.ref e.1) ∧ ∀ e ∈ L1, e ∈ L
  | [], _ => ⟨[], rfl, fun e h => (by cases h)⟩
  | v :: vs, h => by
    obtain ⟨e, he, rfl⟩ := h v List.mem_cons_self
    obtain ⟨L1, rfl, h1⟩ := as_keys vs fun u hu => h u (List.mem_cons_of_mem _ hu)
    exact ⟨e :: L1, rfl, fun u hu => (List.mem_cons.mp hu).elim (fun z => z ▸ he) (h1 u)⟩
/-- sorted(a set of keys): its keys, in some order -/
theorem sorted_set {a : Addr} {L : List (Addr × Pk)} {es : Array (Int × Value)} {ep : Nat} {t : SetTable} {Q : Value → Shared → Prop} (T : Tbl (pairK P w) s.heap a L es ep t) (hh : A.handled = none) (hu : A.units + 8 < cLine)
    (out : ∀ (z : Shared) (p : Addr) (vs : Array Value) (c : Nat) (L2 : List (Addr × Pk)), (∀ b o, s.heap.get? b = some o → z.heap.get? b = some o) → z.gens = s.gens → z.os = s.os → s.heap.objs.size ≤ p →
      z.heap.get? p = some (seqObj "list" vs c) → vs.toList = L2.map (fun e => Value.ref e.1) → L2.Perm L → Q (.ref p) z) :
    wpAny (model P w) A (call (.builtin "sorted") [.ref a]) Q E s := by
  obtain ⟨o, ho, hex, hd⟩ := T.at'
  have el := T.len
  have few : L.length < 77 := by
    have h1 := T.gap
    rcases T.tab.mok with z | z | z <;> omega
  refine Calls.call_function_entry kind_sorted plain_sorted entry_sorted (args_sorted1 _) ?_
  unfold Builtin.«sorted»
  refine wpAny_bind (m := checkCount "sorted" 1 1 _) (wpAny_pure ?_)
  refine wpAny_bind (collect_set (A := A.in1) hh ⟨o, ho, hex.1, hd⟩ T.fit (by unfold scanBound; omega) T.tab.ris T.ld fun s1 vs old zs g1 o1 pm => ?_)
  have e0 : es.toList.map (·.2) = L.map fun e => Value.ref e.1 := by
    rw [T.es']
    simp [ents]
  rw [e0] at pm
  -- an address holds one key
  have inj : ∀ e ∈ L, ∀ u ∈ L, e.1 = u.1 → e = u := fun e he u hu eq => by
    have k1 := T.key e he
    rw [eq] at k1
    exact Prod.ext eq ((pairK P w).inj k1 (T.key u hu))
  have nL : L.Nodup := List.Pairwise.of_map Prod.snd (fun _ _ hn e => hn (congrArg Prod.snd e)) T.one
  obtain ⟨L1, rfl, sub⟩ := as_keys (L := L) vs fun v hv => by
    obtain ⟨e, he, eq⟩ := List.mem_map.mp (pm.mem_iff.mp hv)
    exact ⟨e, he, eq.symm⟩
  have n1 : L1.Nodup := by
    have n2 : (L.map fun e => Value.ref e.1).Nodup := List.pairwise_map.mpr (nL.imp_of_mem fun {e u} he hu hn eq => hn (inj e he u hu (by injection eq)))
    exact List.Pairwise.of_map (fun e : Addr × Pk => Value.ref e.1) (fun _ _ hn e => hn (congrArg (fun e : Addr × Pk => Value.ref e.1) e)) (pm.nodup_iff.mpr n2)
  have p1 : L1.Perm L := (List.perm_ext_iff_of_nodup n1 nL).mpr fun e => ⟨sub e, fun he => by
    obtain ⟨u, hu, eq⟩ := List.mem_map.mp (pm.mem_iff.mpr (List.mem_map.mpr ⟨e, he, rfl⟩))
    injection eq with eq
    rw [← inj u (sub u hu) e he eq]
    exact hu⟩
  have l1 : L1.length < 77 := by rw [p1.length_eq]; exact few
  refine wpAny_bind (wpAny_newList ?_ (by rw [List.length_map, sizeLine_eq]; omega))
  have hl : (s1.heap.push (seqObj "list" (L1.map fun e => Value.ref e.1).toArray 0)).get? s1.heap.objs.size = some (seqObj "list" (L1.map fun e => Value.ref e.1).toArray 0) := Heap.get?_push_size _ rfl
  have both : EachIs (fun v (e : Addr × Pk) => v = Value.ref e.1 ∧ e ∈ L) (L1.map fun e => Value.ref e.1) L1 := by
    have h : ∀ l : List (Addr × Pk), (∀ e ∈ l, e ∈ L) → EachIs (fun v (e : Addr × Pk) => v = Value.ref e.1 ∧ e ∈ L) (l.map fun e => Value.ref e.1) l := by
      intro l
      induction l with
      | nil => intro _; exact .nil
      | cons e l ih => intro h; exact .cons ⟨rfl, h e List.mem_cons_self⟩ (ih fun u hu => h u (List.mem_cons_of_mem _ hu))
    exact h L1 sub
  have reads : EachIs (fun v (e : Addr × Pk) => ∃ as, Reads (s1.heap.push (seqObj "list" (L1.map fun e => Value.ref e.1).toArray 0)) v (encD e.2) as ∧ s1.heap.objs.size ∉ as) (L1.map fun e => Value.ref e.1) L1 :=
    both.mono fun v e ⟨h1, h2⟩ => by
      subst h1
      exact ⟨[], (is_keep askK (T.key e h2) fun c u hc => Heap.get?_push_of_some _ (old c u hc)).data, by simp⟩
  refine wpAny_bind (wpAny_holding (PySem.W.list_sort_data (s := { s1 with heap := s1.heap.push (seqObj "list" (L1.map fun e => Value.ref e.1).toArray 0) }) (R := fun v (e : Addr × Pk) => v = Value.ref e.1 ∧ e ∈ L) (enc := fun e : Addr × Pk => encD e.2) hl both reads
    (PySem.W.AllAlike.of alikeK) (PySem.W.Sortable.tuples fun b => ⟨_, _, rfl⟩) (by rw [sizeLine_eq]; omega) (fun b _ => by have := depD b.2; show A.units + 1 + 1 + _ < _; omega) fun vs2 len2 each2 => ?_))
  obtain ⟨c, hc⟩ := sortedHeap_at (vs := L1.map fun e => Value.ref e.1) (out := List.toArray vs2) hl
  have e2 : vs2 = (L1.mergeSort (PySem.W.dataLe false fun e : Addr × Pk => encD e.2)).map fun e => Value.ref e.1 := by
    have h : ∀ (x : List Value) (y : List (Addr × Pk)), EachIs (fun v (e : Addr × Pk) => v = Value.ref e.1 ∧ e ∈ L) x y → x = y.map fun e => Value.ref e.1 := by
      intro x y r
      induction r with
      | nil => rfl
      | cons r _ ih => rw [List.map_cons, ← ih, r.1]
    exact h _ _ each2
  refine wpAny_pure ⟨_, rfl, out _ s1.heap.objs.size (List.toArray vs2) c _ (fun b u e => ?_) g1 o1 zs hc (by rw [← e2]) ((List.mergeSort_perm _ _).trans p1)⟩
  have e3 := old b u e
  have lt := Heap.lt_size e3
  show (sortedHeap _ _ _ _).get? b = some u
  rw [sortedHeap_old (Nat.ne_of_lt lt) (by rw [size_push']; exact Nat.lt_succ_of_lt lt)]
  exact Heap.get?_push_of_some _ e3
end
end Ca.SetK
set_option Elab.async false
set_option linter.all false
set_option maxRecDepth 100000
set_option maxHeartbeats 1600000
/-! sorted(set(a list of pairs)): the rules of the layer -/
namespace Ca.SetK
open PySem PySem.Spec PyProof.Rows PySem.W L2
/-- the pair at p, over the layer -/
def PkV (K : PySem.W.Frag) (H : Hp) (k : Pk) (p : Addr) : Prop := ∃ t, SqT K H p [.ref t, .int k.2] ∧ SqT K H t (k.1.map .int)
theorem sqt_up {K : PySem.W.Frag} {H H' : Hp} {p : Addr} {xs : List V} (x : SqT K H p xs) (e : ∀ c u, H c = some u → H' c = some u) : SqT K H' p xs := by
  rcases x with h | h
  · rcases h with h | ⟨o, h⟩
    · exact .inl (.inl (e _ _ h))
    · exact .inl (.inr ⟨o, e _ _ h⟩)
  · exact .inr h
theorem PkV.up {K : PySem.W.Frag} {H H' : Hp} {k : Pk} {p : Addr} (x : PkV K H k p) (e : ∀ c u, H c = some u → H' c = some u) : PkV K H' k p := by
  obtain ⟨t, h1, h2⟩ := x
  exact ⟨t, sqt_up h1 e, sqt_up h2 e⟩
theorem PkV.upd {K : PySem.W.Frag} {H : Hp} {k : Pk} {p : Addr} {b : Addr} {o : HO} (x : PkV K H k p) (nb : H b = none) : PkV K (L2.upd H b o) k p := by
  obtain ⟨t, h1, h2⟩ := x
  have e : ∀ c u, H c = some u → L2.upd H b o c = some u := fun c u hc => by
    unfold L2.upd
    rw [if_neg (fun z => by rw [z, nb] at hc; cases hc)]
    exact hc
  exact ⟨t, sqt_up h1 e, sqt_up h2 e⟩
/-- the set at a, its keys apart -/
def Set0 (P : Program) (w : World) (h : Heap) (a : Addr) (L : List (Addr × Pk)) : Prop := ∃ (es : Array (Int × Value)) (ep : Nat) (t : SetTable), (∃ o, h.get? a = some o ∧ o.ExactSet ∧ o.data = .set es ep t) ∧ es.toList = ents (pairK P w) L ∧
  TabOk t (L.map fun e => (pairK P w).hash e.2) ∧ (L.map Prod.snd).Nodup ∧ t.plain = true ∧ (w.params.followText "set-order" = true ∨ t.led = true) ∧ L.length * 5 < t.mask * 3
def SetO (P : Program) (w : World) (a : Addr) (L : List (Addr × Pk)) : HO := .ext fun h => Set0 P w h a L
theorem Set0.of {P : Program} {w : World} {h : Heap} {a : Addr} {L : List (Addr × Pk)} {es : Array (Int × Value)} {ep : Nat} {t : SetTable} (T : Tbl (pairK P w) h a L es ep t) : Set0 P w h a L :=
  ⟨es, ep, t, T.at', T.es', T.tab, T.one, T.pl, T.ld, T.gap⟩
theorem Set0.whole {P : Program} {w : World} {h : Heap} {a : Addr} {L : List (Addr × Pk)} (x : Set0 P w h a L) (key : ∀ e ∈ L, Kp h e.2 e.1) : ∃ es ep t, Tbl (pairK P w) h a L es ep t := by
  obtain ⟨es, ep, t, h1, h2, h3, h4, h5, h6, h7⟩ := x
  exact ⟨es, ep, t, { at' := h1, es' := h2, tab := h3, one := h4, key := key, pl := h5, ld := h6, gap := h7 }⟩
theorem setO_ok {P : Program} {w : World} {H : Hp} {h : Heap} {a : Addr} {L : List (Addr × Pk)} (x : Set0 P w h a L) : ObjOk P w H h a (SetO P w a L) := by
  have ⟨_, _, _, ⟨o, ho, _⟩, _⟩ := x
  refine ⟨x, ⟨o, ho⟩, fun h1 h2 y k => ?_⟩
  obtain ⟨es, ep, t, ⟨o2, ho2, r2⟩, r⟩ := (show Set0 P w h1 a L from y)
  exact ⟨es, ep, t, ⟨o2, k o2 ho2, r2⟩, r⟩
theorem ints_vals : ∀ {ns : List Int} {us : List Value}, Vals (ns.map V.int) us → IntsAre us ns
  | [], _, .nil => .nil
  | n :: ns, _, .cons r t => by
    obtain ⟨tk, rfl⟩ := r
    exact .cons n tk (ints_vals t)
theorem refs_vals : ∀ {ks : List (Addr × Pk)} {us : List Value}, Vals (ks.map fun e => V.ref e.1) us → us = ks.map fun e => Value.ref e.1
  | [], _, .nil => rfl
  | e :: ks, _, .cons r t => by
    cases r
    rw [refs_vals t]
    rfl
theorem vals_refs : ∀ ks : List (Addr × Pk), Vals (ks.map fun e => V.ref e.1) (ks.map fun e => Value.ref e.1)
  | [] => .nil
  | e :: ks => .cons rfl (vals_refs ks)
section
variable {X : Cx} {pins : List (Addr × Obj)} {σ : L2.St} {H : Hp} {s : Shared}
theorem kp_of (I : Inv X pins σ H s) {k : Pk} {p : Addr} (x : PkV X.K H k p) : Kp s.heap k p := by
  obtain ⟨t, h1, h2⟩ := x
  obtain ⟨its, r, ⟨o, ho, hc, n, hd⟩, _⟩ := I.tuple h1
  obtain ⟨its2, r2, ⟨o2, ho2, hc2, n2, hd2⟩, _⟩ := I.tuple h2
  cases r with
  | cons ra rr =>
    cases rr with
    | cons rb rn =>
      cases rn
      cases ra
      obtain ⟨tk, rfl⟩ := rb
      exact ⟨o, o2, t, its2.toArray, tk, n, n2, ho, hc, hd, ho2, hc2, hd2, by simpa using ints_vals r2⟩
/-- set(xs) -/
def rSetK (K : PySem.W.Frag) (P : Program) (w : World) : List V → Hp → VK → Prop := fun xs H Q => ∃ (l : Addr) (ks : List (Addr × Pk)), xs = [V.ref l] ∧ SqL K H l (ks.map fun e => V.ref e.1) ∧ (∀ e ∈ ks, PkV K H e.2 e.1) ∧ ks.length < 76 ∧
  ∀ a L, H a = none → (∀ e ∈ L, e ∈ ks) → (∀ e ∈ ks, e.2 ∈ L.map Prod.snd) → L.length ≤ ks.length → Q (.ref a) (L2.upd H a (SetO P w a L))
theorem cr_setK (hc : X.calm = true) (hu : X.A.units + 64 < cLine) : CallR X (.type "set") (rSetK X.K X.prog X.w) := by
  intro pins s σ H xs us Q I r h
  obtain ⟨l, ks, rfl, hl, hk, few, q⟩ := h
  rw [Vals.ref1 r]
  obtain ⟨its, rv, pl, _⟩ := I.list hl
  refine call_set (κ := pairK X.prog X.w) askK ks (I.ok.hd hc) pl.isList (by simpa using refs_vals rv) (fun e he => kp_of I (hk e he)) few (fun B hB => by show B.units + 8 < cLine; omega) fun z hz => ?_
  obtain ⟨h2, tk, L, es, ep, t, rfl, T, g, old⟩ := hz
  refine ⟨.ref s.heap.objs.size, L2.upd H s.heap.objs.size (SetO X.prog X.w s.heap.objs.size L), I.laid (t' := tk) old (Nat.le_refl _) (setO_ok (Set0.of T)), rfl, q _ L (I.hok.fresh (Nat.le_refl _)) g.from' (fun e he => ?_) g.few⟩
  obtain ⟨j, hj⟩ := List.mem_iff_getElem?.mp he
  exact g.every j e (List.getElem?_eq_some_iff.mp hj).1 hj
/-- sorted(set) -/
def rSortK (K : PySem.W.Frag) (P : Program) (w : World) : List V → Hp → VK → Prop := fun xs H Q => ∃ (a : Addr) (L : List (Addr × Pk)), xs = [V.ref a] ∧ H a = some (SetO P w a L) ∧ (∀ e ∈ L, PkV K H e.2 e.1) ∧
  ∀ (M : List (Addr × Pk)) (p : Addr), M.Perm L → H p = none → Q (.ref p) (L2.upd H p (.lst (M.map fun e => V.ref e.1)))
theorem cr_sortK (hc : X.calm = true) (hu : X.A.units + 64 < cLine) : CallR X (.builtin "sorted") (rSortK X.K X.prog X.w) := by
  intro pins s σ H xs us Q I r h
  obtain ⟨a, L, rfl, ha, hk, q⟩ := h
  rw [Vals.ref1 r]
  have S0 : Set0 X.prog X.w s.heap a L := (I.hok a _ ha).1
  obtain ⟨es, ep, t, T⟩ := S0.whole fun e he => kp_of I (hk e he)
  have few : L.length < 77 := by
    have h1 := T.gap
    rcases T.tab.mok with z | z | z <;> omega
  refine sorted_set T (I.ok.hd hc) (by omega) fun z p vs c L2' old g o hp hg hv pm => ?_
  have len : (L2'.map fun e => V.ref e.1).length ≤ sizeLine := by rw [List.length_map, pm.length_eq, sizeLine_eq]; omega
  have hn : H p = none := I.hok.fresh hp
  have rv : Vals (L2'.map fun e => V.ref e.1) vs.toList := by rw [hv]; exact vals_refs L2'
  have J : Inv X pins σ (L2.upd H p (.lst (L2'.map fun e => V.ref e.1))) { s with heap := z.heap, gens := z.gens, drawn := z.drawn, toks := z.toks } :=
    I.call (ch := []) (Un.laid old hp hn) (I.hok.laid old hp ⟨len, vs.toList, c, rv, hg⟩) (by rw [g]; exact I.bare) (fun _ y => nomatch y)
  have e : z = { s with heap := z.heap, gens := z.gens, drawn := z.drawn, toks := z.toks } := by
    cases z
    cases s
    cases o
    rfl
  rw [e]
  exact ⟨.ref p, _, J, rfl, q L2' p pm hn⟩
end
end Ca.SetK
set_option Elab.async false
set_option linter.all false
set_option maxRecDepth 100000
set_option maxHeartbeats 8000000
namespace Ca
open PySem L2
/-! ### the law's own leaving out of the last unknown -/
def mixR (r t : FRow) : FRow := (mixI r.1 t.1, r.2 * -lastI t.1 + t.2 * lastI r.1)
def zeroR (ks : List FRow) : List FRow := (ks.filter fun r => decide (lastI r.1 = 0)).map fun r => (r.1.dropLast, r.2)
def overR (r t : FRow) : Bool := decide (lastI r.1 > 0) && decide (lastI t.1 < 0)
def pairsR (r : FRow) (ts : List FRow) : List FRow := (ts.filter (overR r)).map (mixR r)
def foundR (ks : List FRow) : List FRow := zeroR ks ++ ks.flatMap fun r => pairsR r ks
theorem foundR_iff (ks : List FRow) (p : FRow) : p ∈ foundR ks ↔ FoundF ks p := by
  unfold foundR zeroR pairsR overR mixR FoundF
  simp only [List.mem_append, List.mem_map, List.mem_filter, List.mem_flatMap, decide_eq_true_eq, Bool.and_eq_true]
  constructor
  · rintro (⟨r, ⟨h1, h2⟩, rfl⟩ | ⟨r, hr, t, ⟨h1, h2, h3⟩, rfl⟩)
    · exact .inl ⟨r, h1, h2, rfl⟩
    · exact .inr ⟨r, hr, t, h1, h2, h3, rfl⟩
  · rintro (⟨r, h1, h2, rfl⟩ | ⟨r, hr, t, h1, h2, h3, rfl⟩)
    · exact .inl ⟨r, ⟨h1, h2⟩, rfl⟩
    · exact .inr ⟨r, hr, t, ⟨h1, h2, h3⟩, rfl⟩
theorem flat_len (ks : List FRow) (c : Nat) (f : FRow → List FRow) (g : FRow → Bool) (h : ∀ r, (f r).length = if g r then c else 0) : (ks.flatMap f).length = (ks.filter g).length * c := by
  induction ks with
  | nil => simp
  | cons r ks ih =>
    rw [List.flatMap_cons, List.length_append, ih, h r, List.filter_cons]
    split
    · rw [List.length_cons, Nat.succ_mul]
      omega
    · omega
theorem three_len (ks : List FRow) : (ks.filter fun r => decide (lastI r.1 = 0)).length + (ks.filter fun r => decide (lastI r.1 > 0)).length + (ks.filter fun r => decide (lastI r.1 < 0)).length = ks.length := by
  induction ks with
  | nil => rfl
  | cons r ks ih =>
    simp only [List.filter_cons, decide_eq_true_eq]
    by_cases h0 : lastI r.1 = 0
    · rw [if_pos h0, if_neg (by omega), if_neg (by omega)]
      simp only [List.length_cons]
      omega
    · by_cases h1 : lastI r.1 > 0
      · rw [if_neg h0, if_pos h1, if_neg (by omega)]
        simp only [List.length_cons]
        omega
      · rw [if_neg h0, if_neg h1, if_pos (by omega)]
        simp only [List.length_cons]
        omega
theorem mul17 : ∀ a : Fin 18, ∀ b : Fin 18, a.val + b.val ≤ 17 → 17 - a.val - b.val + a.val * b.val ≤ 72 := by decide +kernel
theorem mul8 : ∀ a : Fin 9, ∀ b : Fin 9, a.val + b.val ≤ 8 → 8 - a.val - b.val + a.val * b.val ≤ 16 := by decide +kernel
theorem mul9 : ∀ a : Fin 9, ∀ b : Fin 9, a.val + b.val ≤ 8 → 9 - a.val - b.val + a.val * b.val ≤ 17 := by decide +kernel
theorem found_len {ks : List FRow} (h : ks.length ≤ 17) : (foundR ks).length ≤ 72 ∧ (ks.length ≤ 8 → (foundR ks).length ≤ 16) ∧ (ks.length ≤ 9 → (∃ k ∈ ks, lastI k.1 = 0) → (foundR ks).length ≤ 17) := by
  have e : (foundR ks).length = (ks.filter fun r => decide (lastI r.1 = 0)).length + (ks.filter fun r => decide (lastI r.1 > 0)).length * (ks.filter fun r => decide (lastI r.1 < 0)).length := by
    unfold foundR
    rw [List.length_append, flat_len ks (ks.filter fun r => decide (lastI r.1 < 0)).length _ (fun r => decide (lastI r.1 > 0)) fun r => ?_]
    · unfold zeroR
      rw [List.length_map]
    · unfold pairsR overR
      rw [List.length_map]
      by_cases c : lastI r.1 > 0
      · rw [if_pos (decide_eq_true c)]
        simp [c]
      · rw [if_neg (by simp [c])]
        simp [c]
  have t := three_len ks
  have zp : (∃ k ∈ ks, lastI k.1 = 0) → 1 ≤ (ks.filter fun r => decide (lastI r.1 = 0)).length := fun ⟨k, hk, h0⟩ => List.length_pos_of_mem (List.mem_filter.mpr ⟨hk, decide_eq_true h0⟩)
  rw [e]
  generalize (ks.filter fun r => decide (lastI r.1 = 0)).length = z at *
  generalize (ks.filter fun r => decide (lastI r.1 > 0)).length = p at *
  generalize (ks.filter fun r => decide (lastI r.1 < 0)).length = n at *
  refine ⟨?_, fun h8 => ?_, fun h9 h0 => ?_⟩
  · have := mul17 ⟨p, by omega⟩ ⟨n, by omega⟩ (by show p + n ≤ 17; omega)
    dsimp only at this
    omega
  · have := mul8 ⟨p, by omega⟩ ⟨n, by omega⟩ (by show p + n ≤ 8; omega)
    dsimp only at this
    omega
  · have z1 := zp h0
    have := mul9 ⟨p, by omega⟩ ⟨n, by omega⟩ (by show p + n ≤ 8; omega)
    dsimp only at this
    omega
/-! ### the program's -/
abbrev encD := SetK.encD
theorem ints_fd {K : PySem.W.Frag} {H : Hp} : ∀ {xs : List V} {cs : List Int}, DqAll K H xs (cs.map .int) → xs = cs.map V.int
  | [], [], _ => rfl
  | x :: xs, c :: cs, .cons d t => by
    rw [ints_fd t]
    cases d
    rfl
theorem pk_at {K : PySem.W.Frag} {H : Hp} {v : V} {k : FRow} (h : Dq K H v (encD k)) : ∃ a t, v = .ref a ∧ SqT K H a [.ref t, .int k.2] ∧ SqT K H t (k.1.map V.int) := by
  obtain ⟨a, xs, rfl, ha, da, hl⟩ := tup_len h
  cases da with
  | cons d1 t =>
    cases t with
    | cons d2 t =>
      cases t
      obtain ⟨t, ys, rfl, ht, dt, _⟩ := tup_len d1
      rw [ints_fd dt] at ht
      cases d2
      exact ⟨a, t, rfl, ha, ht⟩
theorem pk_of {K : PySem.W.Frag} {H : Hp} {a t : Addr} {k : FRow} (h1 : SqT K H a [.ref t, .int k.2]) (h2 : SqT K H t (k.1.map V.int)) : Dq K H (.ref a) (encD k) :=
  .tup h1 (.cons (.tup h2 (by
    generalize k.1 = l
    induction l with
    | nil => exact .nil
    | cons i l ih => exact .cons (.int i) ih)) (.cons (.int _) .nil))
theorem pk_upd {K : PySem.W.Frag} {H : Hp} {y : Addr} {v : V} {ys : List V} {o : HO} {k : FRow} (hy : H y = some (.lst ys)) (h : Dq K H v (encD k)) : Dq K (upd H y o) v (encD k) := by
  obtain ⟨a, t, rfl, h1, h2⟩ := pk_at h
  exact pk_of (sqt_updT hy h1) (sqt_updT hy h2)
theorem pks_upd {K : PySem.W.Frag} {H : Hp} {y : Addr} {ys : List V} {o : HO} (hy : H y = some (.lst ys)) : ∀ {ks : List FRow} {vs : List V}, DqAll K H vs (ks.map encD) → DqAll K (upd H y o) vs (ks.map encD)
  | [], _, h => by cases h; exact .nil
  | k :: ks, _, h => by
    cases h with
    | cons a b => exact .cons (pk_upd hy a) (pks_upd hy b)
theorem keys_of {K : PySem.W.Frag} {H : Hp} : ∀ {vs : List V} {ks : List FRow}, DqAll K H vs (ks.map encD) → ∃ es : List (Addr × FRow), vs = es.map (fun e => V.ref e.1) ∧ es.map Prod.snd = ks ∧ ∀ e ∈ es, SetK.PkV K H e.2 e.1
  | [], [], _ => ⟨[], rfl, rfl, fun e h => by cases h⟩
  | v :: vs, k :: ks, .cons a b => by
    obtain ⟨c, t, rfl, h1, h2⟩ := pk_at a
    obtain ⟨es, rfl, rfl, he⟩ := keys_of b
    exact ⟨(c, k) :: es, rfl, rfl, fun e h => (List.mem_cons.mp h).elim (fun z => z ▸ ⟨t, h1, h2⟩) (he e)⟩
theorem dq_keys {K : PySem.W.Frag} {H : Hp} : ∀ {es : List (Addr × FRow)}, (∀ e ∈ es, SetK.PkV K H e.2 e.1) → DqAll K H (es.map fun e => V.ref e.1) ((es.map Prod.snd).map encD)
  | [], _ => .nil
  | e :: es, h => by
    obtain ⟨t, h1, h2⟩ := h e List.mem_cons_self
    exact .cons (pk_of h1 h2) (dq_keys fun u hu => h u (List.mem_cons_of_mem _ hu))
abbrev NWl : List Str := ["_law_rows_here", "_law_row", "_law_bound", "_law_found", "_law_mate", "_law_mate_bound", "_law_both", "_law_a", "_law_b"]
def SmF (b : Nat) (r : FRow) : Prop := (∀ x ∈ r.1, x.natAbs < 2 ^ b) ∧ r.2.natAbs < 2 ^ b
theorem last_sm {b : Nat} {r : List Int} (h : ∀ x ∈ r, x.natAbs < 2 ^ b) : (lastI r).natAbs < 2 ^ b := by
  unfold lastI
  rw [List.getD_eq_getElem?_getD]
  cases e : r[r.length - 1]? with
  | none => exact Nat.pow_pos (by decide)
  | some x => exact h x (List.mem_of_getElem? e)
theorem mix_sm {b : Nat} {x y p q : Int} (h1 : x.natAbs < 2 ^ b) (h2 : y.natAbs < 2 ^ b) (h3 : p.natAbs < 2 ^ b) (h4 : q.natAbs < 2 ^ b) : (x * -y + p * q).natAbs < 2 ^ (2 * b + 1) := by
  have a1 : (x * -y).natAbs ≤ 2 ^ b * 2 ^ b := by
    rw [Int.natAbs_mul, Int.natAbs_neg]
    exact Nat.mul_le_mul (Nat.le_of_lt h1) (Nat.le_of_lt h2)
  have a2 : (p * q).natAbs < 2 ^ b * 2 ^ b := by
    rw [Int.natAbs_mul]
    exact Nat.mul_lt_mul'' h3 h4
  have e : 2 ^ (2 * b + 1) = 2 * (2 ^ b * 2 ^ b) := by
    rw [Nat.pow_succ, Nat.two_mul, Nat.pow_add, Nat.mul_comm]
  rw [e]
  omega
theorem found_sm {b : Nat} {ks : List FRow} (h : ∀ r ∈ ks, SmF b r) {p : FRow} (hp : FoundF ks p) : SmF (2 * b + 1) p := by
  rcases hp with ⟨r, hr, _, rfl⟩ | ⟨r, hr, t, ht, _, _, rfl⟩
  · have up : 2 ^ b ≤ 2 ^ (2 * b + 1) := Nat.pow_le_pow_right (by decide) (by omega)
    exact ⟨fun x hx => Nat.lt_of_lt_of_le ((h r hr).1 x (List.dropLast_subset _ hx)) up, Nat.lt_of_lt_of_le (h r hr).2 up⟩
  · refine ⟨fun x hx => ?_, mix_sm (h r hr).2 (last_sm (h t ht).1) (h t ht).2 (last_sm (h r hr).1)⟩
    obtain ⟨i, hi⟩ := List.mem_iff_getElem?.mp hx
    unfold mixI at hi
    rw [List.getElem?_zipWith] at hi
    cases e1 : r.1.dropLast[i]? with
    | none => rw [e1] at hi; cases hi
    | some u =>
      cases e2 : t.1.dropLast[i]? with
      | none => rw [e1, e2] at hi; cases hi
      | some v =>
        rw [e1, e2] at hi
        cases hi
        exact mix_sm ((h r hr).1 _ (List.dropLast_subset _ (List.mem_of_getElem? e1))) (last_sm (h t ht).1) ((h t ht).1 _ (List.dropLast_subset _ (List.mem_of_getElem? e2))) (last_sm (h r hr).1)
theorem sm_mulW {b : Nat} {i j : Int} (hb : b ≤ 100000) (h1 : i.natAbs < 2 ^ b) (h2 : j.natAbs < 2 ^ b) : CMulW i j := by
  have l : ∀ k : Int, k.natAbs < 2 ^ b → k.natAbs.log2 ≤ b := fun k hk => by
    by_cases z : k.natAbs = 0
    · rw [z]
      exact Nat.zero_le _
    · exact Nat.le_of_lt ((Nat.log2_lt z).mpr hk)
  have := l i h1
  have := l j h2
  show _ + _ < 1000000
  omega
def spWl (K : PySem.W.Frag) : Sp := fun vs H Q _ => ∃ l us, ∃ ks : List FRow, ∃ n b, vs = [.ref l] ∧ SqL K H l us ∧ DqAll K H us (ks.map encD) ∧ (∀ k ∈ ks, k.1.length = n + 1) ∧ ks.length ≤ 17 ∧ (∀ k ∈ ks, SmF b k) ∧ b ≤ 100000 ∧ n ≤ 3 ∧
  ∀ H' l' us', ∀ ks' : List FRow, Same H H' → SqL K H' l' us' → DqAll K H' us' (ks'.map encD) → (∀ k, k ∈ ks' ↔ FoundF ks k) → ks'.length ≤ (foundR ks).length → Q (.ref l') H'
theorem slT {X : Cx} (K : PySem.W.Frag) (h : X.K = K := by rfl) : SlR X (rSlA K) := h ▸ sl_tupA
section
variable {P : Program} {w : World} {K : PySem.W.Frag} {mg : Str → Option Value} {base : Heap}
theorem scWl : FnScope NWl ["_law_rows_here"] (defScope sLawWithoutLast) := ⟨rfl, rfl, rfl, by decide +kernel, rfl, by decide +kernel, by decide +kernel⟩
theorem ok_wl {f : Addr} {fd : FuncData} (F : FnT K "_law_without_last" sLawWithoutLast f fd) (mtup : mg "tuple" = none) (mzip : mg "zip" = none) (mset : mg "set" = none) (msor : mg "sorted" = none) :
    FnOk P w K mg base CX0 1 f fd ["_law_rows_here"] (spWl K) := by
  refine F.ok scWl (fun vs H Q E h => ?_) (fun cdv A outer s H vs Q E hr h => ?_)
  · obtain ⟨l, us, ks, n, b, rfl, _⟩ := h
    rfl
  · obtain ⟨l, us, ks, n, b, rfl, hl, du, hn, h16, sm, hb, n3, q⟩ := h
    have nd := scWl.nd
    refine ⟨_, PSs.nox (pss_cons (ps_cut (ps_setLc (i := 3) (own := [("_law_row", 1), ("_law_bound", 2)]) (g := gTup K 2 (gCons (gName 1) (gCons (gName 2) gNil))) rfl nd rfl rfl (sw_true rfl rfl rfl (by decide +kernel)) (pi_list (pv 0))
          (blkOk_by (own := [("_law_row", 1), ("_law_bound", 2)]) (N := NWl) (sc := defScope sLawWithoutLast) (by decide +kernel))
          (fun _ _ _ _ _ => pgTt K rfl (pgs_cons (pg_name (i := 1) nd rfl (Or.inl rfl)) (pgs_cons (pg_name (i := 2) nd rfl (Or.inl rfl)) pgs_nil)))
          (fun _ _ _ _ _ => pts_one (pt_cmpR op_eq (pe_ix (ixT K) (pv 1) (pe_un un_neg pe_int) (fun _ _ => rfl)) pe_int (nomark _)))
          (fun _ _ _ _ _ => pe_tup (pa_cons (pe_slice (slT K) (pv 1) po_none (po_some (pe_un un_neg pe_int))) (pa_cons (pv 2) pa_nil)))))
      (pss_cons (ps_for PassesOwn.never rfl (pi_list (pv 0)) (pgTt K rfl (pgs_cons (pg_name (i := 1) nd rfl (.inr rfl)) (pgs_cons (pg_name (i := 2) nd rfl (.inl rfl)) pgs_nil)))
        (pss_one (ps_for PassesOwn.never rfl (pi_list (pv 0)) (pgTt K rfl (pgs_cons (pg_name (i := 4) nd rfl (.inr rfl)) (pgs_cons (pg_name (i := 5) nd rfl (.inl rfl)) pgs_nil)))
          (pss_one (ps_if (PW.pt (pw_and (pt_cmpR op_gt (pe_ix (ixT K) (pv 1) (pe_un un_neg pe_int) (fun _ _ => rfl)) pe_int (nomark _)) (pw_and1 (pt_cmpR op_lt (pe_ix (ixT K) (pv 4) (pe_un un_neg pe_int) (fun _ _ => rfl)) pe_int (nomark _)))))
            (pss_cons (ps_set (i := 6) nd rfl (.inl rfl) (pe_callTy call_tuple_of (by rfl) mtup (by decide +kernel) (pa_cons (pe_lc (own := [("_law_a", 7), ("_law_b", 8)]) (g := gTup K 2 (gCons (gName 7) (gCons (gName 8) gNil))) (tt := tYes) rfl nd
                (RZ.pi_zipA (by rfl) mzip (pa_cons (pe_slice sl_tupA (pv 1) po_none (po_some (pe_un un_neg pe_int))) (pa_cons (pe_slice sl_tupA (pv 4) po_none (po_some (pe_un un_neg pe_int))) pa_nil)))
                (blkOk_by (own := [("_law_a", 7), ("_law_b", 8)]) (N := NWl) (sc := defScope sLawWithoutLast) (by decide +kernel))
                (fun _ _ _ _ _ => pgTt K rfl (pgs_cons (pg_name (i := 7) nd rfl (Or.inl rfl)) (pgs_cons (pg_name (i := 8) nd rfl (Or.inl rfl)) pgs_nil))) (fun _ _ _ _ _ => pts_nil)
                (fun _ _ _ _ _ => pe_op op_add (pe_op op_mulW (pv 7) (pe_un un_neg (pe_ix (ixT K) (pv 4) (pe_un un_neg pe_int) (fun _ _ => rfl)))) (pe_op op_mulW (pv 8) (pe_ix (ixT K) (pv 1) (pe_un un_neg pe_int) (fun _ _ => rfl))))) pa_nil)))
            (pss_one (ps_expr (pe_bm PySem.F.plainAttrs_list PySem.F.slot_list_append PySem.F.type_list_append mt_append (pv 3) (pa_cons (pe_tup (pa_cons (pv 6) (pa_cons (pe_op op_add (pe_op op_mulW (pv 2) (pe_un un_neg (pe_ix ix_tup (pv 4) (pe_un un_neg pe_int) (fun _ _ => rfl)))) (pe_op op_mulW (pv 5) (pe_ix ix_tup (pv 1) (pe_un un_neg pe_int) (fun _ _ => rfl)))) pa_nil))) pa_nil)))))
            pss_nil)))))
      (pss_one (ps_ret (pe_callB (SetK.cr_sortK rfl hr.units) (by rfl) msor (by decide +kernel) (pa_cons (pe_callTy (SetK.cr_setK rfl hr.units) (by rfl) mset (by decide +kernel) (pa_cons (pv 3) pa_nil)) pa_nil)))))), ?_⟩
    have lu : us.length = ks.length := by
      have := du.len
      rwa [List.length_map] at this
    have take1 : ∀ (i : Nat) (r : FRow), ks[i]? = some r → zeroR (ks.take (i + 1)) = zeroR (ks.take i) ++ if lastI r.1 = 0 then [(r.1.dropLast, r.2)] else [] := fun i r hr0 => by
      unfold zeroR
      rw [List.take_succ, hr0, List.filter_append, List.map_append]
      congr 1
      simp only [Option.toList, List.filter_cons, decide_eq_true_eq, List.filter_nil]
      split <;> rfl
    have row : ∀ {H2 : Hp} {i : Nat} {z : V}, Same H H2 → us[i]? = some z → ∃ r a t m, ks[i]? = some r ∧ r ∈ ks ∧ z = .ref a ∧ SqT K H2 a [.ref t, .int r.2] ∧ SqT K H2 t (r.1.map V.int) ∧ r.1.length = m + 1 ∧ m = n ∧ atI (r.1.map V.int) (-1) = some (.int (lastI r.1)) ∧ cutV (r.1.map V.int) none (some (-1)) = r.1.dropLast.map V.int := by
      intro H2 i z s2 hz
      obtain ⟨d, hd, dq⟩ := (du.same s2).get hz
      rw [List.getElem?_map] at hd
      cases hk : ks[i]? with
      | none => rw [hk] at hd; cases hd
      | some r =>
        rw [hk] at hd
        cases hd
        obtain ⟨a, t, rfl, h1, h2⟩ := pk_at dq
        have hm := List.mem_of_getElem? hk
        have hrl := hn r hm
        refine ⟨r, a, t, n, rfl, hm, rfl, h1, h2, hrl, rfl, atI_neg (n := n) (by rw [List.length_map, hrl]) ?_, ?_⟩
        · unfold lastI
          rw [hrl, List.getElem?_map, List.getD_eq_getElem?_getD, Nat.add_sub_cancel, List.getElem?_eq_getElem (by omega)]
          rfl
        · rw [cut_lastT _ n (by rw [List.length_map, hrl]), List.dropLast_eq_take, hrl, List.map_take]
          rfl
    refine ⟨fun σ' H' => ∃ p vs, σ' = [some (.ref l), none, none, some (.ref p), none, none, none, none, none] ∧ H p = none ∧ Same H H' ∧ H' p = some (.lst vs) ∧ DqAll K H' vs ((zeroR ks).map encD), ?_, ?_⟩
    · refine ⟨_, rfl, l, rfl, ⟨_, hl⟩, fun D hD => ?_⟩
      refine lc_it (walk_list (K := K) (a := l) (xs := us)) (fun i H' => Same H H' ∧ ∃ vs, H' D = some (.lst vs) ∧ DqAll K H' vs ((zeroR (ks.take i)).map encD)) ⟨Same.new hD, [], upd_same, .nil⟩ (fun i H' hi p => hl.ext p.1) ?_ ?_
      · rintro i z H2 H2x hi ⟨s2, vs, bD, dvs⟩ ⟨e2, hz⟩
        subst e2
        obtain ⟨r, a, t, m, hk, hm, rfl, h1, h2, hrl, rfl, e1, e2⟩ := row s2 hz
        refine ⟨a, _, rfl, h1, rfl, _, _, rfl, _, _, rfl, rfl, ⟨rfl, ?_⟩⟩
        refine ⟨_, rfl, _, rfl, t, _, -1, _, rfl, rfl, h2, e1, rfl, _, rfl, ?_⟩
        by_cases z0 : lastI r.1 = 0
        · rw [z0, decide_eq_true rfl]
          refine iteT ?_
          refine ⟨_, rfl, rd_no ⟨_, rfl, _, rfl, rd_slA h2 fun H5 c s5 hc => ⟨_, rfl, Nat.le_of_ble_eq_true rfl, fun u hu => ?_⟩⟩⟩
          have nDu : u ≠ D := fun z => by rw [z, s5 _ _ bD] at hu; cases hu
          have s6 := Same.new (o := .tup [.ref c, .int r.2]) hu
          have s56 := s5.trans s6
          refine ⟨vs, s56 _ _ bD, ?_, ?_⟩
          · have := dvs.len
            rw [List.length_map] at this
            have : (zeroR (ks.take i)).length ≤ i := by
              unfold zeroR
              rw [List.length_map]
              exact Nat.le_trans (List.length_filter_le _ _) (by rw [List.length_take]; exact Nat.min_le_left _ _)
            exact Nat.lt_of_le_of_lt (show vs.length ≤ 17 by omega) (by decide)
          · rw [e2] at hc
            have dk : Dq K (upd H5 u (.tup [.ref c, .int r.2])) (.ref u) (encD (r.1.dropLast, r.2)) := pk_of (k := (r.1.dropLast, r.2)) (SqT.of upd_same) (same_sqt s6 hc)
            have noH : H D = none := hD
            refine ⟨fun b o e => ?_, _, upd_same, ?_⟩
            · rw [upd_ne (ne_of_none e hD)]
              exact s56 _ _ (s2 _ _ e)
            · rw [take1 i r hk, if_pos z0, List.map_append]
              exact (pks_upd (s56 _ _ bD) (dvs.same s56)).app (.cons (pk_upd (s56 _ _ bD) dk) .nil)
        · rw [decide_eq_false (fun e => z0 (V.int.inj e))]
          exact iteF ⟨s2, vs, bD, by rw [take1 i r hk, if_neg z0, List.append_nil]; exact dvs⟩
      · rintro H2 ⟨s2, vs, bD, dvs⟩
        rw [lu, List.take_length] at dvs
        exact ⟨D, vs, rfl, hD, s2, bD, dvs⟩
    rintro _ H1 ⟨p, vs0, rfl, hp0, s1, hp1, dvs0⟩
    have take2 : ∀ (r : FRow) (i : Nat) (t : FRow), ks[i]? = some t → pairsR r (ks.take (i + 1)) = pairsR r (ks.take i) ++ if overR r t then [mixR r t] else [] := fun r i t hr0 => by
      unfold pairsR
      rw [List.take_succ, hr0, List.filter_append, List.map_append]
      congr 1
      simp only [Option.toList, List.filter_cons, List.filter_nil]
      split <;> rfl
    have few : ∀ (r : FRow) (k i : Nat), (zeroR ks ++ (ks.take k).flatMap (fun r => pairsR r ks) ++ pairsR r (ks.take i)).length < 1000 := fun r k i => by
      have a1 : (zeroR ks).length ≤ 17 := by
        unfold zeroR
        rw [List.length_map]
        exact Nat.le_trans (List.length_filter_le _ _) h16
      have a2 : ∀ (ts : List FRow) (r : FRow), ts.length ≤ 17 → (pairsR r ts).length ≤ 17 := fun ts r ht => by
        unfold pairsR
        rw [List.length_map]
        exact Nat.le_trans (List.length_filter_le _ _) ht
      have a3 : ∀ ts : List FRow, (ts.flatMap fun r => pairsR r ks).length ≤ 17 * ts.length := by
        intro ts
        induction ts with
        | nil => exact Nat.zero_le _
        | cons u ts ih =>
          rw [List.flatMap_cons, List.length_append, List.length_cons]
          have := a2 ks u h16
          omega
      have a4 := a3 (ks.take k)
      have a5 : (ks.take k).length ≤ 17 := by rw [List.length_take]; exact Nat.le_trans (Nat.min_le_right _ _) h16
      have a6 := a2 (ks.take i) r (by rw [List.length_take]; exact Nat.le_trans (Nat.min_le_right _ _) h16)
      rw [List.length_append, List.length_append]
      omega
    have hl1 := hl.ext s1
    have id0 : Same H H := fun _ _ e => e
    refine ⟨_, rfl, l, rfl, ⟨_, hl1⟩, ?_⟩
    refine for_it (walk_list (K := K) (a := l) (xs := us)) (fun k σ' H' => Same H H' ∧ ∃ vs o1 o2 o4 o5 o6, σ' = [some (.ref l), o1, o2, some (.ref p), o4, o5, o6, none, none] ∧ H' p = some (.lst vs) ∧ DqAll K H' vs ((zeroR ks ++ (ks.take k).flatMap fun r => pairsR r ks).map encD))
      ⟨s1, vs0, _, _, _, _, _, rfl, hp1, by rw [List.take_zero, List.flatMap_nil, List.append_nil]; exact dvs0⟩ (fun k σ' H' hk y => hl.ext y.1) ?_ (fun σ' H' y => ?_)
    · rintro k z _ H2 H2x hk ⟨s2, vs, o1, o2, o4, o5, o6, rfl, hp2, dvs⟩ ⟨e2, hz⟩
      subst e2
      obtain ⟨r, a, t, m, hkr, hm, rfl, h1, h2, hrl, rfl, e1, e2⟩ := row id0 hz
      refine ⟨a, _, rfl, same_sqt s2 h1, rfl, _, _, rfl, _, _, rfl, rfl, ?_⟩
      refine ⟨_, rfl, l, rfl, ⟨_, hl.ext s2⟩, ?_⟩
      refine for_it (walk_list (K := K) (a := l) (xs := us)) (fun i σ' H' => Same H H' ∧ ∃ vs o4 o5 o6, σ' = [some (.ref l), some (.ref t), some (.int r.2), some (.ref p), o4, o5, o6, none, none] ∧ H' p = some (.lst vs) ∧ DqAll K H' vs ((zeroR ks ++ (ks.take k).flatMap (fun r => pairsR r ks) ++ pairsR r (ks.take i)).map encD))
        ⟨s2, vs, _, _, _, rfl, hp2, by rw [List.take_zero]; show DqAll K _ vs ((_ ++ []).map encD); rw [List.append_nil]; exact dvs⟩ (fun i σ' H' hi y => hl.ext y.1) ?_ (fun σ' H' y => ?_)
      · rintro i z _ H3 H3x hi ⟨s3, vs3, o4, o5, o6, rfl, hp3, dvs3⟩ ⟨e3, hz3⟩
        subst e3
        obtain ⟨r2, a2, t2, m2, hkr2, hm2, rfl, h12, h22, hrl2, rfl, e12, e22⟩ := row id0 hz3
        refine ⟨a2, _, rfl, same_sqt s3 h12, rfl, _, _, rfl, _, _, rfl, rfl, ?_⟩
        have ht3 := same_sqt s3 h2
        have ht23 := same_sqt s3 h22
        have skip : overR r r2 = false → (zeroR ks ++ (ks.take k).flatMap (fun r => pairsR r ks) ++ pairsR r (ks.take (i + 1))) = (zeroR ks ++ (ks.take k).flatMap (fun r => pairsR r ks) ++ pairsR r (ks.take i)) := fun h => by
          rw [take2 r i r2 hkr2, if_neg (by rw [h]; decide), List.append_nil]
        refine ⟨_, rfl, _, rfl, t, _, -1, _, rfl, rfl, ht3, e1, _, _, rfl, rfl, _, rfl, ?_⟩
        by_cases c1 : lastI r.1 > 0
        · rw [decide_eq_true c1]
          refine iteT ⟨_, rfl, _, rfl, t2, _, -1, _, rfl, rfl, ht23, e12, _, _, rfl, rfl, _, rfl, ?_⟩
          by_cases c2 : lastI r2.1 < 0
          · rw [decide_eq_true c2]
            refine iteT ?_
            refine ⟨_, rfl, rd_no ⟨_, rfl, _, rfl, rd_slA ht3 fun H4 c s4 hc => ⟨_, rfl, rd_no ⟨_, rfl, _, rfl, rd_slA (same_sqt s4 ht23) fun H5 c' s5 hc' => ?_⟩⟩⟩⟩
            rw [e2] at hc
            rw [e22] at hc'
            have hc5 := same_sqt s5 hc
            have s35 := (s3.trans s4).trans s5
            have la : r.1.dropLast.length = m2 := by rw [List.length_dropLast, hrl]; rfl
            have lb : r2.1.dropLast.length = m2 := by rw [List.length_dropLast, hrl2]; rfl
            have mixg : ∀ (j : Nat) (u v : Int), r.1.dropLast[j]? = some u → r2.1.dropLast[j]? = some v → (mixI r.1 r2.1)[j]? = some (u * -lastI r2.1 + v * lastI r.1) := fun j u v h3 h4 => by
              unfold mixI
              rw [List.getElem?_zipWith, h3, h4]
            have lm : (mixI r.1 r2.1).length = m2 := by
              unfold mixI
              rw [List.length_zipWith, la, lb, Nat.min_self]
            refine ⟨c, c', _, _, rfl, .inr ⟨hc5, hc', fun D hD => ?_⟩⟩
            refine lc_it (CaZ.walk_zt (K := K) (a := c) (b := c') (xs := r.1.dropLast.map V.int) (ys := r2.1.dropLast.map V.int) (n := m2) (by rw [List.length_map, la]) (by rw [List.length_map, lb])) (fun j H' => Same H5 H' ∧ H' D = some (.lst (((mixI r.1 r2.1).take j).map V.int))) ⟨Same.new hD, upd_same⟩ (fun j H' hj y => ⟨same_sqt y.1 hc5, same_sqt y.1 hc'⟩) ?_ ?_
            · rintro j z H6 _ hj ⟨s6, bD⟩ ⟨T, x1, y1, rfl, hT, rfl, hx1, hy1⟩
              have s7 : Same H6 (upd H6 T (.tup [x1, y1])) := Same.new hT
              have s67 := s6.trans s7
              replace hx1 : (r.1.dropLast.map V.int)[j]? = some x1 := hx1
              replace hy1 : (r2.1.dropLast.map V.int)[j]? = some y1 := hy1
              rw [List.getElem?_map, List.getElem?_eq_getElem (by omega)] at hx1 hy1
              cases hx1
              cases hy1
              have s37 := s35.trans s67
              refine ⟨T, _, rfl, SqT.of upd_same, rfl, _, _, rfl, _, _, rfl, rfl, ⟨rfl, rdYes ?_⟩⟩
              have q1 := (sm r hm).1 _ (List.dropLast_subset _ (List.getElem_mem (l := r.1.dropLast) (n := j) (by omega)))
              have q2 := (sm r2 hm2).1 _ (List.dropLast_subset _ (List.getElem_mem (l := r2.1.dropLast) (n := j) (by omega)))
              refine ⟨_, rfl, _, rfl, _, rfl, t2, _, -1, _, rfl, rfl, same_sqt s37 h22, e12, _, rfl, _, _, rfl, rfl, sm_mulW hb q1 (by rw [Int.natAbs_neg]; exact last_sm (sm r2 hm2).1), ?_⟩
              refine ⟨_, rfl, _, rfl, _, rfl, t, _, -1, _, rfl, rfl, same_sqt s37 h2, e1, _, _, rfl, rfl, sm_mulW hb q2 (last_sm (sm r hm).1), _, _, rfl, rfl, _, s7 _ _ bD, ?_, fun b' o e => ?_, ?_⟩
              · rw [List.length_map, List.length_take]
                exact Nat.lt_of_le_of_lt (Nat.le_trans (Nat.min_le_left ..) (show j ≤ 3 by omega)) (by decide)
              · rw [upd_ne (ne_of_none e hD)]
                exact s67 _ _ e
              · rw [upd_same, List.take_succ, mixg j _ _ (List.getElem?_eq_getElem (by omega)) (List.getElem?_eq_getElem (by omega)), List.map_append]
                rfl
            · rintro H6 ⟨s6, bD⟩
              rw [← lm, List.take_length] at bD
              refine ⟨D, _, rfl, .inl ⟨SqL.of bD, fun u hu => ?_⟩⟩
              have s7 := Same.new (o := .tup ((mixI r.1 r2.1).map V.int)) hu
              have s37 := (s35.trans s6).trans s7
              have s07 := (s4.trans s5).trans (s6.trans s7)
              have hp7 := s07 _ _ hp3
              refine ⟨_, rfl, .inl ⟨rfl, _, SqL.of hp7⟩, _, rfl, _, rfl, _, rfl, _, rfl, t2, _, -1, _, rfl, rfl, same_sqt s37 h22, e12, _, rfl, _, _, rfl, rfl, sm_mulW hb (sm r hm).2 (by rw [Int.natAbs_neg]; exact last_sm (sm r2 hm2).1), ?_⟩
              refine ⟨_, rfl, _, rfl, _, rfl, t, _, -1, _, rfl, rfl, same_sqt s37 h2, e1, _, _, rfl, rfl, sm_mulW hb (sm r2 hm2).2 (last_sm (sm r hm).1), _, _, rfl, rfl, Nat.le_of_ble_eq_true rfl, fun y hy => ?_⟩
              have s8 := Same.new (o := .tup [.ref u, .int (r.2 * -lastI r2.1 + r2.2 * lastI r.1)]) hy
              have hp8 := s8 _ _ hp7
              have s08 := s07.trans s8
              refine ⟨_, _, _, rfl, rfl, hp8, ?_, fun b' o e => ?_, _, _, _, _, rfl, upd_same, ?_⟩
              · have h9 := dvs3.len
                rw [List.length_map] at h9
                have h10 := few r k i
                exact Nat.lt_of_lt_of_le (show vs3.length < 1000 by omega) (by decide)
              · rw [upd_ne (ne_of_none e hp0)]
                exact s08 _ _ (s3 _ _ e)
              · rw [take2 r i r2 hkr2, if_pos (by unfold overR; simp [c1, c2]), ← List.append_assoc, List.map_append]
                have dm : Dq K (upd (upd H6 u (.tup ((mixI r.1 r2.1).map V.int))) y (.tup [.ref u, .int (r.2 * -lastI r2.1 + r2.2 * lastI r.1)])) (.ref y) (encD (mixR r r2)) := pk_of (k := mixR r r2) (SqT.of upd_same) (same_sqt s8 (SqT.of upd_same))
                exact (pks_upd hp8 (dvs3.same s08)).app (.cons (pk_upd hp8 dm) .nil)
          · rw [decide_eq_false c2]
            refine iteF ⟨s3, vs3, _, _, _, rfl, hp3, ?_⟩
            rw [skip (by unfold overR; simp [c2])]
            exact dvs3
        · rw [decide_eq_false c1]
          refine iteF (iteF ⟨s3, vs3, _, _, _, rfl, hp3, ?_⟩)
          rw [skip (by unfold overR; simp [c1])]
          exact dvs3
      · obtain ⟨s3, vs3, o4, o5, o6, rfl, hp3, dvs3⟩ := y
        refine ⟨s3, vs3, _, _, _, _, _, rfl, hp3, ?_⟩
        rw [List.take_succ, hkr, List.flatMap_append, ← List.append_assoc]
        rw [lu, List.take_length] at dvs3
        show DqAll K H' vs3 ((_ ++ (pairsR r ks ++ [])).map encD)
        rw [List.append_nil]
        exact dvs3
    · obtain ⟨s3, vs3, o1, o2, o4, o5, o6, rfl, hp3, dvs3⟩ := y
      rw [lu, List.take_length] at dvs3
      obtain ⟨es, rfl, ek, pk⟩ := keys_of dvs3
      have el : es.length = (foundR ks).length := by
        rw [← List.length_map (f := Prod.snd), ek]
        rfl
      have f64 := (found_len h16).1
      refine ⟨_, rfl, p, es, rfl, SqL.of hp3, pk, by omega, fun a L ha sub all lle => ?_⟩
      have s4 := Same.new (o := SetK.SetO P w a L) ha
      refine ⟨a, L, rfl, upd_same, fun e he => (pk e (sub e he)).up s4, fun M c pm hc => ?_⟩
      have s5 := Same.new (o := .lst (M.map fun e => V.ref e.1)) hc
      refine q _ c _ (M.map Prod.snd) ((s3.trans s4).trans s5) (SqL.of upd_same) (dq_keys fun e he => ((pk e (sub e (pm.mem_iff.mp he))).up s4).up s5) (fun k => ?_) (by rw [List.length_map, pm.length_eq]; omega)
      rw [← foundR_iff]
      constructor
      · intro hk
        obtain ⟨e, he, rfl⟩ := List.mem_map.mp hk
        have h1 : e.2 ∈ es.map Prod.snd := List.mem_map.mpr ⟨e, sub e (pm.mem_iff.mp he), rfl⟩
        rw [ek] at h1
        exact h1
      · intro hk
        have h1 : k ∈ es.map Prod.snd := by
          rw [ek]
          exact hk
        obtain ⟨e, he, rfl⟩ := List.mem_map.mp h1
        exact (pm.map Prod.snd).mem_iff.mpr (all e he)
end
end Ca
set_option Elab.async false
set_option linter.all false
set_option maxRecDepth 100000
set_option maxHeartbeats 8000000
namespace Ca
open PySem L2
/-! ### whether some values keep all rows, by the law -/
abbrev NHv : List Str := ["_law_rows_here", "_law_many", "_law_turn", "_law_row", "_law_bound"]
theorem layHv : ∀ ns : List Int, PyData.canLayAll0 (ns.map PyData.int) = true
  | [] => rfl
  | n :: ns => by
    simp only [List.map_cons, PyData.canLayAll0, PyData.canLay0]
    rw [layHv ns]
    rfl
theorem depHv : ∀ ns : List Int, PyData.depthAll (ns.map PyData.int) = 0
  | [] => rfl
  | n :: ns => by
    simp only [List.map_cons, PyData.depthAll, PyData.depth]
    rw [depHv ns]
    rfl
theorem shapedHv (ns : List Int) : SeqAt.shaped (.list (ns.map PyData.int)) = true := by
  refine Bool.and_eq_true_iff.mpr ⟨by simp only [PyData.canLay0]; exact layHv ns, decide_eq_true ?_⟩
  simp only [PyData.depth]
  rw [depHv]
  decide
theorem found_len1 {ks : List FRow} {n : Nat} (h : ∀ k ∈ ks, k.1.length = n + 1) {p : FRow} (hp : FoundF ks p) : p.1.length = n := by
  rcases hp with ⟨r, hr, _, rfl⟩ | ⟨r, hr, t, ht, _, _, rfl⟩
  · show r.1.dropLast.length = n
    rw [List.length_dropLast, h r hr]
    rfl
  · show (mixI r.1 t.1).length = n
    unfold mixI
    rw [List.length_zipWith, List.length_dropLast, List.length_dropLast, h r hr, h t ht]
    exact Nat.min_self _
theorem sat_found {ks ms : List FRow} {n : Nat} (h : ∀ k ∈ ks, k.1.length = n + 1) (hm : ∀ p, p ∈ ms ↔ FoundF ks p) : (∃ x, SatF ms x) ↔ ∃ x, SatF ks x := by
  rw [fm_step h]
  constructor
  · rintro ⟨x, hx⟩
    exact ⟨x, fun p hp => hx p ((hm p).mpr hp)⟩
  · rintro ⟨x, hx⟩
    exact ⟨x, fun p hp => hx p ((hm p).mp hp)⟩
section
variable {P : Program} {w : World} {K : PySem.W.Frag} {mg : Str → Option Value} {base : Heap}
theorem scHv : FnScope NHv ["_law_rows_here", "_law_many"] (defScope sLawHasValues) := ⟨rfl, rfl, rfl, by decide +kernel, rfl, by decide +kernel, by decide +kernel⟩
end
end Ca
set_option Elab.async false
set_option linter.all false
set_option maxRecDepth 100000
set_option maxHeartbeats 8000000
namespace Ca
open PySem L2
/-! ### whether some values keep all rows, by the law: of three unknowns, and more rows -/
def zc (ks : List FRow) : Nat := (ks.filter fun r => decide (lastI r.1 = 0)).length
/-- few enough rows at each turn -/
def Tame (ks : List FRow) (n : Nat) : Prop := ks.length ≤ 9 ∧ n ≤ 3 ∧ (n = 2 → 2 ≤ zc ks) ∧ (n = 3 → 4 ≤ zc ks ∧ ∀ ms : List FRow, (∀ p, p ∈ ms ↔ FoundF ks p) → 3 ≤ zc ms)
theorem cnt4 : ∀ a : Fin 6, ∀ b : Fin 6, a.val + b.val ≤ 5 → 9 - a.val - b.val + a.val * b.val ≤ 10 := by decide +kernel
theorem cnt2 : ∀ a : Fin 8, ∀ b : Fin 8, a.val + b.val ≤ 7 → 9 - a.val - b.val + a.val * b.val ≤ 17 := by decide +kernel
theorem cnt3 : ∀ a : Fin 8, ∀ b : Fin 8, a.val + b.val ≤ 7 → 10 - a.val - b.val + a.val * b.val ≤ 17 := by decide +kernel
theorem found_cnt (ks : List FRow) : ∃ p n, zc ks + p + n = ks.length ∧ (foundR ks).length = zc ks + p * n := by
  refine ⟨(ks.filter fun r => decide (lastI r.1 > 0)).length, (ks.filter fun r => decide (lastI r.1 < 0)).length, by unfold zc; exact three_len ks, ?_⟩
  unfold foundR zc
  rw [List.length_append, flat_len ks (ks.filter fun r => decide (lastI r.1 < 0)).length _ (fun r => decide (lastI r.1 > 0)) fun r => ?_]
  · unfold zeroR
    rw [List.length_map]
  · unfold pairsR overR
    rw [List.length_map]
    by_cases c : lastI r.1 > 0
    · rw [if_pos (decide_eq_true c)]
      simp [c]
    · rw [if_neg (by simp [c])]
      simp [c]
theorem found_c4 {ks : List FRow} (h : ks.length ≤ 9) (z : 4 ≤ zc ks) : (foundR ks).length ≤ 10 := by
  obtain ⟨p, n, e1, e2⟩ := found_cnt ks
  rw [e2]
  generalize zc ks = y at *
  have := cnt4 ⟨p, by omega⟩ ⟨n, by omega⟩ (by show p + n ≤ 5; omega)
  dsimp only at this
  omega
theorem found_c2 {ks : List FRow} (h : ks.length ≤ 9) (z : 2 ≤ zc ks) : (foundR ks).length ≤ 17 := by
  obtain ⟨p, n, e1, e2⟩ := found_cnt ks
  rw [e2]
  generalize zc ks = y at *
  have := cnt2 ⟨p, by omega⟩ ⟨n, by omega⟩ (by show p + n ≤ 7; omega)
  dsimp only at this
  omega
theorem found_c3 {ks : List FRow} (h : ks.length ≤ 10) (z : 3 ≤ zc ks) : (foundR ks).length ≤ 17 := by
  obtain ⟨p, n, e1, e2⟩ := found_cnt ks
  rw [e2]
  generalize zc ks = y at *
  have := cnt3 ⟨p, by omega⟩ ⟨n, by omega⟩ (by show p + n ≤ 7; omega)
  dsimp only at this
  omega
/-- how many there are at a turn -/
def TameT (ks : List FRow) (n k : Nat) (ms : List FRow) : Prop := ms.length ≤ 72 ∧ (k < n → ms.length ≤ 17) ∧ (k = 0 → ms = ks) ∧ (n = 3 → k = 1 → ms.length ≤ 10 ∧ 3 ≤ zc ms)
theorem tame_zero {ks : List FRow} {n : Nat} (h : Tame ks n) : TameT ks n 0 ks := ⟨Nat.le_trans h.1 (by decide), fun _ => Nat.le_trans h.1 (by decide), fun _ => rfl, fun _ z => by omega⟩
theorem tame_step {ks ks' ms : List FRow} {n k : Nat} (h : Tame ks n) (t : TameT ks n k ks') (hk : k < n) (hm : ∀ p, p ∈ ms ↔ FoundF ks' p) (hl : ms.length ≤ (foundR ks').length) : TameT ks n (k + 1) ms := by
  obtain ⟨h9, n3, a2, a3⟩ := h
  obtain ⟨_, t2, t3, t4⟩ := t
  have f72 := (found_len (t2 hk)).1
  refine ⟨by omega, fun hk2 => ?_, fun z => by omega, fun e3 e1 => ?_⟩
  · by_cases e : n = 2
    · have k0 : k = 0 := by omega
      have := t3 k0
      subst this
      have := found_c2 h9 (a2 e)
      omega
    · have e3 : n = 3 := by omega
      by_cases k0 : k = 0
      · have := t3 k0
        subst this
        have := found_c4 h9 (a3 e3).1
        omega
      · obtain ⟨u1, u2⟩ := t4 e3 (by omega)
        have := found_c3 u1 u2
        omega
  · have k0 : k = 0 := by omega
    have := t3 k0
    subst this
    have := found_c4 h9 (a3 e3).1
    exact ⟨by omega, (a3 e3).2 ms hm⟩
def spHasW (K : PySem.W.Frag) : Sp := fun vs H Q _ => ∃ l us, ∃ ks : List FRow, ∃ n b : Nat, vs = [.ref l, .int (n : Nat)] ∧ SqL K H l us ∧ DqAll K H us (ks.map encD) ∧ (∀ k ∈ ks, k.1.length = n) ∧ Tame ks n ∧ (∀ k ∈ ks, SmF b k) ∧ b ≤ 4000 ∧
  ∀ H' v, Same H H' → (v = true ↔ ∃ x, SatF ks x) → Q (.bl v) H'
section
variable {P : Program} {w : World} {K : PySem.W.Frag} {mg : Str → Option Value} {base : Heap}
theorem ok_hasW {f fL : Addr} {fd fdL : FuncData} (F : FnT K "_law_has_values" sLawHasValues f fd) (mrng : mg "range" = none)
    (gL : mg "_law_without_last" = some (.ref fL)) (GL : FnOk P w K mg base CX0 1 fL fdL ["_law_rows_here"] (spWl K)) (kL : PySem.W.keepIn K (.ref fL) = true) (bL : Binds K fdL ["_law_rows_here"] []) :
    FnOk P w K mg base CX0 2 f fd ["_law_rows_here", "_law_many"] (spHasW K) := by
  refine F.ok scHv (fun vs H Q E h => ?_) (fun cdv A outer s H vs Q E hr h => ?_)
  · obtain ⟨l, us, ks, n, b, rfl, _⟩ := h
    rfl
  · obtain ⟨l, us, ks, n, b, rfl, hl, du, hn, tm, sm, hb, q⟩ := h
    have nd := scHv.nd
    have n3 := tm.2.1
    refine ⟨_, PSs.nox (pss_cons (ps_for PassesOwn.never rfl (pi_range1 rfl mrng (pa_cons (pv 1) pa_nil)) (pg_name (i := 2) nd rfl (.inl rfl))
        (pss_one (ps_set (i := 0) nd rfl (.inl rfl) (pe_call GL hr rfl gL kL bL .nil pass0 (pa_cons (pv 0) pa_nil)))))
      (pss_one (ps_ret (pe_cmpR (op_eqD hr.units) (pe_lc (own := [("_law_row", 3), ("_law_bound", 4)]) (g := gTup K 2 (gCons (gName 3) (gCons (gName 4) gNil))) rfl nd (pi_list (pv 0))
          (blkOk_by (own := [("_law_row", 3), ("_law_bound", 4)]) (N := NHv) (sc := defScope sLawHasValues) (by decide +kernel))
          (fun _ _ _ _ _ => pgTt K rfl (pgs_cons (pg_name (i := 3) nd rfl (Or.inl rfl)) (pgs_cons (pg_name (i := 4) nd rfl (Or.inl rfl)) pgs_nil)))
          (fun _ _ _ _ _ => pts_one (pt_cmpR op_lt (pv 4) pe_int (nomark _)))
          (fun _ _ _ _ _ => pv 4)) (pe_lst pa_nil) (nomark _))))), ?_⟩
    refine ⟨_, rfl, _, rfl, by omega, by omega, ?_⟩
    refine for_it (walk_range (lo := 0) (n := ((n : Nat) : Int).toNat)) (fun k σ' H' => Same H H' ∧ ∃ (l' : Addr) (us' : List V) (ks' : List FRow) (o2 : Option V), σ' = [some (.ref l'), some (.int (n : Nat)), o2, none, none] ∧ SqL K H' l' us' ∧ DqAll K H' us' (ks'.map encD) ∧ (∀ k' ∈ ks', k'.1.length + k = n) ∧
        TameT ks n k ks' ∧ (∀ k' ∈ ks', SmF ((b + 1) * 2 ^ k - 1) k') ∧ ((∃ x, SatF ks' x) ↔ ∃ x, SatF ks x))
      ⟨fun _ _ e => e, l, us, ks, none, rfl, hl, du, fun k' hk => by rw [hn k' hk]; rfl, tame_zero tm, fun k' hk => by rw [show (b + 1) * 2 ^ 0 - 1 = b by omega]; exact sm k' hk, Iff.rfl⟩ (fun _ _ _ _ _ => trivial) ?_ (fun σ' H' y => ?_)
    · rintro k z _ H2 H2x hk ⟨s2, l', us', ks', o2, rfl, hl2, du2, hn2, tt2, sm2, it⟩ ⟨e2, hz⟩
      subst e2
      clear hz
      have hkn : k < n := by omega
      have hn3 : ∀ k' ∈ ks', k'.1.length = (n - k - 1) + 1 := fun k' h' => by
        have := hn2 k' h'
        omega
      have p2 : 2 ^ k ≤ 4 := by
        have : 2 ^ k ≤ 2 ^ 2 := Nat.pow_le_pow_right (by decide) (by omega)
        exact this
      have b16 : (b + 1) * 2 ^ k ≤ 16004 := Nat.le_trans (Nat.mul_le_mul (show b + 1 ≤ 4001 by omega) p2) (by decide)
      refine ⟨_, rfl, l', us', ks', n - k - 1, (b + 1) * 2 ^ k - 1, rfl, hl2, du2, hn3, tt2.2.1 hkn, sm2, by omega, by omega, fun H4 l4 us4 ks4 s4 hl4 du4 mem le4 => ?_⟩
      refine ⟨s2.trans s4, l4, us4, ks4, _, rfl, hl4, du4, fun k' h' => ?_, tame_step tm tt2 hkn mem le4, fun k' h' => ?_, (sat_found hn3 mem).trans it⟩
      · have := found_len1 hn3 ((mem k').mp h')
        omega
      · have sf := found_sm sm2 ((mem k').mp h')
        have e : (b + 1) * 2 ^ (k + 1) = 2 * ((b + 1) * 2 ^ k) := by rw [Nat.pow_succ, ← Nat.mul_assoc, Nat.mul_comm]
        have p : 0 < (b + 1) * 2 ^ k := Nat.mul_pos (by omega) (Nat.pow_pos (by decide))
        rw [e, show 2 * ((b + 1) * 2 ^ k) - 1 = 2 * ((b + 1) * 2 ^ k - 1) + 1 by omega]
        exact sf
    · obtain ⟨s2, l', us', ks', o2, rfl, hl2, du2, hn2, tt2, _, it⟩ := y
      have en : ((n : Nat) : Int).toNat = n := rfl
      rw [en] at hn2 tt2
      have hnil : ∀ k' ∈ ks', k'.1 = [] := fun k' h' => List.length_eq_zero_iff.mp (by have := hn2 k' h'; omega)
      have lu : us'.length = ks'.length := by
        have := du2.len
        rwa [List.length_map] at this
      have c128 : ks'.length ≤ 128 := Nat.le_trans tt2.1 (by decide)
      have fin : ∀ v : Bool, v = decide (ks'.filter (fun k => decide (k.2 < 0)) = []) → (v = true ↔ ∃ x, SatF ks x) := fun v hv => by
        rw [hv, ← it, fm_none hnil, decide_eq_true_eq, List.filter_eq_nil_iff]
        constructor
        · intro h p hp
          have := h p hp
          simp only [decide_eq_true_eq] at this
          omega
        · intro h p hp
          have := h p hp
          simp only [decide_eq_true_eq]
          omega
      have takeF : ∀ (i : Nat) (r : FRow), ks'[i]? = some r → (ks'.take (i + 1)).filter (fun k => decide (k.2 < 0)) = (ks'.take i).filter (fun k => decide (k.2 < 0)) ++ if r.2 < 0 then [r] else [] := fun i r hr0 => by
        rw [List.take_succ, hr0, List.filter_append]
        congr 1
        simp only [Option.toList, List.filter_cons, decide_eq_true_eq, List.filter_nil]
      refine ⟨_, rfl, l', rfl, ⟨_, hl2⟩, fun D hD => ?_⟩
      refine lc_it (walk_list (K := K) (a := l') (xs := us')) (fun i H2 => Same H' H2 ∧ H2 D = some (.lst ((((ks'.take i).filter (fun k => decide (k.2 < 0))).map Prod.snd).map V.int))) ⟨Same.new hD, upd_same⟩ (fun i H2 hi p => hl2.ext p.1) ?_ ?_
      · rintro i z H2 H2x hi ⟨s3, bD⟩ ⟨e2, hz⟩
        subst e2
        obtain ⟨d, hd, dq⟩ := (du2.same s3).get hz
        have hik : i < ks'.length := by omega
        rw [List.getElem?_map, List.getElem?_eq_getElem hik] at hd
        cases hd
        obtain ⟨a, t, rfl, h1, h2⟩ := pk_at dq
        have tk := takeF i _ (List.getElem?_eq_getElem hik)
        generalize ks'[i] = r at h1 h2 tk
        refine ⟨a, _, rfl, h1, rfl, _, _, rfl, _, _, rfl, rfl, ⟨rfl, ?_⟩⟩
        refine ⟨_, rfl, _, _, rfl, rfl, _, rfl, ?_⟩
        by_cases c : r.2 < 0
        · rw [decide_eq_true c]
          refine iteT ⟨_, rfl, _, bD, ?_, fun b' o e => ?_, ?_⟩
          · rw [List.length_map, List.length_map]
            exact Nat.lt_of_le_of_lt (Nat.le_trans (List.length_filter_le _ _) (by rw [List.length_take]; exact Nat.le_trans (Nat.min_le_right _ _) c128)) (by decide)
          · rw [upd_ne (ne_of_none e hD)]
            exact s3 _ _ e
          · rw [upd_same, tk, if_pos c, List.map_append, List.map_append]
            rfl
        · rw [decide_eq_false c]
          exact iteF ⟨s3, by rw [tk, if_neg c, List.append_nil]; exact bD⟩
      · rintro H2 ⟨s3, bD⟩
        rw [lu, List.take_length] at bD
        refine ⟨Nat.zero_le _, fun q1 h1 => ?_⟩
        have s4 := Same.new (o := .lst []) h1
        have dqi : ∀ ns : List Int, DpAll K (upd H2 q1 (.lst [])) (ns.map V.int) (ns.map .int) := fun ns => by
          induction ns with
          | nil => exact .nil
          | cons i ns ih => exact .cons (.int i) ih
        refine ⟨.list (((ks'.filter (fun k => decide (k.2 < 0))).map Prod.snd).map .int), .list [], .lst (SqL.of (s4 _ _ bD)) ?_, .lst (SqL.of upd_same) .nil, ?_, by decide +kernel, ?_⟩
        · exact dqi _
        · exact shapedHv _
        · refine q _ _ ((s2.trans s3).trans s4) (fin _ ?_)
          cases e : ks'.filter (fun k => decide (k.2 < 0)) with
          | nil => rfl
          | cons k ks => rfl
end
end Ca
set_option Elab.async false
set_option linter.all false
set_option maxRecDepth 100000
set_option maxHeartbeats 4000000
namespace Ca
open PySem PySem.Spec PyProof.Rows L2
/-! ### math.lcm -/
def rLcm : List V → Hp → VK → Prop := fun vs H Q => ∃ a b : Int, vs = [.int a, .int b] ∧ a.natAbs < 2 ^ 64 ∧ b.natAbs < 2 ^ 64 ∧ Q (.int ((Nat.lcm a.natAbs b.natAbs : Nat) : Int)) H
theorem cr_lcm {X : Cx} : CallR X (.builtin "math.lcm") rLcm := by
  intro pins s σ H vs us Q I r h
  obtain ⟨a, b, rfl, ha, hb, q⟩ := h
  obtain ⟨t, u, rfl⟩ := Vals.int2 r
  exact PySem.W.mc_lcm ha hb fun _ => ⟨.int _, H, I.tok _, ⟨_, rfl⟩, q⟩
end Ca
set_option Elab.async false
set_option linter.all false
set_option maxRecDepth 100000
set_option maxHeartbeats 4000000
namespace Ca
open PySem L2
/-! ### an answer in whole numbers -/
def wholeOf (fs : List (Int × Int)) : Nat := fs.foldl (fun w f => Nat.lcm w f.2.natAbs) 1
def partsW (fs : List (Int × Int)) : List Int := fs.map fun f => f.1 * (((wholeOf fs : Nat) : Int) / f.2)
/-- answers with parts of not too many digits -/
structure SnOk (fs : List (Int × Int)) : Prop where
  len : fs.length ≤ 3
  pos : ∀ f ∈ fs, 0 < f.2
  top : ∀ f ∈ fs, f.1.natAbs < 2 ^ 60
  bot : ∀ f ∈ fs, f.2.natAbs ≤ 2 ^ 20
theorem lcm_le' (m n : Nat) : Nat.lcm m n ≤ m * n := by
  unfold Nat.lcm
  exact Nat.div_le_self _ _
theorem whole_go : ∀ (fs : List (Int × Int)) (w : Nat), (∀ f ∈ fs, f.2.natAbs ≤ 2 ^ 20) → fs.foldl (fun w f => Nat.lcm w f.2.natAbs) w ≤ w * (2 ^ 20) ^ fs.length
  | [], w, _ => by simp
  | f :: fs, w, h => by
    have ih := whole_go fs (Nat.lcm w f.2.natAbs) fun g hg => h g (List.mem_cons_of_mem _ hg)
    rw [List.foldl_cons, List.length_cons, Nat.pow_succ]
    refine Nat.le_trans ih ?_
    have := Nat.mul_le_mul (Nat.le_refl w) (h f (List.mem_cons_self ..))
    have := Nat.le_trans (lcm_le' w f.2.natAbs) this
    have := Nat.mul_le_mul_right ((2 ^ 20) ^ fs.length) this
    rw [Nat.mul_assoc, Nat.mul_comm (2 ^ 20)] at this
    exact this
theorem whole_pos : ∀ (fs : List (Int × Int)) (w : Nat), 0 < w → (∀ f ∈ fs, 0 < f.2) → 0 < fs.foldl (fun w f => Nat.lcm w f.2.natAbs) w
  | [], _, h, _ => h
  | f :: fs, w, h, p => by
    have := p f (List.mem_cons_self ..)
    exact whole_pos fs _ (Nat.lcm_pos h (by omega)) fun g hg => p g (List.mem_cons_of_mem _ hg)
theorem whole_small {fs : List (Int × Int)} (h : SnOk fs) (k : Nat) : wholeOf (fs.take k) ≤ 2 ^ 60 := by
  have := whole_go (fs.take k) 1 fun f hf => h.bot f (List.mem_of_mem_take hf)
  unfold wholeOf
  rw [Nat.one_mul, ← Nat.pow_mul] at this
  refine Nat.le_trans this (Nat.pow_le_pow_right (by decide) ?_)
  have := h.len
  rw [List.length_take]
  omega
theorem whole_take {fs : List (Int × Int)} {k : Nat} (h : k < fs.length) : wholeOf (fs.take (k + 1)) = Nat.lcm (wholeOf (fs.take k)) fs[k].2.natAbs := by
  unfold wholeOf
  rw [List.take_succ, List.getElem?_eq_getElem h, List.foldl_append]
  rfl
theorem whole_all {fs : List (Int × Int)} (h : SnOk fs) : wholeOf fs ≤ 2 ^ 60 := by
  have := whole_small h fs.length
  rwa [List.take_length] at this
theorem parts_small {fs : List (Int × Int)} (h : SnOk fs) : ∀ x ∈ partsW fs, x.natAbs ≤ 2 ^ 120 := by
  intro x hx
  obtain ⟨f, hf, rfl⟩ := List.mem_map.mp hx
  have a := h.top f hf
  have b := whole_all h
  have c : (((wholeOf fs : Nat) : Int) / f.2).natAbs ≤ 2 ^ 60 := by
    have p := h.pos f hf
    have d1 : 0 ≤ ((wholeOf fs : Nat) : Int) / f.2 := Int.ediv_nonneg (by omega) (by omega)
    have d2 : ((wholeOf fs : Nat) : Int) / f.2 ≤ ((wholeOf fs : Nat) : Int) := Int.ediv_le_self _ (by omega)
    omega
  rw [Int.natAbs_mul]
  exact Nat.le_trans (Nat.mul_le_mul (Nat.le_of_lt a) c) (by decide)
def spWhole (K : PySem.W.Frag) : Sp := fun vs H Q _ => ∃ v fs, vs = [v] ∧ Dq K H v (frsD fs) ∧ SnOk fs ∧ ∀ H' y p, Same H H' → SqT K H' y [.ref p, .int ((wholeOf fs : Nat) : Int)] → IntsAt H' p (partsW fs) → Q (.ref y) H'
abbrev NWh : List Str := ["answer", "whole", "_", "bottom", "top"]
theorem frs_at {K : PySem.W.Frag} {H : Hp} {xs : List V} {fs : List (Int × Int)} {k : Nat} {v : V} (h : DqAll K H xs (fs.map frD)) (hk : k < fs.length) (hv : xs[k]? = some v) : ∃ a, v = .ref a ∧ SqT K H a [.int fs[k].1, .int fs[k].2] := by
  obtain ⟨d, hd, dq⟩ := h.get hv
  rw [List.getElem?_map, List.getElem?_eq_getElem hk] at hd
  cases hd
  exact fr_at dq
section
variable {P : Program} {w : World} {K : PySem.W.Frag} {mg : Str → Option Value} {base : Heap}
theorem scWh : FnScope NWh ["answer"] (defScope sInWholeNumbers) := ⟨rfl, rfl, rfl, by decide +kernel, rfl, by decide +kernel, by decide +kernel⟩
theorem ok_whole {f : Addr} {fd : FuncData} (F : FnT K "in_whole_numbers" sInWholeNumbers f fd) (mlcm : mg "lcm" = some (.builtin "math.lcm")) : FnOk P w K mg base CX0 1 f fd ["answer"] (spWhole K) := by
  refine F.ok scWh (fun vs H Q E h => ?_) (fun cdv A outer s H vs Q E hr h => ?_)
  · obtain ⟨v, fs, rfl, _⟩ := h
    rfl
  · obtain ⟨v, fs, rfl, hd, ho, q⟩ := h
    have nd := scWh.nd
    refine ⟨_, PSs.nox (pss_cons (ps_set (i := 1) nd rfl (.inr rfl) pe_int)
      (pss_cons (ps_cut (ps_for PassesOwn.never rfl (pi_tup (pv 0)) (pgTt K rfl (pgs_cons (pg_name (i := 2) nd rfl (.inl rfl)) (pgs_cons (pg_name (i := 3) nd rfl (.inl rfl)) pgs_nil)))
        (pss_one (ps_set (i := 1) nd rfl (.inr rfl) (pe_callBfun cr_lcm rfl mlcm (pa_cons (pv 1) (pa_cons (pv 3) pa_nil)))))))
      (pss_one (ps_ret (pe_tup (pa_cons (pe_lc (own := [("top", 4), ("bottom", 3)]) (g := gTup K 2 (gCons (gName 4) (gCons (gName 3) gNil))) (tt := tYes) rfl nd (pi_tup (pv 0))
        (blkOk_by (own := [("top", 4), ("bottom", 3)]) (N := NWh) (sc := defScope sInWholeNumbers) (by decide +kernel)) (fun _ _ _ _ _ => pgTt K rfl (pgs_cons (pg_name (i := 4) nd rfl (Or.inl rfl)) (pgs_cons (pg_name (i := 3) nd rfl (Or.inl rfl)) pgs_nil))) (fun _ _ _ _ _ => pts_nil)
        (fun _ _ _ _ _ => pe_op op_mulW (pv 4) (pe_op op_fdivW (pv 1) (pv 3)))) (pa_cons (pv 1) pa_nil))))))), ?_⟩
    obtain ⟨a, xs, rfl, h1, h2, hl⟩ := tup_len hd
    rw [List.length_map] at hl
    have l3 := ho.len
    refine ⟨fun σ' H' => ∃ o2 o3, σ' = [some (.ref a), some (.int ((wholeOf fs : Nat) : Int)), o2, o3, none] ∧ H' = H, ?_, ?_⟩
    · refine ⟨_, rfl, a, rfl, ⟨_, h1⟩, ?_⟩
      refine for_it (walk_tup (K := K) (a := a) (xs := xs)) (fun k σ' H' => k ≤ fs.length ∧ (∃ o2 o3, σ' = [some (.ref a), some (.int ((wholeOf (fs.take k) : Nat) : Int)), o2, o3, none]) ∧ H' = H) ⟨Nat.zero_le _, ⟨none, none, rfl⟩, rfl⟩ (fun k σ' H' hk p => by rw [p.2.2]; exact h1) ?_ (fun σ' H' p => ?_)
      · rintro k x _ H1 _ hk ⟨_, ⟨o2, o3, rfl⟩, rfl⟩ ⟨rfl, hx⟩
        have hkf : k < fs.length := by omega
        obtain ⟨p, rfl, hp⟩ := frs_at h2 hkf hx
        have fk := List.getElem_mem hkf
        have b20 := ho.bot _ fk
        have pk := ho.pos _ fk
        have ws := whole_small ho k
        refine ⟨p, _, rfl, hp, rfl, _, _, rfl, _, _, rfl, rfl, ?_⟩
        refine ⟨_, rfl, _, rfl, _, _, rfl, ?_, ?_, hkf, ⟨some (.int fs[k].1), some (.int fs[k].2), ?_⟩, rfl⟩
        · rw [Int.natAbs_natCast]
          exact Nat.lt_of_le_of_lt ws (by decide)
        · exact Nat.lt_of_le_of_lt b20 (by decide)
        · rw [Int.natAbs_natCast, whole_take hkf]
          rfl
      · obtain ⟨_, ⟨o2, o3, rfl⟩, rfl⟩ := p
        refine ⟨o2, o3, ?_, rfl⟩
        rw [hl, List.take_length]
    rintro _ H1 ⟨o2, o3, rfl, rfl⟩
    have wa := whole_all ho
    refine ⟨_, rfl, a, rfl, ⟨_, h1⟩, fun D hD => ?_⟩
    refine lc_it (walk_tup (K := K) (a := a) (xs := xs)) (fun k H' => Same H1 H' ∧ H' D = some (.lst (((partsW fs).take k).map V.int))) ⟨Same.new hD, by rw [upd_same]; rfl⟩ (fun k H' hk p => same_sqt p.1 h1) ?_ ?_
    · rintro k x H2 _ hk ⟨s2, bD⟩ ⟨rfl, hx⟩
      have hkf : k < fs.length := by omega
      obtain ⟨p, rfl, hp⟩ := frs_at (h2.same s2) hkf hx
      have fk := List.getElem_mem hkf
      have pk := ho.pos _ fk
      have b20 := ho.bot _ fk
      have t60 := ho.top _ fk
      refine ⟨p, _, rfl, hp, rfl, _, _, rfl, _, _, rfl, rfl, rfl, rdYes ?_⟩
      refine ⟨_, rfl, _, rfl, _, rfl, _, _, rfl, rfl, small_div pk (Nat.lt_of_le_of_lt b20 (Nat.pow_lt_pow_right (by decide) (by decide))), _, _, rfl, rfl, ?_, ?_⟩
      · refine small_mul (Nat.lt_trans t60 (Nat.pow_lt_pow_right (by decide) (by decide))) ?_
        have d1 : 0 ≤ ((wholeOf fs : Nat) : Int) / fs[k].2 := Int.ediv_nonneg (by omega) (by omega)
        have d2 : ((wholeOf fs : Nat) : Int) / fs[k].2 ≤ ((wholeOf fs : Nat) : Int) := Int.ediv_le_self _ (by omega)
        refine Nat.lt_of_le_of_lt (m := 2 ^ 60) (by omega) (Nat.pow_lt_pow_right (by decide) (by decide))
      · have el : (partsW fs)[k]? = some (fs[k].1 * (((wholeOf fs : Nat) : Int) / fs[k].2)) := by
          unfold partsW
          rw [List.getElem?_map, List.getElem?_eq_getElem hkf]
          rfl
        refine ⟨_, bD, ?_, fun u o g => ?_, ?_⟩
        · rw [List.length_map, List.length_take]
          exact Nat.lt_of_le_of_lt (Nat.min_le_left ..) (Nat.lt_of_lt_of_le (show k < 10 by omega) (by decide))
        · rw [upd_ne (ne_of_none g hD)]
          exact s2 _ _ g
        · rw [upd_same, List.take_succ, el, List.map_append]
          rfl
    · rintro H2 ⟨s2, bD⟩
      refine ⟨_, rfl, by show 2 ≤ sizeLine; decide, fun y hy => ?_⟩
      have s3 := Same.new (o := .tup [.ref D, .int ((wholeOf fs : Nat) : Int)]) hy
      refine q _ y D (s2.trans s3) (SqT.of upd_same) (s3 _ _ ?_)
      rw [bD, hl, show (partsW fs).take fs.length = partsW fs by
        have : (partsW fs).length = fs.length := List.length_map ..
        rw [← this, List.take_length]]
end
end Ca
set_option Elab.async false
set_option linter.all false
set_option maxRecDepth 100000
set_option maxHeartbeats 8000000
namespace Ca
open PySem L2
/-! ### what an answer that was seen asks of a row -/
def leastS (fs ps : List (Int × Int)) : List Int := (List.range ps.length).map fun i => (partsW fs).getD i 0 * (ps.getD i (0, 0)).1
def seenLim (fs : List (Int × Int)) (r : Rw) : List Int × Int := (partsW fs, ((wholeOf fs : Nat) : Int) * r.bd.2 - (leastS fs r.parts).sum)
theorem partsW_len (fs : List (Int × Int)) : (partsW fs).length = fs.length := List.length_map ..
theorem strs_get {K : PySem.W.Frag} {H : Hp} {xs : List V} {ps : List (Int × Int)} {k : Nat} {v : V} (h : DqAll K H xs (ps.map strD)) (hk : k < ps.length) (hv : xs[k]? = some v) : ∃ a, v = .ref a ∧ SqT K H a [.int ps[k].1, .int ps[k].2] := by
  obtain ⟨d, hd, dq⟩ := h.get hv
  rw [List.getElem?_map, List.getElem?_eq_getElem hk] at hd
  cases hd
  obtain ⟨a, xs, rfl, h1, h2, _⟩ := tup_len dq
  cases h2 with
  | cons e1 r1 =>
  cases r1 with
  | cons e2 r2 =>
  cases r2
  cases e1
  cases e2
  exact ⟨a, rfl, h1⟩
theorem pair_sq {K : PySem.W.Frag} {H : Hp} {v : V} {p : Int × Int} (h : Dq K H v (strD p)) : ∃ a, v = .ref a ∧ SqT K H a [.int p.1, .int p.2] := by
  obtain ⟨a, xs, rfl, h1, h2, _⟩ := tup_len h
  cases h2 with
  | cons e1 r1 =>
  cases r1 with
  | cons e2 r2 =>
  cases r2
  cases e1
  cases e2
  exact ⟨a, rfl, h1⟩
def spSeenLim (K : PySem.W.Frag) : Sp := fun vs H Q _ => ∃ x v r fs m, vs = [x, v] ∧ Dq K H x (rowD r) ∧ isRowD (rowD r) m = true ∧ Dq K H v (frsD fs) ∧ SnOk fs ∧ fs.length = m ∧
  ∀ H' y p, Same H H' → SqT K H' y [.ref p, .int (seenLim fs r).2] → IntsAt H' p (seenLim fs r).1 → Q (.ref y) H'
abbrev NSnL : List Str := ["row", "answer", "values", "whole", "least", "value", "low", "high"]
theorem row_pairs {r : Rw} {m : Nat} (h : isRowD (rowD r) m = true) : ∀ p ∈ r.parts ++ [r.bd], -10000 ≤ p.1 ∧ p.1 ≤ p.2 ∧ p.2 ≤ 10000 := by
  obtain ⟨_, h2⟩ := Bool.and_eq_true_iff.mp (show (nameS r.name && (isTupN (.tuple (r.parts.map strD)) m && ((partsOf (.tuple (r.parts.map strD)) ++ [strD r.bd]).all isStretchD))) = true from h)
  obtain ⟨_, h4⟩ := Bool.and_eq_true_iff.mp h2
  intro p hp
  refine str_ok (List.all_eq_true.mp h4 (strD p) ?_)
  show strD p ∈ r.parts.map strD ++ [strD r.bd]
  rw [show r.parts.map strD ++ [strD r.bd] = (r.parts ++ [r.bd]).map strD by rw [List.map_append]; rfl]
  exact List.mem_map_of_mem hp
section
variable {P : Program} {w : World} {K : PySem.W.Frag} {mg : Str → Option Value} {base : Heap}
theorem scSnL : FnScope NSnL ["row", "answer"] (defScope sSeenLimit) := ⟨rfl, rfl, rfl, by decide +kernel, rfl, by decide +kernel, by decide +kernel⟩
theorem ok_seenLim {f fW : Addr} {fd fdW : FuncData} (F : FnT K "seen_limit" sSeenLimit f fd) (mzip : mg "zip" = none) (msum : mg "sum" = none)
    (gW : mg "in_whole_numbers" = some (.ref fW)) (GW : FnOk P w K mg base CX0 1 fW fdW ["answer"] (spWhole K)) (kW : PySem.W.keepIn K (.ref fW) = true) (bW : Binds K fdW ["answer"] []) :
    FnOk P w K mg base CX0 2 f fd ["row", "answer"] (spSeenLim K) := by
  refine F.ok scSnL (fun vs H Q E h => ?_) (fun cdv A outer s H vs Q E hr h => ?_)
  · obtain ⟨x, v, r, fs, m, rfl, _⟩ := h
    rfl
  · obtain ⟨x, v, r, fs, m, rfl, dx, hR, dv, ho, hm, q⟩ := h
    have nd := scSnL.nd
    refine ⟨_, PSs.nox (pss_cons (ps_cut (ps_asg (pe_call GW hr rfl gW kW bW .nil pass0 (pa_cons (pv 1) pa_nil)) (pgTt K rfl (pgs_cons (pg_name (i := 2) nd rfl (.inl rfl)) (pgs_cons (pg_name (i := 3) nd rfl (.inl rfl)) pgs_nil)))))
      (pss_cons (ps_cut (ps_set (i := 4) nd rfl (.inl rfl) (pe_callB (cr_sum rfl) (by rfl) msum PyProof.Rows.boot_sum (pa_cons (pe_lc (own := [("value", 5), ("low", 6), ("high", 7)]) (g := gTup K 2 (gCons (gName 5) (gCons (gTup K 2 (gCons (gName 6) (gCons (gName 7) gNil))) gNil))) (tt := tYes) rfl nd (CaZ.pi_zipM (by rfl) mzip (pa_cons (pv 2) (pa_cons (pe_ix ix_tup (pv 0) pe_int (fun _ _ => rfl)) pa_nil)))
          (blkOk_by (own := [("value", 5), ("low", 6), ("high", 7)]) (N := NSnL) (sc := defScope sSeenLimit) (by decide +kernel)) (fun _ _ _ _ _ => pgTt K rfl (pgs_cons (pg_name (i := 5) nd rfl (Or.inl rfl)) (pgs_cons (pgTt K rfl (pgs_cons (pg_name (i := 6) nd rfl (Or.inl rfl)) (pgs_cons (pg_name (i := 7) nd rfl (Or.inl rfl)) pgs_nil))) pgs_nil))) (fun _ _ _ _ _ => pts_nil)
          (fun _ _ _ _ _ => pe_op op_mulW (pv 5) (pv 6))) pa_nil))))
      (pss_one (ps_ret (pe_tup (pa_cons (pv 2) (pa_cons (pe_op op_sub (pe_op op_mulW (pv 3) (pe_ix ix_tup (pe_ix ix_tup (pv 0) pe_int (fun _ _ => rfl)) pe_int (fun _ _ => rfl))) (pv 4)) pa_nil))))))), ?_⟩
    have RP := row_pairs hR
    have hrl := (row_name hR).2
    have l3 := ho.len
    refine ⟨fun σ' H' => ∃ p, σ' = [some x, some v, some (.ref p), some (.int ((wholeOf fs : Nat) : Int)), none, none, none, none] ∧ Same H H' ∧ IntsAt H' p (partsW fs), ?_, ?_⟩
    · exact ⟨_, rfl, v, fs, rfl, dv, ho, fun H1 y p s1 hy hp => ⟨y, _, rfl, hy, rfl, _, _, rfl, _, _, rfl, rfl, ⟨p, rfl, s1, hp⟩⟩⟩
    rintro _ H1 ⟨p, rfl, s1, hp⟩
    obtain ⟨b, v2, v3, rfl, hb, d2, d3, _⟩ := row_at (dx.same s1)
    obtain ⟨c, ys, rfl, hc, dys, hl⟩ := tup_len d2
    rw [List.length_map] at hl
    refine ⟨fun σ' H' => σ' = [some (.ref b), some v, some (.ref p), some (.int ((wholeOf fs : Nat) : Int)), some (.int (leastS fs r.parts).sum), none, none, none] ∧ Same H1 H', ?_, ?_⟩
    · refine ⟨_, rfl, _, rfl, b, _, 1, _, rfl, rfl, hb, atI_nat (j := 1) rfl, p, c, _, _, rfl, hp.sq, hc, fun D hD => ?_⟩
      refine lc_it (CaZ.walk_zm (K := K) (a := p) (b := c) (xs := (partsW fs).map V.int) (ys := ys) (n := m) (by rw [List.length_map, partsW_len, hm]) (by rw [hl, hrl])) (fun k H' => Same H1 H' ∧ H' D = some (.lst (((leastS fs r.parts).take k).map V.int))) ⟨Same.new hD, by rw [upd_same]; rfl⟩ (fun k H' hk p' => ⟨(hp.same p'.1).sq, same_sqt p'.1 hc⟩) ?_ ?_
      · rintro k z H2 _ hk ⟨s2, bD⟩ ⟨T, x1, y1, rfl, hT, rfl, hx, hy⟩
        have s3 := Same.new (o := .tup [x1, y1]) hT
        have s23 := s2.trans s3
        have hkr : k < r.parts.length := by omega
        have hkf : k < (partsW fs).length := by rw [partsW_len]; omega
        obtain rfl : x1 = .int (partsW fs)[k] := by
          replace hx : ((partsW fs).map V.int)[k]? = some x1 := hx
          rw [List.getElem?_map, List.getElem?_eq_getElem hkf] at hx
          exact (Option.some.inj hx).symm
        obtain ⟨u, rfl, hu⟩ := strs_get (dys.same s23) hkr hy
        obtain ⟨b1, b2, b3⟩ := RP _ (List.mem_append_left _ (List.getElem_mem hkr))
        have ps := parts_small ho _ (List.getElem_mem hkf)
        refine ⟨T, _, rfl, SqT.of upd_same, rfl, _, _, rfl, _, _, rfl, u, _, rfl, hu, rfl, _, _, rfl, _, _, rfl, rfl, rfl, rfl, rdYes ?_⟩
        refine ⟨_, rfl, _, rfl, _, _, rfl, rfl, ?_, ?_⟩
        · exact small_mul (Nat.lt_of_le_of_lt ps (Nat.pow_lt_pow_right (by decide) (by decide))) (Nat.lt_of_le_of_lt (m := 10000) (by omega) (Nat.lt_of_lt_of_le (by decide : 10000 < 2 ^ 14) (Nat.pow_le_pow_right (by decide) (by decide))))
        · have el : (leastS fs r.parts)[k]? = some ((partsW fs)[k] * r.parts[k].1) := by
            unfold leastS
            rw [List.getElem?_map, List.getElem?_range hkr]
            show some ((partsW fs).getD k 0 * (r.parts.getD k (0, 0)).1) = _
            rw [List.getD_eq_getElem?_getD, List.getElem?_eq_getElem hkf, List.getD_eq_getElem?_getD, List.getElem?_eq_getElem hkr]
            rfl
          refine ⟨_, s3 _ _ bD, ?_, fun u' o g => ?_, ?_⟩
          · rw [List.length_map, List.length_take]
            exact Nat.lt_of_le_of_lt (Nat.min_le_left ..) (Nat.lt_of_lt_of_le (show k < 10 by omega) (by decide))
          · rw [upd_ne (ne_of_none g hD)]
            exact s23 _ _ g
          · rw [upd_same, List.take_succ, el, List.map_append]
            rfl
      · rintro H2 ⟨s2, bD⟩
        refine ⟨D, leastS fs r.parts, rfl, SqL.of ?_, rfl, s2⟩
        have : (leastS fs r.parts).length = m := by unfold leastS; rw [List.length_map, List.length_range, hrl]
        rw [bD, ← this, List.take_length]
    rintro _ H2 ⟨rfl, s2⟩
    obtain ⟨g, rfl, hg⟩ := pair_sq (d3.same s2)
    have wa := whole_all ho
    obtain ⟨b1, b2, b3⟩ := RP _ (List.mem_append_right _ (List.mem_singleton.mpr rfl))
    refine ⟨_, rfl, _, rfl, _, rfl, b, _, 2, _, rfl, rfl, same_sqt s2 hb, atI_nat (j := 2) rfl, g, _, 1, _, rfl, rfl, hg, atI_nat (j := 1) rfl, _, _, rfl, rfl, ?_, _, rfl, _, _, rfl, rfl, by show 2 ≤ sizeLine; decide, fun y hy => ?_⟩
    · exact small_mul (Nat.lt_of_le_of_lt (m := 2 ^ 60) (by omega) (Nat.pow_lt_pow_right (by decide) (by decide))) (Nat.lt_of_le_of_lt (m := 10000) (by omega) (Nat.lt_of_lt_of_le (by decide : 10000 < 2 ^ 14) (Nat.pow_le_pow_right (by decide) (by decide))))
    · have s3 := Same.new (o := .tup [.ref p, .int (((wholeOf fs : Nat) : Int) * r.bd.2 - (leastS fs r.parts).sum)]) hy
      exact q _ y p (s1.trans (s2.trans s3)) (SqT.of upd_same) ((hp.same s2).same s3)
end
end Ca
set_option Elab.async false
set_option linter.all false
set_option maxRecDepth 100000
set_option maxHeartbeats 8000000
namespace Ca
open PySem L2
/-! ### that no number is further above its least than its greatest is -/
def unitL (m k : Nat) : List Int := (List.range m).map fun i => if k = i then 1 else 0
def widthL (ps : List (Int × Int)) : List (List Int × Int) := (List.range ps.length).map fun k => (unitL ps.length k, (ps.getD k (0, 0)).2 - (ps.getD k (0, 0)).1)
def spWidth (K : PySem.W.Frag) : Sp := fun vs H Q _ => ∃ x ps, vs = [x] ∧ Dq K H x (.tuple (ps.map strD)) ∧ ps.length ≤ 3 ∧ ∀ H' y, Same H H' → LimsAt K H' y (widthL ps) → Q (.ref y) H'
abbrev NWd : List Str := ["stretches", "limits", "at", "low", "high", "place"]
section
variable {P : Program} {w : World} {K : PySem.W.Frag} {mg : Str → Option Value} {base : Heap}
theorem scWd : FnScope NWd ["stretches"] (defScope sWidthLimits) := ⟨rfl, rfl, rfl, by decide +kernel, rfl, by decide +kernel, by decide +kernel⟩
theorem ok_width {f : Addr} {fd : FuncData} (F : FnT K "width_limits" sWidthLimits f fd) (menum : mg "enumerate" = none) (mrng : mg "range" = none) (mlen : mg "len" = none) : FnOk P w K mg base CX0 1 f fd ["stretches"] (spWidth K) := by
  refine F.ok scWd (fun vs H Q E h => ?_) (fun cdv A outer s H vs Q E hr h => ?_)
  · obtain ⟨x, ps, rfl, _⟩ := h
    rfl
  · obtain ⟨x, ps, rfl, hd, h3, q⟩ := h
    have nd := scWd.nd
    refine ⟨_, PSs.nox (pss_cons (ps_set (i := 1) nd rfl (.inl rfl) (pe_lst pa_nil))
      (pss_cons (ps_for PassesOwn.never rfl (pi_enumT (by rfl) menum (pa_cons (pv 0) pa_nil)) (pgTt K rfl (pgs_cons (pg_name (i := 2) nd rfl (.inr rfl)) (pgs_cons (pgTt K rfl (pgs_cons (pg_name (i := 3) nd rfl (.inl rfl)) (pgs_cons (pg_name (i := 4) nd rfl (.inl rfl)) pgs_nil))) pgs_nil)))
        (pss_one (ps_expr (pe_bm PySem.F.plainAttrs_list PySem.F.slot_list_append PySem.F.type_list_append mt_append (pv 1) (pa_cons (pe_tup (pa_cons
          (pe_lc (own := [("place", 5)]) (g := gName 5) (tt := tYes) rfl nd (pi_range1 rfl mrng (pa_cons (pe_callB call_len (by rfl) mlen boot_len (pa_cons (pv 0) pa_nil)) pa_nil))
            (blkOk_by (own := [("place", 5)]) (N := NWd) (sc := defScope sWidthLimits) (by decide +kernel)) (fun _ _ _ _ _ => pg_name (i := 5) nd rfl (Or.inl rfl)) (fun _ _ _ _ _ => pts_nil)
            (fun _ _ _ _ _ => pe_ifExp (pt_cmpR op_eq (pv 2) (pv 5) (nomark _)) pe_int pe_int))
          (pa_cons (pe_op op_sub (pv 4) (pv 3)) pa_nil))) pa_nil)))))
      (pss_one (ps_ret (pv 1))))), ?_⟩
    obtain ⟨a, xs, rfl, h1, h2, hl⟩ := tup_len hd
    rw [List.length_map] at hl
    refine ⟨Nat.zero_le _, fun y hy => ?_⟩
    have s0 := Same.new (o := .lst []) hy
    refine ⟨_, rfl, a, _, rfl, same_sqt s0 h1, ?_⟩
    refine for_it (walk_enumT (K := K) (a := a) (xs := xs)) (fun k σ' H' => k ≤ ps.length ∧ (∃ o2 o3 o4, σ' = [some (.ref a), some (.ref y), o2, o3, o4, none]) ∧ Same H H' ∧ ∃ cs : List Addr, H' y = some (.lst (cs.map V.ref)) ∧ cs.length = k ∧ ∀ (i : Nat) (c : Addr), cs[i]? = some c → ∃ u, u ≠ y ∧ SqT K H' c [.ref u, .int ((ps.getD i (0, 0)).2 - (ps.getD i (0, 0)).1)] ∧ IntsAt H' u (unitL ps.length i))
      ⟨Nat.zero_le _, ⟨_, _, _, rfl⟩, s0, [], upd_same, rfl, fun i c h => by simp at h⟩ (fun k σ' H' hk p => same_sqt p.2.2.1 h1) ?_ (fun σ' H' p => ?_)
    · rintro k z _ H1 _ hk ⟨_, ⟨o2, o3, o4, rfl⟩, s1, cs, by1, lc, hc⟩ ⟨T, x1, rfl, hT, rfl, hx⟩
      have hkp : k < ps.length := by omega
      have s2 : Same H1 (upd H1 T (.tup [.int (k : Nat), x1])) := Same.new hT
      have s12 := s1.trans s2
      obtain ⟨u, rfl, hu⟩ := strs_get (h2.same s12) hkp hx
      have by2 := s2 _ _ by1
      have hc2 : ∀ (i : Nat) (c : Addr), cs[i]? = some c → ∃ u', u' ≠ y ∧ SqT K (upd H1 T (.tup [.int (k : Nat), .ref u])) c [.ref u', .int ((ps.getD i (0, 0)).2 - (ps.getD i (0, 0)).1)] ∧ IntsAt (upd H1 T (.tup [.int (k : Nat), .ref u])) u' (unitL ps.length i) := fun i c e => by
        obtain ⟨u', g1, g2, g3⟩ := hc i c e
        exact ⟨u', g1, same_sqt s2 g2, g3.same s2⟩
      refine ⟨T, _, rfl, SqT.of upd_same, rfl, _, _, rfl, _, _, rfl, u, _, rfl, hu, rfl, _, _, rfl, _, _, rfl, rfl, rfl, ?_⟩
      clear hc by1
      generalize upd H1 T (.tup [.int (k : Nat), .ref u]) = H2 at s2 s12 hu by2 hc2 ⊢
      have e1 := same_sqt s12 h1
      refine ⟨_, rfl, .inl ⟨rfl, _, SqL.of by2⟩, _, rfl, _, ps.length, rfl, .inr ⟨_, e1, hl.symm⟩, _, rfl, by omega, by omega, fun D hD => ?_⟩
      refine lc_known (walk_range (lo := 0) (n := ((ps.length : Nat) : Int).toNat)) (fun i => .int (if k = i then 1 else 0)) (by omega) hD (fun _ _ => trivial) (fun _ _ _ _ g => by obtain ⟨rfl, _⟩ := g; exact fun _ _ e => e) (fun _ => rfl) ?_ ?_
      · rintro i z H3 H4 Qk hi s3 ⟨rfl, hz⟩ kk
        have ez : z = .int ((i : Nat) : Int) := by
          rw [hz]
          show V.int (0 + ((i : Nat) : Int)) = _
          rw [Int.zero_add]
        subst ez
        have kx := kk H4 fun _ _ e => e
        refine ⟨_, rfl, _, rfl, rfl, _, rfl, ?_⟩
        by_cases g : k = i
        · rw [decide_eq_true (show V.int ((k : Nat) : Int) = V.int ((i : Nat) : Int) by rw [g])]
          rw [if_pos g] at kx
          exact iteT kx
        · rw [decide_eq_false (fun y' => g (by injection y' with y'; omega))]
          rw [if_neg g] at kx
          exact iteF kx
      · intro H3 s3 bD
        have nDy : D ≠ y := fun z => by rw [z, by2] at hD; cases hD
        refine ⟨_, rfl, _, rfl, _, _, rfl, rfl, by show 2 ≤ sizeLine; decide, fun c hcn => ?_⟩
        have s4 := Same.new (o := .tup [.ref D, .int (ps[k].2 - ps[k].1)]) hcn
        have s34 := s3.trans s4
        have by4 := s34 _ _ by2
        refine ⟨y, _, _, rfl, rfl, by4, ?_, hkp, ⟨_, _, _, rfl⟩, fun b o e => ?_, cs ++ [c], ?_, ?_, fun i c' e => ?_⟩
        · rw [List.length_map]
          exact Nat.lt_of_lt_of_le (show cs.length < 10 by omega) (by decide)
        · rw [upd_ne (ne_of_none e hy)]
          exact (s12.trans s34) _ _ e
        · rw [upd_same, List.map_append]
          rfl
        · rw [List.length_append, lc]
          rfl
        · by_cases g : i < cs.length
          · rw [List.getElem?_append_left g] at e
            obtain ⟨u', g1, g2, g3⟩ := hc2 i c' e
            refine ⟨u', g1, sqt_updT by4 (same_sqt s34 g2), ?_⟩
            show upd _ _ _ _ = _
            rw [upd_ne g1]
            exact s34 _ _ g3
          · rw [List.getElem?_append_right (Nat.le_of_not_lt g)] at e
            have e0 : i - cs.length = 0 := by
              cases z : i - cs.length with
              | zero => rfl
              | succ n => rw [z] at e; cases e
            rw [e0] at e
            obtain rfl := Option.some.inj e
            have ik : i = k := by omega
            subst ik
            refine ⟨D, nDy, sqt_updT by4 (SqT.of ?_), ?_⟩
            · rw [upd_same, List.getD_eq_getElem?_getD, List.getElem?_eq_getElem hkp]
              rfl
            · show upd _ _ _ _ = _
              rw [upd_ne nDy]
              refine s4 _ _ ?_
              rw [bD]
              unfold unitL
              rw [List.map_map, Int.toNat_natCast]
              rfl
    · obtain ⟨_, ⟨o2, o3, o4, rfl⟩, s1, cs, by1, lc, hc⟩ := p
      refine ⟨_, rfl, q _ y s1 ⟨cs, by1, ?_, fun i c l e1 e2 => ?_⟩⟩
      · unfold widthL
        rw [lc, hl, List.length_map, List.length_range]
      · obtain ⟨u, _, g2, g3⟩ := hc i c e1
        have il := (List.getElem?_eq_some_iff.mp e1).1
        unfold widthL at e2
        rw [List.getElem?_map, List.getElem?_range (by omega)] at e2
        obtain rfl := Option.some.inj e2
        exact ⟨u, g2, g3⟩
end
end Ca
set_option Elab.async false
set_option linter.all false
set_option maxRecDepth 100000
set_option maxHeartbeats 8000000
namespace Ca
open PySem L2
/-! ### numbers for a row, with which all that was seen keeps it -/
def seenLs (r : Rw) (fss : List (List (Int × Int))) : List (List Int × Int) := widthL r.parts ++ fss.map fun fs => seenLim fs r
abbrev zs (m : Nat) : List Int := List.replicate m 0
theorem zs_zeros (m : Nat) : zerosOf (zs m) = zs m := by
  unfold zerosOf
  rw [List.length_replicate]
structure SeenOk (fss : List (List (Int × Int))) (m : Nat) : Prop where
  hi : fss.length ≤ 8
  ok : ∀ fs ∈ fss, SnOk fs ∧ fs.length = m
theorem sum_le {B : Nat} : ∀ l : List Int, (∀ x ∈ l, x.natAbs ≤ B) → l.sum.natAbs ≤ l.length * B
  | [], _ => by simp
  | x :: l, h => by
    have ih := sum_le l fun y hy => h y (List.mem_cons_of_mem _ hy)
    have := h x (List.mem_cons_self ..)
    rw [List.sum_cons, List.length_cons, Nat.succ_mul]
    omega
theorem least_small {fs ps : List (Int × Int)} (ho : SnOk fs) (hp : ∀ p ∈ ps, -10000 ≤ p.1 ∧ p.1 ≤ p.2 ∧ p.2 ≤ 10000) : ∀ x ∈ leastS fs ps, x.natAbs ≤ 2 ^ 134 := by
  intro x hx
  obtain ⟨i, hi, rfl⟩ := List.mem_map.mp hx
  have hi' := List.mem_range.mp hi
  have a : ((partsW fs).getD i 0).natAbs ≤ 2 ^ 120 := getD_le (parts_small ho) i
  have b : ((ps.getD i (0, 0)).1).natAbs ≤ 2 ^ 14 := by
    rw [List.getD_eq_getElem?_getD, List.getElem?_eq_getElem hi']
    obtain ⟨g1, g2, g3⟩ := hp _ (List.getElem_mem hi')
    show (ps[i].1).natAbs ≤ 16384
    omega
  show ((partsW fs).getD i 0 * (ps.getD i (0, 0)).1).natAbs ≤ _
  rw [Int.natAbs_mul]
  exact Nat.le_trans (Nat.mul_le_mul a b) (by decide)
theorem seen_mild {r : Rw} {fss : List (List (Int × Int))} {m : Nat} (hR : isRowD (rowD r) m = true) (hm : m ≤ 3) (ho : SeenOk fss m) : Mild (seenLs r fss) (zs m) (2 ^ 200) := by
  have RP := row_pairs hR
  have hl := (row_name hR).2
  have up : ∀ {x : Nat} {k : Nat}, x ≤ 2 ^ k → k ≤ 200 → x ≤ 2 ^ 200 := fun h1 h2 => Nat.le_trans h1 (Nat.pow_le_pow_right (by decide) h2)
  refine ⟨Nat.one_le_two_pow, fun l hl' x hx => ?_, fun l hl' => ?_, fun x hx => ?_⟩
  · rcases List.mem_append.mp hl' with h | h
    · obtain ⟨k, _, rfl⟩ := List.mem_map.mp h
      obtain ⟨i, _, rfl⟩ := List.mem_map.mp (show x ∈ (List.range r.parts.length).map fun i => if k = i then (1 : Int) else 0 from hx)
      refine up (k := 0) ?_ (by decide)
      split <;> decide
    · obtain ⟨fs, hf, rfl⟩ := List.mem_map.mp h
      exact up (parts_small (ho.ok fs hf).1 x hx) (by decide)
  · rcases List.mem_append.mp hl' with h | h
    · obtain ⟨k, hk, rfl⟩ := List.mem_map.mp h
      have hk' := List.mem_range.mp hk
      refine up (k := 15) ?_ (by decide)
      show ((r.parts.getD k (0, 0)).2 - (r.parts.getD k (0, 0)).1).natAbs ≤ _
      rw [List.getD_eq_getElem?_getD, List.getElem?_eq_getElem hk']
      obtain ⟨g1, g2, g3⟩ := RP _ (List.mem_append_left _ (List.getElem_mem hk'))
      show (r.parts[k].2 - r.parts[k].1).natAbs ≤ 32768
      omega
    · obtain ⟨fs, hf, rfl⟩ := List.mem_map.mp h
      obtain ⟨so, sl⟩ := ho.ok fs hf
      have s := sum_le _ (least_small so fun p hp => RP p (List.mem_append_left _ hp))
      have ll : (leastS fs r.parts).length ≤ 3 := by unfold leastS; rw [List.length_map, List.length_range]; omega
      have s2 : ((leastS fs r.parts).sum).natAbs ≤ 3 * 2 ^ 134 := Nat.le_trans s (Nat.mul_le_mul_right _ ll)
      obtain ⟨g1, g2, g3⟩ := RP _ (List.mem_append_right _ (List.mem_singleton.mpr rfl))
      have w := whole_all so
      have p : (((wholeOf fs : Nat) : Int) * r.bd.2).natAbs ≤ 2 ^ 60 * 2 ^ 14 := by
        rw [Int.natAbs_mul, Int.natAbs_natCast]
        exact Nat.mul_le_mul w (show r.bd.2.natAbs ≤ 16384 by omega)
      refine up (k := 137) ?_ (by decide)
      show (((wholeOf fs : Nat) : Int) * r.bd.2 - (leastS fs r.parts).sum).natAbs ≤ _
      have t : (2 : Nat) ^ 60 * 2 ^ 14 + 3 * 2 ^ 134 ≤ 2 ^ 137 := by decide
      refine Nat.le_trans ?_ t
      generalize (2 : Nat) ^ 60 * 2 ^ 14 = u at p ⊢
      generalize 3 * (2 : Nat) ^ 134 = v at s2 ⊢
      omega
  · rw [List.eq_of_mem_replicate hx]
    exact Nat.zero_le _
theorem seen_len {r : Rw} {fss : List (List (Int × Int))} : (seenLs r fss).length = r.parts.length + fss.length := by
  unfold seenLs widthL
  rw [List.length_append, List.length_map, List.length_map, List.length_range]
theorem seen_low {r : Rw} {fss : List (List (Int × Int))} {m : Nat} (hR : isRowD (rowD r) m = true) (hm : m ≤ 3) (ho : SeenOk fss m) : Low (seenLs r fss).length (zs m).length (VOf (seenLs r fss) (zs m)) := by
  refine (seen_mild hR hm ho).low ?_
  have hl := (row_name hR).2
  have h8 := ho.hi
  have a : ((seenLs r fss).length + 1) * 2 ^ 200 ≤ 2 ^ 204 := by
    rw [seen_len]
    exact Nat.le_trans (Nat.mul_le_mul_right _ (show r.parts.length + fss.length + 1 ≤ 16 by omega)) (by decide)
  refine Nat.lt_of_le_of_lt (Nat.pow_le_pow_left a _) ?_
  rw [← Nat.pow_mul]
  refine Nat.pow_lt_pow_right (by decide) ?_
  rw [List.length_replicate]
  have : 204 * (m + 1) ≤ 204 * 4 := Nat.mul_le_mul_left _ (by omega)
  omega
theorem seen_cols {r : Rw} {fss : List (List (Int × Int))} {m : Nat} (hR : isRowD (rowD r) m = true) (ho : SeenOk fss m) : ∀ l ∈ seenLs r fss, l.1.length = (zs m).length := by
  have hl := (row_name hR).2
  intro l h
  rw [List.length_replicate]
  rcases List.mem_append.mp h with h | h
  · obtain ⟨k, _, rfl⟩ := List.mem_map.mp h
    show (List.map _ _).length = m
    rw [List.length_map, List.length_range, hl]
  · obtain ⟨fs, hf, rfl⟩ := List.mem_map.mp h
    show (partsW fs).length = m
    rw [partsW_len, (ho.ok fs hf).2]
def UnfitP (r : Rw) (fss : List (List (Int × Int))) : Prop := ∃ (t : Tb) (i : Nat), Shp (seenLs r fss).length r.parts.length t ∧ StOf (seenLs r fss) (zs r.parts.length) t ∧ i < (seenLs r fss).length ∧ tT t i r.parts.length < 0 ∧ ∀ j, j < r.parts.length → 0 ≤ tT t i j
def FitP (r : Rw) (fss : List (List (Int × Int))) (gs : List (Int × Int)) : Prop := gs.length = r.parts.length ∧ ∃ t : Tb, Shp (seenLs r fss).length r.parts.length t ∧ StOf (seenLs r fss) (zs r.parts.length) t ∧ (∀ q, ¬ WrongT (seenLs r fss).length r.parts.length t q) ∧
  ∀ q g, gs[q]? = some g → ∃ p, AmtOf r.parts.length t (seenLs r fss).length q p ∧ Red ((r.parts.getD q (0, 0)).1 * p.2 + p.1 * 1) (1 * p.2) g.1 g.2
/-- what is told of a row: no numbers, or some -/
def FitT (K : PySem.W.Frag) (H : Hp) (r : Rw) (fss : List (List (Int × Int))) (v : V) : Prop := (v = .non ∧ UnfitP r fss) ∨ ∃ gs : List (Int × Int), Dq K H v (frsD gs) ∧ FitP r fss gs
theorem FitT.same {K : PySem.W.Frag} {H H' : Hp} {r : Rw} {fss : List (List (Int × Int))} {v : V} (h : FitT K H r fss v) (s : Same H H') : FitT K H' r fss v := by
  rcases h with h | ⟨gs, d, h⟩
  · exact .inl h
  · exact .inr ⟨gs, d.same s, h⟩
theorem frsAll_updT {K : PySem.W.Frag} {H : Hp} {y : Addr} {ys : List V} {o : HO} (hy : H y = some (.lst ys)) : ∀ {gs : List (Int × Int)} {vs : List V}, DqAll K H vs (gs.map frD) → DqAll K (upd H y o) vs (gs.map frD)
  | [], _, h => by cases h; exact .nil
  | g :: gs, _, h => by
    cases h with
    | cons a b => exact .cons (fr_updT hy a) (frsAll_updT hy b)
def ansD (fss : List (List (Int × Int))) : PyData := .tuple (fss.map frsD)
def spNums (K : PySem.W.Frag) : Sp := fun vs H Q _ => ∃ x s r fss m, vs = [x, s] ∧ Dq K H x (rowD r) ∧ isRowD (rowD r) m = true ∧ 1 ≤ m ∧ m ≤ 3 ∧ Dq K H s (ansD fss) ∧ SeenOk fss m ∧ ∀ H' v, Same H H' → FitT K H' r fss v → Q v H'
abbrev NNu : List Str := ["row", "seen", "limits", "_", "parts", "answer", "low", "high", "part"]
theorem ans_get {K : PySem.W.Frag} {H : Hp} {xs : List V} {fss : List (List (Int × Int))} {k : Nat} {v : V} (h : DqAll K H xs (fss.map frsD)) (hk : k < fss.length) (hv : xs[k]? = some v) : Dq K H v (frsD fss[k]) := by
  obtain ⟨d, hd, dq⟩ := h.get hv
  rw [List.getElem?_map, List.getElem?_eq_getElem hk] at hd
  cases hd
  exact dq
section
variable {P : Program} {w : World} {K : PySem.W.Frag} {mg : Str → Option Value} {base : Heap}
theorem scNu : FnScope NNu ["row", "seen"] (defScope sNumbersFor) := ⟨rfl, rfl, rfl, by decide +kernel, rfl, by decide +kernel, by decide +kernel⟩
theorem ok_nums {f fW fS fC fP : Addr} {fd fdW fdS fdC fdP : FuncData} (F : FnT K "numbers_for" sNumbersFor f fd) (mzip : mg "zip" = none) (mtup : mg "tuple" = none)
    (gW : mg "width_limits" = some (.ref fW)) (GW : FnOk P w K mg base CX0 1 fW fdW ["stretches"] (spWidth K)) (kW : PySem.W.keepIn K (.ref fW) = true) (bW : Binds K fdW ["stretches"] [])
    (gS : mg "seen_limit" = some (.ref fS)) (GS : FnOk P w K mg base CX0 2 fS fdS ["row", "answer"] (spSeenLim K)) (kS : PySem.W.keepIn K (.ref fS) = true) (bS : Binds K fdS ["row", "answer"] [])
    (gC : mg "cheapest_amounts" = some (.ref fC)) (GC : FnOk P w K mg base CX0 5 fC fdC ["limits", "costs"] (spCheap K 1)) (kC : PySem.W.keepIn K (.ref fC) = true) (bC : Binds K fdC ["limits", "costs"] [])
    (gP : mg "plus" = some (.ref fP)) (GP : FnOk P w K mg base CX0 2 fP fdP ["one", "other"] (spPlus K)) (kP : PySem.W.keepIn K (.ref fP) = true) (bP : Binds K fdP ["one", "other"] []) :
    FnOk P w K mg base CX0 6 f fd ["row", "seen"] (spNums K) := by
  refine F.ok scNu (fun vs H Q E h => ?_) (fun cdv A outer s H vs Q E hr h => ?_)
  · obtain ⟨x, s, r, fss, m, rfl, _⟩ := h
    rfl
  · obtain ⟨x, s', r, fss, m, rfl, dx, hR, h1m, hm, ds, ho, q⟩ := h
    have nd := scNu.nd
    have hr1 : Room 1 _ := hr.mono (by decide)
    have hr2 : Room 2 _ := hr.mono (by decide)
    refine ⟨_, PSs.nox (pss_cons (ps_cut (ps_set (i := 2) nd rfl (.inl rfl) (pe_op op_cat (pe_call GW hr1 rfl gW kW bW .nil pass0 (pa_cons (pe_ix ix_tup (pv 0) pe_int (fun _ _ => rfl)) pa_nil))
        (pe_lc (own := [("answer", 5)]) (g := gName 5) (tt := tYes) rfl nd (pi_tup (pv 1))
          (blkOk_by (own := [("answer", 5)]) (N := NNu) (sc := defScope sNumbersFor) (by decide +kernel)) (fun _ _ _ _ _ => pg_name (i := 5) nd rfl (Or.inl rfl)) (fun _ _ _ _ _ => pts_nil)
          (fun _ _ _ _ _ => pe_call GS hr2 rfl gS kS bS .nil pass0 (pa_cons (pv 0) (pa_cons (pv 5) pa_nil)))))))
      (pss_cons (ps_cut (ps_asg (pe_call GC hr rfl gC kC bC .nil pass0 (pa_cons (pv 2) (pa_cons (pe_lc (own := [("_", 3)]) (g := gName 3) (tt := tYes) rfl nd (pi_tup (pe_ix ix_tup (pv 0) pe_int (fun _ _ => rfl)))
          (blkOk_by (own := [("_", 3)]) (N := NNu) (sc := defScope sNumbersFor) (by decide +kernel)) (fun _ _ _ _ _ => pg_name (i := 3) nd rfl (Or.inl rfl)) (fun _ _ _ _ _ => pts_nil)
          (fun _ _ _ _ _ => pe_int)) pa_nil))) (pgTt K rfl (pgs_cons (pg_name (i := 4) nd rfl (.inl rfl)) (pgs_cons (pg_name (i := 3) nd rfl (.inl rfl)) pgs_nil)))))
      (pss_cons (ps_if (pt_cmpR op_isN (pv 4) pe_non (nomark _)) (pss_one (ps_ret pe_non)) pss_nil)
      (pss_one (ps_ret (pe_callTy call_tuple_of (by rfl) mtup (by decide +kernel) (pa_cons (pe_lc (own := [("low", 6), ("high", 7), ("part", 8)]) (g := gTup K 2 (gCons (gTup K 2 (gCons (gName 6) (gCons (gName 7) gNil))) (gCons (gName 8) gNil))) (tt := tYes) rfl nd
          (CaZ.pi_zipQ (by rfl) mzip (pa_cons (pe_ix ix_tup (pv 0) pe_int (fun _ _ => rfl)) (pa_cons (pv 4) pa_nil)))
          (blkOk_by (own := [("low", 6), ("high", 7), ("part", 8)]) (N := NNu) (sc := defScope sNumbersFor) (by decide +kernel)) (fun _ _ _ _ _ => pgTt K rfl (pgs_cons (pgTt K rfl (pgs_cons (pg_name (i := 6) nd rfl (Or.inl rfl)) (pgs_cons (pg_name (i := 7) nd rfl (Or.inl rfl)) pgs_nil))) (pgs_cons (pg_name (i := 8) nd rfl (Or.inl rfl)) pgs_nil))) (fun _ _ _ _ _ => pts_nil)
          (fun _ _ _ _ _ => pe_call GP hr2 rfl gP kP bP .nil pass0 (pa_cons (pe_tup (pa_cons (pv 6) (pa_cons pe_int pa_nil))) (pa_cons (pv 8) pa_nil)))) pa_nil))))))), ?_⟩
    have RP := row_pairs hR
    have hrl := (row_name hR).2
    have two : 2 ≤ sizeLine := by decide
    obtain ⟨b, v2, v3, rfl, hb, d2, d3, _⟩ := row_at dx
    obtain ⟨c, ys, rfl, hc, dys, hl⟩ := tup_len d2
    rw [List.length_map] at hl
    obtain ⟨sa, ss, rfl, hsa, dss, hsl⟩ := tup_len ds
    rw [List.length_map] at hsl
    have h8 := ho.hi
    -- the limits
    refine ⟨fun σ' H' => ∃ y, σ' = [some (.ref b), some (.ref sa), some (.ref y), none, none, none, none, none, none] ∧ Same H H' ∧ LimsAt K H' y (seenLs r fss), ?_, ?_⟩
    · refine ⟨_, rfl, b, _, 1, _, rfl, rfl, hb, atI_nat (j := 1) rfl, .ref c, r.parts, rfl, d2, by omega, fun H1 w1 s1 L1 => ?_⟩
      refine ⟨_, rfl, sa, rfl, ⟨_, same_sqt s1 hsa⟩, fun D hD => ?_⟩
      refine lc_it (walk_tup (K := K) (a := sa) (xs := ss)) (fun k H' => Same H1 H' ∧ ∃ qs : List Addr, H' D = some (.lst (qs.map V.ref)) ∧ qs.length = k ∧ ∀ (i : Nat) (p : Addr) (fs : List (Int × Int)), qs[i]? = some p → fss[i]? = some fs → ∃ u, u ≠ D ∧ SqT K H' p [.ref u, .int (seenLim fs r).2] ∧ IntsAt H' u (seenLim fs r).1)
        ⟨Same.new hD, [], upd_same, rfl, fun i p fs h => by simp at h⟩ (fun k H' hk p => same_sqt (s1.trans p.1) hsa) ?_ ?_
      · rintro k z H2 _ hk ⟨s2, qs, bD, lq, hq⟩ ⟨rfl, hz⟩
        have hkf : k < fss.length := by omega
        have dz := ans_get (dss.same (s1.trans s2)) hkf hz
        obtain ⟨so, sl⟩ := ho.ok _ (List.getElem_mem hkf)
        refine ⟨rfl, rdYes ⟨_, rfl, _, rfl, .ref b, z, r, fss[k], m, rfl, dx.same (s1.trans s2), hR, dz, so, sl, fun H3 p u s3 hp hu => ?_⟩⟩
        have bD3 := s3 _ _ bD
        have nu : u ≠ D := fun z => by
          unfold IntsAt at hu
          rw [z, bD3] at hu
          injection hu with hu
          injection hu with hu
          have ln := congrArg List.length hu
          rw [List.length_map, List.length_map, show (seenLim fss[k] r).1.length = m from (partsW_len _).trans sl] at ln
          cases qs with
          | nil =>
            simp only [List.length_nil] at ln
            omega
          | cons a qs =>
            cases hx : (seenLim fss[k] r).1 with
            | nil => rw [hx] at hu; cases hu
            | cons i xs => rw [hx] at hu; cases hu
        refine ⟨_, bD3, ?_, fun b' o g => ?_, qs ++ [p], ?_, ?_, fun i p' fs e1 e2 => ?_⟩
        · rw [List.length_map]
          exact Nat.lt_of_lt_of_le (show qs.length < 10 by omega) (by decide)
        · rw [upd_ne (ne_of_none g hD)]
          exact s3 _ _ (s2 _ _ g)
        · rw [upd_same, List.map_append]
          rfl
        · rw [List.length_append, lq]
          rfl
        · by_cases g : i < qs.length
          · rw [List.getElem?_append_left g] at e1
            obtain ⟨u', g1, g2, g3⟩ := hq i p' fs e1 e2
            refine ⟨u', g1, sqt_updT bD3 (same_sqt s3 g2), ?_⟩
            show upd _ _ _ _ = _
            rw [upd_ne g1]
            exact s3 _ _ g3
          · rw [List.getElem?_append_right (Nat.le_of_not_lt g)] at e1
            have e0 : i - qs.length = 0 := by
              cases z : i - qs.length with
              | zero => rfl
              | succ n => rw [z] at e1; cases e1
            rw [e0] at e1
            obtain rfl := Option.some.inj e1
            have ik : i = k := by omega
            subst ik
            rw [List.getElem?_eq_getElem hkf] at e2
            obtain rfl := Option.some.inj e2
            refine ⟨u, nu, sqt_updT bD3 hp, ?_⟩
            show upd _ _ _ _ = _
            rw [upd_ne nu]
            exact hu
      · rintro H2 ⟨s2, qs, bD, lq, hq⟩
        obtain ⟨ps, p1, p2, p3⟩ := L1.same s2
        refine ⟨w1, D, _, _, rfl, rfl, p1, bD, ?_, fun y hy => ⟨y, rfl, ?_, ps ++ qs, ?_, ?_, fun i p l e1 e2 => ?_⟩⟩
        · have wl : (widthL r.parts).length = r.parts.length := by unfold widthL; rw [List.length_map, List.length_range]
          rw [List.length_map, List.length_map, p2, wl, lq]
          exact Nat.le_trans (show r.parts.length + ss.length ≤ 20 by omega) (by decide)
        · exact (s1.trans s2).trans (Same.new hy)
        · rw [upd_same, List.map_append]
        · unfold seenLs
          rw [List.length_append, List.length_append, p2, lq, List.length_map, hsl]
        · have s3 := Same.new (o := .lst (ps.map V.ref ++ qs.map V.ref)) hy
          unfold seenLs at e2
          by_cases g : i < ps.length
          · rw [List.getElem?_append_left g] at e1
            rw [List.getElem?_append_left (by omega)] at e2
            obtain ⟨u, g1, g2⟩ := p3 i p l e1 e2
            exact ⟨u, same_sqt s3 g1, g2.same s3⟩
          · rw [List.getElem?_append_right (Nat.le_of_not_lt g)] at e1
            rw [List.getElem?_append_right (by omega), ← p2, List.getElem?_map] at e2
            cases ef : fss[i - ps.length]? with
            | none => rw [ef] at e2; cases e2
            | some fs =>
              rw [ef] at e2
              obtain rfl := Option.some.inj e2
              obtain ⟨u, _, g1, g2⟩ := hq _ p fs e1 ef
              exact ⟨u, same_sqt s3 g1, g2.same s3⟩
    rintro _ H1 ⟨y, rfl, s1, L1⟩
    have low := seen_low hR hm ho
    have cols := seen_cols hR ho
    have lens : (seenLs r fss).length ≤ 20 := by rw [seen_len]; omega
    refine ⟨fun σ' H' => ∃ a' w', σ' = [some (.ref b), some (.ref sa), some (.ref y), some w', some a', none, none, none, none] ∧ Same H H' ∧ Told K H' (seenLs r fss) (zs m) a' w', ?_, ?_⟩
    · refine ⟨_, rfl, _, rfl, b, _, 1, _, rfl, rfl, same_sqt s1 hb, atI_nat (j := 1) rfl, c, rfl, ⟨_, same_sqt s1 hc⟩, fun D hD => ?_⟩
      refine lc_known (walk_tup (K := K) (a := c) (xs := ys)) (fun i => .int 0) (by omega) hD (fun H' s' => same_sqt (s1.trans s') hc) (fun _ _ _ _ g => by obtain ⟨rfl, _⟩ := g; exact fun _ _ e => e) (fun _ => rfl) ?_ ?_
      · rintro i z H3 H4 Qk hi s3 ⟨rfl, hz⟩ kk
        exact kk H4 fun _ _ e => e
      · intro H2 s2 bD
        have ez : IntsAt H2 D (zs m) := by
          unfold IntsAt zs
          rw [bD, hl, hrl, List.map_replicate]
          congr 2
          exact List.ext_getElem (by simp) fun i h1 h2 => by simp
        refine ⟨y, D, seenLs r fss, zs m, rfl, L1.same s2, ez, cols, by omega, by rw [List.length_replicate]; omega, low, by rw [zs_zeros]; exact low, by decide, fun _ => (zs_zeros m).symm, fun H3 z a' w' s3 hz td => ?_⟩
        exact ⟨z, _, rfl, hz, rfl, _, _, rfl, _, _, rfl, rfl, ⟨a', w', rfl, s1.trans (s2.trans s3), td⟩⟩
    rintro _ H2 ⟨a', w', rfl, s2, td⟩
    have st : ∀ {t : Tb}, StOf (seenLs r fss) (zs m) t ∨ StOf (seenLs r fss) (zerosOf (zs m)) t → StOf (seenLs r fss) (zs r.parts.length) t := fun {t} h => by
      rw [zs_zeros] at h
      rw [hrl]
      exact h.elim id id
    have zl : (zs m).length = r.parts.length := by rw [List.length_replicate, hrl]
    have key : (a' = .non ∧ ∃ (t : Tb) (i : Nat), Shp (seenLs r fss).length r.parts.length t ∧ StOf (seenLs r fss) (zs r.parts.length) t ∧ i < (seenLs r fss).length ∧ tT t i r.parts.length < 0 ∧ ∀ j, j < r.parts.length → 0 ≤ tT t i j) ∨
        ∃ (y1 : Addr) (t : Tb), a' = .ref y1 ∧ Shp (seenLs r fss).length r.parts.length t ∧ StOf (seenLs r fss) (zs r.parts.length) t ∧ (∀ q, ¬ WrongT (seenLs r fss).length r.parts.length t q) ∧ AmtsAt K H2 y1 r.parts.length t (seenLs r fss).length := by
      rcases td with ⟨y', t, i, e1, _, sh, st', i1, i2, i3, _⟩ | ⟨y1, y2, t, e1, _, sh, st', no, am, _⟩ | ⟨y1, t, t', j, e1, _, sh, st', no, am, _⟩
      · rw [zl] at sh i2 i3
        exact .inl ⟨e1, t, i, sh, st st', i1, i2, i3⟩
      · rw [zl] at sh no am
        exact .inr ⟨y1, t, e1, sh, st (.inl st'), no, am⟩
      · rw [zl] at sh no am
        exact .inr ⟨y1, t, e1, sh, st (.inr st'), no, am⟩
    rcases key with ⟨rfl, fit⟩ | ⟨y1, t, rfl, sh, so, no, vs, bv, lv, hv⟩
    · refine ⟨_, rfl, rfl, _, rfl, ?_⟩
      rw [decide_eq_true rfl]
      exact iteT (q H2 .non s2 (.inl ⟨rfl, fit⟩))
    · refine ⟨_, rfl, rfl, _, rfl, ?_⟩
      rw [decide_eq_false (fun z => nomatch z)]
      obtain ⟨S, rp, okS, _⟩ := id so
      have lowS := low S (by rw [List.length_replicate, hrl.symm] at *; exact okS)
      have Dp' : 0 < t.D := by rw [rp.D]; exact okS.dic.pos
      have Ds : t.D.natAbs < 2 ^ 1000 := by rw [rp.D]; exact lowS.1
      have Ts : ∀ i j, i ≤ (seenLs r fss).length → j ≤ r.parts.length → (tT t i j).natAbs < 2 ^ 1000 := fun i j hi hj => by
        rw [rp.T i j hi (by rw [List.length_replicate]; exact hj)]
        exact lowS.2 i j hi (by rw [zl]; exact hj)
      refine iteF ⟨_, rfl, b, _, 1, _, rfl, rfl, same_sqt s2 hb, atI_nat (j := 1) rfl, _, rfl, c, y1, ys, vs, rfl, same_sqt s2 hc, SqL.of bv, fun D hD => ?_⟩
      refine lc_it (CaZ.walk_zq (K := K) (a := c) (b := y1) (xs := ys) (ys := vs) (n := m) (by omega) (by omega)) (fun k H' => Same H2 H' ∧ ∃ (ws : List V) (gs : List (Int × Int)), H' D = some (.lst ws) ∧ DqAll K H' ws (gs.map frD) ∧ gs.length = k ∧ ∀ q' g, gs[q']? = some g → ∃ p, AmtOf r.parts.length t (seenLs r fss).length q' p ∧ Red ((r.parts.getD q' (0, 0)).1 * p.2 + p.1 * 1) (1 * p.2) g.1 g.2)
        ⟨Same.new hD, [], [], upd_same, .nil, rfl, fun q' g h => by simp at h⟩ (fun k H' hk p' => ⟨same_sqt (s2.trans p'.1) hc, SqL.of (p'.1 _ _ bv)⟩) ?_ ?_
      · rintro k z H3 _ hk ⟨s3, ws, gs, bD, dws, lg, hg⟩ ⟨T, x1, y1', rfl, hT, rfl, hx, hy⟩
        have s4 := Same.new (o := .tup [x1, y1']) hT
        have s34 := s3.trans s4
        have hkp : k < r.parts.length := by omega
        obtain ⟨u, rfl, hu⟩ := strs_get (dys.same (s2.trans s34)) hkp hx
        obtain ⟨p, dp, am⟩ := hv k y1' hy
        obtain ⟨b1, b2, b3⟩ := RP _ (List.mem_append_left _ (List.getElem_mem hkp))
        have pk : FrOk 2000 p := by
          have up : ∀ {x : Nat}, x < 2 ^ 1000 → x < 2 ^ 2000 := fun h => Nat.lt_trans h (Nat.pow_lt_pow_right (by decide) (by decide))
          rcases am with ⟨l, l1, l2, l3⟩ | ⟨_, rfl⟩
          · obtain ⟨m1, m2⟩ := l3.le
            exact ⟨l3.pos, up (Nat.lt_of_le_of_lt m1 (Ts _ _ (by omega) (Nat.le_refl _))), up (Nat.lt_of_le_of_lt m2 Ds)⟩
          · exact ⟨by decide, up (Nat.pow_pos (by decide)), up (Nat.lt_of_lt_of_le (show 1 < 2 ^ 1 by decide) (Nat.pow_le_pow_right (by decide) (by decide)))⟩
        refine ⟨T, _, rfl, SqT.of upd_same, rfl, _, _, rfl, u, _, rfl, hu, rfl, _, _, rfl, _, _, rfl, rfl, _, _, rfl, rfl, rfl, rdYes ?_⟩
        refine ⟨_, rfl, two, fun w hw => ⟨_, rfl, ?_⟩⟩
        have s5 := Same.new (o := .tup [.int r.parts[k].1, .int 1]) hw
        have s45 := s4.trans s5
        refine ⟨.ref w, y1', (r.parts[k].1, 1), p, rfl, fr_of upd_same, (dp.same s34).same s5, ⟨(by show (0 : Int) < 1; decide), ?_, ?_⟩, pk, fun H6 z' g1 g2 s6 dz rd => ?_⟩
        · exact Nat.lt_of_le_of_lt (m := 10000) (by show r.parts[k].1.natAbs ≤ 10000; omega) (Nat.lt_of_lt_of_le (by decide : 10000 < 2 ^ 14) (Nat.pow_le_pow_right (by decide) (by decide)))
        · exact Nat.lt_of_lt_of_le (show (1 : Int).natAbs < 2 ^ 1 by decide) (Nat.pow_le_pow_right (by decide) (by decide))
        have s36 := s45.trans s6
        have bD6 := s36 _ _ bD
        refine ⟨ws, bD6, ?_, fun b' o g => ?_, ws ++ [z'], gs ++ [(g1, g2)], upd_same, ?_, by rw [List.length_append, lg]; rfl, fun q' g e => ?_⟩
        · have := dws.len
          rw [List.length_map] at this
          exact Nat.lt_of_lt_of_le (show ws.length < 10 by omega) (by decide)
        · rw [upd_ne (ne_of_none g hD)]
          exact s36 _ _ (s3 _ _ g)
        · rw [List.map_append]
          exact (frsAll_updT bD6 (dws.same s36)).app (.cons (fr_updT bD6 dz) .nil)
        · by_cases g0 : q' < gs.length
          · rw [List.getElem?_append_left g0] at e
            exact hg q' g e
          · rw [List.getElem?_append_right (Nat.le_of_not_lt g0)] at e
            have e0 : q' - gs.length = 0 := by
              cases z : q' - gs.length with
              | zero => rfl
              | succ n => rw [z] at e; cases e
            rw [e0] at e
            obtain rfl := Option.some.inj e
            have ik : q' = k := by omega
            subst ik
            refine ⟨p, am, ?_⟩
            rw [List.getD_eq_getElem?_getD, List.getElem?_eq_getElem hkp]
            exact rd
      · rintro H3 ⟨s3, ws, gs, bD, dws, lg, hg⟩
        refine ⟨D, ws, rfl, .inl ⟨SqL.of bD, fun tr htr => ?_⟩⟩
        have s4 := Same.new (o := .tup ws) htr
        exact q _ (.ref tr) (s2.trans (s3.trans s4)) (.inr ⟨gs, .tup (SqT.of upd_same) (dws.same s4), by omega, t, sh, so, no, hg⟩)
end
end Ca
set_option Elab.async false
set_option linter.all false
set_option maxRecDepth 100000
set_option maxHeartbeats 4000000
namespace Ca
open PySem L2
theorem frs_get {K : PySem.W.Frag} {H : Hp} {xs : List V} {fs : List (Int × Int)} {k : Nat} {v : V} (h : DqAll K H xs (fs.map frD)) (hk : k < fs.length) (hv : xs[k]? = some v) : Dq K H v (frD fs[k]) := by
  obtain ⟨d, hd, dq⟩ := h.get hv
  rw [List.getElem?_map, List.getElem?_eq_getElem hk] at hd
  cases hd
  exact dq
section
variable {P : Program} {w : World} {K : PySem.W.Frag} {mg : Str → Option Value} {base : Heap}
theorem scIsFraction : FnScope ["value", "top", "bottom"] ["value"] (defScope sIsFraction) := ⟨rfl, rfl, rfl, by decide +kernel, rfl, by decide +kernel, by decide +kernel⟩
theorem ok_isFraction {f fT fI : Addr} {fd fdT fdI : FuncData} (F : FnT K "is_fraction" sIsFraction f fd) (mgcd : mg "gcd" = some (.builtin "math.gcd"))
    (gT : mg "is_tuple_of" = some (.ref fT)) (GT : FnOk P w K mg base CX0 1 fT fdT ["value", "many"] (spIs2 K isTupN)) (kT : PySem.W.keepIn K (.ref fT) = true) (bT : Binds K fdT ["value", "many"] [])
    (gI : mg "is_integer" = some (.ref fI)) (GI : FnOk P w K mg base CX0 1 fI fdI ["value"] (spIs K isInt)) (kI : PySem.W.keepIn K (.ref fI) = true) (bI : Binds K fdI ["value"] []) :
    FnOk P w K mg base CX0 2 f fd ["value"] (spIs K isFracD) := by
  refine F.ok scIsFraction (fun vs H Q E h => ?_) (fun cdv A outer s H vs Q E hr h => ?_)
  · obtain ⟨v, d, rfl, _⟩ := h
    rfl
  · obtain ⟨v, d, rfl, hd, q⟩ := h
    have nd := scIsFraction.nd
    refine ⟨_, PSs.nox (pss_cons (ps_if (pt_not (pt_val (pe_call GT hr rfl gT kT bT .nil pass0 (pa_cons (pv 0) (pa_cons pe_int pa_nil))))) (pss_one (ps_ret pe_bl)) pss_nil)
      (pss_cons (ps_asg (pv 0) (pg_tup rfl (pgs_cons (pg_name (i := 1) nd rfl (.inl rfl)) (pgs_cons (pg_name (i := 2) nd rfl (.inl rfl)) pgs_nil))))
      (pss_one (ps_ret (pe_and (pe_call GI hr rfl gI kI bI .nil pass0 (pa_cons (pv 1) pa_nil)) (pe_and (pe_call GI hr rfl gI kI bI .nil pass0 (pa_cons (pv 2) pa_nil))
        (pe_and (pe_cmpR op_gt (pv 2) pe_int (nomark _)) (pe_one (pe_cmpR op_eq (pe_callBfun cr_gcd rfl mgcd (pa_cons (pv 1) (pa_cons (pv 2) pa_nil))) pe_int (nomark _)))))))))), ?_⟩
    refine ⟨_, rfl, v, d, 2, rfl, by decide, hd, fun H1 s1 => ⟨_, rfl, ?_⟩⟩
    have bad : isTupN d 2 = false → isFracD d = false := fun z => by
      cases d with
      | tuple ds =>
        match ds with
        | [] => simp [isFracD]
        | [_] => simp [isFracD]
        | [_, _] => cases z
        | _ :: _ :: _ :: _ => simp [isFracD]
      | _ => rfl
    cases g : isTupN d 2 with
    | false =>
      have q1 := q H1 s1
      rw [bad g] at q1
      exact iteT q1
    | true =>
      cases d with
      | tuple ds =>
        have hl : ds.length = 2 := of_decide_eq_true g
        match ds, hl with
        | [d1, d2], _ =>
          have hd1 := hd.same s1
          cases hd1 with
          | @tup a xs _ h1 h2 =>
            cases h2 with
            | @cons v1 _ _ _ e1 r1 =>
              cases r1 with
              | @cons v2 _ _ _ e2 r2 =>
                cases r2
                refine iteF ⟨_, rfl, a, _, rfl, h1, rfl, _, _, rfl, _, _, rfl, rfl, ?_⟩
                refine ⟨_, rfl, v1, d1, rfl, e1, fun H2 s2 => ⟨_, rfl, ?_⟩⟩
                have q2 : ∀ H', Same H2 H' → Q (.bl (isFracD (.tuple [d1, d2]))) H' := fun H' s' => q H' (s1.trans (s2.trans s'))
                cases d1 with
                | int i =>
                  refine iteT ⟨_, rfl, v2, d2, rfl, e2.same s2, fun H3 s3 => ⟨_, rfl, ?_⟩⟩
                  cases d2 with
                  | int j =>
                    cases e1
                    have e2' := e2
                    cases e2'
                    have q3 : Q (.bl (decide (0 < j) && decide (Nat.gcd i.natAbs j.natAbs = 1))) H3 := q2 H3 s3
                    refine iteT ⟨_, rfl, _, _, rfl, rfl, _, rfl, ite2 (fun g => ?_) (fun g => ?_)⟩
                    · have g' : 0 < j := of_decide_eq_true g
                      rw [decide_eq_true g', Bool.true_and] at q3
                      refine ⟨_, rfl, _, rfl, i, j, rfl, rfl, ?_⟩
                      rw [show decide (V.int ((Nat.gcd i.natAbs j.natAbs : Nat) : Int) = V.int 1) = decide (Nat.gcd i.natAbs j.natAbs = 1) from by
                        by_cases z : Nat.gcd i.natAbs j.natAbs = 1
                        · rw [decide_eq_true z, decide_eq_true (by rw [z]; rfl)]
                        · rw [decide_eq_false z, decide_eq_false (fun y => z (by injection y with y; omega))]]
                      exact q3
                    · have g' : ¬ 0 < j := fun z => g (decide_eq_true z)
                      rw [decide_eq_false g', Bool.false_and] at q3
                      exact q3
                  | _ => exact iteF (q2 H3 s3)
                | _ => exact iteF (by
                    have z := q2 H2 fun _ _ e => e
                    exact z)
      | _ => cases g
end
end Ca
set_option Elab.async false
set_option linter.all false
set_option maxRecDepth 100000
set_option maxHeartbeats 4000000
namespace Ca
open PySem PySem.Spec PyProof.Rows L2
section
variable {P : Program} {w : World} {K : PySem.W.Frag} {mg : Str → Option Value} {base : Heap} {C fI : Addr} {fdI : FuncData}
end
end Ca
set_option Elab.async false
set_option linter.all false
set_option maxRecDepth 100000
set_option maxHeartbeats 4000000
namespace Ca
open PySem L2
/-! ### answers and rows -/
structure AnsOk (fs : List (Int × Int)) (m : Nat) : Prop where
  len : fs.length = m
  ok : ∀ f ∈ fs, FrOk 300 f
  cop : ∀ f ∈ fs, Nat.gcd f.1.natAbs f.2.natAbs = 1
theorem AnsOk.is {fs : List (Int × Int)} {m : Nat} (h : AnsOk fs m) : isAnsD (frsD fs) m = true := by
  refine Bool.and_eq_true_iff.mpr ⟨?_, ?_⟩
  · show decide ((fs.map frD).length = m) = true
    rw [List.length_map]
    exact decide_eq_true h.len
  · show (fs.map frD).all isFracD = true
    rw [List.all_map, List.all_eq_true]
    intro f hf
    show (decide (0 < f.2) && decide (Nat.gcd f.1.natAbs f.2.natAbs = 1)) = true
    rw [decide_eq_true (h.ok f hf).pos, decide_eq_true (h.cop f hf)]
    rfl
def spChkS (K : PySem.W.Frag) (C : Addr) : Sp := fun vs H Q _ => ∃ x ns rs, vs = [.ref x] ∧ SysAt K C H x ns rs ∧ Q .non H
section
variable {P : Program} {w : World} {K : PySem.W.Frag} {mg : Str → Option Value} {base : Heap} {C : Addr}
end
end Ca
set_option Elab.async false
set_option linter.all false
set_option maxRecDepth 100000
set_option maxHeartbeats 4000000
namespace Ca
open PySem L2
theorem all_rangeD (l : List PyData) (g : PyData → Bool) (n : Nat) (h : l.length = n) : ((List.range n).map fun i => g (l.getD i .none)).all id = l.all g := by
  have e : ((List.range n).map fun i => g (l.getD i .none)) = l.map g := by
    refine List.ext_getElem (by simp [h]) fun i h1 h2 => ?_
    have hi : i < l.length := by simpa using h2
    simp [List.getElem?_eq_getElem hi]
  rw [e, List.all_map]
  rfl
section
variable {P : Program} {w : World} {K : PySem.W.Frag} {mg : Str → Option Value} {base : Heap} {C fUn pUn fRo pRo : Addr} {fdUn fdRo : FuncData}
theorem scIsAnswer : FnScope ["value", "many", "part"] ["value", "many"] (defScope sIsAnswer) := ⟨rfl, rfl, rfl, by decide +kernel, rfl, by decide +kernel, by decide +kernel⟩
theorem ok_isAnswer {f fT fF : Addr} {fd fdT fdF : FuncData} (F : FnT K "is_answer" sIsAnswer f fd) (B : Bn mg)
    (gT : mg "is_tuple_of" = some (.ref fT)) (GT : FnOk P w K mg base CX0 1 fT fdT ["value", "many"] (spIs2 K isTupN)) (kT : PySem.W.keepIn K (.ref fT) = true) (bT : Binds K fdT ["value", "many"] [])
    (gF : mg "is_fraction" = some (.ref fF)) (GF : FnOk P w K mg base CX0 2 fF fdF ["value"] (spIs K isFracD)) (kF : PySem.W.keepIn K (.ref fF) = true) (bF : Binds K fdF ["value"] []) :
    FnOk P w K mg base CX0 3 f fd ["value", "many"] (spIs2 K isAnsD) := by
  refine F.ok scIsAnswer (fun vs H Q E h => ?_) (fun cdv A outer s H vs Q E hr h => ?_)
  · obtain ⟨v, d, m, rfl, _⟩ := h
    rfl
  · obtain ⟨v, d, m, rfl, hm, hd, q⟩ := h
    have nd := scIsAnswer.nd
    have hr1 : Room 1 _ := hr.mono (by decide)
    refine ⟨_, PSs.nox (pss_one (ps_ret (pe_and (pe_call GT hr1 rfl gT kT bT .nil pass0 (pa_cons (pv 0) (pa_cons (pv 1) pa_nil))) (pe_one (pe_callB (cr_all rfl) (by rfl) B.all PyProof.Rows.boot_all (pa_cons (pe_lc (own := [("part", 2)]) (g := gName 2) (tt := tYes) rfl nd (pi_tup (pv 0))
          (blkOk_by (own := [("part", 2)]) (N := ["value", "many", "part"]) (sc := defScope sIsAnswer) (by decide +kernel)) (fun _ _ _ _ _ => pg_name (i := 2) nd rfl (Or.inl rfl)) (fun _ _ _ _ _ => pts_nil)
          (fun _ _ _ _ _ => pe_call GF hr rfl gF kF bF .nil pass0 (pa_cons (pv 2) pa_nil))) pa_nil)))))), ?_⟩
    refine ⟨_, rfl, _, rfl, v, d, m, rfl, hm, hd, fun H1 s1 => ⟨_, rfl, ?_⟩⟩
    have q2 : ∀ H', Same H1 H' → Q (.bl (isTupN d m && (partsOf d).all isFracD)) H' := fun H' s' => q H' (s1.trans s')
    cases g : isTupN d m with
    | false =>
      rw [g] at q2
      exact iteF (q2 H1 fun _ _ e => e)
    | true =>
      rw [g] at q2
      cases d with
      | tuple ps =>
        have hps : ps.length = m := of_decide_eq_true g
        have hd1 := hd.same s1
        cases hd1 with
        | @tup a xs _ h1 h2 =>
          have hl : xs.length = m := by rw [h2.len, hps]
          refine iteT ⟨_, rfl, a, rfl, ⟨_, h1⟩, fun D hD => ?_⟩
          refine lc_known (walk_tup (K := K) (a := a) (xs := xs)) (fun i => .bl (isFracD (ps.getD i .none))) (by omega) hD (fun H' s' => same_sqt s' h1) (fun _ _ _ _ y => by obtain ⟨rfl, _⟩ := y; exact fun _ _ e => e) (fun _ => rfl) ?_ ?_
          · rintro i z H6 H7 Qk hi s7 ⟨rfl, hz⟩ kk
            obtain ⟨d, hdi, hdq⟩ := (h2.same s7).get hz
            have en : ps.getD i .none = d := by rw [List.getD_eq_getElem?_getD, hdi]; rfl
            refine ⟨_, rfl, z, d, rfl, hdq, fun H8 s8 => ?_⟩
            have kx := kk H8 s8
            rw [en] at kx
            exact kx
          · intro H6 s6 bD
            refine ⟨D, (List.range m).map fun i => isFracD (ps.getD i .none), rfl, SqL.of (by rw [bD, List.map_map, hl]; rfl), ?_⟩
            rw [all_rangeD ps isFracD m hps]
            exact q2 H6 s6
      | _ => cases g
theorem scChkS : FnScope ["system"] ["system"] (defScope sCheckSystem) := ⟨rfl, rfl, rfl, by decide +kernel, rfl, by decide +kernel, by decide +kernel⟩
theorem ok_chkS {f : Addr} {fd : FuncData} (F : FnT K "check_system" sCheckSystem f fd) (B : Bn mg) (S : SysC K C) (I : SysI K C) (gC : mg "System" = some (.ref C)) : FnOk P w K mg base CX0 1 f fd ["system"] (spChkS K C) := by
  refine F.ok scChkS (fun vs H Q E h => ?_) (fun cdv A outer s H vs Q E hr h => ?_)
  · obtain ⟨x, ns, rs, rfl, _⟩ := h
    rfl
  · obtain ⟨x, ns, rs, rfl, hX, q⟩ := h
    refine ⟨_, PSs.nox (pss_one (ps_if (pt_not (pt_val (pe_callB call_isi (by rfl) B.isi PyProof.Rows.boot_isinstance (pa_cons (pv 0) (pa_cons (pe_glob (v := .ref C) rfl gC rfl) pa_nil))))) (pss_one ps_never) pss_nil)), ?_⟩
    obtain ⟨_, _, dx, _, _, ex, _, _⟩ := id hX
    exact ⟨_, rfl, .ref x, .ref C, _, _, true, rfl, .own C, .base (.ins ex S.cl I.ha I.hn I.ht I.hm), I.own, _, rfl, iteF q⟩
end
end Ca
set_option Elab.async false
set_option linter.all false
set_option maxRecDepth 100000
set_option maxHeartbeats 8000000
namespace Ca
open PySem L2
/-! ### what is no system, no answers -/
theorem ty_mem (d : PyData) : tyOf d ∈ ["NoneType", "bool", "int", "str", "list", "tuple", "dict"] := by cases d <;> simp [tyOf]
def seenGo (m : Nat) : Nat → List PyData → Option Nat
  | _, [] => none
  | i, d :: ds => if i = 8 then some i else if isAnsD d m = false then some i else seenGo m (i + 1) ds
theorem seenGo_cons (m i : Nat) (d : PyData) (ds : List PyData) : seenGo m i (d :: ds) = if i = 8 then some i else if isAnsD d m = false then some i else seenGo m (i + 1) ds := rfl
def seenSlip (m : Nat) : PyData → Option (Option Nat)
  | .tuple ds => (seenGo m 0 ds).map some
  | _ => some none
def spChkSX (K : PySem.W.Frag) (C CN : Addr) : Sp := fun vs H Q E => ∃ v, vs = [v] ∧ ((∃ x ns rs, v = .ref x ∧ SysAt K C H x ns rs ∧ Q .non H) ∨ ∃ d, Dq K H v d ∧ ErrW E H CN "given" v)
def spSeenX (K : PySem.W.Frag) (C CS : Addr) : Sp := fun vs H Q E => ∃ x v d ns rs, vs = [.ref x, v] ∧ SysAt K C H x ns rs ∧ Dq K H v d ∧ (∀ i, seenSlip ns.length d = some i → ErrW E H CS "index" (ixV i)) ∧ (seenSlip ns.length d = none → ∀ H', Same H H' → Q .non H')
section
variable {P : Program} {w : World} {K : PySem.W.Frag} {mg : Str → Option Value} {base : Heap} {C CN CS fIN fIS fUn fRo : Addr} {fdIN fdIS fdUn fdRo : FuncData} {pUn pRo : Addr}
theorem ok_chkSX {f : Addr} {fd : FuncData} (F : FnT K "check_system" sCheckSystem f fd) (B : Bn mg) (S : SysC K C) (I : SysI K C) (gC : mg "System" = some (.ref C)) (Ex : ErrX P w K mg base CN fIN fdIN "given" "NotASystem") :
    FnOk P w K mg base (L2.CX P w) 3 f fd ["system"] (spChkSX K C CN) := by
  refine F.ok scChkS (fun vs H Q E h => ?_) (fun cdv A outer s H vs Q E hr h => ?_)
  · obtain ⟨v, rfl, _⟩ := h
    rfl
  · obtain ⟨v, rfl, h⟩ := h
    refine ⟨_, pss_one (ps_if (pt_not (pt_val (pe_callB call_isi (by rfl) B.isi PyProof.Rows.boot_isinstance (pa_cons (pv 0) (pa_cons (pe_glob (v := .ref C) rfl gC rfl) pa_nil))))) (pss_one (ps_errX Ex hr (takes_of rfl rfl rfl rfl) (pa_cons (pv 0) pa_nil))) pss_nil), ?_⟩
    rcases h with ⟨x, ns, rs, rfl, hX, q⟩ | ⟨d, hd, e⟩
    · obtain ⟨_, _, dx, _, _, ex, _, _⟩ := id hX
      exact ⟨_, rfl, .ref x, .ref C, _, _, true, rfl, .own C, .base (.ins ex S.cl I.ha I.hn I.ht I.hm), I.own, _, rfl, iteF q⟩
    · exact ⟨_, rfl, v, .ref C, _, _, false, rfl, .own C, hd.tyx, (I.odd _ (ty_mem d)).1, _, rfl, iteT ⟨_, rfl, _, rfl, e⟩⟩
theorem scSeenX : FnScope ["system", "seen", "index", "answer"] ["system", "seen"] (defScope sCheckSeen) := ⟨rfl, rfl, rfl, by decide +kernel, rfl, by decide +kernel, by decide +kernel⟩
theorem ok_seenX {f fA : Addr} {fd fdA : FuncData} (F : FnT K "check_seen" sCheckSeen f fd) (B : Bn mg) (S : SysC K C) (c8 : ∃ t, mg "MOST_SEEN" = some (.int 8 t)) (un : PropOf K C "unknowns" pUn fUn) (GUn : FnOk P w K mg base CX0 1 fUn fdUn ["self"] (spUnknowns C)) (bUn : Binds K fdUn ["self"] [])
    (Ex : ErrX P w K mg base CS fIS fdIS "index" "InvalidSeen")
    (gA : mg "is_answer" = some (.ref fA)) (GA : FnOk P w K mg base CX0 3 fA fdA ["value", "many"] (spIs2 K isAnsD)) (kA : PySem.W.keepIn K (.ref fA) = true) (bA : Binds K fdA ["value", "many"] []) :
    FnOk P w K mg base (L2.CX P w) 4 f fd ["system", "seen"] (spSeenX K C CS) := by
  obtain ⟨t8, c8⟩ := c8
  refine F.ok scSeenX (fun vs H Q E h => ?_) (fun cdv A outer s H vs Q E hr h => ?_)
  · obtain ⟨x, v, d, ns, rs, rfl, _⟩ := h
    rfl
  · obtain ⟨x, v, d, ns, rs, rfl, hX, hd, hE, q⟩ := h
    have nd := scSeenX.nd
    have hr2 : Room 2 _ := hr.mono (by decide)
    refine ⟨_, pss_cons (ps_if (pt_not (pt_val (pe_callB call_isi (by rfl) B.isi PyProof.Rows.boot_isinstance (pa_cons (pv 1) (pa_cons (pe_bltn (v := .ty "tuple") (by rfl) B.tup (by decide +kernel) rfl) pa_nil))))) (pss_one (ps_errX Ex hr2 (takes_of rfl rfl rfl rfl) (pa_cons pe_non pa_nil))) pss_nil)
      (pss_one (ps_for (passes_of rfl) rfl (pi_enumT (by rfl) B.enum (pa_cons (pv 1) pa_nil)) (pg_tup rfl (pgs_cons (pg_name (i := 2) nd rfl (.inl rfl)) (pgs_cons (pg_name (i := 3) nd rfl (.inl rfl)) pgs_nil)))
        (pss_one (ps_if (PW.pt (pw_or (pt_cmpR op_eq (pv 2) (pe_glob (v := .int 8) rfl c8 ⟨_, rfl⟩) (nomark _)) (pw_or1 (pt_not (pt_val (pe_call GA hr rfl gA kA bA .nil pass0 (pa_cons (pv 3) (pa_cons (pe_callB call_len (by rfl) B.len boot_len (pa_cons (pe_prop (pv 0) S.cl un GUn hr2 bUn .nil pass0 rfl) pa_nil)) pa_nil))))))))
          (pss_one (ps_errX Ex hr2 (takes_of rfl rfl rfl rfl) (pa_cons (pv 2) pa_nil))) pss_nil)))), ?_⟩
    refine rd_isd hd rfl (kit_tup _) ⟨_, rfl, ?_⟩
    cases d with
    | tuple ds =>
      cases hd with
      | @tup a xs _ h1 h2 =>
      have hl : xs.length = ds.length := h2.len
      refine iteF ⟨_, rfl, a, _, rfl, h1, ?_⟩
      refine for_it walk_enumT (fun i σ' H' => i ≤ ds.length ∧ i ≤ 8 ∧ (∃ o1 o2, σ' = [some (.ref x), some (.ref a), o1, o2]) ∧ Same H H' ∧ seenGo ns.length i (ds.drop i) = seenGo ns.length 0 ds)
        ⟨Nat.zero_le _, Nat.zero_le _, ⟨_, _, rfl⟩, fun _ _ e => e, rfl⟩ (fun i σ' H' hi p => same_sqt p.2.2.2.1 h1) ?_ (fun σ' H' p => ?_)
      · rintro i z _ H1 _ hi ⟨_, i8, ⟨o1, o2, rfl⟩, s1, hgo⟩ ⟨T, z, rfl, hT, rfl, hx⟩
        refine ⟨T, _, rfl, SqT.of upd_same, rfl, _, _, rfl, _, _, rfl, rfl, ?_⟩
        have hil : i < ds.length := by rw [← hl]; exact hi
        have s2 : Same H1 (upd H1 T (.tup [.int (i : Nat), z])) := Same.new hT
        have s12 := s1.trans s2
        obtain ⟨d, hdi, hdq⟩ := (h2.same s12).get hx
        rw [List.getElem?_eq_getElem hil] at hdi
        have ed : ds[i] = d := Option.some.inj hdi
        have edr : ds.drop i = d :: ds.drop (i + 1) := by rw [List.drop_eq_getElem_cons hil, ed]
        have err : ∀ {H'}, Same H H' → seenGo ns.length i (ds.drop i) = some i → ErrW E H' CS "index" (.int (i : Nat)) := fun {H'} s' e => by
          refine (hE (some i) ?_).on s'
          show (seenGo ns.length 0 ds).map some = _
          rw [← hgo, e]
          rfl
        rw [edr, seenGo_cons] at hgo err
        refine ⟨_, rfl, rfl, _, rfl, ?_⟩
        by_cases e8 : i = 8
        · rw [decide_eq_true (show V.int ((i : Nat) : Int) = V.int 8 by rw [e8]; rfl)]
          exact iteT (iteT ⟨_, rfl, _, rfl, err s12 (if_pos e8)⟩)
        · rw [decide_eq_false (fun y => e8 (by injection y with y; omega))]
          rw [if_neg e8] at hgo err
          obtain ⟨hN, hL, dx, tu, tr, ex, du, _⟩ := hX.same s12
          obtain ⟨c, us, rfl, k1, _, kl⟩ := tup_len du
          rw [List.length_map] at kl
          have n3 := hN.hi
          refine iteF ⟨_, rfl, _, rfl, x, dx, _, rfl, ex, x, dx, .ref c, tr, rfl, ex, _, ns.length, rfl, .inr ⟨_, k1, kl.symm⟩, z, d, ns.length, rfl, by omega, hdq, fun H3 s3 => ⟨_, rfl, ?_⟩⟩
          have s13 := s12.trans s3
          cases g : isAnsD d ns.length with
          | false =>
            rw [if_pos g] at err
            exact iteT ⟨_, rfl, _, rfl, err s13 rfl⟩
          | true =>
            rw [if_neg (by rw [g]; decide)] at hgo
            exact iteF ⟨hil, by omega, ⟨_, _, rfl⟩, s13, hgo⟩
      · obtain ⟨_, _, ⟨o1, o2, rfl⟩, s1, hgo⟩ := p
        refine q ?_ H' s1
        show (seenGo ns.length 0 ds).map some = none
        rw [← hgo, hl, List.drop_length]
        rfl
    | _ => exact iteT ⟨_, rfl, hE none rfl⟩
end
end Ca
set_option Elab.async false
set_option linter.all false
set_option maxRecDepth 100000
set_option maxHeartbeats 8000000
namespace Ca
open PySem L2
/-! ### clash, fits, fitting -/
abbrev Fss := List (List (Int × Int))
def ClashT (rs : List Rw) (fss : Fss) (_ : Hp) (v : V) : Prop := (v = .non ∧ ∀ r ∈ rs, ∃ gs, FitP r fss gs) ∨ ∃ (i : Nat) (r : Rw), v = .int i ∧ rs[i]? = some r ∧ UnfitP r fss ∧ ∀ j r', j < i → rs[j]? = some r' → ∃ gs, FitP r' fss gs
def FitsT (rs : List Rw) (fss : Fss) (_ : Hp) (v : V) : Prop := (v = .bl true ∧ ∀ r ∈ rs, ∃ gs, FitP r fss gs) ∨ (v = .bl false ∧ ∃ r ∈ rs, UnfitP r fss)
def FitgT (K : PySem.W.Frag) (rs : List Rw) (fss : Fss) (H : Hp) (v : V) : Prop := (v = .non ∧ ∃ r ∈ rs, UnfitP r fss) ∨ ((∀ r ∈ rs, ∃ gs, FitP r fss gs) ∧ ∃ y vs, v = .ref y ∧ SqT K H y vs ∧ vs.length = rs.length ∧ ∀ (i : Nat) (u : V) (r : Rw), vs[i]? = some u → rs[i]? = some r → ∃ (p : Addr) (g b : V), u = .ref p ∧ SqT K H p [g, b] ∧ FitT K H r fss g ∧ Dq K H b (frD (r.bd.2, 1)))
def spSeeX (K : PySem.W.Frag) (C CN CS : Addr) (R : List Rw → Fss → Hp → V → Prop) : Sp := fun vs H Q E => ∃ h s, vs = [h, s] ∧ ((∃ d, Dq K H h d ∧ ErrW E H CN "given" h) ∨ ∃ x ns rs d, h = .ref x ∧ SysAt K C H x ns rs ∧ Dq K H s d ∧ (∀ i, seenSlip ns.length d = some i → ErrW E H CS "index" (ixV i)) ∧
  (seenSlip ns.length d = none → ∃ fss, d = ansD fss ∧ SeenOk fss ns.length ∧ ∀ H' v, Same H H' → R rs fss H' v → Q v H'))
theorem rows_get {K : PySem.W.Frag} {H : Hp} {xs : List V} {rs : List Rw} {k : Nat} {v : V} (h : DqAll K H xs (rs.map rowD)) (hk : k < rs.length) (hv : xs[k]? = some v) : Dq K H v (rowD rs[k]) := by
  obtain ⟨d, hd, dq⟩ := h.get hv
  rw [List.getElem?_map, List.getElem?_eq_getElem hk] at hd
  cases hd
  exact dq
section
variable {P : Program} {w : World} {K : PySem.W.Frag} {mg : Str → Option Value} {base : Heap} {C CN CS fIN fIS fUn fRo : Addr} {fdIN fdIS fdUn fdRo : FuncData} {pUn pRo : Addr}
theorem scClash : FnScope ["system", "seen", "index", "row"] ["system", "seen"] (defScope sClash) := ⟨rfl, rfl, rfl, by decide +kernel, rfl, by decide +kernel, by decide +kernel⟩
theorem ok_clash {f fK fS fN : Addr} {fd fdK fdS fdN : FuncData} (F : FnT K "clash" sClash f fd) (B : Bn mg) (S : SysC K C) (ro : PropOf K C "rows" pRo fRo) (GRo : FnOk P w K mg base CX0 1 fRo fdRo ["self"] (spRows C)) (bRo : Binds K fdRo ["self"] [])
    (gK : mg "check_system" = some (.ref fK)) (GK : FnOk P w K mg base (L2.CX P w) 3 fK fdK ["system"] (spChkSX K C CN)) (kK : PySem.W.keepIn K (.ref fK) = true) (bK : Binds K fdK ["system"] [])
    (gS : mg "check_seen" = some (.ref fS)) (GS : FnOk P w K mg base (L2.CX P w) 4 fS fdS ["system", "seen"] (spSeenX K C CS)) (kS : PySem.W.keepIn K (.ref fS) = true) (bS : Binds K fdS ["system", "seen"] [])
    (gN : mg "numbers_for" = some (.ref fN)) (GN : FnOk P w K mg base CX0 6 fN fdN ["row", "seen"] (spNums K)) (kN : PySem.W.keepIn K (.ref fN) = true) (bN : Binds K fdN ["row", "seen"] []) :
    FnOk P w K mg base (L2.CX P w) 7 f fd ["system", "seen"] (spSeeX K C CN CS ClashT) := by
  refine F.ok scClash (fun vs H Q E h => ?_) (fun cdv A outer s H vs Q E hr h => ?_)
  · obtain ⟨h', s', rfl, _⟩ := h
    rfl
  · obtain ⟨h0, s0, rfl, h⟩ := h
    have nd := scClash.nd
    have hr2 : Room 2 _ := hr.mono (by decide)
    have hr3 : Room 3 _ := hr.mono (by decide)
    have hr4 : Room 4 _ := hr.mono (by decide)
    refine ⟨_, pss_cons (ps_expr (pe_call (E := E) GK hr3 rfl gK kK bK .nil (passes_call (takes_of rfl rfl rfl rfl) fun _ _ _ _ h => h) (pa_cons (pv 0) pa_nil)))
      (pss_cons (ps_expr (pe_call (E := E) GS hr4 rfl gS kS bS .nil (passes_call (takes_of rfl rfl rfl rfl) fun _ _ _ _ h => h) (pa_cons (pv 0) (pa_cons (pv 1) pa_nil))))
      (pss_cons (ps_for (passes_of rfl) rfl (pi_enumT (by rfl) B.enum (pa_cons (pe_prop (pv 0) S.cl ro GRo hr2 bRo .nil pass0 rfl) pa_nil)) (pg_tup rfl (pgs_cons (pg_name (i := 2) nd rfl (.inl rfl)) (pgs_cons (pg_name (i := 3) nd rfl (.inl rfl)) pgs_nil)))
        (pss_one (ps_if (pt_cmpR op_isN (pe_call GN hr rfl gN kN bN .nil pass0 (pa_cons (pv 3) (pa_cons (pv 1) pa_nil))) pe_non (nomark _)) (pss_one (ps_ret (pv 2))) pss_nil)))
      (pss_one (ps_ret pe_non)))), ?_⟩
    rcases h with ⟨d, hd, e⟩ | ⟨x, ns, rs, d, rfl, hX, hd, hE, q⟩
    · exact ⟨_, rfl, h0, rfl, .inr ⟨d, hd, e⟩⟩
    refine ⟨_, rfl, .ref x, rfl, .inl ⟨x, ns, rs, rfl, hX, ?_⟩⟩
    refine ⟨_, rfl, _, rfl, x, s0, d, ns, rs, rfl, hX, hd, hE, fun hs H1 s1 => ?_⟩
    obtain ⟨fss, rfl, ho, q⟩ := q hs
    obtain ⟨hN, hL, dx, tu, tr, ex, _, dr⟩ := hX.same s1
    obtain ⟨a, xs, rfl, h1, h2, hl⟩ := tup_len dr
    rw [List.length_map] at hl
    have n3 := hN.hi
    have n1 := hN.lo
    refine ⟨_, rfl, x, dx, _, rfl, ex, x, dx, tu, .ref a, rfl, ex, a, _, rfl, h1, ?_⟩
    refine for_it walk_enumT (fun i σ' H' => i ≤ rs.length ∧ (∃ o1 o2, σ' = [some (.ref x), some s0, o1, o2]) ∧ Same H1 H' ∧ ∀ j r', j < i → rs[j]? = some r' → ∃ gs, FitP r' fss gs)
      ⟨Nat.zero_le _, ⟨_, _, rfl⟩, fun _ _ e => e, fun j r' hj _ => absurd hj (Nat.not_lt_zero _)⟩ (fun i σ' H' hi p => same_sqt p.2.2.1 h1) ?_ (fun σ' H' p => ?_)
    · rintro i z _ H2 _ hi ⟨_, ⟨o1, o2, rfl⟩, s2, ok⟩ ⟨T, z, rfl, hT, rfl, hx⟩
      have hil : i < rs.length := by omega
      have s3 : Same H2 (upd H2 T (.tup [.int (i : Nat), z])) := Same.new hT
      have s23 := s2.trans s3
      refine ⟨T, _, rfl, SqT.of upd_same, rfl, _, _, rfl, _, _, rfl, rfl, ?_⟩
      refine ⟨_, rfl, _, rfl, z, s0, rs[i], fss, ns.length, rfl, rows_get (h2.same s23) hil hx, hL.ok _ (List.getElem_mem hil), n1, n3, hd.same (s1.trans s23), ho, fun H3 v s4 ft => ?_⟩
      have s24 := s23.trans s4
      rcases ft with ⟨rfl, un⟩ | ⟨gs, dg, fp⟩
      · refine ⟨rfl, _, rfl, ?_⟩
        rw [decide_eq_true rfl]
        exact iteT ⟨_, rfl, q _ _ (s1.trans s24) (.inr ⟨i, rs[i], rfl, List.getElem?_eq_getElem hil, un, ok⟩)⟩
      · obtain ⟨y, _, rfl, _⟩ := tup_len dg
        refine ⟨rfl, _, rfl, ?_⟩
        rw [decide_eq_false (fun z => nomatch z)]
        refine iteF ⟨hil, ⟨_, _, rfl⟩, s24, fun j r' hj e => ?_⟩
        by_cases g : j < i
        · exact ok j r' g e
        · have : j = i := by omega
          rw [this, List.getElem?_eq_getElem hil] at e
          obtain rfl := Option.some.inj e
          exact ⟨gs, fp⟩
    · obtain ⟨_, ⟨o1, o2, rfl⟩, s2, ok⟩ := p
      refine q H' .non (s1.trans s2) (.inl ⟨rfl, fun r hr' => ?_⟩)
      obtain ⟨j, hj, e⟩ := List.mem_iff_getElem.mp hr'
      exact ok j r (by omega) (by rw [List.getElem?_eq_getElem hj, e])
theorem scFits : FnScope ["system", "seen"] ["system", "seen"] (defScope sFits) := ⟨rfl, rfl, rfl, by decide +kernel, rfl, by decide +kernel, by decide +kernel⟩
theorem ok_fits {f fC : Addr} {fd fdC : FuncData} (F : FnT K "fits" sFits f fd)
    (gC : mg "clash" = some (.ref fC)) (GC : FnOk P w K mg base (L2.CX P w) 7 fC fdC ["system", "seen"] (spSeeX K C CN CS ClashT)) (kC : PySem.W.keepIn K (.ref fC) = true) (bC : Binds K fdC ["system", "seen"] []) :
    FnOk P w K mg base (L2.CX P w) 8 f fd ["system", "seen"] (spSeeX K C CN CS FitsT) := by
  refine F.ok scFits (fun vs H Q E h => ?_) (fun cdv A outer s H vs Q E hr h => ?_)
  · obtain ⟨h', s', rfl, _⟩ := h
    rfl
  · obtain ⟨h0, s0, rfl, h⟩ := h
    refine ⟨_, pss_one (ps_ret (pe_cmpR op_isN (pe_call (E := E) GC hr rfl gC kC bC .nil (passes_call (takes_of rfl rfl rfl rfl) fun _ _ _ _ h => h) (pa_cons (pv 0) (pa_cons (pv 1) pa_nil))) pe_non (nomark _))), ?_⟩
    refine ⟨_, rfl, _, rfl, h0, s0, rfl, ?_⟩
    rcases h with h | ⟨x, ns, rs, d, e0, hX, hd, hE, q⟩
    · exact .inl h
    · refine .inr ⟨x, ns, rs, d, e0, hX, hd, hE, fun hs => ?_⟩
      obtain ⟨fss, e1, ho, q⟩ := q hs
      refine ⟨fss, e1, ho, fun H' v s' ct => ?_⟩
      rcases ct with ⟨rfl, ok⟩ | ⟨i, r, rfl, e, un, _⟩
      · refine ⟨rfl, ?_⟩
        rw [decide_eq_true rfl]
        exact q H' _ s' (.inl ⟨rfl, ok⟩)
      · refine ⟨rfl, ?_⟩
        rw [decide_eq_false (fun z => nomatch z)]
        exact q H' _ s' (.inr ⟨rfl, r, List.mem_of_getElem? e, un⟩)
end
end Ca
set_option Elab.async false
set_option linter.all false
set_option maxRecDepth 100000
set_option maxHeartbeats 8000000
namespace Ca
open PySem L2
theorem frs_updT {K : PySem.W.Frag} {H : Hp} {y : Addr} {ys : List V} {o : HO} {v : V} {gs : List (Int × Int)} (hy : H y = some (.lst ys)) (h : Dq K H v (frsD gs)) : Dq K (upd H y o) v (frsD gs) := by
  obtain ⟨a, xs, rfl, h1, h2, _⟩ := tup_len h
  exact .tup (sqt_updT hy h1) (frsAll_updT hy h2)
theorem FitT.updT {K : PySem.W.Frag} {H : Hp} {y : Addr} {ys : List V} {o : HO} {r : Rw} {fss : Fss} {v : V} (hy : H y = some (.lst ys)) (h : FitT K H r fss v) : FitT K (upd H y o) r fss v := by
  rcases h with h | ⟨gs, d, h⟩
  · exact .inl h
  · exact .inr ⟨gs, frs_updT hy d, h⟩
section
variable {P : Program} {w : World} {K : PySem.W.Frag} {mg : Str → Option Value} {base : Heap} {C CN CS fRo : Addr} {fdRo : FuncData} {pRo : Addr}
theorem scFitting : FnScope ["system", "seen", "row"] ["system", "seen"] (defScope sFitting) := ⟨rfl, rfl, rfl, by decide +kernel, rfl, by decide +kernel, by decide +kernel⟩
theorem ok_fitting {f fF fN : Addr} {fd fdF fdN : FuncData} (F : FnT K "fitting" sFitting f fd) (B : Bn mg) (S : SysC K C) (ro : PropOf K C "rows" pRo fRo) (GRo : FnOk P w K mg base CX0 1 fRo fdRo ["self"] (spRows C)) (bRo : Binds K fdRo ["self"] [])
    (gF : mg "fits" = some (.ref fF)) (GF : FnOk P w K mg base (L2.CX P w) 8 fF fdF ["system", "seen"] (spSeeX K C CN CS FitsT)) (kF : PySem.W.keepIn K (.ref fF) = true) (bF : Binds K fdF ["system", "seen"] [])
    (gN : mg "numbers_for" = some (.ref fN)) (GN : FnOk P w K mg base CX0 6 fN fdN ["row", "seen"] (spNums K)) (kN : PySem.W.keepIn K (.ref fN) = true) (bN : Binds K fdN ["row", "seen"] []) :
    FnOk P w K mg base (L2.CX P w) 9 f fd ["system", "seen"] (spSeeX K C CN CS (FitgT K)) := by
  refine F.ok scFitting (fun vs H Q E h => ?_) (fun cdv A outer s H vs Q E hr h => ?_)
  · obtain ⟨h', s', rfl, _⟩ := h
    rfl
  · obtain ⟨h0, s0, rfl, h⟩ := h
    have nd := scFitting.nd
    have hr2 : Room 2 _ := hr.mono (by decide)
    have hr6 : Room 6 _ := hr.mono (by decide)
    refine ⟨_, pss_cons (ps_if (pt_not (pt_val (pe_call (E := E) GF hr rfl gF kF bF .nil (passes_call (takes_of rfl rfl rfl rfl) fun _ _ _ _ h => h) (pa_cons (pv 0) (pa_cons (pv 1) pa_nil))))) (pss_one (ps_ret pe_non)) pss_nil)
      (pss_one (ps_ret (pe_callTy call_tuple_of (by rfl) B.tup (by decide +kernel) (pa_cons (pe_lc (own := [("row", 2)]) (g := gName 2) (tt := tYes) rfl nd (pi_tup (pe_prop (pv 0) S.cl ro GRo hr2 bRo .nil pass0 rfl))
        (blkOk_by (own := [("row", 2)]) (N := ["system", "seen", "row"]) (sc := defScope sFitting) (by decide +kernel)) (fun _ _ _ _ _ => pg_name (i := 2) nd rfl (Or.inl rfl)) (fun _ _ _ _ _ => pts_nil)
        (fun _ _ _ _ _ => pe_tup (pa_cons (pe_call GN hr6 rfl gN kN bN .nil pass0 (pa_cons (pv 2) (pa_cons (pv 1) pa_nil))) (pa_cons (pe_tup (pa_cons (pe_ix (ixT K) (pe_ix (ixT K) (pv 2) pe_int (fun _ _ => rfl)) pe_int (fun _ _ => rfl)) (pa_cons pe_int pa_nil))) pa_nil)))) pa_nil)))), ?_⟩
    have two : 2 ≤ sizeLine := by decide
    refine ⟨_, rfl, _, rfl, h0, s0, rfl, ?_⟩
    rcases h with h | ⟨x, ns, rs, d, rfl, hX, hd, hE, q⟩
    · exact .inl h
    refine .inr ⟨x, ns, rs, d, rfl, hX, hd, hE, fun hs => ?_⟩
    obtain ⟨fss, rfl, ho, q⟩ := q hs
    refine ⟨fss, rfl, ho, fun H1 v s1 ft => ?_⟩
    rcases ft with ⟨rfl, ok⟩ | ⟨rfl, un⟩
    · obtain ⟨hN, hL, dx, tu, tr, ex, _, dr⟩ := hX.same s1
      obtain ⟨a, xs, rfl, h1, h2, hl⟩ := tup_len dr
      rw [List.length_map] at hl
      have n3 := hN.hi
      have n1 := hN.lo
      have l6 := hL.hi
      refine ⟨_, rfl, iteF ⟨_, rfl, x, dx, _, rfl, ex, x, dx, tu, .ref a, rfl, ex, a, rfl, ⟨_, h1⟩, fun D hD => ?_⟩⟩
      refine lc_it (walk_tup (K := K) (a := a) (xs := xs)) (fun k H' => Same H1 H' ∧ ∃ vs : List V, H' D = some (.lst vs) ∧ vs.length = k ∧ ∀ (i : Nat) (u : V) (r : Rw), vs[i]? = some u → rs[i]? = some r → ∃ (p : Addr) (g b : V), u = .ref p ∧ SqT K H' p [g, b] ∧ FitT K H' r fss g ∧ Dq K H' b (frD (r.bd.2, 1)))
        ⟨Same.new hD, [], upd_same, rfl, fun i u r h => by simp at h⟩ (fun k H' hk p => same_sqt p.1 h1) ?_ ?_
      · rintro k z H2 _ hk ⟨s2, vs, bD, lv, hv⟩ ⟨rfl, hz⟩
        have hkr : k < rs.length := by omega
        have dz := rows_get (h2.same s2) hkr hz
        refine ⟨rfl, rdYes ⟨_, rfl, _, rfl, z, s0, rs[k], fss, ns.length, rfl, dz, hL.ok _ (List.getElem_mem hkr), n1, n3, hd.same (s1.trans s2), ho, fun H3 g s3 fg => ?_⟩⟩
        obtain ⟨b, v2, v3, rfl, hb, d2, d3, _⟩ := row_at (dz.same s3)
        obtain ⟨c, rfl, hc⟩ := pair_sq d3
        refine ⟨_, rfl, b, _, 2, _, rfl, rfl, hb, atI_nat (j := 2) rfl, c, _, 1, _, rfl, rfl, hc, atI_nat (j := 1) rfl, two, fun e he => ⟨two, fun p hp => ?_⟩⟩
        have s4 := Same.new (o := .tup [.int rs[k].bd.2, .int 1]) he
        have s5 := Same.new (o := .tup [g, .ref e]) hp
        have s35 := s3.trans (s4.trans s5)
        have bD5 := s35 _ _ bD
        refine ⟨vs, bD5, ?_, fun b' o g' => ?_, vs ++ [.ref p], upd_same, by rw [List.length_append, lv]; rfl, fun i u r e1 e2 => ?_⟩
        · exact Nat.lt_of_lt_of_le (show vs.length < 10 by omega) (by decide)
        · rw [upd_ne (ne_of_none g' hD)]
          exact s35 _ _ (s2 _ _ g')
        · by_cases g0 : i < vs.length
          · rw [List.getElem?_append_left g0] at e1
            obtain ⟨p', g', b', rfl, q1, q2, q3⟩ := hv i u r e1 e2
            exact ⟨p', g', b', rfl, sqt_updT bD5 (same_sqt s35 q1), FitT.updT bD5 (q2.same s35), fr_updT bD5 (q3.same s35)⟩
          · rw [List.getElem?_append_right (Nat.le_of_not_lt g0)] at e1
            have e0 : i - vs.length = 0 := by
              cases z : i - vs.length with
              | zero => rfl
              | succ n => rw [z] at e1; cases e1
            rw [e0] at e1
            obtain rfl := Option.some.inj e1
            have ik : i = k := by omega
            subst ik
            rw [List.getElem?_eq_getElem hkr] at e2
            obtain rfl := Option.some.inj e2
            exact ⟨p, g, .ref e, rfl, sqt_updT bD5 (SqT.of upd_same), FitT.updT bD5 (fg.same (s4.trans s5)), fr_updT bD5 (Dq.same s5 (fr_of upd_same))⟩
      · rintro H2 ⟨s2, vs, bD, lv, hv⟩
        refine ⟨D, vs, rfl, .inl ⟨SqL.of bD, fun tr htr => ?_⟩⟩
        have s4 := Same.new (o := .tup vs) htr
        refine q _ (.ref tr) (s1.trans (s2.trans s4)) (.inr ⟨ok, tr, vs, rfl, SqT.of upd_same, by omega, fun i u r e1 e2 => ?_⟩)
        obtain ⟨p', g', b', e3, q1, q2, q3⟩ := hv i u r e1 e2
        exact ⟨p', g', b', e3, same_sqt s4 q1, q2.same s4, q3.same s4⟩
    · exact ⟨_, rfl, iteT (q H1 .non s1 (.inl ⟨rfl, un⟩))⟩
end
end Ca
set_option Elab.async false
set_option linter.all false
set_option maxRecDepth 100000
set_option maxHeartbeats 4000000
namespace Ca
open PySem L2
/-! ### which numbers fit what was seen -/
def qv (f : Int × Int) : Rat := (f.1 : Rat) / (f.2 : Rat)
def lowQ (r : Rw) (j : Nat) : Rat := ((r.parts.getD j (0, 0)).1 : Rat)
def highQ (r : Rw) (j : Nat) : Rat := ((r.parts.getD j (0, 0)).2 : Rat)
/-- a sum of numbers times the parts of an answer -/
def dotQ (a : Nat → Rat) (fs : List (Int × Int)) (m : Nat) : Rat := qsum (fun j => a j * qv (fs.getD j (0, 1))) m
def FitsQ (r : Rw) (fss : Fss) (a : Nat → Rat) : Prop := (∀ j, j < r.parts.length → lowQ r j ≤ a j ∧ a j ≤ highQ r j) ∧ ∀ fs ∈ fss, dotQ a fs r.parts.length ≤ ((r.bd.2 : Int) : Rat)
theorem whole_dvd {fs : List (Int × Int)} (h : ∀ f ∈ fs, 0 < f.2) : ∀ f ∈ fs, f.2 ∣ ((wholeOf fs : Nat) : Int) := by
  have go : ∀ (l : List (Int × Int)) (w : Nat), (∀ f ∈ l, 0 < f.2) → (w ∣ l.foldl (fun w f => Nat.lcm w f.2.natAbs) w) ∧ ∀ f ∈ l, f.2.natAbs ∣ l.foldl (fun w f => Nat.lcm w f.2.natAbs) w := by
    intro l
    induction l with
    | nil => exact fun w _ => ⟨Nat.dvd_refl w, fun f hf => by cases hf⟩
    | cons g l ih =>
      intro w hp
      obtain ⟨a, b⟩ := ih (Nat.lcm w g.2.natAbs) fun f hf => hp f (List.mem_cons_of_mem _ hf)
      refine ⟨Nat.dvd_trans (Nat.dvd_lcm_left _ _) a, fun f hf => ?_⟩
      rcases List.mem_cons.mp hf with rfl | hf
      · exact Nat.dvd_trans (Nat.dvd_lcm_right _ _) a
      · exact b f hf
  exact fun f hf => Int.natAbs_dvd_natAbs.mp (by rw [Int.natAbs_natCast]; exact (go fs 1 h).2 f hf)
theorem sum_range (g : Nat → Int) : ∀ n, ((((List.range n).map g).sum : Int) : Rat) = qsum (fun i => ((g i : Int) : Rat)) n
  | 0 => rfl
  | n + 1 => by
    rw [List.range_succ, List.map_append, List.sum_append, Rat.intCast_add, sum_range g n]
    simp only [qsum, List.map_cons, List.map_nil, List.sum_cons, List.sum_nil, Int.add_zero]
theorem partsW_q {fs : List (Int × Int)} (h : ∀ f ∈ fs, 0 < f.2) (j : Nat) : (((partsW fs).getD j 0 : Int) : Rat) = ((wholeOf fs : Nat) : Rat) * qv (fs.getD j (0, 1)) := by
  by_cases hj : j < fs.length
  · have e1 : (partsW fs).getD j 0 = fs[j].1 * (((wholeOf fs : Nat) : Int) / fs[j].2) := by
      unfold partsW
      rw [List.getD_eq_getElem?_getD, List.getElem?_map, List.getElem?_eq_getElem hj]
      rfl
    have e2 : fs.getD j (0, 1) = fs[j] := by
      rw [List.getD_eq_getElem?_getD, List.getElem?_eq_getElem hj]
      rfl
    rw [e1, e2]
    obtain ⟨c, hc⟩ := whole_dvd h fs[j] (List.getElem_mem hj)
    have p := h fs[j] (List.getElem_mem hj)
    have hc2 : ((wholeOf fs : Nat) : Int) / fs[j].2 = c := by
      rw [hc]
      exact Int.mul_ediv_cancel_left _ (by omega)
    rw [hc2]
    have hc3 : (((wholeOf fs : Nat) : Int) : Rat) = (fs[j].2 : Rat) * (c : Rat) := by rw [hc, Rat.intCast_mul]
    have hc4 : ((wholeOf fs : Nat) : Rat) = (fs[j].2 : Rat) * (c : Rat) := by exact_mod_cast hc3
    have p' : (0 : Rat) < (fs[j].2 : Rat) := by exact_mod_cast p
    have p2 : (fs[j].2 : Rat) ≠ 0 := by grind
    rw [hc4, Rat.intCast_mul]
    unfold qv
    grind
  · have e1 : (partsW fs).getD j 0 = 0 := by
      rw [List.getD_eq_getElem?_getD, List.getElem?_eq_none (by rw [partsW_len]; omega)]
      rfl
    have e2 : fs.getD j (0, 1) = (0, 1) := by
      rw [List.getD_eq_getElem?_getD, List.getElem?_eq_none (by omega)]
      rfl
    rw [e1, e2]
    show ((0 : Int) : Rat) = _ * (((0 : Int) : Rat) / ((1 : Int) : Rat))
    grind
section
variable {r : Rw} {fss : Fss}
theorem lim_width {k : Nat} (hk : k < r.parts.length) : (seenLs r fss).getD k ([], 0) = (unitL r.parts.length k, (r.parts.getD k (0, 0)).2 - (r.parts.getD k (0, 0)).1) := by
  unfold seenLs widthL
  rw [List.getD_eq_getElem?_getD, List.getElem?_append_left (by rw [List.length_map, List.length_range]; exact hk), List.getElem?_map, List.getElem?_range hk]
  rfl
theorem lim_seen {k : Nat} (hk : k < fss.length) : (seenLs r fss).getD (r.parts.length + k) ([], 0) = seenLim fss[k] r := by
  unfold seenLs widthL
  rw [List.getD_eq_getElem?_getD, List.getElem?_append_right (by rw [List.length_map, List.length_range]; omega), List.length_map, List.length_range, Nat.add_sub_cancel_left, List.getElem?_map, List.getElem?_eq_getElem hk]
  rfl
theorem unit_q {m k : Nat} (hk : k < m) (x : Nat → Rat) : qsum (fun j => (((unitL m k).getD j 0 : Int) : Rat) * x j) m = x k := by
  have e : ∀ n, n ≤ m → qsum (fun j => (((unitL m k).getD j 0 : Int) : Rat) * x j) n = if k < n then x k else 0 := by
    intro n
    induction n with
    | zero => intro _; rw [if_neg (by omega)]; rfl
    | succ n ih =>
      intro hn
      have g : (unitL m k).getD n 0 = if k = n then 1 else 0 := by
        unfold unitL
        rw [List.getD_eq_getElem?_getD, List.getElem?_map, List.getElem?_range (by omega)]
        rfl
      simp only [qsum]
      rw [ih (by omega), g]
      by_cases h : k = n
      · rw [if_neg (by omega), if_pos h, if_pos (by omega), h]
        grind
      · rw [if_neg h]
        by_cases h2 : k < n
        · rw [if_pos h2, if_pos (by omega)]
          grind
        · rw [if_neg h2, if_neg (by omega)]
          grind
  rw [e m (Nat.le_refl _), if_pos hk]
theorem seen_q {fs : List (Int × Int)} (h : ∀ f ∈ fs, 0 < f.2) (a : Nat → Rat) : (qsum (fun j => (((partsW fs).getD j 0 : Int) : Rat) * (a j - lowQ r j)) r.parts.length ≤ (((seenLim fs r).2 : Int) : Rat)) ↔ dotQ a fs r.parts.length ≤ ((r.bd.2 : Int) : Rat) := by
  have W0 : 0 < wholeOf fs := whole_pos fs 1 (by decide) h
  have Wq : (0 : Rat) < ((wholeOf fs : Nat) : Rat) := by exact_mod_cast W0
  have e1 : qsum (fun j => (((partsW fs).getD j 0 : Int) : Rat) * (a j - lowQ r j)) r.parts.length = ((wholeOf fs : Nat) : Rat) * dotQ a fs r.parts.length - qsum (fun j => (((partsW fs).getD j 0 : Int) : Rat) * lowQ r j) r.parts.length := by
    have : qsum (fun j => (((partsW fs).getD j 0 : Int) : Rat) * (a j - lowQ r j)) r.parts.length + qsum (fun j => (((partsW fs).getD j 0 : Int) : Rat) * lowQ r j) r.parts.length = ((wholeOf fs : Nat) : Rat) * dotQ a fs r.parts.length := by
      rw [← qsum_add]
      unfold dotQ
      rw [← qsum_mul]
      refine qsum_congr _ fun j _ => ?_
      rw [partsW_q h j]
      grind
    grind
  have e2 : (((seenLim fs r).2 : Int) : Rat) = ((wholeOf fs : Nat) : Rat) * ((r.bd.2 : Int) : Rat) - qsum (fun j => (((partsW fs).getD j 0 : Int) : Rat) * lowQ r j) r.parts.length := by
    show ((((wholeOf fs : Nat) : Int) * r.bd.2 - (leastS fs r.parts).sum : Int) : Rat) = _
    unfold leastS
    rw [Rat.intCast_sub, Rat.intCast_mul, sum_range]
    have c : (((wholeOf fs : Nat) : Int) : Rat) = ((wholeOf fs : Nat) : Rat) := by exact_mod_cast rfl
    rw [c]
    congr 1
    refine qsum_congr _ fun j _ => ?_
    rw [Rat.intCast_mul]
    rfl
  rw [e1, e2]
  constructor
  · intro q
    refine Rat.le_of_mul_le_mul_left (c := ((wholeOf fs : Nat) : Rat)) ?_ Wq
    grind
  · intro q
    have := Rat.mul_le_mul_of_nonneg_left q (Rat.le_of_lt Wq)
    grind
theorem feas_fits {m : Nat} (hm : r.parts.length = m) (ho : SeenOk fss m) (a : Nat → Rat) : Feas (seenLs r fss) m (fun j => a j - lowQ r j) ↔ FitsQ r fss a := by
  subst hm
  have pos : ∀ fs ∈ fss, ∀ f ∈ fs, 0 < f.2 := fun fs hf => (ho.ok fs hf).1.pos
  constructor
  · rintro ⟨f0, f1⟩
    refine ⟨fun j hj => ⟨by have := f0 j hj; grind, ?_⟩, fun fs hf => ?_⟩
    · have := f1 j (by rw [seen_len]; omega)
      unfold limA limB at this
      rw [lim_width hj, unit_q hj] at this
      replace this : a j - lowQ r j ≤ (((r.parts.getD j (0, 0)).2 - (r.parts.getD j (0, 0)).1 : Int) : Rat) := this
      rw [Rat.intCast_sub] at this
      unfold lowQ at this
      unfold highQ
      grind
    · obtain ⟨k, hk, rfl⟩ := List.mem_iff_getElem.mp hf
      have := f1 (r.parts.length + k) (by rw [seen_len]; omega)
      unfold limA limB at this
      rw [lim_seen hk] at this
      exact (seen_q (pos _ hf) a).mp this
  · rintro ⟨g0, g1⟩
    refine ⟨fun j hj => by have := (g0 j hj).1; grind, fun i hi => ?_⟩
    rw [seen_len] at hi
    unfold limA limB
    by_cases h : i < r.parts.length
    · rw [lim_width h, unit_q h]
      show a i - lowQ r i ≤ (((r.parts.getD i (0, 0)).2 - (r.parts.getD i (0, 0)).1 : Int) : Rat)
      rw [Rat.intCast_sub]
      have := (g0 i h).2
      unfold highQ at this
      unfold lowQ
      grind
    · obtain ⟨k, rfl⟩ : ∃ k, i = r.parts.length + k := ⟨i - r.parts.length, by omega⟩
      have hk : k < fss.length := by omega
      rw [lim_seen hk]
      exact (seen_q (pos _ (List.getElem_mem hk)) a).mpr (g1 _ (List.getElem_mem hk))
/-- what is told fits -/
theorem fitP_q {gs : List (Int × Int)} (ho : SeenOk fss r.parts.length) (h : FitP r fss gs) : FitsQ r fss fun j => qv (gs.getD j (0, 1)) := by
  obtain ⟨lg, t, sh, so, no, hg⟩ := h
  have lz : (zs r.parts.length).length = r.parts.length := List.length_replicate ..
  obtain ⟨x, fx, hx⟩ := feas_of (ls := seenLs r fss) (cs := zs r.parts.length) (t := t) (by rw [lz]; exact sh) so (by rw [lz]; exact no)
  rw [lz] at fx hx
  have e : ∀ j, j < r.parts.length → qv (gs.getD j (0, 1)) = x j + lowQ r j := fun j hj => by
    have hjg : j < gs.length := by omega
    have eg : gs.getD j (0, 1) = gs[j] := by
      rw [List.getD_eq_getElem?_getD, List.getElem?_eq_getElem hjg]
      rfl
    obtain ⟨p, am, rd⟩ := hg j gs[j] (List.getElem?_eq_getElem hjg)
    have ex := hx j p hj am
    rw [eg]
    have c := rd.cross
    have c' : (gs[j].1 : Rat) * (1 * (p.2 : Rat)) = ((((r.parts.getD j (0, 0)).1 : Int) : Rat) * (p.2 : Rat) + (p.1 : Rat) * 1) * (gs[j].2 : Rat) := by exact_mod_cast c
    have g0 : (0 : Rat) < (gs[j].2 : Rat) := by exact_mod_cast rd.pos
    have p0 : 0 < p.2 := by
      rcases am with ⟨l, _, _, l3⟩ | ⟨_, rfl⟩
      · exact l3.pos
      · decide
    have p1 : (0 : Rat) < (p.2 : Rat) := by exact_mod_cast p0
    rw [ex]
    unfold qv lowQ
    have h1 : (gs[j].2 : Rat) ≠ 0 := by grind
    have h2 : (p.2 : Rat) ≠ 0 := by grind
    grind
  have := (feas_fits rfl ho fun j => x j + lowQ r j).mp (by
    have : (fun j => x j + lowQ r j - lowQ r j) = x := funext fun j => by grind
    rw [this]
    exact fx)
  refine ⟨fun j hj => by show lowQ r j ≤ qv (gs.getD j (0, 1)) ∧ qv (gs.getD j (0, 1)) ≤ highQ r j; rw [e j hj]; exact this.1 j hj, fun fs hf => ?_⟩
  have g := this.2 fs hf
  unfold dotQ at g ⊢
  rw [qsum_congr r.parts.length (g := fun j => (x j + lowQ r j) * qv (fs.getD j (0, 1))) fun j hj => by show qv (gs.getD j (0, 1)) * _ = _; rw [e j hj]]
  exact g
/-- nothing fits where nothing is told -/
theorem unfitP_q (ho : SeenOk fss r.parts.length) (h : UnfitP r fss) (a : Nat → Rat) : ¬ FitsQ r fss a := by
  obtain ⟨t, i, sh, so, hi, h1, h2⟩ := h
  have lz : (zs r.parts.length).length = r.parts.length := List.length_replicate ..
  have := unfeas_of (ls := seenLs r fss) (cs := zs r.parts.length) (t := t) (by rw [lz]; exact sh) so hi (by rw [lz]; exact h1) (by rw [lz]; exact h2) fun j => a j - lowQ r j
  rw [lz] at this
  exact fun z => this ((feas_fits rfl ho a).mpr z)
end
end Ca
set_option Elab.async false
set_option linter.all false
set_option maxRecDepth 100000
set_option maxHeartbeats 4000000
namespace Ca
open PySem L2
/-! ### purses -/
def spPurse (K : PySem.W.Frag) : Sp := fun vs H Q _ => ∃ (a : Addr) (ns : List Int) (k : Nat), vs = [.ref a, .int k] ∧ k ≤ 1000 ∧ SqL K H a (ns.map V.int) ∧
  ∀ H' l, H l = none → Same H H' → Urn H' l → Q (.ref l) H'
section
variable {P : Program} {w : World} {K : PySem.W.Frag} {mg : Str → Option Value} {base : Heap}
abbrev NPu : List Str := ["_law_script", "_law_k", "_law_cell", "_law_digits", "_law_seed"]
theorem scPurse : FnScope NPu ["_law_script", "_law_k"] (defScope sLawPurse) := ⟨rfl, rfl, rfl, by decide +kernel, rfl, by decide +kernel, by decide +kernel⟩
theorem ok_purse {f : Addr} {fd : FuncData} (F : Fun K "_law_purse" "_law_purse" sLawPurse f fd) (B : Bi mg) : FnOk P w K mg base CX0 1 f fd ["_law_script", "_law_k"] (spPurse K) := by
  refine F.ok scPurse (fun vs H Q E h => ?_) (fun cdv A outer s H vs Q E hr h => ?_)
  · obtain ⟨a, ns, k, rfl, _⟩ := h
    rfl
  · obtain ⟨a, ns, k, rfl, hk, hS, q⟩ := h
    have nd := scPurse.nd
    refine ⟨_, pss_cons (ps_if (pt_cmpR op_lt (pv 1) (pe_callB call_len_seq (by rfl) B.len PySem.boot_len (pa_cons (pv 0) pa_nil)) (nomark _))
        (pss_cons (ps_set (i := 2) nd rfl (.inl rfl) (pe_ix ix_list (pv 0) (pv 1) (fun _ _ => rfl)))
          (pss_cons (ps_cut (ps_set (i := 3) nd rfl (.inl rfl) (pe_ifExp (PW.pt (pw_or (pt_cmpR op_lt (pv 2) pe_int (nomark _)) (pw_or1 (pt_cmpR op_ge (pv 2) (pe_op op_pow pe_int pe_int) (nomark _))))) (pe_callB call_abs (by rfl) B.abs (by decide +kernel) (pa_cons (pv 2) pa_nil)) pe_int)))
          (pss_one (ps_ret (pe_lst (pa_cons (pv 3) (pa_cons (pe_op op_mod (pe_callTy call_int1 (by rfl) B.int PyProof.Rows.boot_int (pa_cons (pe_op op_add (pe_op op_add (pe_op op_mul (pv 2) pe_int) (pe_op op_mul pe_int (pv 1))) pe_int) pa_nil)) pe_int) (pa_cons pe_int pa_nil)))))))) pss_nil)
      (pss_cons (ps_set (i := 4) nd rfl (.inl rfl) (pe_op op_add (pe_op op_mul pe_int (pv 1)) pe_int))
      (pss_cons (ps_for PassesOwn.never rfl (pi_list (pe_slice sl_list (pv 0) po_none (po_some pe_int))) (pg_name (i := 2) nd rfl (.inl rfl))
        (pss_one (ps_set (i := 4) nd rfl (.inl rfl) (pe_op op_mod (pe_callTy call_int1 (by rfl) B.int PyProof.Rows.boot_int (pa_cons (pe_op op_add (pe_op op_mul (pv 4) pe_int) (pv 2)) pa_nil)) pe_int))))
      (pss_one (ps_ret (pe_lst (pa_cons pe_int (pa_cons (pv 4) (pa_cons pe_int pa_nil)))))))), ?_⟩
    have three : 3 ≤ sizeLine := by decide
    refine ⟨_, rfl, _, rfl, _, _, rfl, .inl hS, _, _, rfl, rfl, _, rfl, ite2 (fun c => ?_) (fun c => ?_)⟩
    · have hk : k < ns.length := by
        have c' := of_decide_eq_true c
        rw [List.length_map] at c'
        exact Int.ofNat_lt.mp c'
      obtain ⟨z, hz⟩ : ∃ z, ns[k]? = some z := ⟨_, List.getElem?_eq_getElem hk⟩
      refine ⟨_, rfl, _, rfl, _, _, _, _, rfl, rfl, hS, atI_nat (v := .int z) (by rw [List.getElem?_map, hz]; rfl), ?_⟩
      refine ⟨fun σ' H' => ∃ g : Int, 0 ≤ g ∧ σ' = [some (.ref a), some (.int k), some (.int z), some (.int g), none] ∧ H' = H, ?_, ?_⟩
      · refine ⟨_, rfl, _, _, rfl, rfl, _, rfl, ?_⟩
        refine ite2 (fun c => ?_) (fun c => ?_)
        · refine iteT ⟨_, rfl, _, rfl, _, ?_, rfl, rfl⟩
          split <;> omega
        · refine ⟨_, rfl, _, _, rfl, rfl, ⟨by decide, by decide, by decide⟩, _, _, rfl, rfl, _, rfl, ?_⟩
          refine ite2 (fun c => ?_) (fun c => ?_)
          · refine ⟨_, rfl, _, rfl, _, ?_, rfl, rfl⟩
            split <;> omega
          · exact ⟨0, Int.le_refl _, rfl, rfl⟩
      · rintro σ2 H2 ⟨g, hg, rfl, rfl⟩
        refine ⟨_, rfl, _, rfl, _, _, rfl, rfl, .inr ⟨by decide, by decide⟩, _, rfl, _, _, rfl, rfl, .inl ⟨by decide, by decide⟩, _, _, rfl, rfl, _, _, rfl, rfl, .inl ⟨_, rfl, _, _, rfl, rfl, by show (0 : Int) < 2147483629; decide, three, fun l hl => ?_⟩⟩
        exact q _ l hl (Same.new hl) ⟨g, _, 0, hg, Int.emod_nonneg _ (by decide), Int.emod_lt_of_pos _ (by decide), upd_same⟩
    · refine ⟨_, rfl, _, _, rfl, rfl, .inl ⟨by decide, by decide⟩, _, _, rfl, rfl, ?_⟩
      refine ⟨_, rfl, _, rfl, a, _, rfl, hS, fun p hp => ?_⟩
      have s1 : Same H (upd H p (.lst (cutV (ns.map V.int) none (some 4)))) := Same.new hp
      refine ⟨_, rfl, ⟨_, SqL.of upd_same⟩, for_list (K := K) (a := p) (xs := cutV (ns.map V.int) none (some 4)) (fun i σ H' => ∃ (st : Int) (v : Option V), 0 ≤ st ∧ st < 2147483629 ∧ σ = [some (.ref a), some (.int k), v, none, some (.int st)] ∧ H' = upd H p (.lst (cutV (ns.map V.int) none (some 4))))
        ⟨_, none, ?_, ?_, rfl, rfl⟩ (fun i σ H' _ h => ?_) ?_ ?_⟩
      · show (0 : Int) ≤ 86243 * (k : Int) + 131
        omega
      · show 86243 * (k : Int) + 131 < 2147483629
        omega
      · obtain ⟨_, _, _, _, _, rfl⟩ := h
        exact SqL.of upd_same
      · rintro i y σ H' hi ⟨st, v, _, _, rfl, rfl⟩
        obtain ⟨z, rfl⟩ := cut_int_get hi
        refine ⟨_, rfl, _, _, rfl, rfl, .inr ⟨by decide, by decide⟩, _, rfl, _, _, rfl, rfl, .inl ⟨_, rfl, _, _, rfl, rfl, by show (0 : Int) < 2147483587; decide, _, _, Int.emod_nonneg _ (by decide), ?_, rfl, rfl⟩⟩
        exact Int.lt_trans (Int.emod_lt_of_pos _ (by decide)) (by decide)
      · rintro σ H' ⟨st, v, h1, h2, rfl, rfl⟩
        refine ⟨_, rfl, three, fun l hl => ?_⟩
        exact q _ l (s1.free hl) (s1.trans (Same.new hl)) ⟨0, st, 0, Int.le_refl _, h1, h2, upd_same⟩
abbrev NDr : List Str := ["_law_purse_here", "_law_size", "_law_seed", "_law_by", "_law_digit"]
theorem scDraw : FnScope NDr ["_law_purse_here", "_law_size"] (defScope sLawDraw) := ⟨rfl, rfl, rfl, by decide +kernel, rfl, by decide +kernel, by decide +kernel⟩
theorem ok_draw {f : Addr} {fd : FuncData} (F : Fun K "_law_draw" "_law_draw" sLawDraw f fd) (B : Bi mg) : FnOk P w K mg base CX0 1 f fd ["_law_purse_here", "_law_size"] spDip := by
  refine F.ok scDraw (fun vs H Q E h => ?_) (fun cdv A outer s H vs Q E hr h => ?_)
  · obtain ⟨a, t, rfl, _⟩ := h
    rfl
  · obtain ⟨l, t, rfl, ⟨g, x, n, hg, hx, hx2, hU⟩, ht, ht2, q⟩ := h
    have nd := scDraw.nd
    refine ⟨_, pss_cons (ps_cut (ps_par (i := 2) (j := 3) rfl nd rfl rfl (by decide) rfl rfl (pa_cons (pe_ix ix_list (pv 0) pe_int (fun _ _ => rfl)) (pa_cons (pe_op op_add (pe_op op_mod (pe_callTy call_int1 (by rfl) B.int PyProof.Rows.boot_int (pa_cons (pe_ix ix_list (pv 0) pe_int (fun _ _ => rfl)) pa_nil)) pe_int) pe_int) pa_nil)) rfl))
      (pss_cons (ps_asg (pe_op op_add (pe_ix ix_list (pv 0) pe_int (fun _ _ => rfl)) pe_int) (pg_sub (pv 0) pe_int set_list))
      (pss_cons (ps_asg (pe_op op_mod (pe_callTy call_int1 (by rfl) B.int PyProof.Rows.boot_int (pa_cons (pe_op op_add (pe_op op_add (pe_op op_mul (pv 2) (pv 3)) (pe_op op_mul pe_int (pe_ix ix_list (pv 0) pe_int (fun _ _ => rfl)))) pe_int) pa_nil)) pe_int) (pg_sub (pv 0) pe_int set_list))
      (pss_cons (ps_if (pt_cmpR op_gt (pe_ix ix_list (pv 0) pe_int (fun _ _ => rfl)) pe_int (nomark _))
        (pss_cons (ps_asg (pe_callB call_divmod (by rfl) B.divmod (by decide +kernel) (pa_cons (pe_ix ix_list (pv 0) pe_int (fun _ _ => rfl)) (pa_cons (pv 1) pa_nil)))
            (pg_tup rfl (pgs_cons (pg_sub (pv 0) pe_int set_list) (pgs_cons (pg_name (i := 4) nd rfl (.inl rfl)) pgs_nil))))
          (pss_one (ps_ret (pv 4)))) pss_nil)
      (pss_one (ps_ret (pe_op op_mod (pe_callTy call_int1 (by rfl) B.int PyProof.Rows.boot_int (pa_cons (pe_op op_fdiv (pe_ix ix_list (pv 0) pe_int (fun _ _ => rfl)) pe_int) pa_nil)) (pv 1))))))), ?_⟩
    refine ⟨fun σ' H' => ∃ by' : Int, σ' = [some (.ref l), some (.int t), some (.int x), some (.int by'), none] ∧ Kept l H H' ∧ H' l = some (.lst [.int g, .int x, .int n]), ?_, ?_⟩
    · exact ⟨_, rfl, _, _, _, _, rfl, rfl, SqL.of hU, rfl, _, rfl, _, _, _, _, rfl, rfl, SqL.of hU, rfl, .inl ⟨_, rfl, _, _, rfl, rfl, by show (0 : Int) < 40009; decide, _, _, rfl, rfl, _, _, rfl, ⟨_, rfl, Kept.refl l H, hU⟩⟩⟩
    rintro _ H1 ⟨by', rfl, k1, hU1⟩
    refine ⟨_, rfl, _, _, _, _, rfl, rfl, SqL.of hU1, rfl, _, _, rfl, rfl, _, rfl, _, _, _, _, rfl, rfl, hU1, rfl, ?_⟩
    refine ⟨_, rfl, _, rfl, _, _, rfl, rfl, .inl ⟨by show -(2 ^ 64) < x; omega, by show x < 2 ^ 64; omega⟩, _, rfl, _, _, _, _, rfl, rfl, SqL.of upd_same, rfl, _, _, rfl, rfl, .inl ⟨by decide, by decide⟩, _, _, rfl, rfl, _, _, rfl, rfl, .inl ⟨_, rfl, _, _, rfl, rfl, by show (0 : Int) < 2147483629; decide, _, rfl, _, _, _, _, rfl, rfl, upd_same, rfl, ?_⟩⟩
    have k2 : ∀ o o', Kept l H (upd (upd H1 l o) l o') := fun o o' => k1.trans (Kept.upd.trans Kept.upd)
    refine ⟨_, rfl, _, _, _, _, rfl, rfl, SqL.of upd_same, rfl, _, _, rfl, rfl, _, rfl, ite2 (fun c => ?_) (fun c => ?_)⟩
    · refine ⟨_, rfl, _, _, _, _, rfl, rfl, SqL.of upd_same, rfl, _, rfl, _, _, rfl, ⟨ht, ht2⟩, fun p hp => ?_⟩
      have npl : l ≠ p := ne_of_none upd_same hp
      refine ⟨_, _, rfl, SqT.of upd_same, rfl, _, _, rfl, ⟨_, rfl, _, _, _, _, rfl, rfl, Eq.trans (upd_ne npl) upd_same, rfl, ?_⟩⟩
      refine ⟨_, _, rfl, ⟨rfl, ?_⟩⟩
      refine ⟨_, rfl, q _ _ ((k2 _ _).trans ((Kept.new hp).trans Kept.upd)) ⟨_, _, _, ?_, Int.emod_nonneg _ (by decide), Int.emod_lt_of_pos _ (by decide), upd_same⟩ (Int.emod_nonneg _ (by omega)) (Int.emod_lt_of_pos _ ht)⟩
      exact Int.ediv_nonneg hg (Int.le_of_lt ht)
    · refine ⟨_, rfl, _, _, _, _, rfl, rfl, SqL.of upd_same, rfl, _, _, rfl, rfl, ⟨by decide, by decide⟩, .inl ⟨_, rfl, _, rfl, _, _, rfl, rfl, ht, ?_⟩⟩
      exact q _ _ (k2 _ _) ⟨g, _, _, hg, Int.emod_nonneg _ (by decide), Int.emod_lt_of_pos _ (by decide), upd_same⟩ (Int.emod_nonneg _ (by omega)) (Int.emod_lt_of_pos _ ht)
theorem scPick : FnScope ["_law_purse_here", "_law_menu"] ["_law_purse_here", "_law_menu"] (defScope sLawPick) := ⟨rfl, rfl, rfl, by decide +kernel, rfl, by decide +kernel, by decide +kernel⟩
theorem ok_pick {f fD : Addr} {fd fdD : FuncData} (F : Fun K "_law_pick" "_law_pick" sLawPick f fd) (B : Bi mg) (gD : mg "_law_draw" = some (.ref fD)) (GD : FnOk P w K mg base CX0 1 fD fdD ["_law_purse_here", "_law_size"] spDip) (kD : PySem.W.keepIn K (.ref fD) = true) (bD : Binds K fdD ["_law_purse_here", "_law_size"] []) :
    FnOk P w K mg base CX0 2 f fd ["_law_purse_here", "_law_menu"] (spFrom K) := by
  refine F.ok scPick (fun vs H Q E h => ?_) (fun cdv A outer s H vs Q E hr h => ?_)
  · obtain ⟨l, a, xs, rfl, _⟩ := h
    rfl
  · obtain ⟨l, a, xs, rfl, hU, hA, nal, h0, h1, q⟩ := h
    refine ⟨_, pss_one (ps_ret (pe_ix ix_list (pv 1) (pe_call GD hr rfl gD kD bD .nil pass0 (pa_cons (pv 0) (pa_cons (pe_callB call_len_seq (by rfl) B.len PySem.boot_len (pa_cons (pv 1) pa_nil)) pa_nil))) (fun _ _ => rfl))), ?_⟩
    refine ⟨_, rfl, _, rfl, _, rfl, _, _, rfl, .inl (SqL.of hA), l, _, rfl, hU, by omega, by omega, fun H' r k u r0 r1 => ?_⟩
    have hi : r.toNat < xs.length := by omega
    refine ⟨a, xs, r, xs[r.toNat], rfl, rfl, SqL.of (k _ _ nal hA), ?_, ?_⟩
    · exact at_of (j := r.toNat) (by omega) (List.getElem?_eq_getElem hi)
    · exact q _ r.toNat _ (List.getElem?_eq_getElem hi) k u
end
end Ca
set_option Elab.async false
set_option linter.all false
set_option maxRecDepth 100000
set_option maxHeartbeats 4000000
namespace Ca
open PySem L2
/-! ### the law's own fractions, stretches -/
def spLowP (K : PySem.W.Frag) : Sp := fun vs H Q _ => ∃ a b : Int, vs = [.int a, .int b] ∧ 0 < b ∧ b.natAbs < 2 ^ 8000 ∧ ∀ H' y p q, Same H H' → Dq K H' y (frD (p, q)) → Red a b p q → Q y H'
def spStrP (K : PySem.W.Frag) : Sp := fun vs H Q _ => ∃ (l : Addr) (z : Int), vs = [.ref l, .int z] ∧ Urn H l ∧ 1 ≤ z ∧ z ≤ 1000 ∧ ∀ H' v p, Kept l H H' → Urn H' l → Dq K H' v (strD p) → isStretchD (strD p) = true → Q v H'
section
variable {P : Program} {w : World} {K : PySem.W.Frag} {mg : Str → Option Value} {base : Heap}
abbrev NLo : List Str := ["_law_top", "_law_bottom", "_law_high", "_law_less"]
theorem scLowP : FnScope NLo ["_law_top", "_law_bottom"] (defScope sLawLow) := ⟨rfl, rfl, rfl, by decide +kernel, rfl, by decide +kernel, by decide +kernel⟩
theorem ok_lowP {f : Addr} {fd : FuncData} (F : FnT K "_law_low" sLawLow f fd) (mabs : mg "abs" = none) (mint : mg "int" = none) : FnOk P w K mg base CX0 1 f fd ["_law_top", "_law_bottom"] (spLowP K) := by
  refine F.ok scLowP (fun vs H Q E h => ?_) (fun cdv A outer s H vs Q E hr h => ?_)
  · obtain ⟨a, b, rfl, _⟩ := h
    rfl
  · obtain ⟨a, b, rfl, hb, hs, q⟩ := h
    have nd := scLowP.nd
    refine ⟨_, PSs.nox (pss_cons (ps_par (i := 2) (j := 3) rfl nd rfl rfl (by decide) rfl rfl (pa_cons (pe_callB call_abs (by rfl) mabs (by decide +kernel) (pa_cons (pv 0) pa_nil)) (pa_cons (pv 1) pa_nil)) rfl)
      (pss_cons (ps_while PassesOwn.never (pt_cmpR op_gt (pv 3) pe_int (nomark _))
          (pss_one (ps_par (i := 2) (j := 3) rfl nd rfl rfl (by decide) rfl rfl (pa_cons (pv 3) (pa_cons (pe_op op_mod (pe_callTy call_int1 (by rfl) mint PyProof.Rows.boot_int (pa_cons (pv 2) pa_nil)) (pv 3)) pa_nil)) rfl)))
      (pss_one (ps_ret (pe_tup (pa_cons (pe_op op_fdivW (pv 0) (pv 2)) (pa_cons (pe_op op_fdivW (pv 1) (pv 2)) pa_nil))))))), ?_⟩
    have g0 : 0 < Nat.gcd a.natAbs b.natAbs := Nat.gcd_pos_of_pos_right _ (by omega)
    have g1 : Nat.gcd a.natAbs b.natAbs ≤ b.natAbs := Nat.gcd_le_right _ (by omega)
    have gs : ((Nat.gcd a.natAbs b.natAbs : Nat) : Int).natAbs < 2 ^ 8000 := by rw [Int.natAbs_natCast]; exact Nat.lt_of_le_of_lt g1 hs
    have cd : ∀ i : Int, CDivW i ((Nat.gcd a.natAbs b.natAbs : Nat) : Int) := fun i => wide_div (b := 8000) (by omega) gs (by decide) (by decide)
    have eabs : (if a < 0 then -a else a) = ((a.natAbs : Nat) : Int) := by split <;> omega
    have eb : b = ((b.natAbs : Nat) : Int) := by omega
    refine ⟨_, rfl, _, rfl, _, rfl, _, _, rfl, ?_⟩
    rw [eabs]
    refine while_by (fun σ' H' => H' = H ∧ ∃ (m n : Nat), σ' = [some (.int a), some (.int b), some (.int (m : Int)), some (.int (n : Int))] ∧ Nat.gcd m n = Nat.gcd a.natAbs b.natAbs)
      (fun σ' H' => match σ' with
        | [_, _, _, some (.int c)] => c.toNat
        | _ => 0) ⟨rfl, a.natAbs, b.natAbs, (by rw [← eb]; rfl), rfl⟩ ?_ ?_
    · rintro _ _ ⟨rfl, m, n, rfl, hg⟩
      refine ⟨_, rfl, _, _, rfl, rfl, _, rfl, ite2 (fun g => ?_) (fun g => ?_)⟩
      · have c0 : 0 < n := by
          have := of_decide_eq_true g
          omega
        refine ⟨_, rfl, _, rfl, .inl ⟨_, rfl, _, rfl, _, _, rfl, rfl, (by show (0 : Int) < (n : Int); omega), _, _, rfl, ⟨rfl, n, m % n, rfl, ?_⟩, ?_⟩⟩
        · rw [← hg, Nat.gcd_comm m n, Nat.gcd_rec n m, Nat.gcd_comm]
        · show ((m : Int) % (n : Int)).toNat < (n : Int).toNat
          have := Nat.mod_lt m c0
          omega
      · have c0 : n = 0 := by
          have : ¬ ((n : Int) > 0) := fun h => g (decide_eq_true h)
          omega
        subst c0
        rw [Nat.gcd_zero_right] at hg
        subst hg
        refine ⟨_, rfl, _, rfl, _, _, rfl, rfl, cd _, _, rfl, _, rfl, _, _, rfl, rfl, cd _, by show 2 ≤ sizeLine; decide, fun p2 hp2 => ?_⟩
        exact q _ _ _ _ (Same.new hp2) (fr_of upd_same) (red_of hb)
    · intro σ' H' Q1 Q2 hq z
      obtain ⟨v, e1, a1, a2, e2, e3, k', e4, z⟩ := z
      exact ⟨v, e1, a1, a2, e2, e3, k', e4, hq _ _ z⟩
theorem scStrP : FnScope ["_law_purse_here", "_law_size", "_law_first"] ["_law_purse_here", "_law_size"] (defScope sLawStretch) := ⟨rfl, rfl, rfl, by decide +kernel, rfl, by decide +kernel, by decide +kernel⟩
theorem ok_strP {f fD fF : Addr} {fd fdD fdF : FuncData} (F : FnT K "_law_stretch" sLawStretch f fd)
    (gD : mg "_law_draw" = some (.ref fD)) (GD : FnOk P w K mg base CX0 1 fD fdD ["_law_purse_here", "_law_size"] spDip) (kD : PySem.W.keepIn K (.ref fD) = true) (bD : Binds K fdD ["_law_purse_here", "_law_size"] [])
    (gF : mg "_law_pick" = some (.ref fF)) (GF : FnOk P w K mg base CX0 2 fF fdF ["_law_purse_here", "_law_menu"] (spFrom K)) (kF : PySem.W.keepIn K (.ref fF) = true) (bF : Binds K fdF ["_law_purse_here", "_law_menu"] []) :
    FnOk P w K mg base CX0 3 f fd ["_law_purse_here", "_law_size"] (spStrP K) := by
  refine F.ok scStrP (fun vs H Q E h => ?_) (fun cdv A outer s H vs Q E hr h => ?_)
  · obtain ⟨l, z, rfl, _⟩ := h
    rfl
  · obtain ⟨l, z, rfl, hU, z1, z2, q⟩ := h
    have nd := scStrP.nd
    have hr1 : Room 1 _ := hr.mono (by decide)
    refine ⟨_, PSs.nox (pss_cons (ps_set (i := 2) nd rfl (.inl rfl) (pe_call GF hr rfl gF kF bF .nil pass0 (pa_cons (pv 0) (pa_cons (pe_lst (pa_cons pe_int (pa_cons pe_int (pa_cons (pe_un un_neg pe_int)
          (pa_cons (pe_op op_sub (pe_call GD hr1 rfl gD kD bD .nil pass0 (pa_cons (pv 0) (pa_cons (pe_op op_add (pe_op op_mul pe_int (pv 1)) pe_int) pa_nil))) (pv 1)) pa_nil))))) pa_nil))))
      (pss_one (ps_ret (pe_tup (pa_cons (pv 2) (pa_cons (pe_op op_add (pv 2) (pe_call GF hr rfl gF kF bF .nil pass0 (pa_cons (pv 0) (pa_cons (pe_lst (pa_cons pe_int (pa_cons pe_int (pa_cons pe_int (pa_cons pe_int
          (pa_cons (pe_call GD hr1 rfl gD kD bD .nil pass0 (pa_cons (pv 0) (pa_cons (pe_op op_add (pv 1) pe_int) pa_nil))) pa_nil)))))) pa_nil)))) pa_nil)))))), ?_⟩
    refine ⟨_, rfl, _, rfl, _, rfl, _, rfl, _, _, rfl, rfl, .inl ⟨by decide, by decide⟩, _, _, rfl, rfl, l, 2 * z + 1, rfl, hU, by omega, by omega, fun H2 d k2 u2 d0 d1 => ⟨_, rfl, _, _, rfl, rfl, by show 4 ≤ sizeLine; decide, fun p hp => ?_⟩⟩
    obtain ⟨uo, huo⟩ := u2.some
    have s2 := Same.new (o := .lst [.int 0, .int 1, .int (-1), .int (d - z)]) hp
    refine ⟨l, p, _, rfl, u2.same s2, upd_same, (ne_of_none huo hp).symm, by show 0 < 4; decide, by show 4 < 1000; decide, fun H3 i v hv k3 u3 => ?_⟩
    obtain ⟨low, rfl, w1, w2⟩ : ∃ low : Int, v = .int low ∧ -1000 ≤ low ∧ low ≤ 1001 := by
      match i, hv with
      | 0, hv => cases hv; exact ⟨0, rfl, by decide, by decide⟩
      | 1, hv => cases hv; exact ⟨1, rfl, by decide, by decide⟩
      | 2, hv => cases hv; exact ⟨-1, rfl, by decide, by decide⟩
      | 3, hv => cases hv; exact ⟨d - z, rfl, by omega, by omega⟩
      | n + 4, hv => cases hv
    refine ⟨_, rfl, _, rfl, _, rfl, _, rfl, _, rfl, _, _, rfl, rfl, l, z + 1, rfl, u3, by omega, by omega, fun H4 e k4 u4 e0 e1 => ⟨by show 5 ≤ sizeLine; decide, fun p2 hp2 => ?_⟩⟩
    obtain ⟨uo2, huo2⟩ := u4.some
    have s4 := Same.new (o := .lst [.int 0, .int 0, .int 1, .int 2, .int e]) hp2
    refine ⟨l, p2, _, rfl, u4.same s4, upd_same, (ne_of_none huo2 hp2).symm, by show 0 < 5; decide, by show 5 < 1000; decide, fun H5 i2 v2 hv2 k5 u5 => ?_⟩
    obtain ⟨hi, rfl, y1, y2⟩ : ∃ hi : Int, v2 = .int hi ∧ 0 ≤ hi ∧ hi ≤ 1000 := by
      match i2, hv2 with
      | 0, hv => cases hv; exact ⟨0, rfl, by decide, by decide⟩
      | 1, hv => cases hv; exact ⟨0, rfl, by decide, by decide⟩
      | 2, hv => cases hv; exact ⟨1, rfl, by decide, by decide⟩
      | 3, hv => cases hv; exact ⟨2, rfl, by decide, by decide⟩
      | 4, hv => cases hv; exact ⟨e, rfl, by omega, by omega⟩
      | n + 5, hv => cases hv
    refine ⟨_, _, rfl, rfl, by show 2 ≤ sizeLine; decide, fun t ht => ?_⟩
    exact q _ _ (low, low + hi) (k2.trans (s2.kept.trans (k3.trans (k4.trans (s4.kept.trans (k5.trans (Same.new ht).kept)))))) (u5.same (Same.new ht)) (strD_at upd_same) (two_ok (show -10000 ≤ low by omega) (show low ≤ low + hi by omega) (show low + hi ≤ 10000 by omega))
end
end Ca
set_option Elab.async false
set_option linter.all false
set_option maxRecDepth 100000
set_option maxHeartbeats 8000000
namespace Ca
open PySem PySem.Spec PyProof.Rows L2
/-! ### the law's drawn systems -/
def nmR (k : Nat) : Str := ("r" : Str) ++ toString ((k : Nat) : Int)
def folk3 (m : Nat) : List Str := (["x", "y", "z9"] : List Str).take m
theorem nmR_ok : ∀ k, k < 6 → nameS (nmR k) = true ∧ (nmR k).length ≤ 1000 ∧ ("r" : Str).length + (toString ((k : Nat) : Int) : Str).length ≤ 1000 := by decide +kernel
theorem nmR_nd : ((List.range 6).map nmR).Nodup := by decide +kernel
theorem folk3_ok {m : Nat} (h1 : 1 ≤ m) (h3 : m ≤ 3) : Folk (folk3 m) ∧ (folk3 m).length = m := by
  have : m = 1 ∨ m = 2 ∨ m = 3 := by omega
  rcases this with rfl | rfl | rfl
  · exact ⟨⟨by decide, by decide, by decide +kernel, by decide +kernel⟩, rfl⟩
  · exact ⟨⟨by decide, by decide, by decide +kernel, by decide +kernel⟩, rfl⟩
  · exact ⟨⟨by decide, by decide, by decide +kernel, by decide +kernel⟩, rfl⟩
theorem lines_ofP {rs : List Rw} {m : Nat} (h6 : rs.length ≤ 6) (h : ∀ i r, rs[i]? = some r → r.name = nmR i ∧ isRowD (rowD r) m = true) : Lines rs m := by
  refine ⟨h6, fun r hr => ?_, ?_⟩
  · obtain ⟨i, hi⟩ := List.mem_iff_getElem?.mp hr
    exact (h i r hi).2
  · have e : rs.map Rw.name = ((List.range 6).map nmR).take rs.length := by
      refine List.ext_getElem (by simp; omega) fun i h1 h2 => ?_
      rw [List.length_map] at h1
      rw [List.getElem_map, List.getElem_take, List.getElem_map, List.getElem_range]
      exact (h i rs[i] (List.getElem?_eq_getElem h1)).1
    rw [e]
    exact nmR_nd.sublist (List.take_sublist _ _)
def spCard (K : PySem.W.Frag) : Sp := fun vs H Q _ => ∃ (l : Addr) (mu mr sz : Int), vs = [.ref l, .int mu, .int mr, .int sz] ∧ Urn H l ∧ 1 ≤ mu ∧ mu ≤ 3 ∧ 1 ≤ mr ∧ mr ≤ 6 ∧ 1 ≤ sz ∧ sz ≤ 1000 ∧
  ∀ H' c u r rs m, Kept l H H' → Urn H' l → H c = none → c ≠ l → H' c = some (.lst [.ref u, .ref r]) → Dq K H' (.ref u) (folkD (folk3 m)) → Dq K H' (.ref r) (rowsD rs) → 1 ≤ m → (m : Int) ≤ mu → Lines rs m → 1 ≤ rs.length → (rs.length : Int) ≤ mr → (∀ i r, rs[i]? = some r → r.name = nmR i ∧ -2000 ≤ r.bd.1 ∧ r.bd.2 ≤ 8001) → Q (.ref c) H'
def spMadeP (K : PySem.W.Frag) (C : Addr) : Sp := fun vs H Q _ => ∃ c u r ns rs, vs = [.ref c] ∧ H c = some (.lst [.ref u, .ref r]) ∧ Dq K H (.ref u) (folkD ns) ∧ Dq K H (.ref r) (rowsD rs) ∧ Folk ns ∧ Lines rs ns.length ∧ ∀ H' y, Same H H' → SysAt K C H' y ns rs → Q (.ref y) H'
abbrev NCd : List Str := ["_law_purse_here", "_law_most_unknowns", "_law_most_rows", "_law_size", "_law_many", "_law_rows_here", "_law_k", "_law_numbers_here", "_law_low_here", "_law_bound_here", "_law_j"]
section
variable {P : Program} {w : World} {K : PySem.W.Frag} {mg : Str → Option Value} {base : Heap} {C fI : Addr} {fdI : FuncData}
theorem scMadeP : FnScope ["_law_card_here"] ["_law_card_here"] (defScope sLawMade) := ⟨rfl, rfl, rfl, by decide +kernel, rfl, by decide +kernel, by decide +kernel⟩
theorem ok_madeP {f : Addr} {fd : FuncData} (F : FnT K "_law_made" sLawMade f fd) (M : Mk K C fI) (gS : mg "System" = some (.ref C))
    (GI : FnOk P w K mg base CX0 5 fI fdI ["self", "unknowns", "rows"] (spInit K C)) (bI : Binds K fdI ["self", "unknowns", "rows"] []) : FnOk P w K mg base CX0 7 f fd ["_law_card_here"] (spMadeP K C) := by
  refine F.ok scMadeP (fun vs H Q E h => ?_) (fun cdv A outer s H vs Q E hr h => ?_)
  · obtain ⟨c, u, r, ns, rs, rfl, _⟩ := h
    rfl
  · obtain ⟨c, u, r, ns, rs, rfl, hc, du, dr, hN, hL, q⟩ := h
    refine ⟨_, PSs.nox (pss_one (ps_ret (pe_make M GI hr rfl gS bI .nil pass0 (pa_cons (pe_ix ix_list (pv 0) pe_int (fun _ _ => rfl)) (pa_cons (pe_ix ix_list (pv 0) pe_int (fun _ _ => rfl)) pa_nil))))), ?_⟩
    refine ⟨_, rfl, c, _, 0, _, rfl, rfl, SqL.of hc, atI_nat (j := 0) rfl, _, rfl, c, _, 1, _, rfl, rfl, SqL.of hc, atI_nat (j := 1) rfl, fun y dy hy hdy ne => ?_⟩
    have sn := made_new (C := C) hy hdy
    refine ⟨y, dy, .ref u, .ref r, ns, rs, rfl, upd_same, du.same sn, hN, dr.same sn, hL, fun H6 k6 x6 => ⟨rfl, ?_⟩⟩
    have s6 := made_same hy hdy k6
    exact q H6 y s6 ⟨hN, hL, dy, .ref u, .ref r, x6, du.same s6, dr.same s6⟩
theorem scCard : FnScope NCd ["_law_purse_here", "_law_most_unknowns", "_law_most_rows", "_law_size"] (defScope sLawCard) := ⟨rfl, rfl, rfl, by decide +kernel, rfl, by decide +kernel, by decide +kernel⟩
theorem ok_card {f fD fF fS : Addr} {fd fdD fdF fdS : FuncData} (F : FnT K "_law_card" sLawCard f fd) (mtup : mg "tuple" = none) (mrng : mg "range" = none) (mstr : mg "str" = none)
    (gD : mg "_law_draw" = some (.ref fD)) (GD : FnOk P w K mg base CX0 1 fD fdD ["_law_purse_here", "_law_size"] spDip) (kD : PySem.W.keepIn K (.ref fD) = true) (bD : Binds K fdD ["_law_purse_here", "_law_size"] [])
    (gF : mg "_law_pick" = some (.ref fF)) (GF : FnOk P w K mg base CX0 2 fF fdF ["_law_purse_here", "_law_menu"] (spFrom K)) (kF : PySem.W.keepIn K (.ref fF) = true) (bF : Binds K fdF ["_law_purse_here", "_law_menu"] [])
    (gS : mg "_law_stretch" = some (.ref fS)) (GS : FnOk P w K mg base CX0 3 fS fdS ["_law_purse_here", "_law_size"] (spStrP K)) (kS : PySem.W.keepIn K (.ref fS) = true) (bS : Binds K fdS ["_law_purse_here", "_law_size"] []) :
    FnOk P w K mg base CX0 4 f fd ["_law_purse_here", "_law_most_unknowns", "_law_most_rows", "_law_size"] (spCard K) := by
  refine F.ok scCard (fun vs H Q E h => ?_) (fun cdv A outer s H vs Q E hr h => ?_)
  · obtain ⟨l, mu, mr, sz, rfl, _⟩ := h
    rfl
  · obtain ⟨l, mu, mr, sz, rfl, hU, u1, u3, r1, r6, z1, z2, q⟩ := h
    have nd := scCard.nd
    have hr1 : Room 1 _ := hr.mono (by decide)
    have hr2 : Room 2 _ := hr.mono (by decide)
    refine ⟨_, PSs.nox (pss_cons (ps_cut (ps_par (i := 4) (j := 5) rfl nd rfl rfl (by decide) rfl rfl (pa_cons (pe_op op_add pe_int (pe_call GD hr1 rfl gD kD bD .nil pass0 (pa_cons (pv 0) (pa_cons (pv 1) pa_nil)))) (pa_cons (pe_lst pa_nil) pa_nil)) rfl))
      (pss_cons (ps_cut (ps_for PassesOwn.never rfl (pi_range1 rfl mrng (pa_cons (pe_op op_add pe_int (pe_call GD hr1 rfl gD kD bD .nil pass0 (pa_cons (pv 0) (pa_cons (pv 2) pa_nil)))) pa_nil)) (pg_name (i := 6) nd rfl (.inl rfl))
        (pss_cons (ps_cut (ps_set (i := 7) nd rfl (.inl rfl) (pe_callTy call_tuple_of (by rfl) mtup (by decide +kernel) (pa_cons (pe_lc (own := [("_law_j", 10)]) (g := gName 10) (tt := tYes) rfl nd (pi_range1 rfl mrng (pa_cons (pv 4) pa_nil))
            (blkOk_by (own := [("_law_j", 10)]) (N := NCd) (sc := defScope sLawCard) (by decide +kernel)) (fun _ _ _ _ _ => pg_name (i := 10) nd rfl (Or.inl rfl)) (fun _ _ _ _ _ => pts_nil)
            (fun _ _ _ _ _ => pe_call GS hr rfl gS kS bS .nil pass0 (pa_cons (pv 0) (pa_cons (pv 3) pa_nil)))) pa_nil))))
        (pss_cons (ps_cut (ps_set (i := 8) nd rfl (.inl rfl) (pe_call GF hr2 rfl gF kF bF .nil pass0 (pa_cons (pv 0) (pa_cons (pe_lst (pa_cons pe_int (pa_cons pe_int (pa_cons (pe_un un_neg pe_int)
            (pa_cons (pe_op op_sub (pe_call GD hr1 rfl gD kD bD .nil pass0 (pa_cons (pv 0) (pa_cons (pe_op op_add (pe_op op_mul pe_int (pv 3)) pe_int) pa_nil))) (pe_op op_mul pe_int (pv 3))) pa_nil))))) pa_nil)))))
        (pss_cons (ps_cut (ps_set (i := 9) nd rfl (.inl rfl) (pe_tup (pa_cons (pv 8) (pa_cons (pe_op op_add (pv 8) (pe_call GF hr2 rfl gF kF bF .nil pass0 (pa_cons (pv 0) (pa_cons (pe_lst (pa_cons pe_int (pa_cons pe_int (pa_cons pe_int
            (pa_cons (pe_call GD hr1 rfl gD kD bD .nil pass0 (pa_cons (pv 0) (pa_cons (pe_op op_mul pe_int (pv 3)) pa_nil))) pa_nil))))) pa_nil)))) pa_nil)))))
        (pss_one (ps_expr (pe_bm PySem.F.plainAttrs_list PySem.F.slot_list_append PySem.F.type_list_append mt_append (pv 5) (pa_cons (pe_tup (pa_cons (pe_op op_add_str pe_str (pe_callTy call_str_int (by rfl) mstr (by decide +kernel) (pa_cons (pv 6) pa_nil))) (pa_cons (pv 7) (pa_cons (pv 9) pa_nil)))) pa_nil)))))))))
      (pss_one (ps_ret (pe_lst (pa_cons (pe_callTy call_tuple_of (by rfl) mtup (by decide +kernel) (pa_cons (pe_slice sl_list (pe_lst (pa_cons pe_str (pa_cons pe_str (pa_cons pe_str pa_nil)))) po_none (po_some (pv 4))) pa_nil)) (pa_cons (pe_callTy call_tuple_of (by rfl) mtup (by decide +kernel) (pa_cons (pv 5) pa_nil)) pa_nil))))))), ?_⟩
    have two : 2 ≤ sizeLine := by decide
    have three : 3 ≤ sizeLine := by decide
    have four : 4 ≤ sizeLine := by decide
    refine ⟨fun σ' H' => ∃ (m : Nat) (D : Addr), σ' = [some (.ref l), some (.int mu), some (.int mr), some (.int sz), some (.int (m : Nat)), some (.ref D), none, none, none, none, none] ∧ 1 ≤ m ∧ (m : Int) ≤ mu ∧ Kept l H H' ∧ Urn H' l ∧ D ≠ l ∧ H D = none ∧ H' D = some (.lst []), ?_, ?_⟩
    · refine ⟨_, rfl, _, rfl, l, mu, rfl, hU, by omega, by omega, fun H1 d k1 v1 d0 d1 => ⟨_, _, rfl, rfl, Nat.zero_le _, fun D hD => ?_⟩⟩
      obtain ⟨uo, huo⟩ := v1.some
      have nDl : D ≠ l := (ne_of_none huo hD).symm
      have s2 := Same.new (o := .lst []) hD
      exact ⟨_, _, rfl, 1 + d.toNat, D, by rw [show ((1 + d.toNat : Nat) : Int) = 1 + d by omega]; rfl, by omega, by omega, k1.trans s2.kept, v1.same s2, nDl, Kept.free k1 nDl hD, upd_same⟩
    rintro _ H1 ⟨m, D, rfl, m1, m2, k1, v1, nDl, hDn, hD1⟩
    have m3 : m ≤ 3 := by omega
    refine ⟨fun σ' H' => ∃ o6 o7 o8 o9, σ' = [some (.ref l), some (.int mu), some (.int mr), some (.int sz), some (.int (m : Nat)), some (.ref D), o6, o7, o8, o9, none] ∧ Kept l H H' ∧ Urn H' l ∧ ∃ (vs : List V) (rs : List Rw), H' D = some (.lst vs) ∧ DqAll K H' vs (rs.map rowD) ∧ 1 ≤ rs.length ∧ (rs.length : Int) ≤ mr ∧ ∀ i r, rs[i]? = some r → (r.name = nmR i ∧ -2000 ≤ r.bd.1 ∧ r.bd.2 ≤ 8001) ∧ isRowD (rowD r) m = true, ?_, ?_⟩
    · refine ⟨_, rfl, _, rfl, l, mr, rfl, v1, by omega, by omega, fun H2 d k2 v2 d0 d1 => ⟨_, _, rfl, rfl, _, rfl, by omega, by omega, ?_⟩⟩
      refine for_it (walk_range (lo := 0) (n := (1 + d).toNat)) (fun k σ' H' => ∃ o6 o7 o8 o9, σ' = [some (.ref l), some (.int mu), some (.int mr), some (.int sz), some (.int (m : Nat)), some (.ref D), o6, o7, o8, o9, none] ∧ Kept l H H' ∧ Urn H' l ∧ ∃ (vs : List V) (rs : List Rw), H' D = some (.lst vs) ∧ DqAll K H' vs (rs.map rowD) ∧ rs.length = k ∧ ∀ i r, rs[i]? = some r → (r.name = nmR i ∧ -2000 ≤ r.bd.1 ∧ r.bd.2 ≤ 8001) ∧ isRowD (rowD r) m = true)
        ⟨_, _, _, _, rfl, k1.trans k2, v2, [], [], k2 _ _ nDl hD1, .nil, rfl, fun i r h => by simp at h⟩ (fun _ _ _ _ _ => trivial) ?_ (fun σ' H' p => ?_)
      · rintro k z _ _ H3 hk ⟨o6, o7, o8, o9, rfl, k3, v3, vs, rs, bD, dvs, lr, hrs⟩ ⟨rfl, hz⟩
        have hk6 : k < 6 := by omega
        have ez : z = .int ((k : Nat) : Int) := by
          rw [hz]
          show V.int (0 + ((k : Nat) : Int)) = _
          rw [Int.zero_add]
        subst ez
        -- the stretches
        refine ⟨fun σ' H' => ∃ (t : Addr) (ps : List (Int × Int)), σ' = [some (.ref l), some (.int mu), some (.int mr), some (.int sz), some (.int (m : Nat)), some (.ref D), some (.int (k : Nat)), some (.ref t), o8, o9, none] ∧ Kept l H3 H' ∧ Urn H' l ∧ Dq K H' (.ref t) (.tuple (ps.map strD)) ∧ ps.length = m ∧ ∀ p ∈ ps, isStretchD (strD p) = true, ?_, ?_⟩
        · refine ⟨_, rfl, _, rfl, by omega, by omega, fun D2 hD2 => ?_⟩
          refine lc_draw (K := K) (walk_range (lo := 0) (n := ((m : Nat) : Int).toNat)) strD (fun _ p => isStretchD (strD p) = true) noL_strD (by omega) v3 hD2 (fun _ _ => trivial) (fun _ _ _ _ y => y.1) (fun _ => rfl) ?_ ?_
          · rintro i x H4 Qk hi ⟨_, hx⟩ k4 v4 kk
            exact ⟨_, rfl, _, rfl, l, sz, rfl, v4, z1, z2, fun H5 v p k5 v5 dp op => kk v p H5 k5 v5 dp op⟩
          · intro H4 xs ps k4 v4 bD2 dqs hlen hok
            refine ⟨D2, xs, rfl, .inl ⟨SqL.of bD2, fun tr htr => ?_⟩⟩
            have s5 := Same.new (o := .tup xs) htr
            refine ⟨tr, ps, rfl, k4.trans s5.kept, v4.same s5, .tup (SqT.of upd_same) (dqs.same s5), by omega, fun p hp => ?_⟩
            obtain ⟨i, hi⟩ := List.mem_iff_getElem?.mp hp
            exact hok i p hi
        rintro _ H4 ⟨t, ps, rfl, k4, v4, dt, lps, hps⟩
        -- the bound
        refine ⟨fun σ' H' => ∃ low : Int, σ' = [some (.ref l), some (.int mu), some (.int mr), some (.int sz), some (.int (m : Nat)), some (.ref D), some (.int (k : Nat)), some (.ref t), some (.int low), o9, none] ∧ Kept l H4 H' ∧ Urn H' l ∧ -2000 ≤ low ∧ low ≤ 6001, ?_, ?_⟩
        · refine ⟨_, rfl, _, rfl, _, rfl, _, rfl, _, _, rfl, rfl, .inl ⟨by decide, by decide⟩, _, _, rfl, rfl, l, 8 * sz + 1, rfl, v4, by omega, by omega, fun H5 d5 k5 v5 e0 e1 => ⟨_, rfl, _, _, rfl, rfl, .inl ⟨by decide, by decide⟩, _, _, rfl, rfl, four, fun p hp => ?_⟩⟩
          obtain ⟨uo, huo⟩ := v5.some
          have s6 := Same.new (o := .lst [.int 0, .int 5, .int (-5), .int (d5 - 2 * sz)]) hp
          refine ⟨l, p, _, rfl, v5.same s6, upd_same, (ne_of_none huo hp).symm, by show 0 < 4; decide, by show 4 < 1000; decide, fun H7 i v hv k7 v7 => ?_⟩
          have kk := k5.trans (s6.kept.trans k7)
          match i, hv with
          | 0, hv => cases hv; exact ⟨0, rfl, kk, v7, by decide, by decide⟩
          | 1, hv => cases hv; exact ⟨5, rfl, kk, v7, by decide, by decide⟩
          | 2, hv => cases hv; exact ⟨-5, rfl, kk, v7, by decide, by decide⟩
          | 3, hv => cases hv; exact ⟨d5 - 2 * sz, rfl, kk, v7, by omega, by omega⟩
          | n + 4, hv => cases hv
        rintro _ H5 ⟨low, rfl, k5, v5, w1, w2⟩
        refine ⟨fun σ' H' => ∃ (g : Addr) (hi : Int), σ' = [some (.ref l), some (.int mu), some (.int mr), some (.int sz), some (.int (m : Nat)), some (.ref D), some (.int (k : Nat)), some (.ref t), some (.int low), some (.ref g), none] ∧ Kept l H5 H' ∧ Urn H' l ∧ low ≤ hi ∧ hi ≤ low + 2000 ∧ Dq K H' (.ref g) (strD (low, hi)), ?_, ?_⟩
        · refine ⟨_, rfl, _, rfl, _, rfl, _, rfl, _, rfl, _, _, rfl, rfl, .inl ⟨by decide, by decide⟩, l, 2 * sz, rfl, v5, by omega, by omega, fun H6 d6 k6 v6 e0 e1 => ⟨four, fun p hp => ?_⟩⟩
          obtain ⟨uo, huo⟩ := v6.some
          have s7 := Same.new (o := .lst [.int 0, .int 1, .int 3, .int d6]) hp
          refine ⟨l, p, _, rfl, v6.same s7, upd_same, (ne_of_none huo hp).symm, by show 0 < 4; decide, by show 4 < 1000; decide, fun H8 i v hv k8 v8 => ?_⟩
          have kk := k6.trans (s7.kept.trans k8)
          obtain ⟨hi, rfl, y1, y2⟩ : ∃ hi : Int, v = .int hi ∧ 0 ≤ hi ∧ hi ≤ 2000 := by
            match i, hv with
            | 0, hv => cases hv; exact ⟨0, rfl, by decide, by decide⟩
            | 1, hv => cases hv; exact ⟨1, rfl, by decide, by decide⟩
            | 2, hv => cases hv; exact ⟨3, rfl, by decide, by decide⟩
            | 3, hv => cases hv; exact ⟨d6, rfl, by omega, by omega⟩
            | n + 4, hv => cases hv
          refine ⟨_, _, rfl, rfl, two, fun g hg => ?_⟩
          have s9 := Same.new (o := .tup [.int low, .int (low + hi)]) hg
          exact ⟨g, low + hi, rfl, kk.trans s9.kept, v8.same s9, by omega, by omega, strD_at upd_same⟩
        rintro _ H6 ⟨g, hi, rfl, k6, v6, y1, y2, dg⟩
        -- the row
        have k46 := k5.trans k6
        have k36 := k4.trans k46
        obtain ⟨ys3, hl3⟩ := urn_lst v3
        obtain ⟨ys4, hl4⟩ := urn_lst v4
        have bD6 := k36 _ _ nDl bD
        have dt6 := Dq.but hl4 k46 (show noL (.tuple (ps.map strD)) = true from noLs_map strD noL_strD ps) dt
        have dvs6 := DqAll.but hl3 k36 (noLs_map rowD noL_row rs) dvs
        have nk := nmR_ok k hk6
        refine ⟨_, rfl, .inl ⟨rfl, _, SqL.of bD6⟩, _, rfl, _, rfl, ?_, _, _, rfl, rfl, ?_, _, rfl, _, rfl, three, fun e he => ?_⟩
        · show (((k : Nat) : Int).natAbs.log2 < 1920)
          rw [Int.natAbs_natCast]
          exact Nat.lt_of_le_of_lt (Nat.log2_le_self k) (by omega)
        · exact Nat.le_trans nk.2.2 (by decide)
        have s7 := Same.new (o := .tup [.str (nmR k), .ref t, .ref g]) he
        have bD7 := s7 _ _ bD6
        refine ⟨D, _, _, rfl, rfl, bD7, ?_, _, _, _, _, rfl, ?_, ?_, vs ++ [.ref e], rs ++ [⟨nmR k, ps, (low, hi)⟩], upd_same, ?_, by rw [List.length_append, lr]; rfl, fun i r e1 => ?_⟩
        · have := dvs.len
          rw [List.length_map] at this
          exact Nat.lt_of_lt_of_le (show vs.length < 10 by omega) (by decide)
        · intro b o nb eb
          have nbD : b ≠ D := ne_of_none eb hDn
          rw [upd_ne nbD]
          exact s7 _ _ (k36 _ _ nb (k3 _ _ nb eb))
        · obtain ⟨gg, xx, nn, i1, i2, i3, i4⟩ := v6.same s7
          exact ⟨gg, xx, nn, i1, i2, i3, by rw [upd_ne nDl.symm]; exact i4⟩
        · rw [List.map_append]
          refine (DqAll.but bD7 Kept.upd (noLs_map rowD noL_row rs) (dvs6.same s7)).app (.cons (Dq.but bD7 Kept.upd (noL_row _) ?_) .nil)
          exact .tup (SqT.of upd_same) (.cons (.str _ nk.2.1) (.cons (dt6.same s7) (.cons (dg.same s7) .nil)))
        · by_cases g0 : i < rs.length
          · rw [List.getElem?_append_left g0] at e1
            exact hrs i r e1
          · rw [List.getElem?_append_right (Nat.le_of_not_lt g0)] at e1
            have e0 : i - rs.length = 0 := by
              cases z : i - rs.length with
              | zero => rfl
              | succ n => rw [z] at e1; cases e1
            rw [e0] at e1
            obtain rfl := Option.some.inj e1
            have ik : i = k := by omega
            subst ik
            refine ⟨⟨rfl, w1, by show hi ≤ 8001; omega⟩, row_ok nk.1 lps fun p hp => ?_⟩
            rcases List.mem_append.mp hp with h | h
            · exact hps p h
            · rw [List.mem_singleton.mp h]
              exact two_ok (show -10000 ≤ low by omega) y1 (show hi ≤ 10000 by omega)
      · obtain ⟨o6, o7, o8, o9, rfl, k3, v3, vs, rs, bD, dvs, lr, hrs⟩ := p
        exact ⟨o6, o7, o8, o9, rfl, k3, v3, vs, rs, bD, dvs, by omega, by omega, hrs⟩
    rintro _ H2 ⟨o6, o7, o8, o9, rfl, k2, v2, vs, rs, bD, dvs, l1, l2, hrs⟩
    obtain ⟨fo, fl⟩ := folk3_ok m1 m3
    refine ⟨three, fun p hp => ⟨_, rfl, _, rfl, p, _, rfl, SqL.of upd_same, fun p2 hp2 => ?_⟩⟩
    have s3 := Same.new (o := .lst [.str "x", .str "y", .str "z9"]) hp
    refine ⟨p2, _, rfl, .inl ⟨SqL.of upd_same, fun u hu => ?_⟩⟩
    have s4 := Same.new (o := .lst (cutV [.str "x", .str "y", .str "z9"] none (some ((m : Nat) : Int)))) hp2
    have s5 := Same.new (o := .tup (cutV [.str "x", .str "y", .str "z9"] none (some ((m : Nat) : Int)))) hu
    have s35 := s3.trans (s4.trans s5)
    refine ⟨_, rfl, D, vs, rfl, .inl ⟨SqL.of (s35 _ _ bD), fun r hr' => ?_⟩⟩
    have s6 := Same.new (o := .tup vs) hr'
    refine ⟨two, fun c hc => ?_⟩
    have s7 := Same.new (o := .lst [.ref u, .ref r]) hc
    have s67 := s6.trans s7
    have s37 := s35.trans s67
    obtain ⟨uo, huo⟩ := (v2.same (s35.trans s6)).some
    have ncl : c ≠ l := (ne_of_none huo hc).symm
    refine q _ c u r rs m (k2.trans s37.kept) (v2.same s37) (Kept.free (k2.trans (s35.trans s6).kept) ncl hc) ncl upd_same ?_ ?_ m1 m2 (lines_ofP (by omega) fun i r h => ⟨(hrs i r h).1.1, (hrs i r h).2⟩) l1 l2 (fun i r h => (hrs i r h).1)
    · have e : cutV [.str "x", .str "y", .str "z9"] none (some ((m : Nat) : Int)) = (folk3 m).map V.str := by
        rw [cut_take]
        unfold folk3
        rw [List.map_take]
        rfl
      have dq : DqAll K _ ((folk3 m).map V.str) ((folk3 m).map .str) := strs_dq (H := upd (upd (upd (upd (upd H2 p (.lst [.str "x", .str "y", .str "z9"])) p2 (.lst (cutV [.str "x", .str "y", .str "z9"] none (some ((m : Nat) : Int))))) u (.tup (cutV [.str "x", .str "y", .str "z9"] none (some ((m : Nat) : Int))))) r (.tup vs)) c (.lst [.ref u, .ref r])) fun x hx => by
        have := (name_parts (folk_names fo x hx)).2.1
        omega
      refine .tup (SqT.of (s67 _ _ (upd_same.trans ?_))) dq
      rw [e]
    · exact Dq.same s7 (.tup (SqT.of upd_same) (dvs.same (s35.trans s6)))
end
end Ca
set_option Elab.async false
set_option linter.all false
set_option maxRecDepth 100000
set_option maxHeartbeats 8000000
namespace Ca
open PySem L2
/-! ### the law's drawn answers -/
/-- fractions of small numbers -/
structure FewF (f : Int × Int) : Prop where
  pos : 0 < f.2
  top : f.1.natAbs ≤ 1000
  bot : f.2.natAbs ≤ 1000
  cop : Nat.gcd f.1.natAbs f.2.natAbs = 1
theorem FewF.isF {f : Int × Int} (h : FewF f) : isFracD (frD f) = true := by
  show (decide (0 < f.2) && decide (Nat.gcd f.1.natAbs f.2.natAbs = 1)) = true
  rw [decide_eq_true h.pos, decide_eq_true h.cop]
  rfl
theorem few_sn {fs : List (Int × Int)} (h3 : fs.length ≤ 3) (h : ∀ f ∈ fs, FewF f) : SnOk fs :=
  ⟨h3, fun f hf => (h f hf).pos, fun f hf => Nat.lt_of_le_of_lt (h f hf).top (by decide), fun f hf => Nat.le_trans (h f hf).bot (by decide)⟩
theorem few_ans {fs : List (Int × Int)} (h : ∀ f ∈ fs, FewF f) : isAnsD (frsD fs) fs.length = true := by
  unfold isAnsD frsD
  refine Bool.and_eq_true_iff.mpr ⟨decide_eq_true (List.length_map ..), List.all_eq_true.mpr fun d hd => ?_⟩
  obtain ⟨f, hf, rfl⟩ := List.mem_map.mp hd
  exact (h f hf).isF
def spAnsP (K : PySem.W.Frag) : Sp := fun vs H Q _ => ∃ (l : Addr) (m : Nat), vs = [.ref l, .int (m : Nat)] ∧ Urn H l ∧ m ≤ 3 ∧ ∀ H' v fs, Kept l H H' → Urn H' l → Dq K H' v (frsD fs) → fs.length = m → (∀ f ∈ fs, FewF f) → Q v H'
abbrev NAp : List Str := ["_law_purse_here", "_law_many", "_law_found", "_law_k", "_law_top"]
theorem noL_frs (fs : List (Int × Int)) : noLs (fs.map frD) = true := noLs_map frD (fun _ => rfl) fs
section
variable {P : Program} {w : World} {K : PySem.W.Frag} {mg : Str → Option Value} {base : Heap}
theorem scAnsP : FnScope NAp ["_law_purse_here", "_law_many"] (defScope sLawAnswer) := ⟨rfl, rfl, rfl, by decide +kernel, rfl, by decide +kernel, by decide +kernel⟩
theorem ok_ansP {f fD fF fL : Addr} {fd fdD fdF fdL : FuncData} (F : FnT K "_law_answer" sLawAnswer f fd) (mtup : mg "tuple" = none) (mrng : mg "range" = none)
    (gD : mg "_law_draw" = some (.ref fD)) (GD : FnOk P w K mg base CX0 1 fD fdD ["_law_purse_here", "_law_size"] spDip) (kD : PySem.W.keepIn K (.ref fD) = true) (bD : Binds K fdD ["_law_purse_here", "_law_size"] [])
    (gF : mg "_law_pick" = some (.ref fF)) (GF : FnOk P w K mg base CX0 2 fF fdF ["_law_purse_here", "_law_menu"] (spFrom K)) (kF : PySem.W.keepIn K (.ref fF) = true) (bF : Binds K fdF ["_law_purse_here", "_law_menu"] [])
    (gL : mg "_law_low" = some (.ref fL)) (GL : FnOk P w K mg base CX0 1 fL fdL ["_law_top", "_law_bottom"] (spLowP K)) (kL : PySem.W.keepIn K (.ref fL) = true) (bL : Binds K fdL ["_law_top", "_law_bottom"] []) :
    FnOk P w K mg base CX0 3 f fd ["_law_purse_here", "_law_many"] (spAnsP K) := by
  refine F.ok scAnsP (fun vs H Q E h => ?_) (fun cdv A outer s H vs Q E hr h => ?_)
  · obtain ⟨l, m, rfl, _⟩ := h
    rfl
  · obtain ⟨l, m, rfl, hU, h3, q⟩ := h
    have nd := scAnsP.nd
    have hr1 : Room 1 _ := hr.mono (by decide)
    refine ⟨_, PSs.nox (pss_cons (ps_set (i := 2) nd rfl (.inl rfl) (pe_lst pa_nil))
      (pss_cons (ps_for PassesOwn.never rfl (pi_range1 rfl mrng (pa_cons (pv 1) pa_nil)) (pg_name (i := 3) nd rfl (.inl rfl))
        (pss_cons (ps_cut (ps_set (i := 4) nd rfl (.inl rfl) (pe_call GF hr rfl gF kF bF .nil pass0 (pa_cons (pv 0) (pa_cons (pe_lst (pa_cons pe_int (pa_cons pe_int (pa_cons (pe_un un_neg pe_int) (pa_cons pe_int (pa_cons (pe_un un_neg pe_int)
            (pa_cons (pe_op op_sub (pe_call GD hr1 rfl gD kD bD .nil pass0 (pa_cons (pv 0) (pa_cons pe_int pa_nil))) pe_int) pa_nil))))))) pa_nil)))))
        (pss_one (ps_expr (pe_bm PySem.F.plainAttrs_list PySem.F.slot_list_append PySem.F.type_list_append mt_append (pv 2) (pa_cons (pe_call GL hr1 rfl gL kL bL .nil pass0 (pa_cons (pv 4) (pa_cons (pe_call GF hr rfl gF kF bF .nil pass0 (pa_cons (pv 0) (pa_cons (pe_lst (pa_cons pe_int (pa_cons pe_int (pa_cons pe_int (pa_cons pe_int (pa_cons pe_int pa_nil)))))) pa_nil))) pa_nil))) pa_nil))))))
      (pss_one (ps_ret (pe_callTy call_tuple_of (by rfl) mtup (by decide +kernel) (pa_cons (pv 2) pa_nil)))))), ?_⟩
    obtain ⟨uo, huo⟩ := hU.some
    refine ⟨Nat.zero_le _, fun D hD => ?_⟩
    have nDl : D ≠ l := (ne_of_none huo hD).symm
    have s0 := Same.new (o := .lst []) hD
    refine ⟨_, rfl, _, rfl, by omega, by omega, ?_⟩
    refine for_it (walk_range (lo := 0) (n := ((m : Nat) : Int).toNat)) (fun k σ' H' => ∃ o3 o4, σ' = [some (.ref l), some (.int (m : Nat)), some (.ref D), o3, o4] ∧ Kept l H H' ∧ Urn H' l ∧ ∃ (vs : List V) (fs : List (Int × Int)), H' D = some (.lst vs) ∧ DqAll K H' vs (fs.map frD) ∧ fs.length = k ∧ ∀ f ∈ fs, FewF f)
      ⟨_, _, rfl, s0.kept, hU.same s0, [], [], upd_same, .nil, rfl, fun f hf => by simp at hf⟩ (fun _ _ _ _ _ => trivial) ?_ (fun σ' H' p => ?_)
    · rintro k z _ _ H3 hk ⟨o3, o4, rfl, k3, v3, vs, fs, bD', dvs, lf, hfs⟩ ⟨rfl, hz⟩
      refine ⟨fun σ' H' => ∃ t : Int, σ' = [some (.ref l), some (.int (m : Nat)), some (.ref D), some z, some (.int t), none].take 5 ∧ Kept l H3 H' ∧ Urn H' l ∧ t.natAbs ≤ 7, ?_, ?_⟩
      · refine ⟨_, rfl, _, rfl, _, rfl, _, rfl, l, 15, rfl, v3, by decide, by decide, fun H5 d k5 v5 d0 d1 => ⟨_, _, rfl, rfl, by show 6 ≤ sizeLine; decide, fun p hp => ?_⟩⟩
        obtain ⟨uo, huo⟩ := v5.some
        have s6 := Same.new (o := .lst [.int 0, .int 1, .int (-1), .int 2, .int (-3), .int (d - 7)]) hp
        refine ⟨l, p, _, rfl, v5.same s6, upd_same, (ne_of_none huo hp).symm, by show 0 < 6; decide, by show 6 < 1000; decide, fun H7 i v hv k7 v7 => ?_⟩
        have kk := k5.trans (s6.kept.trans k7)
        match i, hv with
        | 0, hv => cases hv; exact ⟨0, rfl, kk, v7, by decide⟩
        | 1, hv => cases hv; exact ⟨1, rfl, kk, v7, by decide⟩
        | 2, hv => cases hv; exact ⟨-1, rfl, kk, v7, by decide⟩
        | 3, hv => cases hv; exact ⟨2, rfl, kk, v7, by decide⟩
        | 4, hv => cases hv; exact ⟨-3, rfl, kk, v7, by decide⟩
        | 5, hv => cases hv; exact ⟨d - 7, rfl, kk, v7, by omega⟩
        | n + 6, hv => cases hv
      rintro _ H4 ⟨t, rfl, k4, v4, ht⟩
      have bD4 := k4 _ _ nDl bD'
      refine ⟨_, rfl, .inl ⟨rfl, _, SqL.of bD4⟩, _, rfl, _, rfl, by show 5 ≤ sizeLine; decide, fun p hp => ?_⟩
      obtain ⟨uo, huo⟩ := v4.some
      have s6 := Same.new (o := .lst [.int 1, .int 1, .int 1, .int 2, .int 3]) hp
      refine ⟨l, p, _, rfl, v4.same s6, upd_same, (ne_of_none huo hp).symm, by show 0 < 5; decide, by show 5 < 1000; decide, fun H7 i v hv k7 v7 => ?_⟩
      obtain ⟨b, rfl, b1, b2⟩ : ∃ b : Int, v = .int b ∧ 0 < b ∧ b ≤ 3 := by
        match i, hv with
        | 0, hv => cases hv; exact ⟨1, rfl, by decide, by decide⟩
        | 1, hv => cases hv; exact ⟨1, rfl, by decide, by decide⟩
        | 2, hv => cases hv; exact ⟨1, rfl, by decide, by decide⟩
        | 3, hv => cases hv; exact ⟨2, rfl, by decide, by decide⟩
        | 4, hv => cases hv; exact ⟨3, rfl, by decide, by decide⟩
        | n + 5, hv => cases hv
      have k47 := s6.kept.trans k7
      have k37 := k4.trans k47
      refine ⟨t, b, rfl, b1, Nat.lt_of_le_of_lt (m := 3) (by omega) (Nat.lt_of_lt_of_le (by decide : 3 < 2 ^ 2) (Nat.pow_le_pow_right (by decide) (by decide))), fun H8 y g1 g2 s8 dy rd => ?_⟩
      have bD7 := k37 _ _ nDl bD'
      have bD8 := s8 _ _ bD7
      obtain ⟨m1, m2⟩ := rd.le
      obtain ⟨ys3, hl3⟩ := urn_lst v3
      have dvs8 := (DqAll.but hl3 k37 (noL_frs fs) dvs).same s8
      refine ⟨D, _, _, rfl, rfl, bD8, ?_, _, _, rfl, ?_, ?_, vs ++ [y], fs ++ [(g1, g2)], upd_same, ?_, by rw [List.length_append, lf]; rfl, fun f hf => ?_⟩
      · have := dvs.len
        rw [List.length_map] at this
        exact Nat.lt_of_lt_of_le (show vs.length < 10 by omega) (by decide)
      · intro b' o nb eb
        rw [upd_ne (ne_of_none eb hD)]
        exact s8 _ _ (k37 _ _ nb (k3 _ _ nb eb))
      · obtain ⟨gg, xx, nn, i1, i2, i3, i4⟩ := v7.same s8
        exact ⟨gg, xx, nn, i1, i2, i3, by rw [upd_ne nDl.symm]; exact i4⟩
      · rw [List.map_append]
        exact (frsAll_updT' bD8 dvs8).app (.cons (fr_updT bD8 dy) .nil)
      · rcases List.mem_append.mp hf with h | h
        · exact hfs f h
        · rw [List.mem_singleton.mp h]
          exact ⟨rd.pos, Nat.le_trans m1 (by omega), Nat.le_trans m2 (by omega), rd.cop⟩
    · obtain ⟨o3, o4, rfl, k3, v3, vs, fs, bD', dvs, lf, hfs⟩ := p
      refine ⟨_, rfl, D, vs, rfl, .inl ⟨SqL.of bD', fun tr htr => ?_⟩⟩
      have s5 := Same.new (o := .tup vs) htr
      exact q _ _ fs (k3.trans s5.kept) (v3.same s5) (.tup (SqT.of upd_same) (dvs.same s5)) (by omega) hfs
where
  frsAll_updT' {K : PySem.W.Frag} {H : Hp} {y : Addr} {ys : List V} {o : HO} (hy : H y = some (.lst ys)) : ∀ {gs : List (Int × Int)} {vs : List V}, DqAll K H vs (gs.map frD) → DqAll K (upd H y o) vs (gs.map frD)
    | [], _, h => by cases h; exact .nil
    | g :: gs, _, h => by
      cases h with
      | cons a b => exact .cons (fr_updT hy a) (frsAll_updT' hy b)
end
end Ca
set_option Elab.async false
set_option linter.all false
set_option maxRecDepth 100000
set_option maxHeartbeats 8000000
namespace Ca
open PySem L2
/-! ### the law's own fractions -/
structure FrS (n : Nat) (f : Int × Int) : Prop where
  pos : 0 < f.2
  t : f.1.natAbs < 2 ^ n
  b : f.2.natAbs < 2 ^ n
  cop : Nat.gcd f.1.natAbs f.2.natAbs = 1
theorem FrS.mono {n k : Nat} {f : Int × Int} (h : FrS n f) (l : n ≤ k) : FrS k f := ⟨h.pos, Nat.lt_of_lt_of_le h.t (Nat.pow_le_pow_right (by decide) l), Nat.lt_of_lt_of_le h.b (Nat.pow_le_pow_right (by decide) l), h.cop⟩
theorem FewF.s {f : Int × Int} (h : FewF f) : FrS 10 f := ⟨h.pos, Nat.lt_of_le_of_lt h.top (by decide), Nat.lt_of_le_of_lt h.bot (by decide), h.cop⟩
theorem red_qv {a b p q : Int} (h : Red a b p q) : qv (p, q) = (a : Rat) / (b : Rat) := by
  have c := h.cross
  have c' : (p : Rat) * (b : Rat) = (a : Rat) * (q : Rat) := by exact_mod_cast c
  have b0 : 0 < b := by
    obtain ⟨g, hg, _, e⟩ := h.ex
    rw [← e]
    exact Int.mul_pos h.pos hg
  have h1 : (0 : Rat) < (q : Rat) := by exact_mod_cast h.pos
  have h2 : (0 : Rat) < (b : Rat) := by exact_mod_cast b0
  have h3 : (q : Rat) ≠ 0 := by grind
  have h4 : (b : Rat) ≠ 0 := by grind
  show (p : Rat) / (q : Rat) = _
  grind
theorem lt_pow2 {x a b : Nat} (hx : x < 2 ^ a) (h : a ≤ b) : x < 2 ^ b := Nat.lt_of_lt_of_le hx (Nat.pow_le_pow_right (by decide) h)
theorem mul_lt2 {x y : Int} {a b : Nat} (hx : x.natAbs < 2 ^ a) (hy : y.natAbs < 2 ^ b) : (x * y).natAbs < 2 ^ (a + b) := by
  rw [Int.natAbs_mul, Nat.pow_add]
  exact Nat.mul_lt_mul'' hx hy
theorem big_mul {i j : Int} {a b : Nat} (h1 : i.natAbs < 2 ^ a) (h2 : j.natAbs < 2 ^ b) (ha : a ≤ 9000) (hb : b ≤ 9000) : CMulW i j := by
  have l : ∀ k n : Nat, k < 2 ^ n → n ≤ 9000 → k.log2 ≤ 9000 := fun k n hk hn => by
    by_cases z : k = 0
    · rw [z]; exact Nat.zero_le _
    · have := (Nat.log2_lt z).mpr hk
      omega
  have := l _ _ h1 ha
  have := l _ _ h2 hb
  show _ < 1000000
  omega
def spLPlus (K : PySem.W.Frag) : Sp := fun vs H Q _ => ∃ x y f g a b, vs = [x, y] ∧ Dq K H x (frD f) ∧ Dq K H y (frD g) ∧ FrS a f ∧ FrS b g ∧ a + b ≤ 7000 ∧ ∀ H' z h, Same H H' → Dq K H' z (frD h) → FrS (a + b + 1) h → qv h = qv f + qv g → Q z H'
def spLTimes (K : PySem.W.Frag) : Sp := fun vs H Q _ => ∃ x y f g a b, vs = [x, y] ∧ Dq K H x (frD f) ∧ Dq K H y (frD g) ∧ FrS a f ∧ FrS b g ∧ a + b ≤ 7000 ∧ ∀ H' z h, Same H H' → Dq K H' z (frD h) → FrS (a + b) h → qv h = qv f * qv g → Q z H'
def spLLess (K : PySem.W.Frag) : Sp := fun vs H Q _ => ∃ x y f g a b, vs = [x, y] ∧ Dq K H x (frD f) ∧ Dq K H y (frD g) ∧ FrS a f ∧ FrS b g ∧ a + b ≤ 7000 ∧ Q (.bl (decide (qv f < qv g))) H
theorem qv_lt {f g : Int × Int} (hf : 0 < f.2) (hg : 0 < g.2) : (f.1 * g.2 < g.1 * f.2) ↔ qv f < qv g := by
  have h1 : (0 : Rat) < (f.2 : Rat) := by exact_mod_cast hf
  have h2 : (0 : Rat) < (g.2 : Rat) := by exact_mod_cast hg
  have h3 : (f.2 : Rat) ≠ 0 := by grind
  have h4 : (g.2 : Rat) ≠ 0 := by grind
  have hp : (0 : Rat) < (f.2 : Rat) * (g.2 : Rat) := Rat.mul_pos h1 h2
  have e1 : (f.1 : Rat) * (g.2 : Rat) = (f.2 : Rat) * (g.2 : Rat) * qv f := by unfold qv; grind
  have e2 : (g.1 : Rat) * (f.2 : Rat) = (f.2 : Rat) * (g.2 : Rat) * qv g := by unfold qv; grind
  have c : (f.1 * g.2 < g.1 * f.2) ↔ ((f.1 : Rat) * (g.2 : Rat) < (g.1 : Rat) * (f.2 : Rat)) := by
    constructor
    · intro h; exact_mod_cast h
    · intro h; exact_mod_cast h
  rw [c, e1, e2]
  constructor
  · exact fun h => Rat.lt_of_mul_lt_mul_left h (Rat.le_of_lt hp)
  · exact fun h => Rat.mul_lt_mul_of_pos_left h hp
section
variable {P : Program} {w : World} {K : PySem.W.Frag} {mg : Str → Option Value} {base : Heap}
theorem scLPlus : FnScope ["_law_one_here", "_law_two_here"] ["_law_one_here", "_law_two_here"] (defScope sLawPlus) := ⟨rfl, rfl, rfl, by decide +kernel, rfl, by decide +kernel, by decide +kernel⟩
theorem ok_lPlus {f fL : Addr} {fd fdL : FuncData} (F : FnT K "_law_plus" sLawPlus f fd) (gL : mg "_law_low" = some (.ref fL)) (GL : FnOk P w K mg base CX0 1 fL fdL ["_law_top", "_law_bottom"] (spLowP K)) (kL : PySem.W.keepIn K (.ref fL) = true) (bL : Binds K fdL ["_law_top", "_law_bottom"] []) :
    FnOk P w K mg base CX0 2 f fd ["_law_one_here", "_law_two_here"] (spLPlus K) := by
  refine F.ok scLPlus (fun vs H Q E h => ?_) (fun cdv A outer s H vs Q E hr h => ?_)
  · obtain ⟨x, y, f, g, a, b, rfl, _⟩ := h
    rfl
  · obtain ⟨x, y, f, g, a, b, rfl, dx, dy, hf, hg, hab, q⟩ := h
    obtain ⟨u, rfl, hu⟩ := fr_at dx
    obtain ⟨v, rfl, hv⟩ := fr_at dy
    refine ⟨_, PSs.nox (pss_one (ps_ret (pe_call GL hr rfl gL kL bL .nil pass0 (pa_cons (pe_op op_add (pe_op op_mulW (pe_ix ix_tup (pv 0) pe_int (fun _ _ => rfl)) (pe_ix ix_tup (pv 1) pe_int (fun _ _ => rfl))) (pe_op op_mulW (pe_ix ix_tup (pv 1) pe_int (fun _ _ => rfl)) (pe_ix ix_tup (pv 0) pe_int (fun _ _ => rfl))))
      (pa_cons (pe_op op_mulW (pe_ix ix_tup (pv 0) pe_int (fun _ _ => rfl)) (pe_ix ix_tup (pv 1) pe_int (fun _ _ => rfl))) pa_nil))))), ?_⟩
    refine ⟨_, rfl, u, _, 0, _, rfl, rfl, hu, atI_nat (j := 0) rfl, _, rfl, v, _, 1, _, rfl, rfl, hv, atI_nat (j := 1) rfl, _, _, rfl, rfl, big_mul hf.t hg.b (by omega) (by omega), ?_⟩
    refine ⟨_, rfl, v, _, 0, _, rfl, rfl, hv, atI_nat (j := 0) rfl, _, rfl, u, _, 1, _, rfl, rfl, hu, atI_nat (j := 1) rfl, _, _, rfl, rfl, big_mul hg.t hf.b (by omega) (by omega), _, _, rfl, rfl, ?_⟩
    refine ⟨_, rfl, u, _, 1, _, rfl, rfl, hu, atI_nat (j := 1) rfl, _, rfl, v, _, 1, _, rfl, rfl, hv, atI_nat (j := 1) rfl, _, _, rfl, rfl, big_mul hf.b hg.b (by omega) (by omega), ?_⟩
    have m1 := mul_lt2 hf.t hg.b
    have m2 := mul_lt2 hg.t hf.b
    have m3 := mul_lt2 hf.b hg.b
    refine ⟨_, _, rfl, Int.mul_pos hf.pos hg.pos, lt_pow2 m3 (by omega), fun H' z p q' s' dz rd => ?_⟩
    obtain ⟨l1, l2⟩ := rd.le
    refine q H' z (p, q') s' dz ⟨rd.pos, ?_, Nat.lt_of_le_of_lt l2 (lt_pow2 m3 (by omega)), rd.cop⟩ ?_
    · refine Nat.lt_of_le_of_lt l1 (Nat.lt_of_le_of_lt (Int.natAbs_add_le _ _) ?_)
      rw [show b + a = a + b from Nat.add_comm b a] at m2
      rw [Nat.pow_succ]
      omega
    · rw [red_qv rd]
      have h1 : (0 : Rat) < (f.2 : Rat) := by exact_mod_cast hf.pos
      have h2 : (0 : Rat) < (g.2 : Rat) := by exact_mod_cast hg.pos
      have h3 : (f.2 : Rat) ≠ 0 := by grind
      have h4 : (g.2 : Rat) ≠ 0 := by grind
      rw [Rat.intCast_add, Rat.intCast_mul, Rat.intCast_mul, Rat.intCast_mul]
      unfold qv
      grind
theorem scLTimes : FnScope ["_law_one_here", "_law_two_here"] ["_law_one_here", "_law_two_here"] (defScope sLawTimes) := ⟨rfl, rfl, rfl, by decide +kernel, rfl, by decide +kernel, by decide +kernel⟩
theorem ok_lTimes {f fL : Addr} {fd fdL : FuncData} (F : FnT K "_law_times" sLawTimes f fd) (gL : mg "_law_low" = some (.ref fL)) (GL : FnOk P w K mg base CX0 1 fL fdL ["_law_top", "_law_bottom"] (spLowP K)) (kL : PySem.W.keepIn K (.ref fL) = true) (bL : Binds K fdL ["_law_top", "_law_bottom"] []) :
    FnOk P w K mg base CX0 2 f fd ["_law_one_here", "_law_two_here"] (spLTimes K) := by
  refine F.ok scLTimes (fun vs H Q E h => ?_) (fun cdv A outer s H vs Q E hr h => ?_)
  · obtain ⟨x, y, f, g, a, b, rfl, _⟩ := h
    rfl
  · obtain ⟨x, y, f, g, a, b, rfl, dx, dy, hf, hg, hab, q⟩ := h
    obtain ⟨u, rfl, hu⟩ := fr_at dx
    obtain ⟨v, rfl, hv⟩ := fr_at dy
    refine ⟨_, PSs.nox (pss_one (ps_ret (pe_call GL hr rfl gL kL bL .nil pass0 (pa_cons (pe_op op_mulW (pe_ix ix_tup (pv 0) pe_int (fun _ _ => rfl)) (pe_ix ix_tup (pv 1) pe_int (fun _ _ => rfl)))
      (pa_cons (pe_op op_mulW (pe_ix ix_tup (pv 0) pe_int (fun _ _ => rfl)) (pe_ix ix_tup (pv 1) pe_int (fun _ _ => rfl))) pa_nil))))), ?_⟩
    refine ⟨_, rfl, u, _, 0, _, rfl, rfl, hu, atI_nat (j := 0) rfl, _, rfl, v, _, 0, _, rfl, rfl, hv, atI_nat (j := 0) rfl, _, _, rfl, rfl, big_mul hf.t hg.t (by omega) (by omega), ?_⟩
    refine ⟨_, rfl, u, _, 1, _, rfl, rfl, hu, atI_nat (j := 1) rfl, _, rfl, v, _, 1, _, rfl, rfl, hv, atI_nat (j := 1) rfl, _, _, rfl, rfl, big_mul hf.b hg.b (by omega) (by omega), ?_⟩
    have m1 := mul_lt2 hf.t hg.t
    have m3 := mul_lt2 hf.b hg.b
    refine ⟨_, _, rfl, Int.mul_pos hf.pos hg.pos, lt_pow2 m3 (by omega), fun H' z p q' s' dz rd => ?_⟩
    obtain ⟨l1, l2⟩ := rd.le
    refine q H' z (p, q') s' dz ⟨rd.pos, Nat.lt_of_le_of_lt l1 m1, Nat.lt_of_le_of_lt l2 m3, rd.cop⟩ ?_
    rw [red_qv rd]
    have h1 : (0 : Rat) < (f.2 : Rat) := by exact_mod_cast hf.pos
    have h2 : (0 : Rat) < (g.2 : Rat) := by exact_mod_cast hg.pos
    have h3 : (f.2 : Rat) ≠ 0 := by grind
    have h4 : (g.2 : Rat) ≠ 0 := by grind
    rw [Rat.intCast_mul, Rat.intCast_mul]
    unfold qv
    grind
theorem scLLess : FnScope ["_law_one_here", "_law_two_here"] ["_law_one_here", "_law_two_here"] (defScope sLawIsLess) := ⟨rfl, rfl, rfl, by decide +kernel, rfl, by decide +kernel, by decide +kernel⟩
theorem ok_lLess {f : Addr} {fd : FuncData} (F : FnT K "_law_is_less" sLawIsLess f fd) : FnOk P w K mg base CX0 1 f fd ["_law_one_here", "_law_two_here"] (spLLess K) := by
  refine F.ok scLLess (fun vs H Q E h => ?_) (fun cdv A outer s H vs Q E hr h => ?_)
  · obtain ⟨x, y, f, g, a, b, rfl, _⟩ := h
    rfl
  · obtain ⟨x, y, f, g, a, b, rfl, dx, dy, hf, hg, hab, q⟩ := h
    obtain ⟨u, rfl, hu⟩ := fr_at dx
    obtain ⟨v, rfl, hv⟩ := fr_at dy
    refine ⟨_, PSs.nox (pss_one (ps_ret (pe_cmpR op_lt (pe_op op_mulW (pe_ix ix_tup (pv 0) pe_int (fun _ _ => rfl)) (pe_ix ix_tup (pv 1) pe_int (fun _ _ => rfl))) (pe_op op_mulW (pe_ix ix_tup (pv 1) pe_int (fun _ _ => rfl)) (pe_ix ix_tup (pv 0) pe_int (fun _ _ => rfl))) (nomark _)))), ?_⟩
    refine ⟨_, rfl, u, _, 0, _, rfl, rfl, hu, atI_nat (j := 0) rfl, _, rfl, v, _, 1, _, rfl, rfl, hv, atI_nat (j := 1) rfl, _, _, rfl, rfl, big_mul hf.t hg.b (by omega) (by omega), ?_⟩
    refine ⟨_, rfl, v, _, 0, _, rfl, rfl, hv, atI_nat (j := 0) rfl, _, rfl, u, _, 1, _, rfl, rfl, hu, atI_nat (j := 1) rfl, _, _, rfl, rfl, big_mul hg.t hf.b (by omega) (by omega), _, _, rfl, rfl, ?_⟩
    have := qv_lt hf.pos hg.pos
    have e : decide (f.1 * g.2 < g.1 * f.2) = decide (qv f < qv g) := by
      by_cases z : qv f < qv g
      · rw [decide_eq_true z, decide_eq_true (this.mpr z)]
      · rw [decide_eq_false z, decide_eq_false (fun y => z (this.mp y))]
    show Q (.bl (decide (f.1 * g.2 < g.1 * f.2))) H
    rw [e]
    exact q
end
end Ca
set_option Elab.async false
set_option linter.all false
set_option maxRecDepth 100000
set_option maxHeartbeats 8000000
namespace Ca
open PySem L2
theorem passE0 {P : Program} {w : World} {X : Cx} : Passes (L2.CX P w) X E0 := fun _ _ _ _ _ _ _ h => by
  obtain ⟨a, B, H', cls, d, h⟩ := h
  exact h.2.2.2.2.2.2.2.elim
theorem isiK {X : Cx} (K : PySem.W.Frag) (h : X.K = K := by rfl) : CallR X (.builtin "isinstance") (rIsi K) := h ▸ call_isi
/-! ### whether a value is a fraction, by the law -/
def spLIsF (K : PySem.W.Frag) : Sp := fun vs H Q _ => ∃ v f n, vs = [v] ∧ Dq K H v (frD f) ∧ FrS n f ∧ n ≤ 5000 ∧ ∀ H', Same H H' → Q (.bl true) H'
def spLLies (K : PySem.W.Frag) : Sp := fun vs H Q _ => ∃ v u f p n, vs = [v, u] ∧ Dq K H v (frD f) ∧ Dq K H u (strD p) ∧ isStretchD (strD p) = true ∧ FrS n f ∧ n ≤ 5000 ∧ ((p.1 : Int) : Rat) ≤ qv f ∧ qv f ≤ ((p.2 : Int) : Rat) ∧ ∀ H', Same H H' → Q (.bl true) H'
theorem fr_dp {K : PySem.W.Frag} {H : Hp} {a : Addr} {p q : Int} (h : SqT K H a [.int p, .int q]) : Dp K H (.ref a) (frD (p, q)) := .tup h (.cons (.int _) (.cons (.int _) .nil))
theorem red_self {a b p q : Int} (h : Red a b p q) (c : Nat.gcd a.natAbs b.natAbs = 1) : p = a ∧ q = b := by
  obtain ⟨g, hg, e1, e2⟩ := h.ex
  have d1 : g.natAbs ∣ a.natAbs := Int.natAbs_dvd_natAbs.mpr ⟨p, by rw [← e1, Int.mul_comm]⟩
  have d2 : g.natAbs ∣ b.natAbs := Int.natAbs_dvd_natAbs.mpr ⟨q, by rw [← e2, Int.mul_comm]⟩
  have d3 := Nat.dvd_gcd d1 d2
  rw [c] at d3
  have := Nat.dvd_one.mp d3
  have g1 : g = 1 := by omega
  subst g1
  exact ⟨by rw [← e1, Int.mul_one], by rw [← e2, Int.mul_one]⟩
theorem shaped_fr (f : Int × Int) : SeqAt.shaped (frD f) = true := rfl
section
variable {P : Program} {w : World} {K : PySem.W.Frag} {mg : Str → Option Value} {base : Heap}
abbrev NLf : List Str := ["_law_told", "_law_part"]
theorem scLIsF : FnScope NLf ["_law_told"] (defScope sLawIsFraction) := ⟨rfl, rfl, rfl, by decide +kernel, rfl, by decide +kernel, by decide +kernel⟩
theorem ok_lIsF {f fL : Addr} {fd fdL : FuncData} (F : FnT K "_law_is_fraction" sLawIsFraction f fd) (B : Bn mg) (gL : mg "_law_low" = some (.ref fL)) (GL : FnOk P w K mg base CX0 1 fL fdL ["_law_top", "_law_bottom"] (spLowP K)) (kL : PySem.W.keepIn K (.ref fL) = true) (bL : Binds K fdL ["_law_top", "_law_bottom"] []) :
    FnOk P w K mg base CX0 2 f fd ["_law_told"] (spLIsF K) := by
  refine F.ok scLIsF (fun vs H Q E h => ?_) (fun cdv A outer s H vs Q E hr h => ?_)
  · obtain ⟨v, f, n, rfl, _⟩ := h
    rfl
  · obtain ⟨v, f, n, rfl, dv, hf, hn, q⟩ := h
    have nd := scLIsF.nd
    refine ⟨_, PSs.nox (pss_cons (ps_if (PW.pt (pw_or (pt_not (pt_val (pe_callB call_isi (by rfl) B.isi PyProof.Rows.boot_isinstance (pa_cons (pv 0) (pa_cons (pe_bltn (v := .ty "tuple") (by rfl) B.tup (by decide +kernel) rfl) pa_nil)))))
        (pw_or (pt_cmpR op_ne (pe_callB (call_lenK K) (by rfl) B.len boot_len (pa_cons (pv 0) pa_nil)) pe_int (nomark _))
        (pw_or1 (pt_cmpR (op_neD hr.units) (pe_lc (own := [("_law_part", 1)]) (g := gName 1) rfl nd (pi_tup (pv 0))
          (blkOk_by (own := [("_law_part", 1)]) (N := NLf) (sc := defScope sLawIsFraction) (by decide +kernel)) (fun _ _ _ _ _ => pg_name (i := 1) nd rfl (Or.inl rfl))
          (fun _ _ _ _ _ => pts_one (pt_val (pe_callB (isiK K) (by rfl) B.isi PyProof.Rows.boot_isinstance (pa_cons (pv 1) (pa_cons (pe_bltn (v := .ty "bool") (by rfl) B.bool (by decide +kernel) rfl) pa_nil)))))
          (fun _ _ _ _ _ => pv 1)) (pe_lst pa_nil) (nomark _)))))) (pss_one (ps_ret pe_bl)) pss_nil)
      (pss_cons (ps_if (PW.pt (pw_or (pt_not (pt_val (pe_callB call_isi (by rfl) B.isi PyProof.Rows.boot_isinstance (pa_cons (pe_ix ix_tup (pv 0) pe_int (fun _ _ => rfl)) (pa_cons (pe_bltn (v := .ty "int") (by rfl) B.int (by decide +kernel) rfl) pa_nil)))))
        (pw_or (pt_not (pt_val (pe_callB call_isi (by rfl) B.isi PyProof.Rows.boot_isinstance (pa_cons (pe_ix ix_tup (pv 0) pe_int (fun _ _ => rfl)) (pa_cons (pe_bltn (v := .ty "int") (by rfl) B.int (by decide +kernel) rfl) pa_nil)))))
        (pw_or1 (pt_cmpR op_lt (pe_ix ix_tup (pv 0) pe_int (fun _ _ => rfl)) pe_int (nomark _)))))) (pss_one (ps_ret pe_bl)) pss_nil)
      (pss_one (ps_ret (pe_cmpR (op_eqD hr.units) (pv 0) (pe_call GL hr rfl gL kL bL .nil pass0 (pa_cons (pe_ix ix_tup (pv 0) pe_int (fun _ _ => rfl)) (pa_cons (pe_ix ix_tup (pv 0) pe_int (fun _ _ => rfl)) pa_nil))) (nomark _)))))), ?_⟩
    obtain ⟨a, rfl, ha⟩ := fr_at dv
    refine rd_isd dv rfl (kit_tup _) ⟨_, rfl, iteF ?_⟩
    refine ⟨_, rfl, _, 2, rfl, .inr ⟨_, ha, rfl⟩, rfl, _, rfl, iteF ?_⟩
    refine ⟨_, rfl, a, rfl, ⟨_, ha⟩, fun D hD => ?_⟩
    refine lc_it (walk_tup (K := K) (a := a) (xs := [.int f.1, .int f.2])) (fun k H' => Same H H' ∧ H' D = some (.lst [])) ⟨Same.new hD, upd_same⟩ (fun k H' hk p => same_sqt p.1 ha) ?_ ?_
    · rintro k z H2 _ hk ⟨s2, bD⟩ ⟨rfl, hz⟩
      obtain ⟨i, rfl⟩ : ∃ i : Int, z = .int i := by
        match k, hz with
        | 0, hz => cases hz; exact ⟨_, rfl⟩
        | 1, hz => cases hz; exact ⟨_, rfl⟩
        | n + 2, hz => cases hz
      exact ⟨rfl, rd_isd (Dq.int (K := K) i) rfl (kit_bool _) ⟨_, rfl, iteF ⟨s2, bD⟩⟩⟩
    · rintro H2 ⟨s2, bD⟩
      refine ⟨Nat.zero_le _, fun q1 h1 => ?_⟩
      have s3 := Same.new (o := .lst []) h1
      have s23 := s2.trans s3
      refine rd_sameD (d := .list []) (.lst (SqL.of (s3 _ _ bD)) .nil) (.lst (SqL.of upd_same) .nil) (by decide +kernel) ⟨_, rfl, iteF ?_⟩
      have h3 := same_sqt s23 ha
      refine ⟨_, rfl, a, _, 0, _, rfl, rfl, h3, atI_nat (j := 0) rfl, .int f.1, .ty "int", _, _, true, rfl, .ty "int", Dq.tyx (K := K) (.int f.1), kit_ty (kit_int (.int f.1)), _, rfl, iteF ?_⟩
      refine ⟨_, rfl, a, _, 1, _, rfl, rfl, h3, atI_nat (j := 1) rfl, .int f.2, .ty "int", _, _, true, rfl, .ty "int", Dq.tyx (K := K) (.int f.2), kit_ty (kit_int (.int f.2)), _, rfl, iteF ?_⟩
      refine ⟨_, rfl, a, _, 1, _, rfl, rfl, h3, atI_nat (j := 1) rfl, _, _, rfl, rfl, _, rfl, ?_⟩
      rw [decide_eq_false (show ¬ f.2 < 1 by have := hf.pos; omega)]
      refine iteF ⟨_, rfl, _, rfl, a, _, 0, _, rfl, rfl, h3, atI_nat (j := 0) rfl, _, rfl, a, _, 1, _, rfl, rfl, h3, atI_nat (j := 1) rfl, f.1, f.2, rfl, hf.pos, lt_pow2 hf.b (by omega), fun H4 y p q' s4 dy rd => ?_⟩
      obtain ⟨e1, e2⟩ := red_self rd hf.cop
      subst e1 e2
      obtain ⟨b, rfl, hb⟩ := fr_at dy
      refine ⟨_, _, fr_dp (same_sqt s4 h3), fr_dp hb, shaped_fr _, shaped_fr _, ?_⟩
      rw [SeqAt.eqv_refl _ (Bool.and_eq_true_iff.mp (show (PyData.canLay0 (frD (f.1, f.2)) && decide (PyData.depth (frD (f.1, f.2)) ≤ 64)) = true from shaped_fr _)).1]
      exact q _ (s23.trans s4)
end
end Ca
set_option Elab.async false
set_option linter.all false
set_option maxRecDepth 100000
set_option maxHeartbeats 8000000
namespace Ca
open PySem L2
theorem rd_neN {a b : Nat} {H : Hp} {Q : VK} (e : a = b) (s : scal (.int (a : Int)) (.int (b : Int)) = true) (q : Q (.bl false) H) : rNe (.int (a : Int)) (.int (b : Int)) H Q := by
  subst e
  exact ⟨s, by rw [decide_eq_true rfl]; exact q⟩
section
variable {P : Program} {w : World} {K : PySem.W.Frag} {mg : Str → Option Value} {base : Heap}
end
end Ca
set_option Elab.async false
set_option linter.all false
set_option maxRecDepth 100000
set_option maxHeartbeats 8000000
namespace Ca
open PySem L2
/-! ### the law's rows of whole numbers that just the fitting numbers keep -/
def byL (fs : List (Int × Int)) : Int := fs.foldl (fun b f => b * f.2) 1
def coefL (fs : List (Int × Int)) : List Int := fs.map fun f => f.1 * (byL fs / f.2)
def viewR (r : Rw) (fs : List (Int × Int)) : FRow := (coefL fs, r.bd.2 * byL fs)
def unitS (m : Nat) (s : Int) (j : Nat) : List Int := (List.range m).map fun i => if i = j then s else 0
def boxR (r : Rw) (m j : Nat) : List FRow := [(unitS m 1 j, (r.parts.getD j (0, 0)).2), (unitS m (-1) j, 0 - (r.parts.getD j (0, 0)).1)]
def fitRows (r : Rw) (fss : Fss) : List FRow := fss.map (viewR r) ++ (List.range r.parts.length).flatMap (boxR r r.parts.length)
/-- answers of small fractions -/
def FewAll (fss : Fss) (m : Nat) : Prop := ∀ fs ∈ fss, fs.length = m ∧ ∀ f ∈ fs, FewF f
theorem byL_go : ∀ (fs : List (Int × Int)) (b : Int), (∀ f ∈ fs, 0 < f.2) → 0 < b → 0 < fs.foldl (fun b f => b * f.2) b ∧ b ∣ fs.foldl (fun b f => b * f.2) b ∧ ∀ f ∈ fs, f.2 ∣ fs.foldl (fun b f => b * f.2) b
  | [], b, _, hb => ⟨hb, Int.dvd_refl _, fun f hf => by cases hf⟩
  | g :: fs, b, h, hb => by
    obtain ⟨a1, a2, a3⟩ := byL_go fs (b * g.2) (fun f hf => h f (List.mem_cons_of_mem _ hf)) (Int.mul_pos hb (h g List.mem_cons_self))
    refine ⟨a1, Int.dvd_trans (Int.dvd_mul_right _ _) a2, fun f hf => ?_⟩
    rcases List.mem_cons.mp hf with rfl | hf
    · exact Int.dvd_trans (Int.dvd_mul_left _ _) a2
    · exact a3 f hf
theorem byL_pos {fs : List (Int × Int)} (h : ∀ f ∈ fs, 0 < f.2) : 0 < byL fs := (byL_go fs 1 h (by decide)).1
theorem byL_dvd {fs : List (Int × Int)} (h : ∀ f ∈ fs, 0 < f.2) : ∀ f ∈ fs, f.2 ∣ byL fs := (byL_go fs 1 h (by decide)).2.2
theorem byL_lt : ∀ (fs : List (Int × Int)) (b : Int) (k : Nat), (∀ f ∈ fs, FewF f) → b.natAbs < 2 ^ k → (fs.foldl (fun b f => b * f.2) b).natAbs < 2 ^ (k + 10 * fs.length)
  | [], b, k, _, h => h
  | g :: fs, b, k, hf, h => by
    have h1 : (b * g.2).natAbs < 2 ^ (k + 10) := by
      have := (hf g List.mem_cons_self).bot
      exact mul_lt2 h (show g.2.natAbs < 2 ^ 10 from Nat.lt_of_le_of_lt this (by decide))
    have := byL_lt fs (b * g.2) (k + 10) (fun f h => hf f (List.mem_cons_of_mem _ h)) h1
    refine Nat.lt_of_lt_of_le this (Nat.pow_le_pow_right (by decide) ?_)
    rw [List.length_cons]
    omega
theorem byL_few {fs : List (Int × Int)} (h : ∀ f ∈ fs, FewF f) (h3 : fs.length ≤ 3) : (byL fs).natAbs < 2 ^ 31 :=
  Nat.lt_of_lt_of_le (byL_lt fs 1 1 h (by decide)) (Nat.pow_le_pow_right (by decide) (by omega))
theorem ediv_le {a b : Int} (hb : 0 < b) : (a / b).natAbs ≤ a.natAbs := by
  have := Int.natAbs_ediv_le_natAbs a b
  exact this
theorem coef_q {fs : List (Int × Int)} (h : ∀ f ∈ fs, 0 < f.2) (j : Nat) : (((coefL fs).getD j 0 : Int) : Rat) = ((byL fs : Int) : Rat) * qv (fs.getD j (0, 1)) := by
  by_cases hj : j < fs.length
  · have e1 : (coefL fs).getD j 0 = fs[j].1 * (byL fs / fs[j].2) := by
      unfold coefL
      rw [List.getD_eq_getElem?_getD, List.getElem?_map, List.getElem?_eq_getElem hj]
      rfl
    have e2 : fs.getD j (0, 1) = fs[j] := by
      rw [List.getD_eq_getElem?_getD, List.getElem?_eq_getElem hj]
      rfl
    rw [e1, e2]
    obtain ⟨c, hc⟩ := byL_dvd h fs[j] (List.getElem_mem hj)
    have p := h fs[j] (List.getElem_mem hj)
    have hc2 : byL fs / fs[j].2 = c := by
      rw [hc]
      exact Int.mul_ediv_cancel_left _ (by omega)
    rw [hc2]
    have hc3 : ((byL fs : Int) : Rat) = (fs[j].2 : Rat) * (c : Rat) := by rw [hc, Rat.intCast_mul]
    have p' : (0 : Rat) < (fs[j].2 : Rat) := by exact_mod_cast p
    have p2 : (fs[j].2 : Rat) ≠ 0 := by grind
    rw [hc3, Rat.intCast_mul]
    unfold qv
    grind
  · have e1 : (coefL fs).getD j 0 = 0 := by
      rw [List.getD_eq_getElem?_getD, List.getElem?_eq_none (by unfold coefL; rw [List.length_map]; omega)]
      rfl
    have e2 : fs.getD j (0, 1) = (0, 1) := by
      rw [List.getD_eq_getElem?_getD, List.getElem?_eq_none (by omega)]
      rfl
    rw [e1, e2]
    show ((0 : Int) : Rat) = _ * (((0 : Int) : Rat) / ((1 : Int) : Rat))
    grind
theorem unitS_len {m : Nat} {s : Int} {j : Nat} : (unitS m s j).length = m := by
  unfold unitS
  rw [List.length_map, List.length_range]
theorem unitS_q {m k : Nat} {s : Int} (hk : k < m) (x : Nat → Rat) : dotI (unitS m s k) x = (s : Rat) * x k := by
  unfold dotI
  rw [unitS_len]
  have e : ∀ n, n ≤ m → qsum (fun j => (((unitS m s k).getD j 0 : Int) : Rat) * x j) n = if k < n then (s : Rat) * x k else 0 := by
    intro n
    induction n with
    | zero => intro _; rw [if_neg (by omega)]; rfl
    | succ n ih =>
      intro hn
      have g : (unitS m s k).getD n 0 = if n = k then s else 0 := by
        unfold unitS
        rw [List.getD_eq_getElem?_getD, List.getElem?_map, List.getElem?_range (by omega)]
        rfl
      simp only [qsum]
      rw [ih (by omega), g]
      by_cases h : n = k
      · rw [if_neg (by omega), if_pos h, if_pos (by omega), h]
        grind
      · rw [if_neg h]
        by_cases h2 : k < n
        · rw [if_pos h2, if_pos (by omega)]
          grind
        · rw [if_neg h2, if_neg (by omega)]
          grind
  rw [e m (Nat.le_refl _), if_pos hk]
theorem view_q {r : Rw} {fs : List (Int × Int)} (h : ∀ f ∈ fs, 0 < f.2) (hl : fs.length = r.parts.length) (x : Nat → Rat) : dotI (viewR r fs).1 x ≤ (((viewR r fs).2 : Int) : Rat) ↔ dotQ x fs r.parts.length ≤ ((r.bd.2 : Int) : Rat) := by
  have Wq : (0 : Rat) < ((byL fs : Int) : Rat) := by exact_mod_cast byL_pos h
  have e1 : dotI (viewR r fs).1 x = ((byL fs : Int) : Rat) * dotQ x fs r.parts.length := by
    unfold dotI viewR dotQ
    have cl : (coefL fs).length = r.parts.length := by
      unfold coefL
      rw [List.length_map, hl]
    show qsum (fun j => (((coefL fs).getD j 0 : Int) : Rat) * x j) (coefL fs).length = _
    rw [cl, ← qsum_mul]
    refine qsum_congr _ fun j _ => ?_
    rw [coef_q h j]
    grind
  have e2 : (((viewR r fs).2 : Int) : Rat) = ((byL fs : Int) : Rat) * ((r.bd.2 : Int) : Rat) := by
    show ((r.bd.2 * byL fs : Int) : Rat) = _
    rw [Rat.intCast_mul, Rat.mul_comm]
  rw [e1, e2]
  constructor
  · intro q
    exact Rat.le_of_mul_le_mul_left (c := ((byL fs : Int) : Rat)) q Wq
  · intro q
    exact Rat.mul_le_mul_of_nonneg_left q (Rat.le_of_lt Wq)
theorem sat_fit {r : Rw} {fss : Fss} (h : ∀ fs ∈ fss, fs.length = r.parts.length ∧ ∀ f ∈ fs, 0 < f.2) (x : Nat → Rat) : SatF (fitRows r fss) x ↔ FitsQ r fss x := by
  unfold SatF fitRows FitsQ
  constructor
  · intro g
    refine ⟨fun j hj => ?_, fun fs hf => (view_q (h fs hf).2 (h fs hf).1 x).mp (g _ (List.mem_append_left _ (List.mem_map.mpr ⟨fs, hf, rfl⟩)))⟩
    have m : ∀ k ∈ boxR r r.parts.length j, dotI k.1 x ≤ ((k.2 : Int) : Rat) := fun k hk => g k (List.mem_append_right _ (List.mem_flatMap.mpr ⟨j, List.mem_range.mpr hj, hk⟩))
    have a := m _ (List.mem_cons_self ..)
    have b := m _ (List.mem_cons_of_mem _ (List.mem_cons_self ..))
    replace a : dotI (unitS r.parts.length 1 j) x ≤ (((r.parts.getD j (0, 0)).2 : Int) : Rat) := a
    replace b : dotI (unitS r.parts.length (-1) j) x ≤ ((0 - (r.parts.getD j (0, 0)).1 : Int) : Rat) := b
    rw [unitS_q hj] at a b
    rw [Rat.intCast_sub] at b
    have i1 : ((1 : Int) : Rat) = 1 := by exact_mod_cast rfl
    have i2 : ((-1 : Int) : Rat) = -1 := by exact_mod_cast rfl
    have i3 : ((0 : Int) : Rat) = 0 := by exact_mod_cast rfl
    rw [i1] at a
    rw [i2, i3] at b
    unfold lowQ highQ
    grind
  · rintro ⟨g1, g2⟩ k hk
    rcases List.mem_append.mp hk with hk | hk
    · obtain ⟨fs, hf, rfl⟩ := List.mem_map.mp hk
      exact (view_q (h fs hf).2 (h fs hf).1 x).mpr (g2 fs hf)
    · obtain ⟨j, hj, hk⟩ := List.mem_flatMap.mp hk
      have hj' := List.mem_range.mp hj
      obtain ⟨a, b⟩ := g1 j hj'
      unfold lowQ at a
      unfold highQ at b
      have i1 : ((1 : Int) : Rat) = 1 := by exact_mod_cast rfl
      have i2 : ((-1 : Int) : Rat) = -1 := by exact_mod_cast rfl
      have i3 : ((0 : Int) : Rat) = 0 := by exact_mod_cast rfl
      rcases List.mem_cons.mp hk with rfl | hk
      · show dotI (unitS r.parts.length 1 j) x ≤ (((r.parts.getD j (0, 0)).2 : Int) : Rat)
        rw [unitS_q hj', i1]
        grind
      · rw [List.mem_singleton.mp hk]
        show dotI (unitS r.parts.length (-1) j) x ≤ ((0 - (r.parts.getD j (0, 0)).1 : Int) : Rat)
        rw [unitS_q hj', Rat.intCast_sub, i2, i3]
        grind
theorem fitR_len (r : Rw) (fss : Fss) : (fitRows r fss).length = fss.length + 2 * r.parts.length := by
  have : ∀ (n m : Nat), ((List.range n).flatMap (boxR r m)).length = 2 * n := fun n m => by
    induction n with
    | zero => rfl
    | succ n ih =>
      rw [List.range_succ, List.flatMap_append, List.length_append, ih, List.flatMap_cons, List.flatMap_nil, List.append_nil]
      show 2 * n + 2 = 2 * (n + 1)
      omega
  unfold fitRows
  rw [List.length_append, List.length_map, this]
theorem fitR_row {r : Rw} {fss : Fss} (h : ∀ fs ∈ fss, fs.length = r.parts.length) : ∀ k ∈ fitRows r fss, k.1.length = r.parts.length := by
  intro k hk
  rcases List.mem_append.mp hk with hk | hk
  · obtain ⟨fs, hf, rfl⟩ := List.mem_map.mp hk
    show (coefL fs).length = _
    unfold coefL
    rw [List.length_map, h fs hf]
  · obtain ⟨j, hj, hk⟩ := List.mem_flatMap.mp hk
    rcases List.mem_cons.mp hk with rfl | hk
    · exact unitS_len
    · rw [List.mem_singleton.mp hk]
      exact unitS_len
theorem fitR_sm {r : Rw} {fss : Fss} {m : Nat} (hR : isRowD (rowD r) m = true) (hm : m ≤ 3) (h : FewAll fss m) : ∀ k ∈ fitRows r fss, SmF 60 k := by
  have RP := row_pairs hR
  intro k hk
  rcases List.mem_append.mp hk with hk | hk
  · obtain ⟨fs, hf, rfl⟩ := List.mem_map.mp hk
    obtain ⟨hl, hfw⟩ := h fs hf
    have B := byL_few hfw (by omega)
    refine ⟨fun x hx => ?_, ?_⟩
    · obtain ⟨f, hff, rfl⟩ := List.mem_map.mp hx
      have := (hfw f hff).top
      have h2 : (byL fs / f.2).natAbs < 2 ^ 31 := Nat.lt_of_le_of_lt (ediv_le (hfw f hff).pos) B
      exact lt_pow2 (mul_lt2 (show f.1.natAbs < 2 ^ 10 from Nat.lt_of_le_of_lt this (by decide)) h2) (by decide)
    · obtain ⟨b1, b2, b3⟩ := RP _ (List.mem_append_right _ (List.mem_singleton.mpr rfl))
      exact lt_pow2 (mul_lt2 (show r.bd.2.natAbs < 2 ^ 14 by show _ < 16384; omega) B) (by decide)
  · obtain ⟨j, hj, hk⟩ := List.mem_flatMap.mp hk
    have hj' := List.mem_range.mp hj
    have e : r.parts.getD j (0, 0) = r.parts[j] := by
      rw [List.getD_eq_getElem?_getD, List.getElem?_eq_getElem hj']
      rfl
    obtain ⟨b1, b2, b3⟩ := RP _ (List.mem_append_left _ (List.getElem_mem hj'))
    have un : ∀ s : Int, s.natAbs ≤ 1 → ∀ x ∈ unitS r.parts.length s j, x.natAbs < 2 ^ 60 := fun s hs x hx => by
      obtain ⟨i, _, rfl⟩ := List.mem_map.mp hx
      show (if i = j then s else 0).natAbs < 2 ^ 60
      split
      · exact Nat.lt_of_le_of_lt hs (by decide)
      · decide
    rcases List.mem_cons.mp hk with rfl | hk
    · refine ⟨un 1 (by decide), ?_⟩
      show (r.parts.getD j (0, 0)).2.natAbs < 2 ^ 60
      rw [e]
      exact Nat.lt_of_lt_of_le (show _ < 16384 by omega) (by decide)
    · rw [List.mem_singleton.mp hk]
      refine ⟨un (-1) (by decide), ?_⟩
      show (0 - (r.parts.getD j (0, 0)).1).natAbs < 2 ^ 60
      rw [e]
      exact Nat.lt_of_lt_of_le (show _ < 16384 by omega) (by decide)
/-! few enough at each turn -/
theorem nodup_len {α : Type} [DecidableEq α] : ∀ (ds zs : List α), ds.Nodup → (∀ d ∈ ds, d ∈ zs) → ds.length ≤ zs.length
  | [], _, _, _ => Nat.zero_le _
  | d :: ds, zs, nd, h => by
    obtain ⟨n1, n2⟩ := List.nodup_cons.mp nd
    have hd := h d List.mem_cons_self
    have := nodup_len ds (zs.erase d) n2 fun e he => (List.mem_erase_of_ne (fun z => n1 (by rw [← z]; exact he))).mpr (h e (List.mem_cons_of_mem _ he))
    rw [List.length_erase_of_mem hd] at this
    have : 0 < zs.length := List.length_pos_of_mem hd
    rw [List.length_cons]
    omega
theorem zc_ge {ks : List FRow} (ds : List FRow) (nd : ds.Nodup) (h : ∀ d ∈ ds, d ∈ ks ∧ lastI d.1 = 0) : ds.length ≤ zc ks :=
  nodup_len ds _ nd fun d hd => List.mem_filter.mpr ⟨(h d hd).1, decide_eq_true (h d hd).2⟩
theorem box_mem {r : Rw} {fss : Fss} {j : Nat} (hj : j < r.parts.length) : ((unitS r.parts.length 1 j, (r.parts.getD j (0, 0)).2) : FRow) ∈ fitRows r fss ∧ ((unitS r.parts.length (-1) j, 0 - (r.parts.getD j (0, 0)).1) : FRow) ∈ fitRows r fss :=
  ⟨List.mem_append_right _ (List.mem_flatMap.mpr ⟨j, List.mem_range.mpr hj, List.mem_cons_self ..⟩), List.mem_append_right _ (List.mem_flatMap.mpr ⟨j, List.mem_range.mpr hj, List.mem_cons_of_mem _ (List.mem_cons_self ..)⟩)⟩
theorem tame_fit {r : Rw} {fss : Fss} {m : Nat} (hl : r.parts.length = m) (hm : m ≤ 3) (h9 : fss.length + 2 * m ≤ 9) : Tame (fitRows r fss) m := by
  refine ⟨by rw [fitR_len, hl]; exact h9, hm, fun e => ?_, fun e => ?_⟩
  · have b := box_mem (r := r) (fss := fss) (j := 0) (by omega)
    rw [hl, e] at b
    generalize (r.parts.getD 0 (0, 0)).2 = u at b
    generalize 0 - (r.parts.getD 0 (0, 0)).1 = v at b
    refine zc_ge [([1, 0], u), ([-1, 0], v)] (by simp) fun d hd => ?_
    simp only [List.mem_cons, List.not_mem_nil, or_false] at hd
    rcases hd with rfl | rfl
    · exact ⟨b.1, rfl⟩
    · exact ⟨b.2, rfl⟩
  · have b0 := box_mem (r := r) (fss := fss) (j := 0) (by omega)
    have b1 := box_mem (r := r) (fss := fss) (j := 1) (by omega)
    have b2 := box_mem (r := r) (fss := fss) (j := 2) (by omega)
    rw [hl, e] at b0 b1 b2
    generalize (r.parts.getD 0 (0, 0)).2 = u0 at b0
    generalize 0 - (r.parts.getD 0 (0, 0)).1 = v0 at b0
    generalize (r.parts.getD 1 (0, 0)).2 = u1 at b1
    generalize 0 - (r.parts.getD 1 (0, 0)).1 = v1 at b1
    generalize (r.parts.getD 2 (0, 0)).2 = u2 at b2
    generalize 0 - (r.parts.getD 2 (0, 0)).1 = v2 at b2
    refine ⟨zc_ge [([1, 0, 0], u0), ([-1, 0, 0], v0), ([0, 1, 0], u1), ([0, -1, 0], v1)] (by simp) fun d hd => ?_, fun ms hms => zc_ge [([1, 0], u0), ([-1, 0], v0), ([0, 0], u2 * -(-1) + v2 * 1)] (by simp) fun d hd => ?_⟩
    · simp only [List.mem_cons, List.not_mem_nil, or_false] at hd
      rcases hd with rfl | rfl | rfl | rfl
      · exact ⟨b0.1, rfl⟩
      · exact ⟨b0.2, rfl⟩
      · exact ⟨b1.1, rfl⟩
      · exact ⟨b1.2, rfl⟩
    · simp only [List.mem_cons, List.not_mem_nil, or_false] at hd
      rcases hd with rfl | rfl | rfl
      · exact ⟨(hms _).mpr (.inl ⟨_, b0.1, rfl, rfl⟩), rfl⟩
      · exact ⟨(hms _).mpr (.inl ⟨_, b0.2, rfl, rfl⟩), rfl⟩
      · exact ⟨(hms _).mpr (.inr ⟨_, b2.1, _, b2.2, (show (1 : Int) > 0 by decide), (show (-1 : Int) < 0 by decide), rfl⟩), rfl⟩
end Ca
set_option Elab.async false
set_option linter.all false
set_option maxRecDepth 100000
set_option maxHeartbeats 8000000
namespace Ca
open PySem L2
/-! ### how great what fits is -/
theorem fit_frs {r : Rw} {fss : Fss} {gs : List (Int × Int)} {m : Nat} (hR : isRowD (rowD r) m = true) (hm : m ≤ 3) (ho : SeenOk fss m) (h : FitP r fss gs) : ∀ g ∈ gs, FrS 1020 g := by
  have RP := row_pairs hR
  have hl := (row_name hR).2
  obtain ⟨lg, t, sh, ⟨S, rp, so, _⟩, no, hg⟩ := h
  have L := seen_low hR hm ho
  rw [← hl] at L
  obtain ⟨LD, LT⟩ := L S so
  have lz : (zs r.parts.length).length = r.parts.length := List.length_replicate ..
  rw [lz] at LT
  intro g hgm
  obtain ⟨q, hq, rfl⟩ := List.mem_iff_getElem.mp hgm
  obtain ⟨p, am, rd⟩ := hg q gs[q] (List.getElem?_eq_getElem hq)
  have hq' : q < r.parts.length := by omega
  have b : ((r.parts.getD q (0, 0)).1).natAbs < 2 ^ 14 := by
    rw [List.getD_eq_getElem?_getD, List.getElem?_eq_getElem hq']
    obtain ⟨g1, g2, g3⟩ := RP _ (List.mem_append_left _ (List.getElem_mem hq'))
    show (r.parts[q].1).natAbs < 16384
    omega
  obtain ⟨p1, p2⟩ : p.1.natAbs < 2 ^ 1000 ∧ p.2.natAbs < 2 ^ 1000 := by
    rcases am with ⟨l, hlk, _, rd'⟩ | ⟨_, rfl⟩
    · obtain ⟨l1, l2⟩ := rd'.le
      rw [rp.D] at l2
      rw [rp.T l r.parts.length (Nat.le_of_lt hlk) (by rw [lz]; exact Nat.le_refl _)] at l1
      exact ⟨Nat.lt_of_le_of_lt l1 (LT l _ (Nat.le_of_lt hlk) (Nat.le_refl _)), Nat.lt_of_le_of_lt l2 LD⟩
    · exact ⟨Nat.pow_pos (by decide), Nat.one_lt_two_pow (by decide)⟩
  obtain ⟨l1, l2⟩ := rd.le
  rw [Int.one_mul] at l2
  rw [Int.mul_one] at l1
  have m1 : ((r.parts.getD q (0, 0)).1 * p.2).natAbs < 2 ^ (14 + 1000) := mul_lt2 b p2
  refine ⟨rd.pos, ?_, Nat.lt_of_le_of_lt l2 (lt_pow2 p2 (by decide)), rd.cop⟩
  refine Nat.lt_of_le_of_lt l1 (Nat.lt_of_le_of_lt (Int.natAbs_add_le _ _) ?_)
  have e1 : (2 : Nat) ^ 1020 = 2 * 2 ^ 1019 := Nat.pow_succ'
  have m2 := lt_pow2 m1 (show 14 + 1000 ≤ 1019 by decide)
  have m3 := lt_pow2 p1 (show 1000 ≤ 1019 by decide)
  generalize (2 : Nat) ^ 1019 = u at *
  omega
theorem fit_len {r : Rw} {fss : Fss} {gs : List (Int × Int)} (h : FitP r fss gs) : gs.length = r.parts.length := h.1
/-! ### within a stretch -/
theorem qv_int (a : Int) : qv (a, 1) = (a : Rat) := by
  unfold qv
  show (a : Rat) / ((1 : Int) : Rat) = _
  grind
theorem lo_qv {a : Int} {f : Int × Int} (hf : 0 < f.2) (h : (a : Rat) ≤ qv f) : ¬ f.1 < a * f.2 := fun k => by
  have := (qv_lt (f := f) (g := (a, 1)) hf (show (0 : Int) < 1 by decide)).mp (by rw [Int.mul_one]; exact k)
  rw [qv_int] at this
  exact absurd h (Rat.not_le.mpr this)
theorem hi_qv {a : Int} {f : Int × Int} (hf : 0 < f.2) (h : qv f ≤ (a : Rat)) : ¬ f.1 > a * f.2 := fun k => by
  have := (qv_lt (f := (a, 1)) (g := f) (show (0 : Int) < 1 by decide) hf).mp (by rw [Int.mul_one]; exact k)
  rw [qv_int] at this
  exact absurd h (Rat.not_le.mpr this)
section
variable {P : Program} {w : World} {K : PySem.W.Frag} {mg : Str → Option Value} {base : Heap}
theorem scLLies : FnScope ["_law_value", "_law_pair"] ["_law_value", "_law_pair"] (defScope sLawLies) := ⟨rfl, rfl, rfl, by decide +kernel, rfl, by decide +kernel, by decide +kernel⟩
theorem ok_lLies {f fF : Addr} {fd fdF : FuncData} (F : FnT K "_law_lies" sLawLies f fd) (gF : mg "_law_is_fraction" = some (.ref fF)) (GF : FnOk P w K mg base CX0 2 fF fdF ["_law_told"] (spLIsF K)) (kF : PySem.W.keepIn K (.ref fF) = true) (bF : Binds K fdF ["_law_told"] []) :
    FnOk P w K mg base CX0 3 f fd ["_law_value", "_law_pair"] (spLLies K) := by
  refine F.ok scLLies (fun vs H Q E h => ?_) (fun cdv A outer s H vs Q E hr h => ?_)
  · obtain ⟨v, u, f, p, n, rfl, _⟩ := h
    rfl
  · obtain ⟨v, u, f, p, n, rfl, dv, du, hs, hf, hn, lo, hi, q⟩ := h
    refine ⟨_, PSs.nox (pss_one (ps_ret (pe_and (pe_call GF hr rfl gF kF bF .nil pass0 (pa_cons (pv 0) pa_nil))
      (pe_and (pe_not (pe_cmpR op_lt (pe_ix ix_tup (pv 0) pe_int (fun _ _ => rfl)) (pe_op op_mulW (pe_ix ix_tup (pv 1) pe_int (fun _ _ => rfl)) (pe_ix ix_tup (pv 0) pe_int (fun _ _ => rfl))) (nomark _)))
      (pe_one (pe_not (pe_cmpR op_gt (pe_ix ix_tup (pv 0) pe_int (fun _ _ => rfl)) (pe_op op_mulW (pe_ix ix_tup (pv 1) pe_int (fun _ _ => rfl)) (pe_ix ix_tup (pv 0) pe_int (fun _ _ => rfl))) (nomark _)))))))), ?_⟩
    refine ⟨_, rfl, v, f, n, rfl, dv, hf, hn, fun H' s' => ⟨_, rfl, iteT ?_⟩⟩
    obtain ⟨a, rfl, ha⟩ := fr_at (dv.same s')
    obtain ⟨b, rfl, hb⟩ := fr_at (f := p) (du.same s')
    obtain ⟨g1, g2, g3⟩ := str_ok hs
    have b1 : p.1.natAbs < 2 ^ 14 := by show _ < 16384; omega
    have b2 : p.2.natAbs < 2 ^ 14 := by show _ < 16384; omega
    refine ⟨_, rfl, a, _, 0, _, rfl, rfl, ha, atI_nat (j := 0) rfl, _, rfl, b, _, 0, _, rfl, rfl, hb, atI_nat (j := 0) rfl, _, rfl, a, _, 1, _, rfl, rfl, ha, atI_nat (j := 1) rfl, _, _, rfl, rfl, big_mul b1 hf.b (by omega) (by omega), _, _, rfl, rfl, _, rfl, ?_⟩
    rw [decide_eq_false (lo_qv hf.pos lo)]
    refine ⟨_, rfl, iteT ?_⟩
    refine ⟨_, rfl, a, _, 0, _, rfl, rfl, ha, atI_nat (j := 0) rfl, _, rfl, b, _, 1, _, rfl, rfl, hb, atI_nat (j := 1) rfl, _, rfl, a, _, 1, _, rfl, rfl, ha, atI_nat (j := 1) rfl, _, _, rfl, rfl, big_mul b2 hf.b (by omega) (by omega), _, _, rfl, rfl, _, rfl, ?_⟩
    rw [decide_eq_false (hi_qv hf.pos hi)]
    exact q H' s'
end
end Ca
set_option Elab.async false
set_option linter.all false
set_option maxRecDepth 100000
set_option maxHeartbeats 8000000
namespace Ca
open PySem L2
/-! ### whether a value is a member, by the law -/
abbrev Mem := List (Int × Int) × (Int × Int)
def mbD (e : Mem) : PyData := .tuple [frsD e.1, frD e.2]
def memsD (es : List Mem) : PyData := .tuple (es.map mbD)
def InS (p : Int × Int) (f : Int × Int) : Prop := ((p.1 : Int) : Rat) ≤ qv f ∧ qv f ≤ ((p.2 : Int) : Rat)
structure MemR (r : Rw) (e : Mem) : Prop where
  len : e.1.length = r.parts.length
  sm : ∀ g ∈ e.1, FrS 1020 g
  sb : FrS 1020 e.2
  ins : ∀ (j : Nat) (g p : Int × Int), e.1[j]? = some g → r.parts[j]? = some p → InS p g
  inb : InS r.bd e.2
structure MemOk (rs : List Rw) (es : List Mem) : Prop where
  len : es.length = rs.length
  ok : ∀ (i : Nat) (r : Rw) (e : Mem), rs[i]? = some r → es[i]? = some e → MemR r e
theorem mem_at {K : PySem.W.Frag} {H : Hp} {v : V} {e : Mem} (h : Dq K H v (mbD e)) : ∃ a x y, v = .ref a ∧ SqT K H a [x, y] ∧ Dq K H x (frsD e.1) ∧ Dq K H y (frD e.2) := by
  obtain ⟨a, xs, rfl, ha, da, hl⟩ := tup_len h
  cases da with
  | cons d1 t =>
    cases t with
    | cons d2 t =>
      cases t
      exact ⟨a, _, _, rfl, ha, d1, d2⟩
def spIsMem (K : PySem.W.Frag) : Sp := fun vs H Q _ => ∃ c u r v rs es m, vs = [.ref c, v] ∧ H c = some (.lst [.ref u, .ref r]) ∧ Dq K H (.ref r) (rowsD rs) ∧ Dq K H v (memsD es) ∧ Lines rs m ∧ m ≤ 3 ∧ MemOk rs es ∧ ∀ H', Same H H' → Q (.bl true) H'
abbrev NIm : List Str := ["_law_card_here", "_law_told", "_law_part", "_law_word", "_law_numbers_here", "_law_bound_here", "_law_j"]
section
variable {P : Program} {w : World} {K : PySem.W.Frag} {mg : Str → Option Value} {base : Heap}
theorem scIsMem : FnScope NIm ["_law_card_here", "_law_told"] (defScope sLawIsMember) := ⟨rfl, rfl, rfl, by decide +kernel, rfl, by decide +kernel, by decide +kernel⟩
theorem ok_isMem {f fL : Addr} {fd fdL : FuncData} (F : FnT K "_law_is_member" sLawIsMember f fd) (B : Bn mg) (mrng : mg "range" = none) (mzip : mg "zip" = none)
    (gL : mg "_law_lies" = some (.ref fL)) (GL : FnOk P w K mg base CX0 3 fL fdL ["_law_value", "_law_pair"] (spLLies K)) (kL : PySem.W.keepIn K (.ref fL) = true) (bL : Binds K fdL ["_law_value", "_law_pair"] []) :
    FnOk P w K mg base CX0 4 f fd ["_law_card_here", "_law_told"] (spIsMem K) := by
  refine F.ok scIsMem (fun vs H Q E h => ?_) (fun cdv A outer s H vs Q E hr h => ?_)
  · obtain ⟨c, u, r, v, rs, es, m, rfl, _⟩ := h
    rfl
  · obtain ⟨c, u, r, v, rs, es, m, rfl, hc, dr, dv, hL, m3, ok, q⟩ := h
    have nd := scIsMem.nd
    refine ⟨_, PSs.nox (pss_cons (ps_if (PW.pt (pw_or (pt_not (pt_val (pe_callB call_isi (by rfl) B.isi PyProof.Rows.boot_isinstance (pa_cons (pv 1) (pa_cons (pe_bltn (v := .ty "tuple") (by rfl) B.tup (by decide +kernel) rfl) pa_nil)))))
        (pw_or1 (pt_cmpR op_ne (pe_callB (call_lenK K) (by rfl) B.len boot_len (pa_cons (pv 1) pa_nil)) (pe_callB (call_lenK K) (by rfl) B.len boot_len (pa_cons (pe_ix ix_list (pv 0) pe_int (fun _ _ => rfl)) pa_nil)) (nomark _))))) (pss_one (ps_ret pe_bl)) pss_nil)
      (pss_cons (ps_for PassesOwn.never rfl (RZ.pi_zipA (by rfl) mzip (pa_cons (pv 1) (pa_cons (pe_ix ix_list (pv 0) pe_int (fun _ _ => rfl)) pa_nil)))
          (pgTt K rfl (pgs_cons (pg_name (i := 2) nd rfl (.inr rfl)) (pgs_cons (pgTt K rfl (pgs_cons (pg_name (i := 3) nd rfl (.inl rfl)) (pgs_cons (pg_name (i := 4) nd rfl (.inr rfl)) (pgs_cons (pg_name (i := 5) nd rfl (.inl rfl)) pgs_nil)))) pgs_nil)))
        (pss_cons (ps_if (PW.pt (pw_or (pt_not (pt_val (pe_callB call_isi (by rfl) B.isi PyProof.Rows.boot_isinstance (pa_cons (pv 2) (pa_cons (pe_bltn (v := .ty "tuple") (by rfl) B.tup (by decide +kernel) rfl) pa_nil)))))
            (pw_or (pt_cmpR op_ne (pe_callB (call_lenK K) (by rfl) B.len boot_len (pa_cons (pv 2) pa_nil)) pe_int (nomark _))
            (pw_or1 (pt_not (pt_val (pe_call GL hr rfl gL kL bL .nil pass0 (pa_cons (pe_ix ix_tup (pv 2) pe_int (fun _ _ => rfl)) (pa_cons (pv 5) pa_nil)))))))))
            (pss_one (ps_ret pe_bl)) pss_nil)
        (pss_cons (ps_if (PW.pt (pw_or (pt_not (pt_val (pe_callB call_isi (by rfl) B.isi PyProof.Rows.boot_isinstance (pa_cons (pe_ix ix_tup (pv 2) pe_int (fun _ _ => rfl)) (pa_cons (pe_bltn (v := .ty "tuple") (by rfl) B.tup (by decide +kernel) rfl) pa_nil)))))
            (pw_or1 (pt_cmpR op_ne (pe_callB (call_lenK K) (by rfl) B.len boot_len (pa_cons (pe_ix ix_tup (pv 2) pe_int (fun _ _ => rfl)) pa_nil)) (pe_callB (call_lenK K) (by rfl) B.len boot_len (pa_cons (pv 4) pa_nil)) (nomark _)))))
            (pss_one (ps_ret pe_bl)) pss_nil)
        (pss_one (ps_if (pt_cmpR (op_neD hr.units) (pe_lc (own := [("_law_j", 6)]) (g := gName 6) rfl nd (pi_range1 rfl mrng (pa_cons (pe_callB (call_lenK K) (by rfl) B.len boot_len (pa_cons (pv 4) pa_nil)) pa_nil))
              (blkOk_by (own := [("_law_j", 6)]) (N := NIm) (sc := defScope sLawIsMember) (by decide +kernel)) (fun _ _ _ _ _ => pg_name (i := 6) nd rfl (Or.inl rfl))
              (fun _ _ _ _ _ => pts_one (pt_not (pt_val (pe_call GL hr rfl gL kL bL .nil pass0 (pa_cons (pe_ix (ixT K) (pe_ix (ixT K) (pv 2) pe_int (fun _ _ => rfl)) (pv 6) (fun _ _ => rfl)) (pa_cons (pe_ix (ixT K) (pv 4) (pv 6) (fun _ _ => rfl)) pa_nil))))))
              (fun _ _ _ _ _ => pv 6)) (pe_lst pa_nil) (nomark _)) (pss_one (ps_ret pe_bl)) pss_nil)))))
      (pss_one (ps_ret pe_bl)))), ?_⟩
    obtain ⟨b, ys, rfl, hb, db, hbl⟩ := tup_len dv
    obtain ⟨r', xs, e0, hx, dx, hxl⟩ := tup_len dr
    cases e0
    rw [List.length_map] at hbl hxl
    have sqc : SqL K H c [.ref u, .ref r] := SqL.of hc
    refine rd_isd dv rfl (kit_tup _) ⟨_, rfl, iteF ?_⟩
    refine ⟨_, rfl, _, ys.length, rfl, .inr ⟨_, hb, rfl⟩, _, rfl, c, _, 1, _, rfl, rfl, sqc, atI_nat (j := 1) rfl, _, xs.length, rfl, .inr ⟨_, hx, rfl⟩, rd_neN (by rw [hbl, hxl, ok.len]) rfl ⟨_, rfl, iteF ?_⟩⟩
    refine ⟨_, rfl, _, rfl, c, _, 1, _, rfl, rfl, sqc, atI_nat (j := 1) rfl, b, r, _, _, rfl, .inr ⟨hb, hx, ?_⟩⟩
    refine for_it (CaZ.walk_zt (K := K) (a := b) (b := r) (xs := ys) (ys := xs) (n := rs.length) (by rw [hbl, ok.len]) hxl)
      (fun k σ' H' => Same H H' ∧ ∃ o2 o3 o4 o5, σ' = [some (.ref c), some (.ref b), o2, o3, o4, o5, none])
      ⟨fun _ _ e => e, none, none, none, none, rfl⟩ (fun k σ' H' hk p => ⟨same_sqt p.1 hb, same_sqt p.1 hx⟩) ?_ (fun σ' H' p => ?_)
    · rintro k z _ H1 _ hk ⟨s1, o2, o3, o4, o5, rfl⟩ ⟨T, x1, y1, rfl, hT, rfl, hx1, hy1⟩
      have hke : k < es.length := by rw [ok.len]; exact hk
      have s2 : Same H (upd H1 T (.tup [x1, y1])) := s1.trans (Same.new (o := .tup [x1, y1]) hT)
      have d1 : Dq K (upd H1 T (.tup [x1, y1])) x1 (mbD es[k]) := by
        obtain ⟨d, hd, dq⟩ := (db.same s2).get hx1
        rw [List.getElem?_map, List.getElem?_eq_getElem hke] at hd
        cases hd
        exact dq
      have d2 := rows_get (dx.same s2) hk hy1
      have mr := ok.ok k rs[k] es[k] (List.getElem?_eq_getElem hk) (List.getElem?_eq_getElem hke)
      have hR := hL.ok _ (List.getElem_mem hk)
      generalize es[k] = e at d1 mr
      generalize rs[k] = rw' at d2 mr hR
      obtain ⟨pa, g, bd, rfl, hpa, dg, dbd⟩ := mem_at d1
      obtain ⟨ra, v2, v3, rfl, hra, dv2, dv3, _⟩ := row_at d2
      obtain ⟨ga, gvs, rfl, hga, dga, gl⟩ := tup_len dg
      obtain ⟨na, nvs, rfl, hna, dna, nl⟩ := tup_len dv2
      rw [List.length_map] at gl nl
      have RP : ∀ p ∈ rw'.parts ++ [rw'.bd], isStretchD (strD p) = true := fun p hp => two_ok (row_pairs hR p hp).1 (row_pairs hR p hp).2.1 (row_pairs hR p hp).2.2
      refine ⟨T, _, rfl, SqT.of upd_same, rfl, _, _, rfl, _, _, rfl, ra, _, rfl, hra, rfl, _, _, rfl, _, _, rfl, _, _, rfl, rfl, rfl, ?_⟩
      refine rd_isd d1 rfl (kit_tup _) ⟨_, rfl, iteF ?_⟩
      refine ⟨_, rfl, _, 2, rfl, .inr ⟨_, hpa, rfl⟩, rfl, _, rfl, iteF ?_⟩
      refine ⟨_, rfl, pa, _, 1, _, rfl, rfl, hpa, atI_nat (j := 1) rfl, _, rfl, bd, v3, e.2, rw'.bd, 1020, rfl, dbd, dv3, RP _ (List.mem_append_right _ (List.mem_singleton.mpr rfl)), mr.sb, by decide, mr.inb.1, mr.inb.2, fun H3 s3 => ⟨_, rfl, iteF ?_⟩⟩
      have hg3 := same_sqt s3 hga
      refine ⟨_, rfl, pa, _, 0, _, rfl, rfl, same_sqt s3 hpa, atI_nat (j := 0) rfl, .ref ga, .ty "tuple", _, _, true, rfl, .ty "tuple", (dg.same s3).tyx, kit_ty (kit_tup _), _, rfl, iteF ?_⟩
      refine ⟨_, rfl, pa, _, 0, _, rfl, rfl, same_sqt s3 hpa, atI_nat (j := 0) rfl, _, gvs.length, rfl, .inr ⟨_, hg3, rfl⟩, _, rfl, _, nvs.length, rfl, .inr ⟨_, same_sqt s3 hna, rfl⟩, rd_neN (by rw [gl, nl, mr.len]) rfl ⟨_, rfl, iteF ?_⟩⟩
      have hnv : nvs.length ≤ 3 := by
        have := (row_name hR).2
        omega
      refine ⟨_, rfl, _, nvs.length, rfl, .inr ⟨_, same_sqt s3 hna, rfl⟩, _, rfl, by omega, by omega, fun D hD => ?_⟩
      refine lc_it (walk_range (lo := 0) (n := ((nvs.length : Nat) : Int).toNat)) (fun k H' => Same H3 H' ∧ H' D = some (.lst [])) ⟨Same.new hD, upd_same⟩ (fun k H' hk p => trivial) ?_ ?_
      · rintro j z H4 H4x hj ⟨s4, bD⟩ ⟨hx4, hz⟩
        subst hx4
        obtain rfl : z = .int ((j : Nat) : Int) := by
          rw [hz]
          show V.int (0 + ((j : Nat) : Int)) = _
          rw [Int.zero_add]
        have hjn : j < nvs.length := by omega
        have hjg : j < gvs.length := by rw [gl, mr.len, ← nl]; exact hjn
        have hje : j < e.1.length := by omega
        have hjp : j < rw'.parts.length := by omega
        have s34 := s3.trans s4
        have dgj : Dq K H4x gvs[j] (frD e.1[j]) := frs_get (dga.same s34) hje (List.getElem?_eq_getElem hjg)
        have dnj : Dq K H4x nvs[j] (strD rw'.parts[j]) := by
          obtain ⟨d, hd, dq⟩ := (dna.same s34).get (List.getElem?_eq_getElem hjn)
          rw [List.getElem?_map, List.getElem?_eq_getElem hjp] at hd
          cases hd
          exact dq
        have hin := mr.ins j _ _ (List.getElem?_eq_getElem hje) (List.getElem?_eq_getElem hjp)
        refine ⟨rfl, _, rfl, pa, _, 0, _, rfl, rfl, same_sqt s34 hpa, atI_nat (j := 0) rfl, _, rfl, ga, _, ((j : Nat) : Int), _, rfl, rfl, same_sqt s34 hga, atI_nat (j := j) (List.getElem?_eq_getElem hjg), ?_⟩
        refine ⟨_, rfl, _, rfl, na, _, ((j : Nat) : Int), _, rfl, rfl, same_sqt s34 hna, atI_nat (j := j) (List.getElem?_eq_getElem hjn), ?_⟩
        refine ⟨gvs[j], nvs[j], e.1[j], rw'.parts[j], 1020, rfl, dgj, dnj, RP _ (List.mem_append_left _ (List.getElem_mem hjp)), mr.sm _ (List.getElem_mem hje), by decide, hin.1, hin.2, fun H5 s5 => ⟨_, rfl, iteF ⟨s4.trans s5, s5 _ _ bD⟩⟩⟩
      · rintro H4 ⟨s4, bD⟩
        refine ⟨Nat.zero_le _, fun q1 h1 => ?_⟩
        have s5 := Same.new (o := .lst []) h1
        exact rd_sameD (d := .list []) (.lst (SqL.of (s5 _ _ bD)) .nil) (.lst (SqL.of upd_same) .nil) (by decide +kernel) ⟨_, rfl, iteF ⟨s2.trans (s3.trans (s4.trans s5)), _, _, _, _, rfl⟩⟩
    · obtain ⟨s1, o2, o3, o4, o5, rfl⟩ := p
      exact q H' s1
end
end Ca
set_option Elab.async false
set_option linter.all false
set_option maxRecDepth 100000
set_option maxHeartbeats 8000000
namespace Ca
open PySem L2
/-! ### the law's own sums of fractions times fractions -/
def dotF (ns fs : List (Int × Int)) : Rat := qsum (fun j => qv (ns.getD j (0, 1)) * qv (fs.getD j (0, 1))) ns.length
abbrev NLs : List Str := ["_law_numbers_here", "_law_told", "_law_total", "_law_a", "_law_b"]
theorem scLSum : FnScope NLs ["_law_numbers_here", "_law_told"] (defScope sLawSum) := ⟨rfl, rfl, rfl, by decide +kernel, rfl, by decide +kernel, by decide +kernel⟩
def spSumT (K : PySem.W.Frag) : Sp := fun vs H Q _ => ∃ a y xs ns fs A B, vs = [.ref a, y] ∧ SqT K H a xs ∧ DqAll K H xs (ns.map frD) ∧ Dq K H y (frsD fs) ∧ ns.length = fs.length ∧ fs.length ≤ 3 ∧ (∀ n ∈ ns, FrS A n) ∧ (∀ f ∈ fs, FrS B f) ∧ A + B ≤ 1500 ∧
  ∀ H' z t, Same H H' → Dq K H' z (frD t) → FrS (3 * (A + B + 1) + 1) t → qv t = dotF ns fs → Q z H'
section
variable {P : Program} {w : World} {K : PySem.W.Frag} {mg : Str → Option Value} {base : Heap}
theorem ok_sumT {f fP fT : Addr} {fd fdP fdT : FuncData} (F : FnT K "_law_sum" sLawSum f fd) (mzip : mg "zip" = none)
    (gP : mg "_law_plus" = some (.ref fP)) (GP : FnOk P w K mg base CX0 2 fP fdP ["_law_one_here", "_law_two_here"] (spLPlus K)) (kP : PySem.W.keepIn K (.ref fP) = true) (bP : Binds K fdP ["_law_one_here", "_law_two_here"] [])
    (gT : mg "_law_times" = some (.ref fT)) (GT : FnOk P w K mg base CX0 2 fT fdT ["_law_one_here", "_law_two_here"] (spLTimes K)) (kT : PySem.W.keepIn K (.ref fT) = true) (bT : Binds K fdT ["_law_one_here", "_law_two_here"] []) :
    FnOk P w K mg base CX0 3 f fd ["_law_numbers_here", "_law_told"] (spSumT K) := by
  refine F.ok scLSum (fun vs H Q E h => ?_) (fun cdv A outer s H vs Q E hr h => ?_)
  · obtain ⟨a, y, xs, ns, fs, A, B, rfl, _⟩ := h
    rfl
  · obtain ⟨a, y, xs, ns, fs, A, B, rfl, ha, dx, dy, hl, h3, hn, hf, hab, q⟩ := h
    have nd := scLSum.nd
    refine ⟨_, PSs.nox (pss_cons (ps_set (i := 2) nd rfl (.inl rfl) (pe_tup (pa_cons pe_int (pa_cons pe_int pa_nil))))
      (pss_cons (ps_for PassesOwn.never rfl (RZ.pi_zipA (by rfl) mzip (pa_cons (pv 0) (pa_cons (pv 1) pa_nil))) (pgTt K rfl (pgs_cons (pg_name (i := 3) nd rfl (.inl rfl)) (pgs_cons (pg_name (i := 4) nd rfl (.inl rfl)) pgs_nil)))
        (pss_one (ps_set (i := 2) nd rfl (.inl rfl) (pe_call GP hr rfl gP kP bP .nil pass0 (pa_cons (pv 2) (pa_cons (pe_call GT hr rfl gT kT bT .nil pass0 (pa_cons (pv 3) (pa_cons (pv 4) pa_nil))) pa_nil))))))
      (pss_one (ps_ret (pv 2))))), ?_⟩
    obtain ⟨b, ys, rfl, hb1, hb2, hbl⟩ := tup_len dy
    rw [List.length_map] at hbl
    have lx : xs.length = fs.length := by
      have := dx.len
      rw [List.length_map] at this
      omega
    refine ⟨by show 2 ≤ sizeLine; decide, fun p hp => ?_⟩
    have s0 := Same.new (o := .tup [.int 0, .int 1]) hp
    refine ⟨_, rfl, _, rfl, a, b, _, _, rfl, .inr ⟨same_sqt s0 ha, same_sqt s0 hb1, ?_⟩⟩
    refine for_it (CaZ.walk_zt (K := K) (a := a) (b := b) (xs := xs) (ys := ys) (n := fs.length) lx hbl)
      (fun k σ' H' => k ≤ fs.length ∧ Same H H' ∧ ∃ v t o3 o4, σ' = [some (.ref a), some (.ref b), some v, o3, o4] ∧ Dq K H' v (frD t) ∧ FrS (k * (A + B + 1) + 1) t ∧ qv t = qsum (fun j => qv (ns.getD j (0, 1)) * qv (fs.getD j (0, 1))) k)
      ⟨Nat.zero_le _, s0, .ref p, (0, 1), none, none, rfl, fr_of upd_same, ⟨by decide, by show 0 < 2 ^ _; exact Nat.pow_pos (by decide), by rw [Nat.zero_mul]; decide, by decide⟩, by unfold qv; show ((0 : Int) : Rat) / ((1 : Int) : Rat) = 0; grind⟩ (fun k σ' H' hk p => ⟨same_sqt p.2.1 ha, same_sqt p.2.1 hb1⟩) ?_ (fun σ' H' p => ?_)
    · rintro k x _ H1 _ hk ⟨_, s1, v, t, o3, o4, rfl, dv, ft, et⟩ ⟨T, x1, y1, rfl, hT, rfl, hx, hy⟩
      have hkn : k < ns.length := by omega
      have s2 := Same.new (o := .tup [x1, y1]) hT
      have s12 := s1.trans s2
      have d1 := frs_get (dx.same s12) hkn hx
      have d2 := frs_get (hb2.same s12) hk hy
      have e1 : ns.getD k (0, 1) = ns[k] := by rw [List.getD_eq_getElem?_getD, List.getElem?_eq_getElem hkn]; rfl
      have e2 : fs.getD k (0, 1) = fs[k] := by rw [List.getD_eq_getElem?_getD, List.getElem?_eq_getElem hk]; rfl
      refine ⟨T, _, rfl, SqT.of upd_same, rfl, _, _, rfl, _, _, rfl, rfl, ?_⟩
      refine ⟨_, rfl, _, rfl, _, rfl, x1, y1, ns[k], fs[k], A, B, rfl, d1, d2, hn _ (List.getElem_mem hkn), hf _ (List.getElem_mem hk), by omega, fun H4 z g s4 dz fg eg => ?_⟩
      have kb : k * (A + B + 1) ≤ 2 * 1501 := Nat.mul_le_mul (by omega) (by omega)
      refine ⟨v, z, t, g, k * (A + B + 1) + 1, A + B, rfl, (dv.same s2).same s4, dz, ft, fg, by omega, fun H5 u r s5 du fr er => ⟨hk, s12.trans (s4.trans s5), u, r, _, _, rfl, du, ?_, ?_⟩⟩
      · refine fr.mono ?_
        rw [Nat.succ_mul]
        omega
      · simp only [qsum]
        rw [er, et, eg, e1, e2]
    · obtain ⟨_, s1, v, t, o3, o4, rfl, dv, ft, et⟩ := p
      refine ⟨_, rfl, q H' v t s1 dv (ft.mono ?_) ?_⟩
      · have : fs.length * (A + B + 1) ≤ 3 * (A + B + 1) := Nat.mul_le_mul_right _ h3
        omega
      · rw [et]
        unfold dotF
        rw [hl]
end
section
variable {P : Program} {w : World} {K : PySem.W.Frag} {mg : Str → Option Value} {base : Heap}
end
end Ca
set_option Elab.async false
set_option linter.all false
set_option maxRecDepth 100000
set_option maxHeartbeats 8000000
namespace Ca
open PySem L2
/-! ### whether an answer is possible, by the law -/
section
variable {P : Program} {w : World} {K : PySem.W.Frag} {mg : Str → Option Value} {base : Heap}
end
end Ca
set_option Elab.async false
set_option linter.all false
set_option maxRecDepth 100000
set_option maxHeartbeats 8000000
namespace Ca
open PySem L2
/-! ### whether some numbers of a row fit what was seen, by the law -/
def spRowF (K : PySem.W.Frag) : Sp := fun vs H Q _ => ∃ x v, ∃ (r : Rw) (fss : Fss) (m : Nat), vs = [x, v] ∧ Dq K H x (rowD r) ∧ isRowD (rowD r) m = true ∧ Dq K H v (ansD fss) ∧ FewAll fss m ∧ m ≤ 3 ∧ fss.length + 2 * m ≤ 9 ∧
  ∀ H' b, Same H H' → (b = true ↔ ∃ a, FitsQ r fss a) → Q (.bl b) H'
abbrev NRf : List Str := ["_law_part", "_law_views", "_law_word", "_law_numbers_here", "_law_bound_here", "_law_many", "_law_rows_here", "_law_told", "_law_by", "_law_each", "_law_j", "_law_i"]
section
variable {P : Program} {w : World} {K : PySem.W.Frag} {mg : Str → Option Value} {base : Heap}
theorem scRf : FnScope NRf ["_law_part", "_law_views"] (defScope sLawRowFits) := ⟨rfl, rfl, rfl, by decide +kernel, rfl, by decide +kernel, by decide +kernel⟩
theorem ok_rowF {f fW : Addr} {fd fdW : FuncData} (F : FnT K "_law_row_fits" sLawRowFits f fd) (mtup : mg "tuple" = none) (mrng : mg "range" = none) (mlen : mg "len" = none)
    (gW : mg "_law_has_values" = some (.ref fW)) (GW : FnOk P w K mg base CX0 2 fW fdW ["_law_rows_here", "_law_many"] (spHasW K)) (kW : PySem.W.keepIn K (.ref fW) = true) (bW : Binds K fdW ["_law_rows_here", "_law_many"] []) :
    FnOk P w K mg base CX0 3 f fd ["_law_part", "_law_views"] (spRowF K) := by
  refine F.ok scRf (fun vs H Q E h => ?_) (fun cdv A outer s H vs Q E hr h => ?_)
  · obtain ⟨x, v, r, fss, m, rfl, _⟩ := h
    rfl
  · obtain ⟨x, v, r, fss, m, rfl, dx, hR, dv, few, m3, h9, q⟩ := h
    have nd := scRf.nd
    refine ⟨_, PSs.nox (pss_cons (ps_asg (pv 0) (pgTt K rfl (pgs_cons (pg_name (i := 2) nd rfl (.inl rfl)) (pgs_cons (pg_name (i := 3) nd rfl (.inl rfl)) (pgs_cons (pg_name (i := 4) nd rfl (.inl rfl)) pgs_nil)))))
      (pss_cons (ps_par (i := 5) (j := 6) rfl nd rfl rfl (by decide) rfl rfl (pa_cons (pe_callB (call_lenK K) (by rfl) mlen boot_len (pa_cons (pv 3) pa_nil)) (pa_cons (pe_lst pa_nil) pa_nil)) rfl)
      (pss_cons (ps_for PassesOwn.never rfl (pi_tup (pv 1)) (pg_name (i := 7) nd rfl (.inl rfl))
        (pss_cons (ps_set (i := 8) nd rfl (.inr rfl) pe_int)
        (pss_cons (ps_for PassesOwn.never rfl (pi_tup (pv 7)) (pg_name (i := 9) nd rfl (.inl rfl))
          (pss_one (ps_set (i := 8) nd rfl (.inr rfl) (pe_op op_mulW (pv 8) (pe_ix ix_tup (pv 9) pe_int (fun _ _ => rfl))))))
        (pss_one (ps_expr (pe_bm PySem.F.plainAttrs_list PySem.F.slot_list_append PySem.F.type_list_append mt_append (pv 6) (pa_cons (pe_tup (pa_cons (pe_callTy call_tuple_of (by rfl) mtup (by decide +kernel)
            (pa_cons (pe_lc (own := [("_law_each", 9)]) (g := gName 9) (tt := tYes) rfl nd (pi_tup (pv 7))
              (blkOk_by (own := [("_law_each", 9)]) (N := NRf) (sc := defScope sLawRowFits) (by decide +kernel)) (fun _ _ _ _ _ => pg_name (i := 9) nd rfl (Or.inl rfl)) (fun _ _ _ _ _ => pts_nil)
              (fun _ _ _ _ _ => pe_op op_mulW (pe_ix (ixT K) (pv 9) pe_int (fun _ _ => rfl)) (pe_op op_fdivW (pv 8) (pe_ix (ixT K) (pv 9) pe_int (fun _ _ => rfl))))) pa_nil))
            (pa_cons (pe_op op_mulW (pe_ix ix_tup (pv 4) pe_int (fun _ _ => rfl)) (pv 8)) pa_nil))) pa_nil)))))))
      (pss_cons (ps_for PassesOwn.never rfl (pi_range1 rfl mrng (pa_cons (pv 5) pa_nil)) (pg_name (i := 10) nd rfl (.inr rfl))
        (pss_cons (ps_cut (ps_expr (pe_bm PySem.F.plainAttrs_list PySem.F.slot_list_append PySem.F.type_list_append mt_append (pv 6) (pa_cons (pe_tup (pa_cons (pe_callTy call_tuple_of (by rfl) mtup (by decide +kernel)
            (pa_cons (pe_lc (own := [("_law_i", 11)]) (g := gName 11) (tt := tYes) rfl nd (pi_range1 rfl mrng (pa_cons (pv 5) pa_nil))
              (blkOk_by (own := [("_law_i", 11)]) (N := NRf) (sc := defScope sLawRowFits) (by decide +kernel)) (fun _ _ _ _ _ => pg_name (i := 11) nd rfl (Or.inl rfl)) (fun _ _ _ _ _ => pts_nil)
              (fun _ _ _ _ _ => pe_ifExp (pt_cmpR op_eq (pv 11) (pv 10) (nomark _)) pe_int pe_int)) pa_nil))
            (pa_cons (pe_ix ix_tup (pe_ix (ixT K) (pv 3) (pv 10) (fun _ _ => rfl)) pe_int (fun _ _ => rfl)) pa_nil))) pa_nil))))
        (pss_one (ps_expr (pe_bm PySem.F.plainAttrs_list PySem.F.slot_list_append PySem.F.type_list_append mt_append (pv 6) (pa_cons (pe_tup (pa_cons (pe_callTy call_tuple_of (by rfl) mtup (by decide +kernel)
            (pa_cons (pe_lc (own := [("_law_i", 11)]) (g := gName 11) (tt := tYes) rfl nd (pi_range1 rfl mrng (pa_cons (pv 5) pa_nil))
              (blkOk_by (own := [("_law_i", 11)]) (N := NRf) (sc := defScope sLawRowFits) (by decide +kernel)) (fun _ _ _ _ _ => pg_name (i := 11) nd rfl (Or.inl rfl)) (fun _ _ _ _ _ => pts_nil)
              (fun _ _ _ _ _ => pe_ifExp (pt_cmpR op_eq (pv 11) (pv 10) (nomark _)) (pe_un un_neg pe_int) pe_int)) pa_nil))
            (pa_cons (pe_op op_sub pe_int (pe_ix ix_tup (pe_ix (ixT K) (pv 3) (pv 10) (fun _ _ => rfl)) pe_int (fun _ _ => rfl))) pa_nil))) pa_nil))))))
      (pss_one (ps_ret (pe_call GW hr rfl gW kW bW .nil pass0 (pa_cons (pv 6) (pa_cons (pv 5) pa_nil))))))))), ?_⟩
    obtain ⟨ra, v2, v3, rfl, hra, dv2, dv3, _⟩ := row_at dx
    obtain ⟨na, nvs, rfl, hna, dna, nl⟩ := tup_len dv2
    obtain ⟨ba, rfl, hba⟩ := fr_at (f := r.bd) dv3
    rw [List.length_map] at nl
    have lm := (row_name hR).2
    obtain ⟨va, xs, rfl, hva, dxs, vl⟩ := tup_len dv
    rw [List.length_map] at vl
    obtain ⟨w1, w2, w3⟩ := row_pairs hR _ (List.mem_append_right _ (List.mem_singleton.mpr rfl))
    have bdb : r.bd.2.natAbs < 2 ^ 14 := by show _ < 16384; omega
    refine ⟨_, rfl, ra, _, rfl, hra, rfl, _, _, rfl, _, _, rfl, _, _, rfl, rfl, ?_⟩
    refine ⟨_, rfl, _, _, rfl, .inr ⟨_, hna, rfl⟩, Nat.zero_le _, fun p hp => ⟨_, _, rfl, ?_⟩⟩
    rw [show nvs.length = m by omega]
    have s0 := Same.new (o := .lst []) hp
    refine ⟨_, rfl, va, rfl, ⟨_, same_sqt s0 hva⟩, ?_⟩
    refine for_it (walk_tup (K := K) (a := va) (xs := xs)) (fun k σ' H' => Same H H' ∧ ∃ vs o7 o8 o9, σ' = [some (.ref ra), some (.ref va), some (.str r.name), some (.ref na), some (.ref ba), some (.int (m : Nat)), some (.ref p), o7, o8, o9, none, none] ∧ H' p = some (.lst vs) ∧ DqAll K H' vs (((fss.take k).map (viewR r)).map encD))
      ⟨s0, _, _, _, _, rfl, upd_same, .nil⟩ (fun k σ' H' hk y => same_sqt y.1 hva) ?_ (fun σ' H' y => ?_)
    · rintro k z _ H2 H2x hk ⟨s2, vs, o7, o8, o9, rfl, hp2, dvs⟩ ⟨e2, hz⟩
      subst e2
      have hk' : k < fss.length := by omega
      have lv : vs.length = k := by
        have := dvs.len
        rw [List.length_map, List.length_map, List.length_take] at this
        omega
      obtain ⟨d, hd, dq⟩ := (dxs.same s2).get hz
      rw [List.getElem?_map, List.getElem?_eq_getElem hk'] at hd
      cases hd
      obtain ⟨lf, ff⟩ := few _ (List.getElem_mem hk')
      have takek : (fss.take (k + 1)).map (viewR r) = (fss.take k).map (viewR r) ++ [viewR r fss[k]] := by
        rw [List.take_succ, List.getElem?_eq_getElem hk', List.map_append]
        rfl
      generalize fss[k] = fs at *
      obtain ⟨t, ts, rfl, ht, dts, tl⟩ := tup_len dq
      rw [List.length_map] at tl
      have fp : ∀ f ∈ fs, 0 < f.2 := fun f hf => (ff f hf).pos
      have B31 := byL_few ff (by omega)
      have each : ∀ {H3 : Hp} {i : Nat} {u : V} (hi : i < fs.length), Same H2x H3 → ts[i]? = some u → ∃ e, u = .ref e ∧ SqT K H3 e [.int fs[i].1, .int fs[i].2] := fun {H3 i u} hi s3 hu => by
        obtain ⟨d, hd, dq⟩ := (dts.same s3).get hu
        rw [List.getElem?_map, List.getElem?_eq_getElem hi] at hd
        cases hd
        exact fr_at dq
      refine ⟨_, rfl, t, rfl, ⟨_, ht⟩, ?_⟩
      refine for_it (walk_tup (K := K) (a := t) (xs := ts)) (fun i σ' H' => H2x = H' ∧ ∃ o9, σ' = [some (.ref ra), some (.ref va), some (.str r.name), some (.ref na), some (.ref ba), some (.int (m : Nat)), some (.ref p), some (.ref t), some (.int (byL (fs.take i))), o9, none, none])
        ⟨rfl, _, rfl⟩ (fun i σ' H' hi y => by rw [← y.1]; exact ht) ?_ (fun σ' H' y => ?_)
      · rintro i z _ H3 H3x hi ⟨rfl, o9', rfl⟩ ⟨e3, hz3⟩
        subst e3
        have hi' : i < fs.length := by omega
        obtain ⟨e, rfl, he⟩ := each hi' (fun _ _ e => e) hz3
        have nxt : byL (fs.take (i + 1)) = byL (fs.take i) * fs[i].2 := by
          unfold byL
          rw [List.take_succ, List.getElem?_eq_getElem hi', List.foldl_append]
          rfl
        have bi := byL_few (fs := fs.take i) (fun f hf => ff f (List.mem_of_mem_take hf)) (by rw [List.length_take]; omega)
        have fb := (ff _ (List.getElem_mem hi')).bot
        refine ⟨_, rfl, _, rfl, e, _, 1, _, rfl, rfl, he, atI_nat (j := 1) rfl, _, _, rfl, rfl, big_mul bi (show fs[i].2.natAbs < 2 ^ 10 from Nat.lt_of_le_of_lt fb (by decide)) (by decide) (by decide), ⟨rfl, some (.ref e), ?_⟩⟩
        rw [nxt]
        rfl
      · obtain ⟨rfl, o9', rfl⟩ := y
        rw [tl, List.take_length]
        refine ⟨_, rfl, .inl ⟨rfl, _, SqL.of hp2⟩, _, rfl, t, rfl, ⟨_, ht⟩, fun D hD => ?_⟩
        have nDp : D ≠ p := (ne_of_none hp2 hD).symm
        have cl : (coefL fs).length = fs.length := by
          unfold coefL
          rw [List.length_map]
        refine lc_it (walk_tup (K := K) (a := t) (xs := ts)) (fun i H' => Same H2x H' ∧ H' D = some (.lst (((coefL fs).take i).map V.int))) ⟨Same.new hD, upd_same⟩ (fun i H' hi y => same_sqt y.1 ht) ?_ ?_
        · rintro i z H5 H5x hi ⟨s5, bD⟩ ⟨e5, hz5⟩
          subst e5
          have hi' : i < fs.length := by omega
          obtain ⟨e, rfl, he⟩ := each hi' s5 hz5
          obtain ⟨f1, f2, f3, f4⟩ := ff _ (List.getElem_mem hi')
          have gi : (coefL fs)[i]? = some (fs[i].1 * (byL fs / fs[i].2)) := by
            unfold coefL
            rw [List.getElem?_map, List.getElem?_eq_getElem hi']
            rfl
          have q1 : (byL fs / fs[i].2).natAbs < 2 ^ 31 := Nat.lt_of_le_of_lt (ediv_le f1) B31
          refine ⟨rfl, rdYes ?_⟩
          refine ⟨_, rfl, e, _, 0, _, rfl, rfl, he, atI_nat (j := 0) rfl, _, rfl, _, rfl, e, _, 1, _, rfl, rfl, he, atI_nat (j := 1) rfl, _, _, rfl, rfl, wide_div (b := 10) f1 (Nat.lt_of_le_of_lt f3 (by decide)) (by decide) (by decide), _, _, rfl, rfl, big_mul (Nat.lt_of_le_of_lt f2 (show 1000 < 2 ^ 10 by decide)) q1 (by decide) (by decide), _, bD, ?_, fun b' o e => ?_, ?_⟩
          · rw [List.length_map, List.length_take]
            exact Nat.lt_of_le_of_lt (Nat.le_trans (Nat.min_le_left ..) (show i ≤ 3 by omega)) (by decide)
          · rw [upd_ne (ne_of_none e hD)]
            exact s5 _ _ e
          · rw [upd_same, List.take_succ, gi, List.map_append]
            rfl
        · rintro H5 ⟨s5, bD⟩
          rw [tl, ← cl, List.take_length] at bD
          refine ⟨D, _, rfl, .inl ⟨SqL.of bD, fun u hu => ?_⟩⟩
          have s6 := Same.new (o := .tup ((coefL fs).map V.int)) hu
          have s56 := s5.trans s6
          have hp6 := s56 _ _ hp2
          refine ⟨_, rfl, ba, _, 1, _, rfl, rfl, same_sqt (s2.trans s56) hba, atI_nat (j := 1) rfl, _, rfl, _, _, rfl, rfl, big_mul bdb B31 (by decide) (by decide), Nat.le_of_ble_eq_true rfl, fun y hy => ?_⟩
          have s7 := Same.new (o := .tup [.ref u, .int (r.bd.2 * byL fs)]) hy
          have dm : Dq K (upd (upd H5 u (.tup ((coefL fs).map V.int))) y (.tup [.ref u, .int (r.bd.2 * byL fs)])) (.ref y) (encD (viewR r fs)) := pk_of (k := viewR r fs) (SqT.of upd_same) (same_sqt s7 (SqT.of upd_same))
          refine ⟨p, _, _, rfl, rfl, s7 _ _ hp6, Nat.lt_of_le_of_lt (show vs.length ≤ 9 by omega) (by decide), fun b' o e => ?_, _, _, _, _, rfl, upd_same, ?_⟩
          · rw [upd_ne (ne_of_none e hp)]
            exact (s56.trans s7) _ _ (s2 _ _ e)
          · rw [takek, List.map_append]
            exact (pks_upd (s7 _ _ hp6) (dvs.same (s56.trans s7))).app (.cons (pk_upd (s7 _ _ hp6) dm) .nil)
    · obtain ⟨s2, vs0, o7, o8, o9, rfl, hp2, dvs0⟩ := y
      rw [vl, List.take_length] at dvs0
      refine ⟨_, rfl, m, rfl, by omega, by omega, ?_⟩
      have low : ((m : Nat) : Int).toNat = m := rfl
      refine for_it (walk_range (lo := 0) (n := ((m : Nat) : Int).toNat)) (fun k σ' H' => Same H H' ∧ ∃ vs o7 o8 o9 o10, σ' = [some (.ref ra), some (.ref va), some (.str r.name), some (.ref na), some (.ref ba), some (.int (m : Nat)), some (.ref p), o7, o8, o9, o10, none] ∧ H' p = some (.lst vs) ∧ DqAll K H' vs ((fss.map (viewR r) ++ (List.range k).flatMap (boxR r m)).map encD))
        ⟨s2, vs0, _, _, _, _, rfl, hp2, by rw [List.range_zero, List.flatMap_nil, List.append_nil]; exact dvs0⟩ (fun _ _ _ _ _ => trivial) ?_ (fun σ' H' y => ?_)
      · rintro k z _ H3 H3x hk ⟨s3, vs, o7, o8, o9, o10, rfl, hp3, dvs⟩ ⟨e3, hz⟩
        subst e3
        have hk' : k < m := by omega
        have hkp : k < r.parts.length := by omega
        have ez : z = .int ((k : Nat) : Int) := by
          rw [hz]
          show V.int (0 + ((k : Nat) : Int)) = _
          rw [Int.zero_add]
        subst ez
        clear hz
        have eP : r.parts.getD k (0, 0) = r.parts[k] := by
          rw [List.getD_eq_getElem?_getD, List.getElem?_eq_getElem hkp]
          rfl
        have lbx : ∀ n, ((List.range n).flatMap (boxR r m)).length = 2 * n := fun n => by
          induction n with
          | zero => rfl
          | succ n ih =>
            rw [List.range_succ, List.flatMap_append, List.length_append, ih, List.flatMap_cons, List.flatMap_nil, List.append_nil]
            show 2 * n + 2 = 2 * (n + 1)
            omega
        have lv : vs.length = fss.length + 2 * k := by
          have := dvs.len
          rw [List.length_map, List.length_append, List.length_map, lbx] at this
          omega
        refine ⟨fun σ' H' => Same H H' ∧ ∃ vs, σ' = [some (.ref ra), some (.ref va), some (.str r.name), some (.ref na), some (.ref ba), some (.int (m : Nat)), some (.ref p), o7, o8, o9, some (.int (k : Nat)), none] ∧ H' p = some (.lst vs) ∧ DqAll K H' vs ((fss.map (viewR r) ++ (List.range k).flatMap (boxR r m) ++ [(unitS m 1 k, r.parts[k].2)]).map encD), ?_, ?_⟩
        · refine ⟨_, rfl, .inl ⟨rfl, _, SqL.of hp3⟩, _, rfl, _, rfl, by omega, by omega, fun D hD => ?_⟩
          refine lc_it (walk_range (lo := 0) (n := ((m : Nat) : Int).toNat)) (fun i H' => Same H3x H' ∧ H' D = some (.lst (((unitS m 1 k).take i).map V.int))) ⟨Same.new hD, upd_same⟩ (fun _ _ _ _ => trivial) ?_ ?_
          · rintro i z H5 H5x hi ⟨s5, bD⟩ ⟨e5, hz5⟩
            subst e5
            have hi' : i < m := by omega
            have ez : z = .int ((i : Nat) : Int) := by
              rw [hz5]
              show V.int (0 + ((i : Nat) : Int)) = _
              rw [Int.zero_add]
            subst ez
            clear hz5
            have gi : (unitS m 1 k)[i]? = some (if i = k then 1 else 0) := by
              unfold unitS
              rw [List.getElem?_map, List.getElem?_range hi']
              rfl
            have fin : ∀ n : Int, (unitS m 1 k)[i]? = some n → ∃ acc, H5x D = some (.lst acc) ∧ acc.length < sizeLine ∧ Same H3x (upd H5x D (.lst (acc ++ [.int n]))) ∧ upd H5x D (.lst (acc ++ [.int n])) D = some (.lst (((unitS m 1 k).take (i + 1)).map V.int)) := fun n hn => by
              refine ⟨_, bD, ?_, fun b' o e => ?_, ?_⟩
              · rw [List.length_map, List.length_take]
                exact Nat.lt_of_le_of_lt (Nat.le_trans (Nat.min_le_left ..) (show i ≤ 3 by omega)) (by decide)
              · rw [upd_ne (ne_of_none e hD)]
                exact s5 _ _ e
              · rw [upd_same, List.take_succ, hn, List.map_append]
                rfl
            refine ⟨rfl, rdYes ?_⟩
            refine ⟨_, rfl, _, rfl, rfl, _, rfl, ?_⟩
            by_cases ik : i = k
            · subst ik
              rw [decide_eq_true rfl]
              refine iteT (fin _ ?_)
              rw [gi, if_pos rfl]
              try rfl
            · rw [show decide (V.int ((i : Nat) : Int) = V.int ((k : Nat) : Int)) = false from decide_eq_false (fun z => ik (Int.ofNat.inj (V.int.inj z)))]
              refine iteF (fin _ ?_)
              rw [gi, if_neg ik]
          · rintro H5 ⟨s5, bD⟩
            have lu : (unitS m 1 k).length = m := unitS_len
            rw [show ((m : Nat) : Int).toNat = (unitS m 1 k).length by rw [lu]; rfl, List.take_length] at bD
            refine ⟨D, _, rfl, .inl ⟨SqL.of bD, fun u hu => ?_⟩⟩
            have s6 := Same.new (o := .tup ((unitS m 1 k).map V.int)) hu
            have s56 := s5.trans s6
            have hp6 := s56 _ _ hp3
            have hna6 := same_sqt (s3.trans s56) hna
            obtain ⟨d, hd, dq⟩ := (dna.same (s3.trans s56)).get (List.getElem?_eq_getElem (show k < nvs.length by omega))
            rw [List.getElem?_map, List.getElem?_eq_getElem hkp] at hd
            cases hd
            obtain ⟨pa, epa, hpa⟩ := fr_at (f := r.parts[k]) dq
            have gk : nvs[k]? = some (.ref pa) := by
              rw [List.getElem?_eq_getElem (show k < nvs.length by omega), epa]
            refine ⟨_, rfl, _, rfl, na, _, (k : Nat), _, rfl, rfl, hna6, atI_nat (j := k) gk, pa, _, 1, _, rfl, rfl, hpa, atI_nat (j := 1) rfl, Nat.le_of_ble_eq_true rfl, fun y hy => ?_⟩
            have s7 := Same.new (o := .tup [.ref u, .int (r.parts[k].2)]) hy
            have dm : Dq K (upd (upd H5 u (.tup ((unitS m 1 k).map V.int))) y (.tup [.ref u, .int (r.parts[k].2)])) (.ref y) (encD (unitS m 1 k, r.parts[k].2)) := pk_of (k := (unitS m 1 k, r.parts[k].2)) (SqT.of upd_same) (same_sqt s7 (SqT.of upd_same))
            refine ⟨p, _, _, rfl, rfl, s7 _ _ hp6, Nat.lt_of_le_of_lt (show vs.length ≤ 19 by omega) (by decide), fun b' o e => ?_, _, rfl, upd_same, ?_⟩
            · rw [upd_ne (ne_of_none e hp)]
              exact (s56.trans s7) _ _ (s3 _ _ e)
            · rw [List.map_append]
              exact (pks_upd (s7 _ _ hp6) (dvs.same (s56.trans s7))).app (.cons (pk_upd (s7 _ _ hp6) dm) .nil)
        · rintro _ H4 ⟨s4, vs4, rfl, hp4, dv4⟩
          have lv4 : vs4.length = fss.length + 2 * k + 1 := by
            have := dv4.len
            rw [List.length_map, List.length_append, List.length_append, List.length_map, lbx] at this
            exact this
          refine ⟨_, rfl, .inl ⟨rfl, _, SqL.of hp4⟩, _, rfl, _, rfl, by omega, by omega, fun D hD => ?_⟩
          refine lc_it (walk_range (lo := 0) (n := ((m : Nat) : Int).toNat)) (fun i H' => Same H4 H' ∧ H' D = some (.lst (((unitS m (-1) k).take i).map V.int))) ⟨Same.new hD, upd_same⟩ (fun _ _ _ _ => trivial) ?_ ?_
          · rintro i z H5 H5x hi ⟨s5, bD⟩ ⟨e5, hz5⟩
            subst e5
            have hi' : i < m := by omega
            have ez : z = .int ((i : Nat) : Int) := by
              rw [hz5]
              show V.int (0 + ((i : Nat) : Int)) = _
              rw [Int.zero_add]
            subst ez
            clear hz5
            have gi : (unitS m (-1) k)[i]? = some (if i = k then (-1) else 0) := by
              unfold unitS
              rw [List.getElem?_map, List.getElem?_range hi']
              rfl
            have fin : ∀ n : Int, (unitS m (-1) k)[i]? = some n → ∃ acc, H5x D = some (.lst acc) ∧ acc.length < sizeLine ∧ Same H4 (upd H5x D (.lst (acc ++ [.int n]))) ∧ upd H5x D (.lst (acc ++ [.int n])) D = some (.lst (((unitS m (-1) k).take (i + 1)).map V.int)) := fun n hn => by
              refine ⟨_, bD, ?_, fun b' o e => ?_, ?_⟩
              · rw [List.length_map, List.length_take]
                exact Nat.lt_of_le_of_lt (Nat.le_trans (Nat.min_le_left ..) (show i ≤ 3 by omega)) (by decide)
              · rw [upd_ne (ne_of_none e hD)]
                exact s5 _ _ e
              · rw [upd_same, List.take_succ, hn, List.map_append]
                rfl
            refine ⟨rfl, rdYes ?_⟩
            refine ⟨_, rfl, _, rfl, rfl, _, rfl, ?_⟩
            by_cases ik : i = k
            · subst ik
              rw [decide_eq_true rfl]
              refine iteT ⟨_, rfl, fin _ ?_⟩
              rw [gi, if_pos rfl]
              try rfl
            · rw [show decide (V.int ((i : Nat) : Int) = V.int ((k : Nat) : Int)) = false from decide_eq_false (fun z => ik (Int.ofNat.inj (V.int.inj z)))]
              refine iteF (fin _ ?_)
              rw [gi, if_neg ik]
          · rintro H5 ⟨s5, bD⟩
            have lu : (unitS m (-1) k).length = m := unitS_len
            rw [show ((m : Nat) : Int).toNat = (unitS m (-1) k).length by rw [lu]; rfl, List.take_length] at bD
            refine ⟨D, _, rfl, .inl ⟨SqL.of bD, fun u hu => ?_⟩⟩
            have s6 := Same.new (o := .tup ((unitS m (-1) k).map V.int)) hu
            have s56 := s5.trans s6
            have hp6 := s56 _ _ hp4
            have hna6 := same_sqt (s4.trans s56) hna
            obtain ⟨d, hd, dq⟩ := (dna.same (s4.trans s56)).get (List.getElem?_eq_getElem (show k < nvs.length by omega))
            rw [List.getElem?_map, List.getElem?_eq_getElem hkp] at hd
            cases hd
            obtain ⟨pa, epa, hpa⟩ := fr_at (f := r.parts[k]) dq
            have gk : nvs[k]? = some (.ref pa) := by
              rw [List.getElem?_eq_getElem (show k < nvs.length by omega), epa]
            refine ⟨_, rfl, _, rfl, na, _, (k : Nat), _, rfl, rfl, hna6, atI_nat (j := k) gk, pa, _, 0, _, rfl, rfl, hpa, atI_nat (j := 0) rfl, _, _, rfl, rfl, Nat.le_of_ble_eq_true rfl, fun y hy => ?_⟩
            have s7 := Same.new (o := .tup [.ref u, .int (0 - r.parts[k].1)]) hy
            have dm : Dq K (upd (upd H5 u (.tup ((unitS m (-1) k).map V.int))) y (.tup [.ref u, .int (0 - r.parts[k].1)])) (.ref y) (encD (unitS m (-1) k, 0 - r.parts[k].1)) := pk_of (k := (unitS m (-1) k, 0 - r.parts[k].1)) (SqT.of upd_same) (same_sqt s7 (SqT.of upd_same))
            refine ⟨p, _, _, rfl, rfl, s7 _ _ hp6, Nat.lt_of_le_of_lt (show vs4.length ≤ 29 by omega) (by decide), fun b' o e => ?_, _, _, _, _, _, rfl, upd_same, ?_⟩
            · rw [upd_ne (ne_of_none e hp)]
              exact (s56.trans s7) _ _ (s4 _ _ e)
            · have ebx : fss.map (viewR r) ++ (List.range (k + 1)).flatMap (boxR r m) = (fss.map (viewR r) ++ (List.range k).flatMap (boxR r m) ++ [(unitS m 1 k, r.parts[k].2)]) ++ [(unitS m (-1) k, 0 - r.parts[k].1)] := by
                rw [List.range_succ, List.flatMap_append, List.flatMap_cons, List.flatMap_nil, List.append_nil]
                unfold boxR
                rw [eP]
                simp only [List.append_assoc, List.cons_append, List.nil_append]
              rw [ebx, List.map_append]
              exact (pks_upd (s7 _ _ hp6) (dv4.same (s56.trans s7))).app (.cons (pk_upd (s7 _ _ hp6) dm) .nil)
      · obtain ⟨s3, vs, o7, o8, o9, o10, rfl, hp3, dvs⟩ := y
        rw [low] at dvs
        have eR : fss.map (viewR r) ++ (List.range m).flatMap (boxR r m) = fitRows r fss := by
          unfold fitRows
          rw [lm]
        rw [eR] at dvs
        have few' : ∀ fs ∈ fss, fs.length = r.parts.length ∧ ∀ f ∈ fs, 0 < f.2 := fun fs hf => ⟨by rw [(few fs hf).1, lm], fun f h => ((few fs hf).2 f h).pos⟩
        refine ⟨_, rfl, _, rfl, p, vs, fitRows r fss, m, 60, rfl, SqL.of hp3, dvs, fun k hk => ?_, tame_fit lm m3 h9, fitR_sm hR m3 few, by decide, fun H5 v s5 hv => q _ _ (s3.trans s5) (hv.trans ?_)⟩
        · rw [fitR_row (fun fs hf => (few' fs hf).1) k hk, lm]
        · exact ⟨fun ⟨x, hx⟩ => ⟨x, (sat_fit few' x).mp hx⟩, fun ⟨x, hx⟩ => ⟨x, (sat_fit few' x).mpr hx⟩⟩
end
end Ca
set_option Elab.async false
set_option linter.all false
set_option maxRecDepth 100000
set_option maxHeartbeats 8000000
namespace Ca
open PySem L2
/-! ### the first row that no numbers of fit, by the law -/
def CanF (r : Rw) (fss : Fss) : Prop := ∃ a, FitsQ r fss a
def DueT (rs : List Rw) (fss : Fss) (v : V) : Prop := (v = .non ∧ ∀ r ∈ rs, CanF r fss) ∨ ∃ (i : Nat) (r : Rw), v = .int i ∧ rs[i]? = some r ∧ ¬ CanF r fss ∧ ∀ j r', j < i → rs[j]? = some r' → CanF r' fss
def spLClash (K : PySem.W.Frag) : Sp := fun vs H Q _ => ∃ c u r v, ∃ (rs : List Rw) (fss : Fss) (m : Nat), vs = [.ref c, v] ∧ H c = some (.lst [.ref u, .ref r]) ∧ Dq K H (.ref r) (rowsD rs) ∧ (∀ r ∈ rs, isRowD (rowD r) m = true) ∧ Dq K H v (ansD fss) ∧ FewAll fss m ∧ m ≤ 3 ∧ fss.length + 2 * m ≤ 9 ∧ rs.length ≤ 8 ∧
  ∀ H' v', Same H H' → DueT rs fss v' → Q v' H'
abbrev NLc : List Str := ["_law_card_here", "_law_views", "_law_k"]
section
variable {P : Program} {w : World} {K : PySem.W.Frag} {mg : Str → Option Value} {base : Heap}
theorem scLc : FnScope NLc ["_law_card_here", "_law_views"] (defScope sLawClash) := ⟨rfl, rfl, rfl, by decide +kernel, rfl, by decide +kernel, by decide +kernel⟩
theorem ok_lClash {f fR : Addr} {fd fdR : FuncData} (F : FnT K "_law_clash" sLawClash f fd) (mrng : mg "range" = none) (mlen : mg "len" = none)
    (gR : mg "_law_row_fits" = some (.ref fR)) (GR : FnOk P w K mg base CX0 3 fR fdR ["_law_part", "_law_views"] (spRowF K)) (kR : PySem.W.keepIn K (.ref fR) = true) (bR : Binds K fdR ["_law_part", "_law_views"] []) :
    FnOk P w K mg base CX0 4 f fd ["_law_card_here", "_law_views"] (spLClash K) := by
  refine F.ok scLc (fun vs H Q E h => ?_) (fun cdv A outer s H vs Q E hr h => ?_)
  · obtain ⟨c, u, r, v, rs, fss, m, rfl, _⟩ := h
    rfl
  · obtain ⟨c, u, r, v, rs, fss, m, rfl, hc, dr, hR, dv, few, m3, h9, h8, q⟩ := h
    have nd := scLc.nd
    refine ⟨_, PSs.nox (pss_cons (ps_for PassesOwn.never rfl (pi_range1 rfl mrng (pa_cons (pe_callB (call_lenK K) (by rfl) mlen boot_len (pa_cons (pe_ix ix_list (pv 0) pe_int (fun _ _ => rfl)) pa_nil)) pa_nil)) (pg_name (i := 2) nd rfl (.inl rfl))
        (pss_one (ps_if (pt_not (pt_val (pe_call GR hr rfl gR kR bR .nil pass0 (pa_cons (pe_ix (ixT K) (pe_ix ix_list (pv 0) pe_int (fun _ _ => rfl)) (pv 2) (fun _ _ => rfl)) (pa_cons (pv 1) pa_nil))))) (pss_one (ps_ret (pv 2))) pss_nil)))
      (pss_one (ps_ret pe_non))), ?_⟩
    obtain ⟨r', xs, e0, hx, dx, hxl⟩ := tup_len dr
    cases e0
    rw [List.length_map] at hxl
    refine ⟨_, rfl, c, _, 1, _, rfl, rfl, SqL.of hc, atI_nat (j := 1) rfl, _, rs.length, rfl, .inr ⟨_, hx, hxl.symm⟩, ?_⟩
    refine ⟨_, rfl, by omega, by omega, ?_⟩
    have lgn : ((rs.length : Nat) : Int).toNat = rs.length := rfl
    refine for_it (walk_range (lo := 0) (n := ((rs.length : Nat) : Int).toNat)) (fun k σ' H' => Same H H' ∧ (∃ o2, σ' = [some (.ref c), some v, o2]) ∧ ∀ j r', j < k → rs[j]? = some r' → CanF r' fss)
      ⟨fun _ _ e => e, ⟨_, rfl⟩, fun j r' h => by omega⟩ (fun _ _ _ _ _ => trivial) ?_ (fun σ' H' y => ?_)
    · rintro k z _ H2 H2x hk ⟨s2, ⟨o2, rfl⟩, all⟩ ⟨e2, hz⟩
      subst e2
      have hk' : k < rs.length := by omega
      have ez : z = .int ((k : Nat) : Int) := by
        rw [hz]
        show V.int (0 + ((k : Nat) : Int)) = _
        rw [Int.zero_add]
      subst ez
      clear hz
      have hxk := List.getElem?_eq_getElem (show k < xs.length by omega)
      have dR := rows_get (dx.same s2) hk' hxk
      have hrk := List.getElem?_eq_getElem hk'
      refine ⟨_, rfl, c, _, 1, _, rfl, rfl, SqL.of (s2 _ _ hc), atI_nat (j := 1) rfl, _, rfl, r, _, (k : Nat), _, rfl, rfl, same_sqt s2 hx, atI_nat (j := k) hxk, _, rfl, _, _, rs[k], fss, m, rfl, dR, hR _ (List.getElem_mem hk'), dv.same s2, few, m3, h9, fun H3 b s3 hb => ⟨_, rfl, ?_⟩⟩
      have s23 := s2.trans s3
      cases b
      · have no : ¬ CanF rs[k] fss := fun h => Bool.false_ne_true (hb.mpr h)
        exact iteT ⟨_, rfl, q H3 _ s23 (.inr ⟨k, _, rfl, hrk, no, all⟩)⟩
      · refine iteF ⟨s23, ⟨_, rfl⟩, fun j r' hj hr' => ?_⟩
        by_cases e : j = k
        · subst e
          rw [hrk] at hr'
          cases hr'
          exact hb.mp rfl
        · exact all j r' (by omega) hr'
    · obtain ⟨s2, ⟨o2, rfl⟩, all⟩ := y
      rw [lgn] at all
      refine q _ _ s2 (.inl ⟨rfl, fun r' hr' => ?_⟩)
      obtain ⟨i, hi⟩ := List.mem_iff_getElem?.mp hr'
      exact all i r' (List.getElem?_eq_some_iff.mp hi).1 hi
end
theorem due_one {rs : List Rw} {fss : Fss} {v v' : V} (h : DueT rs fss v) (h' : DueT rs fss v') : v = v' := by
  rcases h with ⟨rfl, a⟩ | ⟨i, r, rfl, h1, h2, h3⟩ <;> rcases h' with ⟨rfl, a'⟩ | ⟨i', r', rfl, h1', h2', h3'⟩
  · rfl
  · exact (h2' (a _ (List.mem_of_getElem? h1'))).elim
  · exact (h2 (a' _ (List.mem_of_getElem? h1))).elim
  · rcases Nat.lt_trichotomy i i' with g | g | g
    · exact (h2 (h3' i r g h1)).elim
    · rw [g]
    · exact (h2' (h3 i' r' g h1')).elim
end Ca
set_option Elab.async false
set_option linter.all false
set_option maxRecDepth 100000
set_option maxHeartbeats 4000000
namespace Ca
open PySem L2 LamX
/-! ### data whose lists stand apart from some places -/
mutual
inductive DrP (K : PySem.W.Frag) (S : Addr → Prop) (H : Hp) : V → PyData → Prop
  | non : DrP K S H .non .none
  | bl (b : Bool) : DrP K S H (.bl b) (.bool b)
  | int (i : Int) : DrP K S H (.int i) (.int i)
  | str (x : Str) (h : x.length ≤ 1000) : DrP K S H (.str x) (.str x)
  | lst {a : Addr} {xs : List V} {ds : List PyData} : ¬ S a → SqL K H a xs → DrPs K S H xs ds → DrP K S H (.ref a) (.list ds)
  | tup {a : Addr} {xs : List V} {ds : List PyData} : SqT K H a xs → DrPs K S H xs ds → DrP K S H (.ref a) (.tuple ds)
  | dic {a : Addr} : H a = some (.dK []) → DrP K S H (.ref a) (.dict [])
inductive DrPs (K : PySem.W.Frag) (S : Addr → Prop) (H : Hp) : List V → List PyData → Prop
  | nil : DrPs K S H [] []
  | cons {v : V} {vs : List V} {d : PyData} {ds : List PyData} : DrP K S H v d → DrPs K S H vs ds → DrPs K S H (v :: vs) (d :: ds)
end
mutual
theorem DrP.but {K : PySem.W.Frag} {S : Addr → Prop} {H H' : Hp} {l : Addr} {ys : List V} (hS : S l) (hl : H l = some (.lst ys)) (k : KeptN l H H') : ∀ {d : PyData} {v : V}, DrP K S H v d → DrP K S H' v d
  | .none, _, h => by cases h; exact .non
  | .bool b, _, h => by cases h; exact .bl b
  | .int i, _, h => by cases h; exact .int i
  | .str x, _, h => by cases h with | str _ a => exact .str x a
  | .list ds, _, h => by
    cases h with
    | lst n a b => exact .lst n (sql_butN (fun z => n (z ▸ hS)) k a) (DrPs.but hS hl k b)
  | .tuple ds, _, h => by
    cases h with
    | tup a b => exact .tup (sqt_butN hl k a) (DrPs.but hS hl k b)
  | .dict ds, _, h => by
    cases h with
    | dic a => exact .dic (k _ _ (fun z => by rw [z, hl] at a; cases a) a fun _ z => nomatch z)
theorem DrPs.but {K : PySem.W.Frag} {S : Addr → Prop} {H H' : Hp} {l : Addr} {ys : List V} (hS : S l) (hl : H l = some (.lst ys)) (k : KeptN l H H') : ∀ {ds : List PyData} {vs : List V}, DrPs K S H vs ds → DrPs K S H' vs ds
  | [], _, h => by cases h; exact .nil
  | d :: ds, _, h => by
    cases h with
    | cons a b => exact .cons (DrP.but hS hl k a) (DrPs.but hS hl k b)
end
mutual
theorem DrP.extN {K : PySem.W.Frag} {S : Addr → Prop} {H H' : Hp} (k : ExtN H H') : ∀ {d : PyData} {v : V}, DrP K S H v d → DrP K S H' v d
  | .none, _, h => by cases h; exact .non
  | .bool b, _, h => by cases h; exact .bl b
  | .int i, _, h => by cases h; exact .int i
  | .str x, _, h => by cases h with | str _ a => exact .str x a
  | .list ds, _, h => by
    cases h with
    | lst n a b => exact .lst n (seqL_ext k a) (DrPs.extN k b)
  | .tuple ds, _, h => by
    cases h with
    | tup a b => exact .tup (seqT_ext k a) (DrPs.extN k b)
  | .dict ds, _, h => by
    cases h with
    | dic a => exact .dic (k _ _ a fun _ z => nomatch z)
theorem DrPs.extN {K : PySem.W.Frag} {S : Addr → Prop} {H H' : Hp} (k : ExtN H H') : ∀ {ds : List PyData} {vs : List V}, DrPs K S H vs ds → DrPs K S H' vs ds
  | [], _, h => by cases h; exact .nil
  | d :: ds, _, h => by
    cases h with
    | cons a b => exact .cons (DrP.extN k a) (DrPs.extN k b)
end
mutual
theorem DrP.sub {K : PySem.W.Frag} {S S' : Addr → Prop} {H : Hp} (i : ∀ a, S' a → S a) : ∀ {d : PyData} {v : V}, DrP K S H v d → DrP K S' H v d
  | .none, _, h => by cases h; exact .non
  | .bool b, _, h => by cases h; exact .bl b
  | .int i, _, h => by cases h; exact .int i
  | .str x, _, h => by cases h with | str _ a => exact .str x a
  | .list ds, _, h => by
    cases h with
    | lst n a b => exact .lst (fun z => n (i _ z)) a (DrPs.sub i b)
  | .tuple ds, _, h => by
    cases h with
    | tup a b => exact .tup a (DrPs.sub i b)
  | .dict ds, _, h => by
    cases h with
    | dic a => exact .dic a
theorem DrPs.sub {K : PySem.W.Frag} {S S' : Addr → Prop} {H : Hp} (i : ∀ a, S' a → S a) : ∀ {ds : List PyData} {vs : List V}, DrPs K S H vs ds → DrPs K S' H vs ds
  | [], _, h => by cases h; exact .nil
  | d :: ds, _, h => by
    cases h with
    | cons a b => exact .cons (DrP.sub i a) (DrPs.sub i b)
end
mutual
theorem DrP.dq {K : PySem.W.Frag} {S : Addr → Prop} {H : Hp} : ∀ {d : PyData} {v : V}, DrP K S H v d → Dq K H v d
  | .none, _, h => by cases h; exact .non
  | .bool b, _, h => by cases h; exact .bl b
  | .int i, _, h => by cases h; exact .int i
  | .str x, _, h => by cases h with | str _ a => exact .str x a
  | .list ds, _, h => by
    cases h with
    | lst n a b => exact .lst a (DrPs.dq b)
  | .tuple ds, _, h => by
    cases h with
    | tup a b => exact .tup a (DrPs.dq b)
  | .dict ds, _, h => by
    cases h with
    | dic a => exact .dic a
theorem DrPs.dq {K : PySem.W.Frag} {S : Addr → Prop} {H : Hp} : ∀ {ds : List PyData} {vs : List V}, DrPs K S H vs ds → DqAll K H vs ds
  | [], _, h => by cases h; exact .nil
  | d :: ds, _, h => by
    cases h with
    | cons a b => exact .cons (DrP.dq a) (DrPs.dq b)
end
theorem DrP.same {K : PySem.W.Frag} {S : Addr → Prop} {H H' : Hp} {d : PyData} {v : V} (h : DrP K S H v d) (s : Same H H') : DrP K S H' v d := h.extN (same_extN s)
theorem DrPs.same {K : PySem.W.Frag} {S : Addr → Prop} {H H' : Hp} {ds : List PyData} {vs : List V} (h : DrPs K S H vs ds) (s : Same H H') : DrPs K S H' vs ds := h.extN (same_extN s)
theorem DrPs.get {K : PySem.W.Frag} {S : Addr → Prop} {H : Hp} : ∀ {vs : List V} {ds : List PyData} {i : Nat} {v : V}, DrPs K S H vs ds → vs[i]? = some v → ∃ d, ds[i]? = some d ∧ DrP K S H v d
  | _, _, 0, _, .cons a _, e => by
    cases e
    exact ⟨_, rfl, a⟩
  | _, _, i + 1, _, .cons _ t, e => t.get (i := i) e
theorem DrPs.len {K : PySem.W.Frag} {S : Addr → Prop} {H : Hp} : ∀ {vs : List V} {ds : List PyData}, DrPs K S H vs ds → vs.length = ds.length
  | _, _, .nil => rfl
  | _, _, .cons _ t => congrArg Nat.succ t.len
theorem DrPs.app {K : PySem.W.Frag} {S : Addr → Prop} {H : Hp} : ∀ {vs ws : List V} {ds es : List PyData}, DrPs K S H vs ds → DrPs K S H ws es → DrPs K S H (vs ++ ws) (ds ++ es)
  | _, _, _, _, .nil, h => h
  | _, _, _, _, .cons a t, h => .cons a (t.app h)
end Ca
set_option Elab.async false
set_option linter.all false
set_option maxRecDepth 100000
set_option maxHeartbeats 8000000
namespace Ca
open PySem L2
/-! ### a drawn fraction within a stretch -/
theorem dq_kept {K : PySem.W.Frag} {l : Addr} {H H' : Hp} {v : V} {d : PyData} (u : Urn H l) (k : Kept l H H') (n : noL d = true) (h : Dq K H v d) : Dq K H' v d := by
  obtain ⟨ys, hl⟩ := urn_lst u
  exact (Dr.but hl k.n (dr_of n h)).dq
section
variable {P : Program} {w : World} {K : PySem.W.Frag} {mg : Str → Option Value} {base : Heap}
end
end Ca
set_option Elab.async false
set_option linter.all false
set_option maxRecDepth 100000
set_option maxHeartbeats 8000000
namespace Ca
open PySem L2
/-! ### a drawn member -/
theorem dqs_upd {K : PySem.W.Frag} {D : Addr} {H : Hp} {vs xs ys : List V} {ds : List PyData} (hD : H D = some (.lst xs)) (n : noLs ds = true) (h : DqAll K H vs ds) : DqAll K (upd H D (.lst ys)) vs ds := by
  have k : Kept D H (upd H D (.lst ys)) := fun b o ne e => by rw [upd_ne ne]; exact e
  exact (DrAll.but hD k.n (drAll_of n h)).dq
section
variable {P : Program} {w : World} {K : PySem.W.Frag} {mg : Str → Option Value} {base : Heap}
end
end Ca
set_option Elab.async false
set_option linter.all false
set_option maxRecDepth 100000
set_option maxHeartbeats 8000000
namespace Ca
open PySem L2
/-! ### whether an answer is one of a member, by the law -/
def lessQ (fs : List (Int × Int)) (e : Mem) : Bool := decide (qv e.2 < dotF e.1 fs)
def isOfB (fs : List (Int × Int)) (es : List Mem) : Bool := !((es.map (lessQ fs)).any id)
theorem isOf_iff {fs : List (Int × Int)} {es : List Mem} : isOfB fs es = true ↔ ∀ e ∈ es, dotF e.1 fs ≤ qv e.2 := by
  unfold isOfB
  rw [Bool.not_eq_true', List.any_eq_false]
  constructor
  · intro h e he
    have := h (lessQ fs e) (List.mem_map_of_mem he)
    exact Rat.not_lt.mp fun k => this (decide_eq_true k)
  · intro h b hb
    obtain ⟨e, he, rfl⟩ := List.mem_map.mp hb
    intro k
    exact absurd (h e he) (Rat.not_le.mpr (of_decide_eq_true k))
structure MemS (es : List Mem) (n : Nat) : Prop where
  few : es.length ≤ 6
  len : ∀ e ∈ es, e.1.length = n
  sm : ∀ e ∈ es, ∀ g ∈ e.1, FrS 1020 g
  sb : ∀ e ∈ es, FrS 1020 e.2
theorem MemOk.s {rs : List Rw} {es : List Mem} {m : Nat} (h : MemOk rs es) (hL : Lines rs m) : MemS es m := by
  have r6 := hL.hi
  have g : ∀ e ∈ es, ∃ r, r ∈ rs ∧ MemR r e := fun e he => by
    obtain ⟨i, hi⟩ := List.mem_iff_getElem?.mp he
    have il := (List.getElem?_eq_some_iff.mp hi).1
    rw [h.len] at il
    exact ⟨rs[i], List.getElem_mem il, h.ok i _ e (List.getElem?_eq_getElem il) hi⟩
  refine ⟨by rw [h.len]; exact r6, fun e he => ?_, fun e he => ?_, fun e he => ?_⟩
  · obtain ⟨r, hr, k⟩ := g e he
    rw [k.len]
    exact (row_name (hL.ok r hr)).2
  · obtain ⟨r, hr, k⟩ := g e he
    exact k.sm
  · obtain ⟨r, hr, k⟩ := g e he
    exact k.sb
def spLOf (K : PySem.W.Frag) : Sp := fun vs H Q _ => ∃ v y es fs, vs = [v, y] ∧ Dq K H v (memsD es) ∧ Dq K H y (frsD fs) ∧ fs.length ≤ 3 ∧ (∀ f ∈ fs, FrS 10 f) ∧ MemS es fs.length ∧ ∀ H', Same H H' → Q (.bl (isOfB fs es)) H'
theorem mems_get {K : PySem.W.Frag} {H : Hp} {xs : List V} {es : List Mem} {k : Nat} {v : V} (h : DqAll K H xs (es.map mbD)) (hk : k < es.length) (hv : xs[k]? = some v) : Dq K H v (mbD es[k]) := by
  obtain ⟨d, hd, dq⟩ := h.get hv
  rw [List.getElem?_map, List.getElem?_eq_getElem hk] at hd
  cases hd
  exact dq
abbrev NLof : List Str := ["_law_member_here", "_law_told", "_law_numbers_here", "_law_bound"]
section
variable {P : Program} {w : World} {K : PySem.W.Frag} {mg : Str → Option Value} {base : Heap}
theorem scLOf : FnScope NLof ["_law_member_here", "_law_told"] (defScope sLawIsOf) := ⟨rfl, rfl, rfl, by decide +kernel, rfl, by decide +kernel, by decide +kernel⟩
theorem ok_lOf {f fL fS : Addr} {fd fdL fdS : FuncData} (F : FnT K "_law_is_of" sLawIsOf f fd) (many : mg "any" = none)
    (gL : mg "_law_is_less" = some (.ref fL)) (GL : FnOk P w K mg base CX0 1 fL fdL ["_law_one_here", "_law_two_here"] (spLLess K)) (kL : PySem.W.keepIn K (.ref fL) = true) (bL : Binds K fdL ["_law_one_here", "_law_two_here"] [])
    (gS : mg "_law_sum" = some (.ref fS)) (GS : FnOk P w K mg base CX0 3 fS fdS ["_law_numbers_here", "_law_told"] (spSumT K)) (kS : PySem.W.keepIn K (.ref fS) = true) (bS : Binds K fdS ["_law_numbers_here", "_law_told"] []) :
    FnOk P w K mg base CX0 4 f fd ["_law_member_here", "_law_told"] (spLOf K) := by
  refine F.ok scLOf (fun vs H Q E h => ?_) (fun cdv A outer s H vs Q E hr h => ?_)
  · obtain ⟨v, y, es, fs, rfl, _⟩ := h
    rfl
  · obtain ⟨v, y, es, fs, rfl, dv, dy, l3, hf, hS, q⟩ := h
    have nd := scLOf.nd
    have hr1 : Room 1 _ := hr.mono (by decide)
    refine ⟨_, PSs.nox (pss_one (ps_ret (pe_not (pe_callB (cr_any rfl) (by rfl) many PyProof.Rows.boot_any (pa_cons (pe_lc (own := [("_law_numbers_here", 2), ("_law_bound", 3)]) (g := gTup K 2 (gCons (gName 2) (gCons (gName 3) gNil))) (tt := tYes) rfl nd (pi_tup (pv 0))
        (blkOk_by (own := [("_law_numbers_here", 2), ("_law_bound", 3)]) (N := NLof) (sc := defScope sLawIsOf) (by decide +kernel))
        (fun _ _ _ _ _ => pgT K rfl (pgs_cons (pg_name (i := 2) nd rfl (Or.inl rfl)) (pgs_cons (pg_name (i := 3) nd rfl (Or.inl rfl)) pgs_nil))) (fun _ _ _ _ _ => pts_nil)
        (fun _ _ _ _ _ => pe_call GL hr1 rfl gL kL bL .nil pass0 (pa_cons (pv 3) (pa_cons (pe_call GS hr rfl gS kS bS .nil pass0 (pa_cons (pv 2) (pa_cons (pv 1) pa_nil))) pa_nil)))) pa_nil))))), ?_⟩
    obtain ⟨a, xs, rfl, ha, dx, hl⟩ := tup_len dv
    rw [List.length_map] at hl
    refine ⟨_, rfl, a, rfl, ⟨_, ha⟩, fun D hD => ?_⟩
    refine lc_it (walk_tup (K := K) (a := a) (xs := xs)) (fun k H' => Same H H' ∧ H' D = some (.lst (((es.take k).map (lessQ fs)).map V.bl))) ⟨Same.new hD, upd_same⟩ (fun k H' hk p => same_sqt p.1 ha) ?_ ?_
    · rintro k z H2 H2x hk ⟨s2, bD⟩ ⟨e2, hz⟩
      subst e2
      rw [hl] at hk
      have de := mems_get (dx.same s2) hk hz
      have lene := hS.len _ (List.getElem_mem hk)
      have sme := hS.sm _ (List.getElem_mem hk)
      have sbe := hS.sb _ (List.getElem_mem hk)
      have etk : es.take (k + 1) = es.take k ++ [es[k]] := by
        rw [List.take_succ, List.getElem?_eq_getElem hk]
        rfl
      generalize es[k] = e at de lene sme sbe etk
      obtain ⟨pa, x, b, rfl, hpa, dg, db⟩ := mem_at de
      obtain ⟨g, gvs, rfl, hg, dgs, _⟩ := tup_len dg
      refine ⟨pa, _, rfl, hpa, rfl, _, _, rfl, _, _, rfl, rfl, rfl, rdYes ?_⟩
      refine ⟨_, rfl, _, rfl, _, rfl, g, y, gvs, e.1, fs, 1020, 10, rfl, hg, dgs, dy.same s2, lene, l3, sme, hf, by decide, fun H3 z t s3 dz ft et => ?_⟩
      refine ⟨b, z, e.2, t, 1020, 3094, rfl, db.same s3, dz, sbe, ft, by decide, ?_⟩
      rw [et]
      refine ⟨_, s3 _ _ bD, ?_, fun b' o eb => ?_, ?_⟩
      · rw [List.length_map, List.length_map, List.length_take]
        exact Nat.lt_of_le_of_lt (Nat.le_trans (Nat.min_le_right ..) hS.few) (by decide)
      · rw [upd_ne (ne_of_none eb hD)]
        exact s3 _ _ (s2 _ _ eb)
      · rw [upd_same, etk, List.map_append, List.map_append]
        rfl
    · rintro H2 ⟨s2, bD⟩
      rw [hl, List.take_length] at bD
      exact ⟨D, es.map (lessQ fs), rfl, SqL.of bD, _, rfl, q H2 s2⟩
end
end Ca
set_option Elab.async false
set_option linter.all false
set_option maxRecDepth 100000
set_option maxHeartbeats 8000000
namespace Ca
open PySem L2
/-! ### answers of a member: they fit, and what is told has them -/
def OfAll (es : List Mem) (fss : Fss) : Prop := ∀ fs ∈ fss, ∀ e ∈ es, dotF e.1 fs ≤ qv e.2
theorem dotF_Q {ns fs : List (Int × Int)} : dotF ns fs = dotQ (fun j => qv (ns.getD j (0, 1))) fs ns.length := rfl
theorem fit_mem {r : Rw} {fss : Fss} {gs : List (Int × Int)} {m : Nat} (hR : isRowD (rowD r) m = true) (hm : m ≤ 3) (ho : SeenOk fss m) (h : FitP r fss gs) : MemR r (gs, (r.bd.2, 1)) ∧ ∀ fs ∈ fss, dotF gs fs ≤ qv (r.bd.2, 1) := by
  have hl := (row_name hR).2
  have RP := row_pairs hR
  have hs := fit_frs hR hm ho h
  have len := fit_len h
  obtain ⟨h1, h2⟩ := fitP_q (by rw [hl]; exact ho) h
  obtain ⟨b1, b2, b3⟩ := RP _ (List.mem_append_right _ (List.mem_singleton.mpr rfl))
  refine ⟨⟨len, hs, ⟨by show (0 : Int) < 1; decide, ?_, Nat.one_lt_two_pow (by decide), by show Nat.gcd _ 1 = 1; exact Nat.gcd_one_right _⟩, fun j g p hg hp => ?_, ?_⟩, fun fs hfs => ?_⟩
  · refine Nat.lt_of_lt_of_le (show r.bd.2.natAbs < 2 ^ 14 from ?_) (Nat.pow_le_pow_right (by decide) (by decide))
    show _ < 16384
    omega
  · obtain ⟨jg, eg⟩ := List.getElem?_eq_some_iff.mp hg
    obtain ⟨jp, ep⟩ := List.getElem?_eq_some_iff.mp hp
    have this : lowQ r j ≤ qv (gs.getD j (0, 1)) ∧ qv (gs.getD j (0, 1)) ≤ highQ r j := h1 j jp
    unfold lowQ highQ at this
    rw [List.getD_eq_getElem?_getD, hp, List.getD_eq_getElem?_getD, hg] at this
    exact this
  · show ((r.bd.1 : Int) : Rat) ≤ qv (r.bd.2, 1) ∧ qv (r.bd.2, 1) ≤ ((r.bd.2 : Int) : Rat)
    rw [qv_int]
    exact ⟨by exact_mod_cast b2, Rat.le_refl⟩
  · rw [qv_int, dotF_Q, len]
    exact h2 fs hfs
theorem mem_build {K : PySem.W.Frag} {H : Hp} {R : Rw → Mem → Prop} : ∀ {rs : List Rw} {vs : List V}, vs.length = rs.length → (∀ (i : Nat) (u : V) (r : Rw), vs[i]? = some u → rs[i]? = some r → ∃ e, Dq K H u (mbD e) ∧ R r e) →
    ∃ es : List Mem, es.length = rs.length ∧ DqAll K H vs (es.map mbD) ∧ ∀ (i : Nat) (r : Rw) (e : Mem), rs[i]? = some r → es[i]? = some e → R r e
  | [], [], _, _ => ⟨[], rfl, .nil, fun i r e h _ => nomatch (List.getElem?_nil.symm.trans h : (none : Option Rw) = some r)⟩
  | r :: rs, u :: vs, hl, h => by
    obtain ⟨e, d, k⟩ := h 0 u r rfl rfl
    obtain ⟨es, l, ds, ks⟩ := mem_build (rs := rs) (vs := vs) (Nat.succ.inj hl) fun i u' r' h1 h2 => h (i + 1) u' r' h1 h2
    refine ⟨e :: es, congrArg Nat.succ l, .cons d ds, fun i r' e' h1 h2 => ?_⟩
    cases i with
    | zero =>
      cases h1
      cases h2
      exact k
    | succ i => exact ks i r' e' h1 h2
theorem fitg_mem {K : PySem.W.Frag} {rs : List Rw} {fss : Fss} {H : Hp} {v : V} {m : Nat} (hL : Lines rs m) (hm : m ≤ 3) (ho : SeenOk fss m) (un : ∀ r ∈ rs, ¬ UnfitP r fss) (h : FitgT K rs fss H v) : ∃ es, Dq K H v (memsD es) ∧ MemOk rs es ∧ OfAll es fss := by
  rcases h with ⟨_, r, hr, u⟩ | ⟨_, y, vs, rfl, hy, hl, hv⟩
  · exact absurd u (un r hr)
  · obtain ⟨es, l, ds, ks⟩ := mem_build (K := K) (H := H) (R := fun r e => MemR r e ∧ ∀ fs ∈ fss, dotF e.1 fs ≤ qv e.2) hl fun i u r hu hr => by
      obtain ⟨p, g, b, rfl, hp, ft, db⟩ := hv i u r hu hr
      have hrm := List.mem_of_getElem? hr
      rcases ft with ⟨_, uu⟩ | ⟨gs, dg, fp⟩
      · exact absurd uu (un r hrm)
      · exact ⟨(gs, (r.bd.2, 1)), .tup hp (.cons dg (.cons db .nil)), fit_mem (hL.ok r hrm) hm ho fp⟩
    refine ⟨es, .tup hy ds, ⟨l, fun i r e h1 h2 => (ks i r e h1 h2).1⟩, fun fs hfs e he => ?_⟩
    obtain ⟨i, hi⟩ := List.mem_iff_getElem?.mp he
    have il := (List.getElem?_eq_some_iff.mp hi).1
    rw [l] at il
    exact (ks i rs[i] e (List.getElem?_eq_getElem il) hi).2 fs hfs
theorem ofAll_iff {es : List Mem} {fss : Fss} : OfAll es fss ↔ ∀ fs ∈ fss, isOfB fs es = true := ⟨fun h fs hf => isOf_iff.mpr (h fs hf), fun h fs hf => isOf_iff.mp (h fs hf)⟩
end Ca
set_option Elab.async false
set_option linter.all false
set_option maxRecDepth 100000
set_option maxHeartbeats 4000000
namespace Ca.Det
/-! ### an exchange is one only; so is the last state -/
section
variable {V : Nat → Col} {m n : Nat} {S S1 S2 S0 : Sta} {i j b f i' j' b' f' t t' : Nat}
theorem Step.wrongB (s : Step m n S S1 i j b f) (w : ByRow m n S i j b f) : Wrong m n S b := .inl ⟨i, s.hb, w.1⟩
theorem Step.wrongF (s : Step m n S S1 i j b f) (w : ByCol m n S i j b f) : Wrong m n S f := .inr ⟨j, s.hf, w.1⟩
theorem at_one {l : List Nat} {i j q : Nat} (nd : l.Nodup) (h1 : l[i]? = some q) (h2 : l[j]? = some q) : i = j :=
  (List.getElem?_inj (List.getElem?_eq_some_iff.mp h1).1 nd).mp (by rw [h1, h2])
theorem Step.one (o : Ok V m n S) (a : Step m n S S1 i j b f) (c : Step m n S S2 i' j' b' f') : S1 = S2 := by
  have hb := a.hb
  have hf := a.hf
  have hb' := c.hb
  have hf' := c.hf
  have mb := List.mem_of_getElem? hb
  have mf := List.mem_of_getElem? hf
  have mb' := List.mem_of_getElem? hb'
  have mf' := List.mem_of_getElem? hf'
  have key : i = i' ∧ j = j' ∧ b = b' ∧ f = f' := by
    rcases a.way with w | w <;> rcases c.way with w' | w'
    · have e1 : b = b' := Nat.le_antisymm (w.2.2.1 _ (c.wrongB w')) (w'.2.2.1 _ (a.wrongB w))
      subst e1
      have e2 := at_one o.bsnd hb hb'
      subst e2
      have e3 : f = f' := Nat.le_antisymm (w.2.2.2 j' f' hf' w'.2.1) (w'.2.2.2 j f hf w.2.1)
      subst e3
      exact ⟨rfl, at_one o.fsnd hf hf', rfl, rfl⟩
    · have e1 : b = f' := Nat.le_antisymm (w.2.2.1 _ (c.wrongF w')) (w'.2.2.1 _ (a.wrongB w))
      subst e1
      exact (o.apart mb mf').elim
    · have e1 : f = b' := Nat.le_antisymm (w.2.2.1 _ (c.wrongB w')) (w'.2.2.1 _ (a.wrongF w))
      subst e1
      exact (o.apart mb' mf).elim
    · have e1 : f = f' := Nat.le_antisymm (w.2.2.1 _ (c.wrongF w')) (w'.2.2.1 _ (a.wrongF w))
      subst e1
      have e2 := at_one o.fsnd hf hf'
      subst e2
      have e3 : b = b' := Nat.le_antisymm (w.2.2.2 i' b' hb' w'.2.1) (w'.2.2.2 i b hb w.2.1)
      subst e3
      exact ⟨at_one o.bsnd hb hb', rfl, rfl, rfl⟩
  obtain ⟨rfl, rfl, rfl, rfl⟩ := key
  rw [a.to, c.to]
def Final (m n : Nat) (S : Sta) : Prop := ∀ S' i j b f, ¬ Step m n S S' i j b f
theorem final_settled (h : ∀ q, ¬ Wrong m n S q) : Final m n S := fun S' i j b f s => by
  rcases s.way with w | w
  · exact h _ (s.wrongB w)
  · exact h _ (s.wrongF w)
theorem Reach.one (h : Reach V m n S0 t S1) (h' : Reach V m n S0 t' S2) (e : Final m n S1) (e' : Final m n S2) : S1 = S2 := by
  obtain ⟨s, a0, at', ao, as⟩ := h.ex
  obtain ⟨s', b0, bt, bo, bs⟩ := h'.ex
  have eq : ∀ u, u ≤ t → u ≤ t' → s u = s' u := fun u => by
    induction u with
    | zero => intro _ _; rw [a0, b0]
    | succ u ih =>
      intro h1 h2
      have e0 := ih (by omega) (by omega)
      obtain ⟨i, j, b, f, x⟩ := as u (by omega)
      obtain ⟨i', j', b', f', y⟩ := bs u (by omega)
      rw [← e0] at y
      exact Step.one (ao u (by omega)) x y
  rcases Nat.lt_trichotomy t t' with g | g | g
  · obtain ⟨i, j, b, f, y⟩ := bs t g
    rw [← eq t (Nat.le_refl _) (Nat.le_of_lt g), at'] at y
    exact (e _ _ _ _ _ y).elim
  · subst g
    rw [← at', ← bt]
    exact eq t (Nat.le_refl _) (Nat.le_refl _)
  · obtain ⟨i, j, b, f, y⟩ := as t' g
    rw [eq t' (Nat.le_of_lt g) (Nat.le_refl _), bt] at y
    exact (e' _ _ _ _ _ y).elim
end
end Ca.Det
namespace Ca
open PySem L2
theorem red1 {a b p q p' q' : Int} (h : Red a b p q) (h' : Red a b p' q') : p = p' ∧ q = q' := by
  obtain ⟨g, hg, e1, e2⟩ := h.ex
  obtain ⟨g', hg', e1', e2'⟩ := h'.ex
  have c : p * q' = p' * q := by
    refine Int.eq_of_mul_eq_mul_right (Int.ne_of_gt (Int.mul_pos hg hg')) ?_
    rw [show p * q' * (g * g') = (p * g) * (q' * g') from by rw [Int.mul_assoc, Int.mul_assoc, Int.mul_left_comm q'], show p' * q * (g * g') = (p' * g') * (q * g) from by rw [Int.mul_assoc, Int.mul_assoc, Int.mul_left_comm g', Int.mul_comm g g', Int.mul_left_comm q], e1, e2', e1', e2]
  have d1 : q.natAbs ∣ q'.natAbs := by
    refine Nat.Coprime.dvd_of_dvd_mul_left (m := p.natAbs) (show Nat.gcd q.natAbs p.natAbs = 1 by rw [Nat.gcd_comm]; exact h.cop) ?_
    rw [← Int.natAbs_mul, c, Int.natAbs_mul]
    exact Nat.dvd_mul_left _ _
  have d2 : q'.natAbs ∣ q.natAbs := by
    refine Nat.Coprime.dvd_of_dvd_mul_left (m := p'.natAbs) (show Nat.gcd q'.natAbs p'.natAbs = 1 by rw [Nat.gcd_comm]; exact h'.cop) ?_
    rw [← Int.natAbs_mul, ← c, Int.natAbs_mul]
    exact Nat.dvd_mul_left _ _
  have e := Nat.dvd_antisymm d1 d2
  have hq := h.pos
  have hq' := h'.pos
  have eq : q = q' := by omega
  subst eq
  exact ⟨Int.eq_of_mul_eq_mul_right (Int.ne_of_gt hq) c, rfl⟩
/-- two runs that end where nothing is wrong -/
theorem st_one {ls : List (List Int × Int)} {cs : List Int} {t t' : Tb} (h : StOf ls cs t) (h' : StOf ls cs t') (sh : Shp ls.length cs.length t) (sh' : Shp ls.length cs.length t') (no : ∀ q, ¬ WrongT ls.length cs.length t q) (no' : ∀ q, ¬ WrongT ls.length cs.length t' q) :
    ∃ S, Rep ls.length cs.length t S ∧ Rep ls.length cs.length t' S ∧ S.bs.Nodup ∧ S.bs.length = ls.length := by
  obtain ⟨S, rp, ok, τ, re⟩ := h
  obtain ⟨S', rp', ok', τ', re'⟩ := h'
  have e := re.one re' (Det.final_settled fun q w => no q ((rp.wrong sh).mpr w)) (Det.final_settled fun q w => no' q ((rp'.wrong sh').mpr w))
  subst e
  exact ⟨S, rp, rp', ok.bsnd, ok.bl⟩
theorem amt_one {n m : Nat} {t t' : Tb} {S : Det.Sta} {q : Nat} {p p' : Int × Int} (r : Rep m n t S) (r' : Rep m n t' S) (nd : S.bs.Nodup) (h : AmtOf n t m q p) (h' : AmtOf n t' m q p') : p = p' := by
  rcases h with ⟨l, hl, hq, rd⟩ | ⟨no, rfl⟩ <;> rcases h' with ⟨l', hl', hq', rd'⟩ | ⟨no', rfl⟩
  · rw [r.bs] at hq
    rw [r'.bs] at hq'
    have e := Det.at_one nd hq hq'
    subst e
    rw [r.T l n (Nat.le_of_lt hl) (Nat.le_refl _), r.D] at rd
    rw [r'.T l n (Nat.le_of_lt hl) (Nat.le_refl _), r'.D] at rd'
    obtain ⟨a, b⟩ := red1 rd rd'
    exact Prod.ext a b
  · exact (no' l hl (by rw [r'.bs, ← r.bs]; exact hq)).elim
  · exact (no l' hl' (by rw [r.bs, ← r'.bs]; exact hq')).elim
  · rfl
end Ca
set_option Elab.async false
set_option linter.all false
set_option maxRecDepth 100000
set_option maxHeartbeats 4000000
namespace Ca.Wd
open PySem L2
/-! ### repr of data of wide numbers -/
mutual
def wideD : PyData → Bool
  | .none | .bool _ => true
  | .int i => decide (i.natAbs < 2 ^ 1020)
  | .list ds | .tuple ds => wideDs ds
  | .str _ | .dict _ => false
def wideDs : List PyData → Bool
  | [] => true
  | d :: ds => wideD d && wideDs ds
end
mutual
def cntD : PyData → Nat
  | .list ds | .tuple ds => cntDs ds + 1
  | _ => 1
def cntDs : List PyData → Nat
  | [] => 0
  | d :: ds => cntD d + cntDs ds
end
theorem wid_log {i : Int} (h : i.natAbs < 2 ^ 1020) : i.natAbs.log2 < 1020 := by
  by_cases z : i.natAbs = 0
  · rw [z]
    decide
  · exact (Nat.log2_lt z).mpr h
mutual
theorem wide_of : ∀ d : PyData, wideD d = true → d.showable = true ∧ d.intsShort 312 = true ∧ d.canLay0 = true ∧ d.hasDict = false ∧ d.bulk + 1 ≤ cntD d
  | .none, _ => ⟨by simp only [PyData.showable], by simp only [PyData.intsShort], by simp only [PyData.canLay0], by simp only [PyData.hasDict], by simp only [PyData.bulk, cntD]; exact Nat.le_refl _⟩
  | .bool b, _ => ⟨by simp only [PyData.showable], by simp only [PyData.intsShort], by simp only [PyData.canLay0], by simp only [PyData.hasDict], by simp only [PyData.bulk, cntD]; exact Nat.le_refl _⟩
  | .int i, h => by
    simp only [wideD] at h
    have h' := of_decide_eq_true h
    have l := wid_log h'
    refine ⟨?_, ?_, by simp only [PyData.canLay0], by simp only [PyData.hasDict], ?_⟩
    · simp only [PyData.showable]
      exact decide_eq_true (by omega)
    · simp only [PyData.intsShort, PyData.shown]
      refine decide_eq_true ?_
      rw [PySem.ofString_length]
      exact PySem.int_text_length_le10 (a := i) (k := 311) (by decide) (Nat.lt_of_lt_of_le h' (by decide +kernel))
    · simp only [PyData.bulk, cntD]
      exact Nat.le_refl _
  | .str x, h => by simp only [wideD] at h; cases h
  | .dict x, h => by simp only [wideD] at h; cases h
  | .list ds, h => by
    simp only [wideD] at h
    obtain ⟨a, b, c, e, f⟩ := wide_ofs ds h
    refine ⟨by simp only [PyData.showable]; exact a, by simp only [PyData.intsShort]; exact b, by simp only [PyData.canLay0]; exact c, by simp only [PyData.hasDict]; exact e, ?_⟩
    simp only [PyData.bulk, cntD]
    omega
  | .tuple ds, h => by
    simp only [wideD] at h
    obtain ⟨a, b, c, e, f⟩ := wide_ofs ds h
    refine ⟨by simp only [PyData.showable]; exact a, by simp only [PyData.intsShort]; exact b, by simp only [PyData.canLay0]; exact c, by simp only [PyData.hasDict]; exact e, ?_⟩
    simp only [PyData.bulk, cntD]
    omega
theorem wide_ofs : ∀ ds : List PyData, wideDs ds = true → PyData.showableAll ds = true ∧ PyData.intsShortAll 312 ds = true ∧ PyData.canLayAll0 ds = true ∧ PyData.hasDictAll ds = false ∧ PyData.bulkAll ds ≤ cntDs ds
  | [], _ => ⟨by simp only [PyData.showableAll], by simp only [PyData.intsShortAll], by simp only [PyData.canLayAll0], by simp only [PyData.hasDictAll], by simp only [PyData.bulkAll, cntDs]; exact Nat.le_refl _⟩
  | d :: ds, h => by
    simp only [wideDs, Bool.and_eq_true] at h
    obtain ⟨a, b, c, e, f⟩ := wide_of d h.1
    obtain ⟨a', b', c', e', f'⟩ := wide_ofs ds h.2
    refine ⟨by simp only [PyData.showableAll, a, a', Bool.and_self], by simp only [PyData.intsShortAll, b, b', Bool.and_self], by simp only [PyData.canLayAll0, c, c', Bool.and_self], by simp only [PyData.hasDictAll, e, e', Bool.or_self], ?_⟩
    simp only [PyData.bulkAll, cntDs]
    have : 1 ≤ cntD d := by
      cases d <;> simp only [cntD] <;> omega
    omega
end
/-- data of wide numbers, not too many, can be shown -/
theorem good_wide {K : PySem.W.Frag} {H : Hp} {v : V} {d : PyData} (h : Dq K H v d) (hw : wideD d = true) (hc : cntD d ≤ 300) (hd : d.depth ≤ 10) : Good K H v d := by
  obtain ⟨a, b, c, e, f⟩ := wide_of d hw
  have sz := PyData.shown_le_bulk 312 (by decide) d (PyData.leavesShort_of_canLay0 312 _ c b)
  refine ⟨.dat (dp_of e h) (Bool.and_eq_true_iff.mpr ⟨c, decide_eq_true (by omega)⟩), a, by omega, Nat.le_trans sz ?_⟩
  have : (312 + 2) * d.bulk ≤ 314 * 300 := Nat.mul_le_mul (Nat.le_refl _) (by omega)
  exact Nat.le_trans (Nat.add_le_add_right this 312) (by decide)
theorem fr_wide {f : Int × Int} (h1 : f.1.natAbs < 2 ^ 1020) (h2 : f.2.natAbs < 2 ^ 1020) : wideD (frD f) = true ∧ cntD (frD f) = 3 ∧ (frD f).depth = 1 := by
  unfold frD
  simp only [wideD, wideDs, cntD, cntDs, PyData.depth, PyData.depthAll]
  exact ⟨by rw [decide_eq_true h1, decide_eq_true h2]; rfl, by trivial, by trivial⟩
theorem frs_wide : ∀ {fs : List (Int × Int)}, (∀ f ∈ fs, f.1.natAbs < 2 ^ 1020 ∧ f.2.natAbs < 2 ^ 1020) → wideDs (fs.map frD) = true ∧ cntDs (fs.map frD) = 3 * fs.length ∧ PyData.depthAll (fs.map frD) ≤ 1
  | [], _ => ⟨by simp only [List.map_nil, wideDs], by simp only [List.map_nil, cntDs]; rfl, by simp only [List.map_nil, PyData.depthAll]; exact Nat.zero_le _⟩
  | f :: fs, h => by
    obtain ⟨a, b, c⟩ := frs_wide (fs := fs) fun g hg => h g (List.mem_cons_of_mem _ hg)
    obtain ⟨x, y⟩ := h f List.mem_cons_self
    obtain ⟨a', b', c'⟩ := fr_wide x y
    refine ⟨by simp only [List.map_cons, wideDs, a, a', Bool.and_self], by simp only [List.map_cons, cntDs, b, b', List.length_cons]; omega, by simp only [List.map_cons, PyData.depthAll, c']; omega⟩
/-- of wide numbers, so many, so deep -/
structure WideOk (d : PyData) (c n : Nat) : Prop where
  w : wideD d = true
  c : cntD d ≤ c
  d : d.depth ≤ n
theorem wok_none : WideOk .none 1 0 := ⟨by simp only [wideD], by simp only [cntD]; exact Nat.le_refl _, by simp only [PyData.depth]; exact Nat.le_refl _⟩
theorem wok_frs {fs : List (Int × Int)} (hw : ∀ f ∈ fs, f.1.natAbs < 2 ^ 1020 ∧ f.2.natAbs < 2 ^ 1020) {n : Nat} (hl : fs.length ≤ n) : WideOk (frsD fs) (3 * n + 1) 2 := by
  obtain ⟨a, b, c⟩ := frs_wide hw
  refine ⟨?_, ?_, ?_⟩
  · show wideD (.tuple _) = true
    simp only [wideD]
    exact a
  · show cntD (.tuple _) ≤ _
    simp only [cntD]
    omega
  · show PyData.depth (.tuple _) ≤ _
    simp only [PyData.depth]
    omega
theorem WideOk.mono {d : PyData} {c n c' n' : Nat} (h : WideOk d c n) (hc : c ≤ c') (hn : n ≤ n') : WideOk d c' n' := ⟨h.w, Nat.le_trans h.c hc, Nat.le_trans h.d hn⟩
theorem wok_two {d e : PyData} {c n c' : Nat} (h : WideOk d c n) (h' : WideOk e c' n) : WideOk (.tuple [d, e]) (c + c' + 1) (n + 1) ∧ WideOk (.list [d, e]) (c + c' + 1) (n + 1) := by
  have a := h.w
  have b := h'.w
  have x := h.c
  have y := h'.c
  have u := h.d
  have v := h'.d
  refine ⟨⟨?_, ?_, ?_⟩, ?_, ?_, ?_⟩
  all_goals simp only [wideD, wideDs, cntD, cntDs, PyData.depth, PyData.depthAll, a, b, Bool.and_self]
  all_goals omega
theorem wok_all {α : Type} {f : α → PyData} {c n : Nat} : ∀ {xs : List α}, (∀ x ∈ xs, WideOk (f x) c n) → wideDs (xs.map f) = true ∧ cntDs (xs.map f) ≤ c * xs.length ∧ PyData.depthAll (xs.map f) ≤ n
  | [], _ => ⟨by simp only [List.map_nil, wideDs], by simp only [List.map_nil, cntDs]; exact Nat.zero_le _, by simp only [List.map_nil, PyData.depthAll]; exact Nat.zero_le _⟩
  | x :: xs, h => by
    obtain ⟨a, b, e⟩ := wok_all (xs := xs) fun y hy => h y (List.mem_cons_of_mem _ hy)
    have k := h x List.mem_cons_self
    have w := k.w
    have k1 := k.c
    have k2 := k.d
    refine ⟨by simp only [List.map_cons, wideDs, w, a, Bool.and_self], ?_, ?_⟩
    · simp only [List.map_cons, cntDs, List.length_cons, Nat.mul_succ]
      omega
    · simp only [List.map_cons, PyData.depthAll]
      omega
theorem wok_tup {α : Type} {f : α → PyData} {c n m : Nat} {xs : List α} (h : ∀ x ∈ xs, WideOk (f x) c n) (hl : xs.length ≤ m) : WideOk (.tuple (xs.map f)) (c * m + 1) (n + 1) := by
  obtain ⟨a, b, e⟩ := wok_all h
  have : c * xs.length ≤ c * m := Nat.mul_le_mul_left _ hl
  refine ⟨?_, ?_, ?_⟩
  · simp only [wideD]
    exact a
  · simp only [cntD]
    omega
  · simp only [PyData.depth]
    omega
theorem good_wok {K : PySem.W.Frag} {H : Hp} {v : V} {d : PyData} {c n : Nat} (h : Dq K H v d) (w : WideOk d c n) (hc : c ≤ 300) (hn : n ≤ 10) : Good K H v d := good_wide h w.w (Nat.le_trans w.c hc) (Nat.le_trans w.d hn)
end Ca.Wd
set_option Elab.async false
set_option linter.all false
set_option maxRecDepth 100000
set_option maxHeartbeats 8000000
namespace Ca
open PySem L2
open Ca.Wd
/-! ### what is told of what was seen is told alike each time -/
theorem fitP_one {r : Rw} {fss : Fss} {gs gs' : List (Int × Int)} (h : FitP r fss gs) (h' : FitP r fss gs') : gs = gs' := by
  obtain ⟨l, t, sh, so, no, hg⟩ := h
  obtain ⟨l', t', sh', so', no', hg'⟩ := h'
  have lz : (zs r.parts.length).length = r.parts.length := List.length_replicate ..
  obtain ⟨S, rp, rp', nd, _⟩ := st_one so so' (by rw [lz]; exact sh) (by rw [lz]; exact sh') (by rw [lz]; exact no) (by rw [lz]; exact no')
  rw [lz] at rp rp'
  refine List.ext_getElem (by rw [l, l']) fun i h1 h2 => ?_
  obtain ⟨p, a, rd⟩ := hg i _ (List.getElem?_eq_getElem h1)
  obtain ⟨p', a', rd'⟩ := hg' i _ (List.getElem?_eq_getElem h2)
  have e := amt_one rp rp' nd a a'
  subst e
  obtain ⟨x, y⟩ := red1 rd rd'
  exact Prod.ext x y
theorem fewA_seen {fss : Fss} {m : Nat} (h : FewAll fss m) (h8 : fss.length ≤ 8) (m3 : m ≤ 3) : SeenOk fss m := ⟨h8, fun fs hf => ⟨few_sn (by rw [(h fs hf).1]; exact m3) (h fs hf).2, (h fs hf).1⟩⟩
theorem seenGo_none {m : Nat} : ∀ (ds : List PyData) (i : Nat), (∀ e ∈ ds, isAnsD e m = true) → i + ds.length ≤ 8 → seenGo m i ds = none
  | [], _, _, _ => rfl
  | e :: ds, i, ok, h => by
    rw [List.length_cons] at h
    rw [seenGo_cons, if_neg (by omega), if_neg (by rw [ok e (List.mem_cons_self ..)]; decide)]
    exact seenGo_none ds (i + 1) (fun x hx => ok x (List.mem_cons_of_mem _ hx)) (by omega)
theorem fewA_slip {fss : Fss} {m : Nat} (h : FewAll fss m) (h8 : fss.length ≤ 8) : seenSlip m (ansD fss) = none := by
  show (seenGo m 0 (fss.map frsD)).map some = none
  rw [seenGo_none _ 0 (fun e he => ?_) (by rw [List.length_map, Nat.zero_add]; exact h8)]
  · rfl
  · obtain ⟨fs, hf, rfl⟩ := List.mem_map.mp he
    obtain ⟨l, ff⟩ := h fs hf
    rw [← l]
    exact few_ans ff
section
variable {K : PySem.W.Frag} {rs : List Rw} {fss : Fss} {m : Nat}
theorem fit_can {r : Rw} {gs : List (Int × Int)} (hl : r.parts.length = m) (ho : SeenOk fss m) (h : FitP r fss gs) : CanF r fss := ⟨_, fitP_q (by rw [hl]; exact ho) h⟩
theorem unfit_can {r : Rw} (hl : r.parts.length = m) (ho : SeenOk fss m) (h : UnfitP r fss) : ¬ CanF r fss := fun ⟨a, ha⟩ => unfitP_q (by rw [hl]; exact ho) h a ha
theorem clash_due {H : Hp} {v : V} (hR : ∀ r ∈ rs, r.parts.length = m) (ho : SeenOk fss m) (h : ClashT rs fss H v) : DueT rs fss v := by
  rcases h with ⟨rfl, a⟩ | ⟨i, r, rfl, h1, h2, h3⟩
  · exact .inl ⟨rfl, fun r hr => have ⟨gs, hg⟩ := a r hr; fit_can (hR r hr) ho hg⟩
  · exact .inr ⟨i, r, rfl, h1, unfit_can (hR r (List.mem_of_getElem? h1)) ho h2, fun j r' hj hr' => have ⟨gs, hg⟩ := h3 j r' hj hr'; fit_can (hR r' (List.mem_of_getElem? hr')) ho hg⟩
theorem fits_due {H : Hp} {v d : V} (hR : ∀ r ∈ rs, r.parts.length = m) (ho : SeenOk fss m) (h : FitsT rs fss H v) (hd : DueT rs fss d) : v = .bl (decide (d = .non)) := by
  rcases hd with ⟨rfl, a⟩ | ⟨i, r, rfl, h1, h2, h3⟩
  · rw [decide_eq_true rfl]
    rcases h with ⟨e, _⟩ | ⟨_, r, hr, u⟩
    · exact e
    · exact (unfit_can (hR r hr) ho u (a r hr)).elim
  · rw [decide_eq_false (fun z => nomatch z)]
    rcases h with ⟨_, b⟩ | ⟨e, _⟩
    · have hr := List.mem_of_getElem? h1
      obtain ⟨gs, hg⟩ := b r hr
      exact (h2 (fit_can (hR r hr) ho hg)).elim
    · exact e
theorem wok_frs1 {fs : List (Int × Int)} (h : ∀ g ∈ fs, FrS 1020 g) (hl : fs.length ≤ 3) : WideOk (frsD fs) 10 2 := wok_frs (n := 3) (fun f hf => ⟨(h f hf).t, (h f hf).b⟩) hl
theorem wok_mems {es : List Mem} (hL : Lines rs m) (m3 : m ≤ 3) (ok : MemOk rs es) : WideOk (memsD es) 91 4 := by
  have l6 := hL.hi
  have ll := ok.len
  refine (wok_tup (f := mbD) (c := 15) (n := 3) (m := 6) (fun e he => ?_) (by omega)).mono (by decide) (by decide)
  obtain ⟨i, hi⟩ := List.mem_iff_getElem?.mp he
  have il := (List.getElem?_eq_some_iff.mp hi).1
  have hri := List.getElem?_eq_getElem (show i < rs.length by omega)
  have M := ok.ok i _ e hri hi
  have l3 : e.1.length ≤ 3 := by
    rw [M.len, (row_name (hL.ok _ (List.getElem_mem (show i < rs.length by omega)))).2]
    exact m3
  have f := fr_wide M.sb.t M.sb.b
  exact (wok_two (wok_frs1 M.sm l3) (⟨f.1, Nat.le_of_eq f.2.1, by rw [f.2.2]; decide⟩ : WideOk (frD e.2) 3 2)).1.mono (by decide) (by decide)
theorem fitg_one {H H' : Hp} {v v' : V} (hL : Lines rs m) (m3 : m ≤ 3) (ho : SeenOk fss m) (h : FitgT K rs fss H v) (h' : FitgT K rs fss H' v') : ∃ d, Dq K H v d ∧ Dq K H' v' d ∧ WideOk d 91 4 := by
  have hR : ∀ r ∈ rs, r.parts.length = m := fun r hr => (row_name (hL.ok r hr)).2
  by_cases c : ∀ r ∈ rs, CanF r fss
  · have un : ∀ r ∈ rs, ¬ UnfitP r fss := fun r hr u => unfit_can (hR r hr) ho u (c r hr)
    have get : ∀ {H : Hp} {v : V}, FitgT K rs fss H v → ∃ es : List Mem, Dq K H v (memsD es) ∧ es.length = rs.length ∧ ∀ (i : Nat) (r : Rw) (e : Mem), rs[i]? = some r → es[i]? = some e → FitP r fss e.1 ∧ e.2 = (r.bd.2, 1) := by
      rintro H v (⟨_, r, hr, u⟩ | ⟨_, y, vs, rfl, hy, hl, hv⟩)
      · exact absurd u (un r hr)
      · obtain ⟨es, l, ds, ks⟩ := mem_build (K := K) (H := H) (R := fun r e => FitP r fss e.1 ∧ e.2 = (r.bd.2, 1)) hl fun i u r hu hr => by
          obtain ⟨p, g, b, rfl, hp, ft, db⟩ := hv i u r hu hr
          rcases ft with ⟨_, uu⟩ | ⟨gs, dg, fp⟩
          · exact absurd uu (un r (List.mem_of_getElem? hr))
          · exact ⟨(gs, (r.bd.2, 1)), .tup hp (.cons dg (.cons db .nil)), fp, rfl⟩
        exact ⟨es, .tup hy ds, l, ks⟩
    obtain ⟨es, de, le, ke⟩ := get h
    obtain ⟨es', de', le', ke'⟩ := get h'
    have e : es = es' := by
      refine List.ext_getElem (by rw [le, le']) fun i h1 h2 => ?_
      have hri := List.getElem?_eq_getElem (show i < rs.length by omega)
      obtain ⟨a1, a2⟩ := ke i _ _ hri (List.getElem?_eq_getElem h1)
      obtain ⟨b1, b2⟩ := ke' i _ _ hri (List.getElem?_eq_getElem h2)
      exact Prod.ext (fitP_one a1 b1) (a2.trans b2.symm)
    subst e
    have ok : MemOk rs es := ⟨le, fun i r e h1 h2 => by
      obtain ⟨a, b⟩ := ke i r e h1 h2
      have := (fit_mem (hL.ok r (List.mem_of_getElem? h1)) m3 ho a).1
      rw [← b] at this
      exact this⟩
    exact ⟨_, de, de', wok_mems hL m3 ok⟩
  · have no : ∀ {H : Hp} {v : V}, FitgT K rs fss H v → v = .non := by
      rintro H v (⟨e, _⟩ | ⟨a, _⟩)
      · exact e
      · exact (c fun r hr => have ⟨gs, hg⟩ := a r hr; fit_can (hR r hr) ho hg).elim
    rw [no h, no h']
    exact ⟨.none, .non, .non, wok_none.mono (by decide) (by decide)⟩
end
end Ca
set_option Elab.async false
set_option linter.all false
set_option maxRecDepth 100000
set_option maxHeartbeats 8000000
namespace Ca
open PySem L2 LamX
/-! ### draws that end well, where tables of code objects may have grown -/
def spAllT (T : List (Addr × Str)) : Sp := fun vs H Q _ => ∃ l, vs = [.ref l] ∧ Urn H l ∧ Tabs T H ∧ ∀ H', KeptN l H H' → Urn H' l → Tabs T H' → Q (.bl true) H'
theorem tabs_on {T : List (Addr × Str)} {H H' : Hp} (t : Tabs T H) (s : Same H H') : Tabs T H' := t.ext fun b o e => s b o e
def spLawT (K : PySem.W.Frag) (T : List (Addr × Str)) : Sp := fun vs H Q _ => ∃ (a : Addr) (ns : List Int), vs = [.ref a] ∧ SqL K H a (ns.map V.int) ∧ Tabs T H ∧ ∀ H', Q (.bl true) H'
section
variable {P : Program} {w : World} {K : PySem.W.Frag} {mg : Str → Option Value} {base : Heap}
end
end Ca
set_option Elab.async false
set_option linter.all false
set_option maxRecDepth 100000
set_option maxHeartbeats 4000000
namespace Ca
open PySem PySem.Spec PyProof.Rows L2
/-! ### try: body, except (x1, x2, x3) as n: suite, all that the body raises being of them -/
section
variable {X : Cx} {x1 x2 x3 n : Str} {c1 c2 c3 : Value} {i kk : Nat} {body suite : List Stmt} {b₀ : Stmt} {p1 p2 p3 tpos pos pos' : Pos} {tb : WX → TS} {ts : Addr → Value → Option Addr → TS}
end
end Ca
set_option Elab.async false
set_option linter.all false
set_option maxRecDepth 100000
set_option maxHeartbeats 4000000
namespace Ca
open PySem PySem.Spec PyProof.Rows L2
/-! ### defs called where an error is handled, which is looked at there -/
section
variable {X : Cx} {k : Nat} {f : Addr} {fd : FuncData} {ps : List Str} {sp : Addr × Obj → Sp} {x : Str} {q pos : Pos} {e : Expr} {es : List Expr} {t : TA} {p : Addr × Obj}
/-! ### the error looked at -/
end
/-! ### how often a truth value stands in a list -/
end Ca
set_option Elab.async false
set_option linter.all false
set_option maxRecDepth 100000
set_option maxHeartbeats 8000000
namespace Ca
open PySem PySem.Spec PyProof.Rows L2 LamX
/-! ### a call in a lambda: the word of the error's class, and what it keeps -/
mutual
theorem dpOn {K : PySem.W.Frag} {H H' : Hp} (s : Same H H') : ∀ {d : PyData} {v : V}, Dp K H v d → Dp K H' v d
  | .none, _, h => by cases h; exact .non
  | .bool b, _, h => by cases h; exact .bl b
  | .int i, _, h => by cases h; exact .int i
  | .str x, _, h => by cases h; exact .str x
  | .list ds, _, h => by
    cases h with
    | lst a b => exact .lst (s.seq a) (dpAllOn s b)
  | .tuple ds, _, h => by
    cases h with
    | tup a b => exact .tup (same_sqt s a) (dpAllOn s b)
  | .dict ds, _, h => by cases h
theorem dpAllOn {K : PySem.W.Frag} {H H' : Hp} (s : Same H H') : ∀ {ds : List PyData} {vs : List V}, DpAll K H vs ds → DpAll K H' vs ds
  | [], _, h => by cases h; exact .nil
  | d :: ds, _, h => by
    cases h with
    | cons a b => exact .cons (dpOn s a) (dpAllOn s b)
end
theorem Good.on {K : PySem.W.Frag} {H H' : Hp} {v : V} {d : PyData} (g : Good K H v d) (s : Same H H') : Good K H' v d := by
  obtain ⟨r, g⟩ := g
  refine ⟨?_, g⟩
  cases r with
  | dat D sd => exact .dat (dpOn s D) sd
  | dic h D nd => exact .dic (s _ _ h) (dpAllOn s D) nd
  | dee SM D => exact .dee SM (De.mono (fun b o e _ => s b o e) D)
end Ca
set_option Elab.async false
set_option linter.all false
set_option maxRecDepth 100000
set_option maxHeartbeats 8000000
namespace Ca
open PySem PySem.Spec PyProof.Rows L2 LamX
section
variable {X : Cx} {CX : CXT} {E : XK} {k : Nat} {f : Addr} {fd : FuncData} {ps ks : List Str} {sp : Sp} {x : Str} {p pos : Pos} {kws : List Keyword} {tk : TA} {g : List Value → List Value → List Value} {gV : List V → List V → List V}
/-- f(k = v, ..), which may raise -/
theorem pe_callK0X (F : FnOk X.prog X.w X.K X.mg X.base CX k f fd ps sp) (hr : Room k X.A) (hg : Gl X x) (hm : X.mg x = some (.ref f)) (hk : PySem.W.keepIn X.K (.ref f) = true) (hb : KBn X.K fd ps 0 ks g gV) (hx : Passes CX X E) (hkw : PK X kws tk)
    (hall : (backToKw pos (keywordEach kws X.env)).all (·.1.isSome) = true := by rfl) (hks : (backToKw pos (keywordEach kws X.env)).filterMap (·.1) = ks := by rfl) (hdb : (x == ("__debug__" : Str)) = false := by decide)
    (hpl : ((backTo pos (starEach [] X.env)).any (·.1) || (backToKw pos (keywordEach kws X.env)).any (·.1.isNone)) = false := by rfl) :
    PE X (.Call (.Name x p) [] kws pos) (tCallN 0 ks.length sp gV E tNil tk) := by
  refine ⟨fun pins s σ H Q I h => ?_⟩
  refine wpAny_Call_Name_kw (ld_glob I hg hm ?_ hdb)
  refine PySem.W.callWith_KW0 (h₀ := X.base) I.ok.mod.kin hk hall (thn (hkw.run pos pins s σ H _ I h) fun ws s1 ⟨zs, H1, I1, r, l1, l2, q⟩ => ?_) hpl
  rw [hks]
  exact ⟨I1.kIn, run_fnN F hr hb hx I1 .nil r l1 l2 q⟩
end
/-! ### what the three functions raise -/
def ixD : Option Nat → PyData
  | none => .none
  | some i => .int i
/-- what is told of a head and what was seen -/
def Ends3 (K : PySem.W.Frag) (C : Addr) (H : Hp) (h s : V) (w : List V) : Prop := (∃ d, Dq K H h d ∧ Good K H h d ∧ w = [.str "system", .str d.shown]) ∨
  ∃ x ns rs d, h = .ref x ∧ SysAt K C H x ns rs ∧ Dq K H s d ∧ ((∃ i, seenSlip ns.length d = some i ∧ (∀ k, i = some k → k ≤ 1000) ∧ w = [.str "seen", .str (ixD i).shown]) ∨ (seenSlip ns.length d = none ∧ w = [] ∧ ∃ fss, d = ansD fss ∧ SeenOk fss ns.length))
theorem Ends3.extN {K : PySem.W.Frag} {C : Addr} {H H' : Hp} {h s : V} {w : List V} (e : Ends3 K C H h s w) (k : ExtN H H') : Ends3 K C H' h s w := by
  rcases e with ⟨d, h1, h2, h3⟩ | ⟨x, ns, rs, d, h0, h1, h2, h3⟩
  · exact .inl ⟨d, h1.extN k, h2.extN k, h3⟩
  · exact .inr ⟨x, ns, rs, d, h0, h1.extN k, h2.extN k, h3⟩
section
variable {K : PySem.W.Frag} {C CN CS B0 B1 B2 C0 C1 C2 C3 C4 : Addr}
end
section
variable {P : Program} {w : World} {K : PySem.W.Frag} {mg : Str → Option Value} {base : Heap} {C CN CS B0 B1 B2 C0 C1 C2 C3 C4 PT fCa : Addr} {fdCa : FuncData}
end
end Ca
set_option Elab.async false
set_option linter.all false
set_option maxRecDepth 100000
set_option maxHeartbeats 8000000
namespace Ca
open PySem PySem.Spec PyProof.Rows L2 LamX
open Ca.Wd
/-! ### what is told of what was seen is right -/
def spSeenR (K : PySem.W.Frag) (C : Addr) : Sp := fun vs H Q _ => ∃ c u r v, ∃ (rs : List Rw) (fss : Fss) (m : Nat), vs = [.ref c, v] ∧ H c = some (.lst [.ref u, .ref r]) ∧ Dq K H (.ref u) (folkD (folk3 m)) ∧ Dq K H (.ref r) (rowsD rs) ∧ Lines rs m ∧ 1 ≤ m ∧ m ≤ 3 ∧ Dq K H v (ansD fss) ∧ FewAll fss m ∧ fss.length + 2 * m ≤ 9 ∧ ∀ H', Same H H' → Q (.bl true) H'
abbrev NSe : List Str := ["_law_card_here", "_law_views", "_law_mine", "_law_due", "_law_found", "_law_told", "_law_each"]
theorem scSeR : FnScope NSe ["_law_card_here", "_law_views"] (defScope sLawSeenRight) := ⟨rfl, rfl, rfl, by decide +kernel, rfl, by decide +kernel, by decide +kernel⟩
theorem due_wok {K : PySem.W.Frag} {rs : List Rw} {fss : Fss} {v : V} (h : DueT rs fss v) (l6 : rs.length ≤ 6) : ∃ d, (∀ H, Dq K H v d) ∧ WideOk d 1 0 := by
  rcases h with ⟨rfl, _⟩ | ⟨i, r, rfl, h1, _, _⟩
  · exact ⟨.none, fun _ => .non, wok_none⟩
  · refine ⟨.int i, fun _ => .int _, ?_, ?_, ?_⟩
    · have il := (List.getElem?_eq_some_iff.mp h1).1
      simp only [wideD]
      exact decide_eq_true (Nat.lt_of_lt_of_le (show ((i : Nat) : Int).natAbs < 2 ^ 10 by rw [Int.natAbs_natCast]; exact Nat.lt_of_lt_of_le (show i < 6 by omega) (by decide)) (Nat.pow_le_pow_right (by decide) (by decide)))
    · simp only [cntD]; exact Nat.le_refl _
    · simp only [PyData.depth]; exact Nat.le_refl _
theorem good_four {K : PySem.W.Frag} {H : Hp} {p : Addr} {v : V} {d : PyData} {b : Bool} (hp : H p = some (.lst [v, v, .bl b, .bl b])) (dv : Dq K H v d) (w : WideOk d 1 0) : Good K H (.ref p) (.list [d, d, .bool b, .bool b]) := by
  refine good_wok (c := 5) (n := 1) (.lst (SqL.of hp) (.cons dv (.cons dv (.cons (.bl b) (.cons (.bl b) .nil))))) ⟨?_, ?_, ?_⟩ (by decide) (by decide)
  · simp only [wideD, wideDs, w.w, Bool.and_self]
  · have := w.c
    simp only [cntD, cntDs]
    omega
  · have := w.d
    simp only [PyData.depth, PyData.depthAll]
    omega
section
variable {P : Program} {w : World} {K : PySem.W.Frag} {mg : Str → Option Value} {base : Heap} {C CN CS : Addr}
theorem ok_seenR {f fM fD fF fK fG fS fI : Addr} {fd fdM fdD fdF fdK fdG fdS fdI : FuncData} (F : FnT K "_law_seen_right" sLawSeenRight f fd) (mrep : mg "repr" = none) (mall : mg "all" = none)
    (gM : mg "_law_made" = some (.ref fM)) (GM : FnOk P w K mg base CX0 7 fM fdM ["_law_card_here"] (spMadeP K C)) (kM : PySem.W.keepIn K (.ref fM) = true) (bM : Binds K fdM ["_law_card_here"] [])
    (gD : mg "_law_clash" = some (.ref fD)) (GD : FnOk P w K mg base CX0 4 fD fdD ["_law_card_here", "_law_views"] (spLClash K)) (kD : PySem.W.keepIn K (.ref fD) = true) (bD : Binds K fdD ["_law_card_here", "_law_views"] [])
    (gK : mg "clash" = some (.ref fK)) (GK : FnOk P w K mg base (L2.CX P w) 7 fK fdK ["system", "seen"] (spSeeX K C CN CS ClashT)) (kK : PySem.W.keepIn K (.ref fK) = true) (bK : Binds K fdK ["system", "seen"] []) (kbK : KBn K fdK ["system", "seen"] 0 ["seen", "system"] (fun _ ws => ws.reverse) (fun _ zs => zs.reverse))
    (gF : mg "fits" = some (.ref fF)) (GF : FnOk P w K mg base (L2.CX P w) 8 fF fdF ["system", "seen"] (spSeeX K C CN CS FitsT)) (kF : PySem.W.keepIn K (.ref fF) = true) (bF : Binds K fdF ["system", "seen"] []) (kbF : KBn K fdF ["system", "seen"] 0 ["seen", "system"] (fun _ ws => ws.reverse) (fun _ zs => zs.reverse))
    (gG : mg "fitting" = some (.ref fG)) (GG : FnOk P w K mg base (L2.CX P w) 9 fG fdG ["system", "seen"] (spSeeX K C CN CS (FitgT K))) (kG : PySem.W.keepIn K (.ref fG) = true) (bG : Binds K fdG ["system", "seen"] []) (kbG : KBn K fdG ["system", "seen"] 0 ["seen", "system"] (fun _ ws => ws.reverse) (fun _ zs => zs.reverse))
    (gS : mg "_law_is_member" = some (.ref fS)) (GS : FnOk P w K mg base CX0 4 fS fdS ["_law_card_here", "_law_told"] (spIsMem K)) (kS : PySem.W.keepIn K (.ref fS) = true) (bS : Binds K fdS ["_law_card_here", "_law_told"] [])
    (gI : mg "_law_is_of" = some (.ref fI)) (GI : FnOk P w K mg base CX0 4 fI fdI ["_law_member_here", "_law_told"] (spLOf K)) (kI : PySem.W.keepIn K (.ref fI) = true) (bI : Binds K fdI ["_law_member_here", "_law_told"] []) :
    FnG P w K mg base 10 f fd ["_law_card_here", "_law_views"] (spSeenR K C) := by
  refine fnG_of F scSeR (fun vs H Q E h => ?_) (fun cdv A outer s H vs Q hgd hr h => ?_)
  · obtain ⟨c, u, r, v, rs, fss, m, rfl, _⟩ := h
    rfl
  · obtain ⟨c, u, r, v, rs, fss, m, rfl, hc, du, dr, hL, m1, m3, dv, few, h9, q⟩ := h
    have nd := scSeR.nd
    have hr4 : Room 4 _ := hr.mono (by decide)
    have hr7 : Room 7 _ := hr.mono (by decide)
    have hr8 : Room 8 _ := hr.mono (by decide)
    have hr9 : Room 9 _ := hr.mono (by decide)
    have hu := hr.un
    have hu' : (A.deeper (PyProof.Rows.envOfC "_law_seen_right" (defScope sLawSeenRight) s.heap.objs.size f cdv)).units + 200 < cLine := by omega
    refine ⟨_, PSs.nox (pss_cons (ps_par (i := 2) (j := 3) rfl nd rfl rfl (by decide) rfl rfl (pa_cons (pe_call GM hr7 rfl gM kM bM .nil pass0 (pa_cons (pv 0) pa_nil)) (pa_cons (pe_call GD hr4 rfl gD kD bD .nil pass0 (pa_cons (pv 0) (pa_cons (pv 1) pa_nil))) pa_nil)) rfl)
      (pss_cons (ps_cut (ps_set (i := 4) nd rfl (.inl rfl) (pe_lst (pa_cons (pe_call (E := E0) GK hr7 rfl gK kK bK .nil passE0 (pa_cons (pv 2) (pa_cons (pv 1) pa_nil))) (pa_cons (pe_callK0X (E := E0) GK hr7 rfl gK kK kbK passE0 (pk_cons (pv 1) (pk_cons (pv 2) pk_nil))) pa_nil)))))
      (pss_cons (ps_cut (ps_set (i := 4) nd rfl (.inl rfl) (pe_op op_cat (pv 4) (pe_lst (pa_cons (pe_call (E := E0) GF hr8 rfl gF kF bF .nil passE0 (pa_cons (pv 2) (pa_cons (pv 1) pa_nil))) (pa_cons (pe_callK0X (E := E0) GF hr8 rfl gF kF kbF passE0 (pk_cons (pv 1) (pk_cons (pv 2) pk_nil))) pa_nil))))))
      (pss_cons (ps_cut (ps_if (pt_cmpR op_ne (pe_callB (reprK K hgd hu') (by rfl) mrep PyProof.Rows.boot_repr (pa_cons (pv 4) pa_nil)) (pe_callB (reprK K hgd hu') (by rfl) mrep PyProof.Rows.boot_repr
          (pa_cons (pe_lst (pa_cons (pv 3) (pa_cons (pv 3) (pa_cons (pe_cmpR op_isN (pv 3) pe_non (nomark _)) (pa_cons (pe_cmpR op_isN (pv 3) pe_non (nomark _)) pa_nil))))) pa_nil)) (nomark _)) (pss_one (ps_ret pe_bl)) pss_nil))
      (pss_cons (ps_cut (ps_set (i := 5) nd rfl (.inr rfl) (pe_call (E := E0) GG hr9 rfl gG kG bG .nil passE0 (pa_cons (pv 2) (pa_cons (pv 1) pa_nil)))))
      (pss_cons (ps_if (PW.pt (pw_or (pt_cmpR op_ne (pe_callB (reprK K hgd hu') (by rfl) mrep PyProof.Rows.boot_repr (pa_cons (pe_callK0X (E := E0) GG hr9 rfl gG kG kbG passE0 (pk_cons (pv 1) (pk_cons (pv 2) pk_nil))) pa_nil))
            (pe_callB (reprK K hgd hu') (by rfl) mrep PyProof.Rows.boot_repr (pa_cons (pv 5) pa_nil)) (nomark _)) (pw_or1 (pt_cmpR op_notN (pv 3) pe_non (nomark _)))))
          (pss_one (ps_ret (pe_and (pe_cmpR op_notN (pv 3) pe_non (nomark _)) (pe_one (pe_cmpR op_isN (pv 5) pe_non (nomark _)))))) pss_nil)
      (pss_one (ps_ret (pe_and (pe_call GS hr4 rfl gS kS bS .nil pass0 (pa_cons (pv 0) (pa_cons (pv 5) pa_nil)))
        (pe_one (pe_callB (cr_all rfl) (by rfl) mall PyProof.Rows.boot_all (pa_cons (pe_lc (own := [("_law_each", 6)]) (g := gName 6) (tt := tYes) rfl nd (pi_tup (pv 1))
              (blkOk_by (own := [("_law_each", 6)]) (N := NSe) (sc := defScope sLawSeenRight) (by decide +kernel)) (fun _ _ _ _ _ => pg_name (i := 6) nd rfl (Or.inl rfl)) (fun _ _ _ _ _ => pts_nil)
              (fun _ _ _ _ _ => pe_call GI hr4 rfl gI kI bI .nil pass0 (pa_cons (pv 5) (pa_cons (pv 6) pa_nil)))) pa_nil)))))))))))), ?_⟩
    obtain ⟨hN, hNl⟩ := folk3_ok m1 m3
    have hL' : Lines rs (folk3 m).length := by rw [hNl]; exact hL
    have h8 : fss.length ≤ 8 := by omega
    have l6 := hL.hi
    have ho := fewA_seen few h8 m3
    have hR : ∀ r' ∈ rs, r'.parts.length = m := fun r' h => (row_name (hL.ok r' h)).2
    refine ⟨_, rfl, c, u, r, folk3 m, rs, rfl, hc, du, dr, hN, hL', fun H1 x s1 X1 => ?_⟩
    refine ⟨_, rfl, _, rfl, c, u, r, v, rs, fss, m, rfl, s1 _ _ hc, dr.same s1, hL.ok, dv.same s1, few, m3, h9, by omega, fun H2 e s2 he => ⟨_, _, rfl, ?_⟩⟩
    have s02 := s1.trans s2
    have X2 := X1.same s2
    have sees : ∀ {H' : Hp} {R : List Rw → Fss → Hp → V → Prop} {Q' : VK}, Same H2 H' → (∀ H'' v', Same H' H'' → R rs fss H'' v' → Q' v' H'') → spSeeX K C CN CS R [.ref x, v] H' Q' E0 := fun {H' R Q'} s' kk =>
      ⟨.ref x, v, rfl, .inr ⟨x, folk3 m, rs, ansD fss, rfl, X2.same s', dv.same (s02.trans s'), fun i hi => (by rw [hNl, fewA_slip few h8] at hi; cases hi), fun _ => ⟨fss, rfl, by rw [hNl]; exact ho, kk⟩⟩⟩
    have id2 : Same H2 H2 := fun _ _ e => e
    -- the clash
    refine ⟨fun σ' H' => ∃ p, σ' = [some (.ref c), some v, some (.ref x), some e, some (.ref p), none, none] ∧ Same H2 H' ∧ H' p = some (.lst [e, e]), ?_, ?_⟩
    · refine ⟨_, rfl, _, rfl, sees (R := ClashT) id2 fun H3 v3 s3 t3 => ?_⟩
      obtain rfl := due_one (clash_due hR ho t3) he
      refine ⟨_, rfl, _, rfl, rfl, rfl, sees (R := ClashT) s3 fun H4 v4 s4 t4 => ?_⟩
      obtain rfl := due_one (clash_due hR ho t4) he
      refine ⟨Nat.le_of_ble_eq_true rfl, fun p hp => ⟨p, rfl, (s3.trans s4).trans (Same.new hp), upd_same⟩⟩
    rintro _ H3 ⟨p, rfl, s3, hp3⟩
    -- whether they fit
    refine ⟨fun σ' H' => ∃ p, σ' = [some (.ref c), some v, some (.ref x), some e, some (.ref p), none, none] ∧ Same H2 H' ∧ H' p = some (.lst [e, e, .bl (decide (e = .non)), .bl (decide (e = .non))]), ?_, ?_⟩
    · refine ⟨_, rfl, _, rfl, _, rfl, sees (R := FitsT) s3 fun H4 v4 s4 t4 => ?_⟩
      obtain rfl := fits_due hR ho t4 he
      refine ⟨_, rfl, _, rfl, rfl, rfl, sees (R := FitsT) (s3.trans s4) fun H5 v5 s5 t5 => ?_⟩
      obtain rfl := fits_due hR ho t5 he
      refine ⟨Nat.le_of_ble_eq_true rfl, fun q1 h1 => ?_⟩
      have s6 := Same.new (o := .lst [.bl (decide (e = .non)), .bl (decide (e = .non))]) h1
      refine ⟨p, q1, _, _, rfl, rfl, s6 _ _ (s5 _ _ (s4 _ _ hp3)), upd_same, Nat.le_of_ble_eq_true rfl, fun q2 h2 => ⟨q2, rfl, s3.trans (s4.trans (s5.trans (s6.trans (Same.new h2)))), upd_same⟩⟩
    rintro _ H4 ⟨p4, rfl, s4, hp4⟩
    clear hp3
    obtain ⟨d, dd, wd⟩ := due_wok (K := K) he l6
    -- shown alike
    refine ⟨fun σ' H' => σ' = [some (.ref c), some v, some (.ref x), some e, some (.ref p4), none, none] ∧ Same H2 H', ?_, ?_⟩
    · have g1 := good_four hp4 (dd _) wd
      refine ⟨_, rfl, _, _, rfl, g1.1, g1.2.1, g1.2.2.1, g1.2.2.2, ?_⟩
      refine ⟨_, rfl, _, rfl, _, rfl, rfl, _, rfl, rfl, Nat.le_of_ble_eq_true rfl, fun p2 h2 => ?_⟩
      have g2 := good_four (K := K) (H := upd H4 p2 (.lst [e, e, .bl (decide (e = .non)), .bl (decide (e = .non))])) upd_same (dd _) wd
      refine ⟨_, _, rfl, g2.1, g2.2.1, g2.2.2.1, g2.2.2.2, ?_⟩
      refine ⟨rfl, _, rfl, ?_⟩
      rw [decide_eq_true rfl]
      exact iteF ⟨rfl, s4.trans (Same.new h2)⟩
    rintro _ H5 ⟨rfl, s5⟩
    clear hp4 s4
    -- some that fit
    refine ⟨fun σ' H' => ∃ t, σ' = [some (.ref c), some v, some (.ref x), some e, some (.ref p4), some t, none] ∧ Same H2 H' ∧ FitgT K rs fss H' t, ?_, ?_⟩
    · exact ⟨_, rfl, _, rfl, sees (R := FitgT K) s5 fun H6 v6 s6 t6 => ⟨v6, rfl, s5.trans s6, t6⟩⟩
    rintro _ H6 ⟨t, rfl, s6, t6⟩
    refine ⟨_, rfl, _, rfl, rfl, rfl, sees (R := FitgT K) s6 fun H7 v7 s7 t7 => ?_⟩
    obtain ⟨d2, da, db, wd2⟩ := fitg_one hL m3 ho t7 t6
    have g1 := good_wok da wd2 (by decide) (by decide)
    have g2 := good_wok (db.same s7) wd2 (by decide) (by decide)
    refine ⟨_, _, rfl, g1.1, g1.2.1, g1.2.2.1, g1.2.2.2, ?_⟩
    refine ⟨_, rfl, _, _, rfl, g2.1, g2.2.1, g2.2.2.1, g2.2.2.2, ?_⟩
    refine ⟨rfl, _, rfl, ?_⟩
    rw [decide_eq_true rfl]
    refine iteF ⟨_, rfl, rfl, _, rfl, ?_⟩
    have s67 := s6.trans s7
    have s07 := s02.trans s67
    rcases he with ⟨rfl, can⟩ | ⟨i, r', rfl, h1, h2, h3⟩
    · rw [decide_eq_true rfl]
      refine iteF ?_
      have un : ∀ r ∈ rs, ¬ UnfitP r fss := fun r hr u => unfit_can (hR r hr) ho u (can r hr)
      obtain ⟨es, de, ok, oa⟩ := fitg_mem hL m3 ho un t6
      have de7 := de.same s7
      refine ⟨_, rfl, _, rfl, c, u, r, t, rs, es, m, rfl, s07 _ _ hc, dr.same s07, de7, hL, m3, ok, fun H8 s8 => ⟨_, rfl, iteT ?_⟩⟩
      have s08 := s07.trans s8
      obtain ⟨b, ws, rfl, hb, db, lw⟩ := tup_len (dv.same s08)
      rw [List.length_map] at lw
      refine ⟨_, rfl, b, rfl, ⟨_, hb⟩, fun D hD => ?_⟩
      refine lc_it (walk_tup (K := K) (a := b) (xs := ws)) (fun k H' => Same H8 H' ∧ H' D = some (.lst ((List.replicate k true).map V.bl))) ⟨Same.new hD, upd_same⟩ (fun k H' hk p => same_sqt p.1 hb) ?_ ?_
      · rintro k y H9 H9x hk8 ⟨s9, bD⟩ ⟨e9, hy⟩
        subst e9
        have hko : k < fss.length := by omega
        obtain ⟨d, hd, dq⟩ := (db.same s9).get hy
        rw [List.getElem?_map, List.getElem?_eq_getElem hko] at hd
        cases hd
        obtain ⟨lf, ff⟩ := few _ (List.getElem_mem hko)
        have isof := ofAll_iff.mp oa _ (List.getElem_mem hko)
        generalize fss[k] = fs at dq lf ff isof
        refine ⟨rfl, rdYes ⟨_, rfl, _, rfl, t, y, es, fs, rfl, (de7.same s8).same s9, dq, by omega, fun f h => (ff f h).s, (by rw [lf]; exact ok.s hL), fun H10 s10 => ?_⟩⟩
        rw [isof]
        refine ⟨_, s10 _ _ bD, ?_, fun b' o' e => ?_, ?_⟩
        · rw [List.length_map, List.length_replicate]
          exact Nat.lt_of_lt_of_le (show k < 10 by omega) (by decide)
        · rw [upd_ne (ne_of_none e hD)]
          exact s10 _ _ (s9 _ _ e)
        · rw [upd_same, List.replicate_succ', List.map_append]
          rfl
      · rintro H9 ⟨s9, bD⟩
        refine ⟨D, List.replicate ws.length true, rfl, SqL.of bD, ?_⟩
        rw [List.all_eq_true.mpr fun b' hb' => by rw [List.eq_of_mem_replicate hb']; rfl]
        exact q _ (s08.trans s9)
    · rw [decide_eq_false (fun z => nomatch z)]
      refine iteT ?_
      have tn : t = .non := by
        rcases t6 with ⟨e, _⟩ | ⟨a, _⟩
        · exact e
        · have hr' := List.mem_of_getElem? h1
          obtain ⟨gs, hg⟩ := a r' hr'
          exact (h2 (fit_can (hR r' hr') ho hg)).elim
      subst tn
      refine ⟨_, rfl, rfl, _, rfl, ?_⟩
      rw [decide_eq_false (fun z => nomatch z)]
      refine iteT ⟨_, rfl, rfl, ?_⟩
      rw [decide_eq_true rfl]
      exact q _ s07
end
end Ca
set_option Elab.async false
set_option linter.all false
set_option maxRecDepth 100000
set_option maxHeartbeats 4000000
namespace Ca
open PySem PySem.Spec PyProof.Rows L2
/-! ### ==, != with [] and (), whatever is held -/
def rNilL (K : PySem.W.Frag) (neg : Bool) : R2 := fun x y H Q => ∃ a b xs, x = .ref a ∧ y = .ref b ∧ SqL K H a xs ∧ SqL K H b [] ∧ Q (.bl (if neg then !decide (xs = []) else decide (xs = []))) H
section
variable {X : Cx}
theorem vals_nil {us : List Value} (r : Vals [] us) : us = [] := by
  cases r
  rfl
theorem op_neNilL (hu : X.A.units < cLine) : OpR X (compareOp .NotEq) (rNilL X.K true) := by
  intro pins s σ H x y v u Q I rx ry h
  obtain ⟨a, b, xs, rfl, rfl, h1, h2, q⟩ := h
  cases rx
  cases ry
  obtain ⟨its, r, ⟨o, n, g1, g2, _, g3⟩, _⟩ := I.list h1
  obtain ⟨jts, r', ⟨o', n', k1, k2, _, k3⟩, _⟩ := I.list h2
  obtain rfl := vals_nil r'
  have ha : s.heap.IsList a its.toArray := ⟨o, g1, g2, n, g3⟩
  have hb : s.heap.IsList b ([] : List Value).toArray := ⟨o', k1, k2, n', k3⟩
  have l := r.length
  by_cases e : xs = []
  · subst e
    obtain rfl := vals_nil r
    exact SeqAt.RcNeAt.lists (A := X.A) (e := fun _ => true) ha hb rfl hu (fun j z _ => absurd z (Nat.not_lt_zero j)) X.prog X.w _ _ ⟨.bl _, H, I, rfl, q⟩
  · rw [decide_eq_false e] at q
    refine SeqAt.RcNeAt.lists_lengths (A := X.A) ha hb (bne_iff_ne.mpr fun z => e (List.eq_nil_of_length_eq_zero ?_)) hu X.prog X.w _ _ ⟨.bl _, H, I, rfl, q⟩
    rw [l]
    exact z
end
end Ca
set_option Elab.async false
set_option linter.all false
set_option maxRecDepth 100000
set_option maxHeartbeats 8000000
namespace Ca
open PySem PySem.Spec PyProof.Rows L2 LamX
abbrev N43 : List Str := ["_law_purse_here", "_law_turn", "_law_card_here", "_law_views", "_law_k"]
theorem sc43 : FnScope N43 ["_law_purse_here"] (defScope sLawRight) := ⟨rfl, rfl, rfl, by decide +kernel, rfl, by decide +kernel, by decide +kernel⟩
theorem noL_frD43 (fs : List (Int × Int)) : noL (frsD fs) = true := noL_frs fs
section
variable {P : Program} {w : World} {K : PySem.W.Frag} {mg : Str → Option Value} {base : Heap} {C : Addr}
theorem ok_right43 {f fC fR fA fS : Addr} {fd fdC fdR fdA fdS : FuncData} (F : FnT K "_law_right" sLawRight f fd) (mlen : mg "len" = none) (mrng : mg "range" = none) (mtup : mg "tuple" = none)
    (gC : mg "_law_card" = some (.ref fC)) (GC : FnOk P w K mg base CX0 4 fC fdC ["_law_purse_here", "_law_most_unknowns", "_law_most_rows", "_law_size"] (spCard K)) (kC : PySem.W.keepIn K (.ref fC) = true) (bC : Binds K fdC ["_law_purse_here", "_law_most_unknowns", "_law_most_rows", "_law_size"] [])
    (gR : mg "_law_draw" = some (.ref fR)) (GR : FnOk P w K mg base CX0 1 fR fdR ["_law_purse_here", "_law_size"] spDip) (kR : PySem.W.keepIn K (.ref fR) = true) (bR : Binds K fdR ["_law_purse_here", "_law_size"] [])
    (gA : mg "_law_answer" = some (.ref fA)) (GA : FnOk P w K mg base CX0 3 fA fdA ["_law_purse_here", "_law_many"] (spAnsP K)) (kA : PySem.W.keepIn K (.ref fA) = true) (bA : Binds K fdA ["_law_purse_here", "_law_many"] [])
    (gS : mg "_law_seen_right" = some (.ref fS)) (GS : FnG P w K mg base 10 fS fdS ["_law_card_here", "_law_views"] (spSeenR K C)) (kS : PySem.W.keepIn K (.ref fS) = true) (bS : Binds K fdS ["_law_card_here", "_law_views"] []) :
    FnG P w K mg base 11 f fd ["_law_purse_here"] (spAllT []) := by
  refine fnG_of F sc43 (fun vs H Q E h => ?_) (fun cdv A outer s H vs Q hgd hr h => ?_)
  · obtain ⟨l, rfl, _⟩ := h
    rfl
  · obtain ⟨l, rfl, hU, _, q⟩ := h
    have nd := sc43.nd
    have hr1 : Room 1 _ := hr.mono (by decide)
    have hr3 : Room 3 _ := hr.mono (by decide)
    have hr4 : Room 4 _ := hr.mono (by decide)
    have hu := hr.un
    refine ⟨_, PSs.nox (pss_cons (ps_for PassesOwn.never rfl (pi_range1 rfl mrng (pa_cons pe_int pa_nil)) (pg_name (i := 1) nd rfl (.inl rfl))
        (pss_cons (ps_cut (ps_set (i := 2) nd rfl (.inr rfl) (pe_ifExp (pt_cmpR op_lt (pv 1) pe_int (nomark _)) (pe_call GC hr4 rfl gC kC bC .nil pass0 (pa_cons (pv 0) (pa_cons pe_int (pa_cons pe_int (pa_cons pe_int pa_nil)))))
            (pe_call GC hr4 rfl gC kC bC .nil pass0 (pa_cons (pv 0) (pa_cons pe_int (pa_cons pe_int (pa_cons pe_int pa_nil))))))))
        (pss_cons (ps_cut (ps_setLc (i := 3) (own := [("_law_k", 4)]) (g := gName 4) (tt := tYes) rfl nd rfl rfl (sw_true rfl rfl rfl (by decide +kernel)) (pi_range1 rfl mrng (pa_cons (pe_call GR hr1 rfl gR kR bR .nil pass0 (pa_cons (pv 0)
              (pa_cons (pe_ifExp (pt_cmpR op_lt (pv 1) pe_int (nomark _)) pe_int pe_int) pa_nil))) pa_nil))
            (blkOk_by (own := [("_law_k", 4)]) (N := N43) (sc := defScope sLawRight) (by decide +kernel)) (fun _ _ _ _ _ => pg_name (i := 4) nd rfl (Or.inl rfl)) (fun _ _ _ _ _ => pts_nil)
            (fun _ _ _ _ _ => pe_call GA hr3 rfl gA kA bA .nil pass0 (pa_cons (pv 0) (pa_cons (pe_callB (call_lenK K) (by rfl) mlen boot_len (pa_cons (pe_ix (ixLt K) (pv 2) pe_int (fun _ _ => rfl)) pa_nil)) pa_nil)))))
        (pss_cons (ps_cut (ps_if (PW.pt (pw_and (pt_cmpR (op_neNilL (Nat.lt_of_le_of_lt (Nat.le_add_right _ _) (Nat.lt_of_le_of_lt (Nat.le_add_right _ _) hu))) (pv 3) (pe_lst pa_nil) (nomark _)) (pw_and1 (pt_cmpR op_eq (pe_call GR hr1 rfl gR kR bR .nil pass0 (pa_cons (pv 0) (pa_cons pe_int pa_nil))) pe_int (nomark _)))))
            (pss_one (ps_expr (pe_bm PySem.F.plainAttrs_list PySem.F.slot_list_append PySem.F.type_list_append mt_append (pv 3) (pa_cons (pe_ix ix_list (pv 3) pe_int (fun _ _ => rfl)) pa_nil)))) pss_nil))
        (pss_one (ps_if (pt_not (pt_val (pe_callG GS hgd hr gS kS bS (pa_cons (pv 2) (pa_cons (pe_callTy call_tuple_of (by rfl) mtup (by decide +kernel) (pa_cons (pv 3) pa_nil)) pa_nil))))) (pss_one (ps_ret pe_bl)) pss_nil))))))
      (pss_one (ps_ret pe_bl))), ?_⟩
    refine ⟨_, rfl, by decide, by decide, ?_⟩
    refine for_it (walk_range (lo := 0) (n := (4 : Int).toNat)) (fun k σ' H' => (∃ o1 o2 o3, σ' = [some (.ref l), o1, o2, o3, none]) ∧ KeptN l H H' ∧ Urn H' l)
      ⟨⟨none, none, none, rfl⟩, fun _ _ _ e _ => e, hU⟩ (fun _ _ _ _ _ => trivial) ?_ (fun σ' H' p => q H' p.2.1 p.2.2 fun z hz => nomatch hz)
    rintro k z _ H0 H0x hk ⟨⟨o1, o2, o3, rfl⟩, k0, u0⟩ ⟨e0, hz⟩
    subst e0
    obtain rfl : z = .int (0 + (k : Int)) := hz
    -- the card
    refine ⟨fun σ' H' => ∃ (c u r : Addr) (rs : List Rw) (m : Nat), σ' = [some (.ref l), some (.int (0 + (k : Int))), some (.ref c), o3, none] ∧ KeptN l H H' ∧ Urn H' l ∧ c ≠ l ∧ H' c = some (.lst [.ref u, .ref r]) ∧ Dq K H' (.ref u) (folkD (folk3 m)) ∧ Dq K H' (.ref r) (rowsD rs) ∧ 1 ≤ m ∧ m ≤ 3 ∧ Lines rs m ∧ (0 + (k : Int) < 3 → m ≤ 2), ?_, ?_⟩
    · refine ⟨_, rfl, _, _, rfl, rfl, _, rfl, ?_⟩
      refine ite2 (fun cc => ?_) (fun cc => ?_)
      · exact ⟨_, rfl, l, 2, 4, 6, rfl, u0, by decide, by decide, by decide, by decide, by decide, by decide, fun H1 c u r rs m k1 v1 hc ncl hc1 du dr m1 m2 hL r1 r2 _ => ⟨c, u, r, rs, m, rfl, k0.trans k1.n, v1, ncl, hc1, du, dr, m1, by omega, hL, fun _ => by omega⟩⟩
      · exact ⟨_, rfl, l, 3, 2, 3, rfl, u0, by decide, by decide, by decide, by decide, by decide, by decide, fun H1 c u r rs m k1 v1 hc ncl hc1 du dr m1 m2 hL r1 r2 _ => ⟨c, u, r, rs, m, rfl, k0.trans k1.n, v1, ncl, hc1, du, dr, m1, by omega, hL, fun h => absurd (decide_eq_true h) cc⟩⟩
    rintro _ H1 ⟨c, u, r, rs, m, rfl, k1, u1, ncl, hc1, du1, dr1, m1, m3, hL, mk⟩
    clear k0 u0
    obtain ⟨hN, hNl⟩ := folk3_ok m1 m3
    -- the answers
    refine ⟨fun σ' H' => ∃ (G : Addr) (gs : List V) (fss : Fss), σ' = [some (.ref l), some (.int (0 + (k : Int))), some (.ref c), some (.ref G), none] ∧ Kept l H1 H' ∧ Urn H' l ∧ H1 G = none ∧ H' G = some (.lst gs) ∧ DqAll K H' gs (fss.map frsD) ∧ fss.length ≤ 4 ∧ (¬ 0 + (k : Int) < 3 → fss.length ≤ 2) ∧ FewAll fss m, ?_, ?_⟩
    · refine ⟨_, rfl, _, rfl, _, _, rfl, rfl, _, rfl, ?_⟩
      refine ite2 (fun cc => ?_) (fun cc => ?_)
      · refine ⟨l, 5, rfl, u1, by decide, by decide, fun H2 d k2 u2 d0 d1 => ⟨_, rfl, by omega, by omega, fun D hD => ?_⟩⟩
        have dn : d.toNat ≤ 4 := by omega
        obtain ⟨ysV, hlV⟩ := urn_lst u1
        have hc2 := k2 _ _ ncl hc1
        have du2 : Dq K H2 (.ref u) (folkD (folk3 m)) := Dq.but hlV k2 (noL_folk _) du1
        refine lc_draw (K := K) (walk_range (lo := 0) (n := d.toNat)) frsD (fun _ fs => fs.length = m ∧ ∀ f ∈ fs, FewF f) noL_frD43 (by omega) u2 hD (fun _ _ => trivial) (fun _ _ _ _ y => y.1) (fun _ => rfl) ?_ ?_
        · rintro i y H4 Qk hi ⟨_, hx⟩ k4 v4 kk
          obtain ⟨a, us, e0, a1, _, al⟩ := tup_len (dq_kept u2 k4 (noL_folk _) du2)
          cases e0
          rw [List.length_map, hNl] at al
          exact ⟨_, rfl, _, rfl, c, _, 0, _, rfl, rfl, SqL.of (k4 _ _ ncl hc2), atI_nat (j := 0) rfl, _, m, rfl, .inr ⟨_, a1, al.symm⟩, l, m, rfl, v4, m3, fun H5 z fs k5 v5 dz lf hf => kk z fs H5 k5 v5 dz ⟨lf, hf⟩⟩
        · intro H4 gs fss k4 v4 bD dqs hlen hok
          refine ⟨D, gs, fss, rfl, k2.trans k4, v4, k2.free (ne_of_none u2.some.choose_spec hD).symm hD, bD, dqs, by omega, fun h => absurd (of_decide_eq_true cc) h, fun fs hf => ?_⟩
          obtain ⟨i, hi⟩ := List.mem_iff_getElem?.mp hf
          exact hok i fs hi
      · refine ⟨l, 3, rfl, u1, by decide, by decide, fun H2 d k2 u2 d0 d1 => ⟨_, rfl, by omega, by omega, fun D hD => ?_⟩⟩
        have dn : d.toNat ≤ 2 := by omega
        obtain ⟨ysV, hlV⟩ := urn_lst u1
        have hc2 := k2 _ _ ncl hc1
        have du2 : Dq K H2 (.ref u) (folkD (folk3 m)) := Dq.but hlV k2 (noL_folk _) du1
        refine lc_draw (K := K) (walk_range (lo := 0) (n := d.toNat)) frsD (fun _ fs => fs.length = m ∧ ∀ f ∈ fs, FewF f) noL_frD43 (by omega) u2 hD (fun _ _ => trivial) (fun _ _ _ _ y => y.1) (fun _ => rfl) ?_ ?_
        · rintro i y H4 Qk hi ⟨_, hx⟩ k4 v4 kk
          obtain ⟨a, us, e0, a1, _, al⟩ := tup_len (dq_kept u2 k4 (noL_folk _) du2)
          cases e0
          rw [List.length_map, hNl] at al
          exact ⟨_, rfl, _, rfl, c, _, 0, _, rfl, rfl, SqL.of (k4 _ _ ncl hc2), atI_nat (j := 0) rfl, _, m, rfl, .inr ⟨_, a1, al.symm⟩, l, m, rfl, v4, m3, fun H5 z fs k5 v5 dz lf hf => kk z fs H5 k5 v5 dz ⟨lf, hf⟩⟩
        · intro H4 gs fss k4 v4 bD dqs hlen hok
          refine ⟨D, gs, fss, rfl, k2.trans k4, v4, k2.free (ne_of_none u2.some.choose_spec hD).symm hD, bD, dqs, by omega, fun _ => by omega, fun fs hf => ?_⟩
          obtain ⟨i, hi⟩ := List.mem_iff_getElem?.mp hf
          exact hok i fs hi
    rintro _ H2 ⟨G, gs, fss, rfl, k2, u2, fG, hG, dG, l4, l2, few⟩
    have nGl : G ≠ l := fun z => by
      obtain ⟨_, e⟩ := u1.some
      rw [z, e] at fG
      cases fG
    have lgs : gs.length = fss.length := by
      have := dG.len
      rwa [List.length_map] at this
    -- one of them twice
    refine ⟨fun σ' H' => ∃ (gs : List V) (fss : Fss), σ' = [some (.ref l), some (.int (0 + (k : Int))), some (.ref c), some (.ref G), none] ∧ Kept l H1 H' ∧ Urn H' l ∧ H' G = some (.lst gs) ∧ DqAll K H' gs (fss.map frsD) ∧ fss.length + 2 * m ≤ 9 ∧ FewAll fss m, ?_, ?_⟩
    · have bnd : ∀ n : Nat, n ≤ fss.length + 1 → n + 2 * m ≤ 9 := fun n hn => by
        by_cases c3 : 0 + (k : Int) < 3
        · have := mk c3
          omega
        · have := l2 c3
          omega
      refine ⟨_, rfl, Nat.zero_le _, fun q1 h1 => ?_⟩
      have s3 := Same.new (o := .lst []) h1
      refine ⟨G, q1, gs, rfl, rfl, SqL.of (s3 _ _ hG), SqL.of upd_same, ?_⟩
      refine ⟨_, rfl, ?_⟩
      have k3 := k2.trans s3.kept
      by_cases z : gs = []
      · rw [decide_eq_true z]
        exact iteF ⟨gs, fss, rfl, k3, u2.same s3, s3 _ _ hG, dG.same s3, bnd _ (Nat.le_succ _), few⟩
      · rw [decide_eq_false z]
        refine iteT ⟨_, rfl, l, 3, rfl, u2.same s3, by decide, by decide, fun H5 d k5 u5 d0 d1 => ⟨rfl, _, rfl, ?_⟩⟩
        obtain ⟨ysV, hlV⟩ := urn_lst u2
        have k25 := s3.kept.trans k5
        have k15 := k2.trans k25
        have hG5 := k25 _ _ nGl hG
        have dG5 : DqAll K H5 gs (fss.map frsD) := DqAll.but hlV k25 (noLs_map frsD noL_frD43 _) dG
        refine ite2 (fun cc => ?_) (fun cc => ⟨gs, fss, rfl, k15, u5, hG5, dG5, bnd _ (Nat.le_succ _), few⟩)
        have hg0 := List.getElem?_eq_getElem (List.length_pos_iff.mpr z)
        have hf0 : 0 < fss.length := by
          have := List.length_pos_iff.mpr z
          omega
        obtain ⟨d0', hd0, dq0⟩ := dG5.get hg0
        rw [List.getElem?_map, List.getElem?_eq_getElem hf0] at hd0
        cases hd0
        refine ⟨_, rfl, .inl ⟨rfl, _, SqL.of hG5⟩, _, rfl, G, gs, 0, _, rfl, rfl, SqL.of hG5, atI_nat (j := 0) hg0, G, gs, _, rfl, rfl, hG5, ?_, gs ++ [gs[0]'(List.length_pos_iff.mpr z)], fss ++ [fss[0]], rfl, fun b o nb e => ?_, ?_, upd_same, ?_, ?_, fun fs hf => ?_⟩
        · exact Nat.lt_of_lt_of_le (show gs.length < 10 by omega) (by decide)
        · rw [upd_ne (ne_of_none e fG)]
          exact k15 _ _ nb e
        · obtain ⟨x1, x2, x3, y1, y2, y3, y4⟩ := u5
          exact ⟨x1, x2, x3, y1, y2, y3, by rw [upd_ne nGl.symm]; exact y4⟩
        · exact dqs_upd hG5 (noLs_map frsD noL_frD43 _) (by rw [List.map_append]; exact dG5.app (.cons dq0 .nil))
        · rw [List.length_append]
          exact bnd _ (Nat.le_refl _)
        · rcases List.mem_append.mp hf with h | h
          · exact few fs h
          · rw [List.mem_singleton.mp h]
            exact few _ (List.getElem_mem hf0)
    clear hG dG l4 l2 few lgs k2 u2
    rintro _ H5 ⟨gs5, fss5, rfl, k5, u5, hG5, dG5, b9, few5⟩
    obtain ⟨ysV, hlV⟩ := urn_lst u1
    refine ⟨_, rfl, _, rfl, G, gs5, rfl, .inl ⟨SqL.of hG5, fun t ht => ?_⟩⟩
    have s6 := Same.new (o := .tup gs5) ht
    have du5 : Dq K H5 (.ref u) (folkD (folk3 m)) := Dq.but hlV k5 (noL_folk _) du1
    have dr5 : Dq K H5 (.ref r) (rowsD rs) := Dq.but hlV k5 (noL_rows _) dr1
    refine ⟨c, u, r, .ref t, rs, fss5, m, rfl, s6 _ _ (k5 _ _ ncl hc1), du5.same s6, dr5.same s6, hL, m1, m3, .tup (SqT.of upd_same) (dG5.same s6), few5, b9, fun H6 s7 => ⟨_, rfl, iteF ⟨⟨_, _, _, rfl⟩, k1.trans (k5.trans (s6.trans s7).kept).n, (u5.same s6).same s7⟩⟩⟩
end
end Ca
set_option Elab.async false
set_option linter.all false
set_option maxRecDepth 100000
set_option maxHeartbeats 8000000
namespace Ca
open PySem L2 LamX
/-! ### the law: draws by up to capP numbers -/
abbrev capP : Int := 4
abbrev NLp : List Str := ["_law_script", "_law_k"]
theorem scLawP : FnScope NLp ["_law_script"] (defScope sLaw) := ⟨rfl, rfl, rfl, by decide +kernel, rfl, by decide +kernel, by decide +kernel⟩
theorem fewP (n : Nat) : (2 : Int) ≤ (if (if capP < (n : Int) then capP else (n : Int)) > 2 then (if capP < (n : Int) then capP else (n : Int)) else 2) ∧ (if (if capP < (n : Int) then capP else (n : Int)) > 2 then (if capP < (n : Int) then capP else (n : Int)) else 2) ≤ 63 := by
  unfold capP
  split <;> split <;> omega
section
variable {P : Program} {w : World} {K : PySem.W.Frag} {mg : Str → Option Value} {base : Heap}
theorem ok_lawP {T : List (Addr × Str)} {j : Nat} (hj : 1 ≤ j) {f fR fU : Addr} {fd fdR fdU : FuncData} (F : FnT K "law" sLaw f fd)
    (gR : mg "_law_right" = some (.ref fR)) (GR : FnG P w K mg base j fR fdR ["_law_purse_here"] (spAllT T)) (kR : PySem.W.keepIn K (.ref fR) = true) (bR : Binds K fdR ["_law_purse_here"] [])
    (gU : mg "_law_purse" = some (.ref fU)) (GU : FnOk P w K mg base CX0 1 fU fdU ["_law_script", "_law_k"] (spPurse K)) (kU : PySem.W.keepIn K (.ref fU) = true) (bU : Binds K fdU ["_law_script", "_law_k"] [])
    (mrng : mg "range" = none) (mmax : mg "max" = none) (mmin : mg "min" = none) (mlen : mg "len" = none) :
    FnG P w K mg base (j + 1) f fd ["_law_script"] (spLawT K T) := by
  refine fnG_of F scLawP (fun vs H Q E h => ?_) (fun cdv A outer s H vs Q hgd hr h => ?_)
  · obtain ⟨a, ns, rfl, _⟩ := h
    rfl
  · obtain ⟨a, ns, rfl, hS, hT, q⟩ := h
    have nd := scLawP.nd
    have hr1 : Room 1 _ := hr.mono hj
    refine ⟨_, PSs.nox (pss_cons (ps_for PassesOwn.never rfl (pi_range1 rfl mrng (pa_cons (pe_callB (call_max2 rfl) (by rfl) mmax PyProof.Rows.boot_max (pa_cons pe_int (pa_cons (pe_callB (call_min2 rfl) (by rfl) mmin PyProof.Rows.boot_min (pa_cons (pe_callB call_len (by rfl) mlen boot_len (pa_cons (pv 0) pa_nil)) (pa_cons pe_int pa_nil))) pa_nil))) pa_nil)) (pg_name (i := 1) nd rfl (.inl rfl))
        (pss_one (ps_if (pt_not (pt_val (pe_callG GR hgd hr gR kR bR (pa_cons (pe_call GU hr1 rfl gU kU bU .nil pass0 (pa_cons (pv 0) (pa_cons (pv 1) pa_nil))) pa_nil)))) (pss_one (ps_ret pe_bl)) pss_nil)))
      (pss_one (ps_ret pe_bl))), ?_⟩
    refine ⟨_, rfl, _, _, rfl, .inl ⟨_, hS, rfl⟩, _, _, rfl, _, _, rfl, ?_⟩
    obtain ⟨hlo, hhi⟩ := fewP (ns.map V.int).length
    refine ⟨_, rfl, Int.le_trans (by decide) hlo, Int.lt_of_le_of_lt hhi (by decide), ?_⟩
    generalize (if (if capP < ((ns.map V.int).length : Int) then capP else ((ns.map V.int).length : Int)) > 2 then (if capP < ((ns.map V.int).length : Int) then capP else ((ns.map V.int).length : Int)) else 2) = jj at hlo hhi
    refine for_it (walk_range (lo := 0) (n := jj.toNat)) (fun k σ' H' => (∃ o1, σ' = [some (.ref a), o1]) ∧ ExtN H H' ∧ Tabs T H') ⟨⟨_, rfl⟩, ExtN.refl _, hT⟩ (fun _ _ _ _ _ => trivial) ?_ (fun σ' H' p => q H')
    · rintro k z _ _ H3 hk ⟨⟨o1, rfl⟩, e3, t3⟩ ⟨rfl, hz⟩
      have ez : z = .int ((k : Nat) : Int) := by
        rw [hz]
        show V.int (0 + ((k : Nat) : Int)) = _
        rw [Int.zero_add]
      subst ez
      refine ⟨_, rfl, _, rfl, a, ns, k, rfl, by omega, seqL_ext e3 hS, fun H4 l hl s4 u4 => ⟨l, rfl, u4, tabs_on t3 s4, fun H5 k5 u5 t5 => ⟨_, rfl, iteF ⟨⟨_, rfl⟩, fun b o e n => ?_, t5⟩⟩⟩⟩
      have e1 := e3 _ _ e n
      exact k5 _ _ (ne_of_none e1 hl) (s4 _ _ e1) n
end
end Ca
set_option Elab.async false
set_option linter.all false
set_option maxRecDepth 100000
set_option maxHeartbeats 0
namespace Ca
open PySem PySem.Spec PyProof.Rows L2
open LamX
section
variable {P : Program} {w : World} {K : PySem.W.Frag} {h : Heap} {mg : Str → Option Value}

theorem factsk43 (X : K.In h) (G : h.Ns mainGlobals mg) {f : Addr} (hfa : mg "law" = some (.ref f)) (c : Saysk43 h K) :
    ∃ fd : FuncData, (∀ (s : Shared) (v : Value), BindsTo s fd ⟨[v], []⟩ [("_law_script", v)]) ∧ ∀ (base : Heap), FnG P w K mg base 12 f fd ["_law_script"] (spLawT K []) := by
  have d := c.d
  have gl : ∀ (i : Nat) {x : Str}, fask43[i]? = some (.glo x) → mg x = some (.ref (He.ga K x)) := fun i x q => He.glo_ok X G (d.fact i q)
  have fr : ∀ (i : Nat) {x : Str}, fask43[i]? = some (.free x) → mg x = none := fun i x q => He.free_ok X G (d.fact i q)
  have it : ∀ (i : Nat) {x : Str} {z : Int}, fask43[i]? = some (.int x z) → ∃ t, mg x = some (.int z t) := fun i x z q => He.int_ok X G (d.fact i q)
  have st : ∀ (i : Nat) {x z : Str}, fask43[i]? = some (.str x z) → ∃ t, mg x = some (.str z t) := fun i x z q => He.str_ok X G (d.fact i q)
  obtain ⟨fdIsInteger, FIsInteger⟩ := d.def_ 0 (d := topD "is_integer" sIsInteger) rfl
  obtain ⟨fdIsTupleOf, FIsTupleOf⟩ := d.def_ 1 (d := topD "is_tuple_of" sIsTupleOf) rfl
  obtain ⟨fdIsName, FIsName⟩ := d.def_ 2 (d := topD "is_name" sIsName) rfl
  obtain ⟨fdIsUnknown, FIsUnknown⟩ := d.def_ 3 (d := topD "is_unknown" sIsUnknown) rfl
  obtain ⟨fdIsStretch, FIsStretch⟩ := d.def_ 4 (d := topD "is_stretch" sIsStretch) rfl
  obtain ⟨fdIsRow, FIsRow⟩ := d.def_ 5 (d := topD "is_row" sIsRow) rfl
  obtain ⟨fdCheckUnknowns, FCheckUnknowns⟩ := d.def_ 6 (d := topD "check_unknowns" sCheckUnknowns) rfl
  obtain ⟨fdCheckRows, FCheckRows⟩ := d.def_ 7 (d := topD "check_rows" sCheckRows) rfl
  obtain ⟨fdLineOf, FLineOf⟩ := d.def_ 8 (d := topD "line_of" sLineOf) rfl
  obtain ⟨fdLawPurse, FLawPurse⟩ := d.def_ 9 (d := topD "_law_purse" sLawPurse) rfl
  obtain ⟨fdLawDraw, FLawDraw⟩ := d.def_ 10 (d := topD "_law_draw" sLawDraw) rfl
  obtain ⟨fdLawPick, FLawPick⟩ := d.def_ 11 (d := topD "_law_pick" sLawPick) rfl
  obtain ⟨fdLawRight, FLawRight⟩ := d.def_ 12 (d := topD "_law_right" sLawRight) rfl
  obtain ⟨fdLaw, FLaw⟩ := d.def_ 13 (d := topD "law" sLaw) rfl
  obtain ⟨fdFraction, FFraction⟩ := d.def_ 14 (d := topD "fraction" sFraction) rfl
  obtain ⟨fdPlus, FPlus⟩ := d.def_ 15 (d := topD "plus" sPlus) rfl
  obtain ⟨fdFirstTable, FFirstTable⟩ := d.def_ 16 (d := topD "first_table" sFirstTable) rfl
  obtain ⟨fdLineBehind, FLineBehind⟩ := d.def_ 17 (d := topD "line_behind" sLineBehind) rfl
  obtain ⟨fdExchanged, FExchanged⟩ := d.def_ 18 (d := topD "exchanged" sExchanged) rfl
  obtain ⟨fdFirstPlace, FFirstPlace⟩ := d.def_ 19 (d := topD "first_place" sFirstPlace) rfl
  obtain ⟨fdFirstWrong, FFirstWrong⟩ := d.def_ 20 (d := topD "first_wrong" sFirstWrong) rfl
  obtain ⟨fdNextExchange, FNextExchange⟩ := d.def_ 21 (d := topD "next_exchange" sNextExchange) rfl
  obtain ⟨fdSettled, FSettled⟩ := d.def_ 22 (d := topD "settled" sSettled) rfl
  obtain ⟨fdAmountsIn, FAmountsIn⟩ := d.def_ 23 (d := topD "amounts_in" sAmountsIn) rfl
  obtain ⟨fdWeightsIn, FWeightsIn⟩ := d.def_ 24 (d := topD "weights_in" sWeightsIn) rfl
  obtain ⟨fdCheapestAmounts, FCheapestAmounts⟩ := d.def_ 25 (d := topD "cheapest_amounts" sCheapestAmounts) rfl
  obtain ⟨fdIsFraction, FIsFraction⟩ := d.def_ 26 (d := topD "is_fraction" sIsFraction) rfl
  obtain ⟨fdIsAnswer, FIsAnswer⟩ := d.def_ 27 (d := topD "is_answer" sIsAnswer) rfl
  obtain ⟨fdCheckSystem, FCheckSystem⟩ := d.def_ 28 (d := topD "check_system" sCheckSystem) rfl
  obtain ⟨fdCheckSeen, FCheckSeen⟩ := d.def_ 29 (d := topD "check_seen" sCheckSeen) rfl
  obtain ⟨fdInWholeNumbers, FInWholeNumbers⟩ := d.def_ 30 (d := topD "in_whole_numbers" sInWholeNumbers) rfl
  obtain ⟨fdSeenLimit, FSeenLimit⟩ := d.def_ 31 (d := topD "seen_limit" sSeenLimit) rfl
  obtain ⟨fdWidthLimits, FWidthLimits⟩ := d.def_ 32 (d := topD "width_limits" sWidthLimits) rfl
  obtain ⟨fdNumbersFor, FNumbersFor⟩ := d.def_ 33 (d := topD "numbers_for" sNumbersFor) rfl
  obtain ⟨fdClash, FClash⟩ := d.def_ 34 (d := topD "clash" sClash) rfl
  obtain ⟨fdFits, FFits⟩ := d.def_ 35 (d := topD "fits" sFits) rfl
  obtain ⟨fdFitting, FFitting⟩ := d.def_ 36 (d := topD "fitting" sFitting) rfl
  obtain ⟨fdLawLow, FLawLow⟩ := d.def_ 37 (d := topD "_law_low" sLawLow) rfl
  obtain ⟨fdLawPlus, FLawPlus⟩ := d.def_ 38 (d := topD "_law_plus" sLawPlus) rfl
  obtain ⟨fdLawTimes, FLawTimes⟩ := d.def_ 39 (d := topD "_law_times" sLawTimes) rfl
  obtain ⟨fdLawIsLess, FLawIsLess⟩ := d.def_ 40 (d := topD "_law_is_less" sLawIsLess) rfl
  obtain ⟨fdLawStretch, FLawStretch⟩ := d.def_ 41 (d := topD "_law_stretch" sLawStretch) rfl
  obtain ⟨fdLawCard, FLawCard⟩ := d.def_ 42 (d := topD "_law_card" sLawCard) rfl
  obtain ⟨fdLawMade, FLawMade⟩ := d.def_ 43 (d := topD "_law_made" sLawMade) rfl
  obtain ⟨fdLawWithoutLast, FLawWithoutLast⟩ := d.def_ 44 (d := topD "_law_without_last" sLawWithoutLast) rfl
  obtain ⟨fdLawHasValues, FLawHasValues⟩ := d.def_ 45 (d := topD "_law_has_values" sLawHasValues) rfl
  obtain ⟨fdLawIsFraction, FLawIsFraction⟩ := d.def_ 46 (d := topD "_law_is_fraction" sLawIsFraction) rfl
  obtain ⟨fdLawSum, FLawSum⟩ := d.def_ 47 (d := topD "_law_sum" sLawSum) rfl
  obtain ⟨fdLawLies, FLawLies⟩ := d.def_ 48 (d := topD "_law_lies" sLawLies) rfl
  obtain ⟨fdLawIsMember, FLawIsMember⟩ := d.def_ 49 (d := topD "_law_is_member" sLawIsMember) rfl
  obtain ⟨fdLawAnswer, FLawAnswer⟩ := d.def_ 50 (d := topD "_law_answer" sLawAnswer) rfl
  obtain ⟨fdLawRowFits, FLawRowFits⟩ := d.def_ 51 (d := topD "_law_row_fits" sLawRowFits) rfl
  obtain ⟨fdLawClash, FLawClash⟩ := d.def_ 52 (d := topD "_law_clash" sLawClash) rfl
  obtain ⟨fdLawIsOf, FLawIsOf⟩ := d.def_ 53 (d := topD "_law_is_of" sLawIsOf) rfl
  obtain ⟨fdLawSeenRight, FLawSeenRight⟩ := d.def_ 54 (d := topD "_law_seen_right" sLawSeenRight) rfl
  obtain ⟨fdMInit, FMInit⟩ := d.def_ 55 (d := memD "__init__" "System.__init__" mSystemInit [.adr e0A]) rfl
  obtain ⟨fdMLen, FMLen⟩ := d.def_ 56 (d := memD "__len__" "System.__len__" mSystemLen []) rfl
  obtain ⟨fdMBool, FMBool⟩ := d.def_ 57 (d := memD "__bool__" "System.__bool__" mSystemBool []) rfl
  obtain ⟨fdMStr, FMStr⟩ := d.def_ 58 (d := memD "__str__" "System.__str__" mSystemStr []) rfl
  obtain ⟨fdMEq, FMEq⟩ := d.def_ 59 (d := memD "__eq__" "System.__eq__" mSystemEq []) rfl
  have c0 := c.b
  obtain ⟨bG, c0⟩ := an c0
  obtain ⟨bL, c0⟩ := an c0
  obtain ⟨bZ, c0⟩ := an c0
  obtain ⟨bO, c0⟩ := an c0
  have mgcd := gcd_ok X G bG
  have mlcm := lcm_ok X G bL
  have gZ := gl 59 (x := "ZERO") rfl
  have gO := gl 60 (x := "ONE") rfl
  obtain ⟨p1, c1⟩ := an c0
  obtain ⟨p2, c1⟩ := an c1
  obtain ⟨p3, c1⟩ := an c1
  obtain ⟨em, c1⟩ := an c1
  obtain ⟨b1, c1⟩ := an c1
  obtain ⟨b2, c1⟩ := an c1
  obtain ⟨b3, c1⟩ := an c1
  obtain ⟨b4, c1⟩ := an c1
  obtain ⟨b5, c1⟩ := an c1
  obtain ⟨b6, c1⟩ := an c1
  obtain ⟨b7, c1⟩ := an c1
  obtain ⟨b8, b9⟩ := an c1
  obtain ⟨pU, okU⟩ := pr_ok p1
  obtain ⟨pR, okR⟩ := pr_ok p2
  obtain ⟨pN, okN⟩ := pr_ok p3
  obtain ⟨fdU, FU⟩ := fun_at c.u okU
  obtain ⟨fdR, FR⟩ := fun_at c.r okR
  obtain ⟨fdN, FN⟩ := fun_at c.n okN
  have B : Bn mg := ⟨fr 69 rfl, fr 70 rfl, fr 71 rfl, fr 72 rfl, fr 73 rfl, fr 74 rfl, fr 75 rfl, fr 76 rfl⟩
  have Bx : Bm mg := ⟨fr 77 rfl, fr 78 rfl, fr 79 rfl⟩
  have Bq : Bi mg := ⟨fr 74 rfl, fr 70 rfl, fr 83 rfl, fr 84 rfl⟩
  have C : Cn mg := ⟨st 66 rfl, st 67 rfl, it 64 rfl, st 68 rfl, it 61 rfl, it 62 rfl, it 63 rfl⟩
  have S : SysC K (sysA K) := ⟨He.cls_ok (d.fact 90 (f := .cls "System") rfl), He.noat_ok (d.fact 91 (f := .noat "System" "_unknowns") rfl), He.noat_ok (d.fact 92 (f := .noat "System" "_rows") rfl)⟩
  have mLen := He.meth_ok (d.fact 94 (f := .meth "System" "__len__") rfl)
  have mBool := He.meth_ok (d.fact 95 (f := .meth "System" "__bool__") rfl)
  have mStr := He.meth_ok (d.fact 96 (f := .meth "System" "__str__") rfl)
  have mEq := He.meth_ok (d.fact 97 (f := .meth "System" "__eq__") rfl)
  have E1 : SysE K (sysA K) _ _ _ _ _ _ _ _ _ _ _ := { mkr := He.mkr_ok (d.fact 93 (f := .mkr "System") rfl), eq := mEq.at_, eqf := mEq.fn, ne := isF_ok b1, ob := of_decide_eq_true b2, str := mStr.at_, strf := mStr.fn, len := mLen.at_, lenf := mLen.fn, bool := mBool.at_, boolf := mBool.fn, un := pU, ro := pR, na := pN }
  have hodd : ∀ t : String, t ∈ tyNames → PySem.W.kitOne K (.type t) (.ref (sysA K)) = some false ∧ PySem.W.notFirst K (sysA K) (.type t) = true := fun t ht => by
    obtain ⟨z1, z2⟩ := an (List.all_eq_true.mp b9 t ht)
    exact ⟨of_decide_eq_true z1, z2⟩
  have I : SysI K (sysA K) := { ha := isF_ok b3, hn := isF_ok b4, ht := of_decide_eq_true b5, hm := of_decide_eq_true b6, own := of_decide_eq_true b7, nf := b8, odd := hodd }
  have gIsInteger := gl 0 (x := "is_integer") rfl
  have gIsTupleOf := gl 1 (x := "is_tuple_of") rfl
  have gIsName := gl 2 (x := "is_name") rfl
  have gIsUnknown := gl 3 (x := "is_unknown") rfl
  have gIsStretch := gl 4 (x := "is_stretch") rfl
  have gIsRow := gl 5 (x := "is_row") rfl
  have gCheckUnknowns := gl 6 (x := "check_unknowns") rfl
  have gCheckRows := gl 7 (x := "check_rows") rfl
  have gLineOf := gl 8 (x := "line_of") rfl
  have gLawPurse := gl 9 (x := "_law_purse") rfl
  have gLawDraw := gl 10 (x := "_law_draw") rfl
  have gLawPick := gl 11 (x := "_law_pick") rfl
  have gLawRight := gl 12 (x := "_law_right") rfl
  have gLaw := gl 13 (x := "law") rfl
  have gFraction := gl 14 (x := "fraction") rfl
  have gPlus := gl 15 (x := "plus") rfl
  have gFirstTable := gl 16 (x := "first_table") rfl
  have gLineBehind := gl 17 (x := "line_behind") rfl
  have gExchanged := gl 18 (x := "exchanged") rfl
  have gFirstPlace := gl 19 (x := "first_place") rfl
  have gFirstWrong := gl 20 (x := "first_wrong") rfl
  have gNextExchange := gl 21 (x := "next_exchange") rfl
  have gSettled := gl 22 (x := "settled") rfl
  have gAmountsIn := gl 23 (x := "amounts_in") rfl
  have gWeightsIn := gl 24 (x := "weights_in") rfl
  have gCheapestAmounts := gl 25 (x := "cheapest_amounts") rfl
  have gIsFraction := gl 26 (x := "is_fraction") rfl
  have gIsAnswer := gl 27 (x := "is_answer") rfl
  have gCheckSystem := gl 28 (x := "check_system") rfl
  have gCheckSeen := gl 29 (x := "check_seen") rfl
  have gInWholeNumbers := gl 30 (x := "in_whole_numbers") rfl
  have gSeenLimit := gl 31 (x := "seen_limit") rfl
  have gWidthLimits := gl 32 (x := "width_limits") rfl
  have gNumbersFor := gl 33 (x := "numbers_for") rfl
  have gClash := gl 34 (x := "clash") rfl
  have gFits := gl 35 (x := "fits") rfl
  have gFitting := gl 36 (x := "fitting") rfl
  have gLawLow := gl 37 (x := "_law_low") rfl
  have gLawPlus := gl 38 (x := "_law_plus") rfl
  have gLawTimes := gl 39 (x := "_law_times") rfl
  have gLawIsLess := gl 40 (x := "_law_is_less") rfl
  have gLawStretch := gl 41 (x := "_law_stretch") rfl
  have gLawCard := gl 42 (x := "_law_card") rfl
  have gLawMade := gl 43 (x := "_law_made") rfl
  have gLawWithoutLast := gl 44 (x := "_law_without_last") rfl
  have gLawHasValues := gl 45 (x := "_law_has_values") rfl
  have gLawIsFraction := gl 46 (x := "_law_is_fraction") rfl
  have gLawSum := gl 47 (x := "_law_sum") rfl
  have gLawLies := gl 48 (x := "_law_lies") rfl
  have gLawIsMember := gl 49 (x := "_law_is_member") rfl
  have gLawAnswer := gl 50 (x := "_law_answer") rfl
  have gLawRowFits := gl 51 (x := "_law_row_fits") rfl
  have gLawClash := gl 52 (x := "_law_clash") rfl
  have gLawIsOf := gl 53 (x := "_law_is_of") rfl
  have gLawSeenRight := gl 54 (x := "_law_seen_right") rfl
  have gS := gl 55 (x := "System") rfl
  have e := hfa.symm.trans gLaw
  cases e
  have bL := FunD.bindsA (ps := ["_law_script"]) FLaw fun _ _ _ _ _ _ us hl => match us, hl with | [_], _ => rfl
  obtain ⟨fdXNotASystem, FXNotASystem⟩ := d.def_ 61 (d := memE "NotASystem" "NotASystem.__init__" mNotASystemInit) rfl
  obtain ⟨fdXInvalidSeen, FXInvalidSeen⟩ := d.def_ 62 (d := memE "InvalidSeen" "InvalidSeen.__init__" mInvalidSeenInit) rfl
  have gBadValue := gl 56 (x := "BadValue") rfl
  have gNotASystem := gl 57 (x := "NotASystem") rfl
  have gInvalidSeen := gl 58 (x := "InvalidSeen") rfl
  have hx := c.e
  obtain ⟨x0, hx⟩ := an hx
  have x1 := hx
  refine ⟨fdLaw, fun s v => bL s [v] rfl, fun base => ?_⟩
  have nIsInteger : Binds K fdIsInteger ["value"] [] := FIsInteger.bindsN fun _ _ _ _ _ _ us hl => match us, hl with | [_], _ => rfl
  have nIsTupleOf : Binds K fdIsTupleOf ["value", "many"] [] := FIsTupleOf.bindsN fun _ _ _ _ _ _ us hl => match us, hl with | [_, _], _ => rfl
  have nIsName : Binds K fdIsName ["value"] [] := FIsName.bindsN fun _ _ _ _ _ _ us hl => match us, hl with | [_], _ => rfl
  have nIsUnknown : Binds K fdIsUnknown ["value"] [] := FIsUnknown.bindsN fun _ _ _ _ _ _ us hl => match us, hl with | [_], _ => rfl
  have nIsStretch : Binds K fdIsStretch ["value"] [] := FIsStretch.bindsN fun _ _ _ _ _ _ us hl => match us, hl with | [_], _ => rfl
  have nIsRow : Binds K fdIsRow ["value", "many"] [] := FIsRow.bindsN fun _ _ _ _ _ _ us hl => match us, hl with | [_, _], _ => rfl
  have nCheckUnknowns : Binds K fdCheckUnknowns ["unknowns"] [] := FCheckUnknowns.bindsN fun _ _ _ _ _ _ us hl => match us, hl with | [_], _ => rfl
  have nCheckRows : Binds K fdCheckRows ["rows", "many"] [] := FCheckRows.bindsN fun _ _ _ _ _ _ us hl => match us, hl with | [_, _], _ => rfl
  have nLineOf : Binds K fdLineOf ["row"] [] := FLineOf.bindsN fun _ _ _ _ _ _ us hl => match us, hl with | [_], _ => rfl
  have nLawPurse : Binds K fdLawPurse ["_law_script", "_law_k"] [] := FLawPurse.bindsN fun _ _ _ _ _ _ us hl => match us, hl with | [_, _], _ => rfl
  have nLawDraw : Binds K fdLawDraw ["_law_purse_here", "_law_size"] [] := FLawDraw.bindsN fun _ _ _ _ _ _ us hl => match us, hl with | [_, _], _ => rfl
  have nLawPick : Binds K fdLawPick ["_law_purse_here", "_law_menu"] [] := FLawPick.bindsN fun _ _ _ _ _ _ us hl => match us, hl with | [_, _], _ => rfl
  have nLawRight : Binds K fdLawRight ["_law_purse_here"] [] := FLawRight.bindsN fun _ _ _ _ _ _ us hl => match us, hl with | [_], _ => rfl
  have nFraction : Binds K fdFraction ["top", "bottom"] [] := FFraction.bindsN fun _ _ _ _ _ _ us hl => match us, hl with | [_, _], _ => rfl
  have nPlus : Binds K fdPlus ["one", "other"] [] := FPlus.bindsN fun _ _ _ _ _ _ us hl => match us, hl with | [_, _], _ => rfl
  have nFirstTable : Binds K fdFirstTable ["limits", "costs"] [] := FFirstTable.bindsN fun _ _ _ _ _ _ us hl => match us, hl with | [_, _], _ => rfl
  have nLineBehind : Binds K fdLineBehind ["line", "pivots", "column", "bottom"] [] := FLineBehind.bindsN fun _ _ _ _ _ _ us hl => match us, hl with | [_, _, _, _], _ => rfl
  have nExchanged : Binds K fdExchanged ["table", "row", "column"] [] := FExchanged.bindsN fun _ _ _ _ _ _ us hl => match us, hl with | [_, _, _], _ => rfl
  have nFirstPlace : Binds K fdFirstPlace ["numbers", "marks"] [] := FFirstPlace.bindsN fun _ _ _ _ _ _ us hl => match us, hl with | [_, _], _ => rfl
  have nFirstWrong : Binds K fdFirstWrong ["table"] [] := FFirstWrong.bindsN fun _ _ _ _ _ _ us hl => match us, hl with | [_], _ => rfl
  have nNextExchange : Binds K fdNextExchange ["table"] [] := FNextExchange.bindsN fun _ _ _ _ _ _ us hl => match us, hl with | [_], _ => rfl
  have nSettled : Binds K fdSettled ["table"] [] := FSettled.bindsN fun _ _ _ _ _ _ us hl => match us, hl with | [_], _ => rfl
  have nAmountsIn : Binds K fdAmountsIn ["table", "many"] [] := FAmountsIn.bindsN fun _ _ _ _ _ _ us hl => match us, hl with | [_, _], _ => rfl
  have nWeightsIn : Binds K fdWeightsIn ["table", "row", "many"] [] := FWeightsIn.bindsN fun _ _ _ _ _ _ us hl => match us, hl with | [_, _, _], _ => rfl
  have nCheapestAmounts : Binds K fdCheapestAmounts ["limits", "costs"] [] := FCheapestAmounts.bindsN fun _ _ _ _ _ _ us hl => match us, hl with | [_, _], _ => rfl
  have nIsFraction : Binds K fdIsFraction ["value"] [] := FIsFraction.bindsN fun _ _ _ _ _ _ us hl => match us, hl with | [_], _ => rfl
  have nIsAnswer : Binds K fdIsAnswer ["value", "many"] [] := FIsAnswer.bindsN fun _ _ _ _ _ _ us hl => match us, hl with | [_, _], _ => rfl
  have nCheckSystem : Binds K fdCheckSystem ["system"] [] := FCheckSystem.bindsN fun _ _ _ _ _ _ us hl => match us, hl with | [_], _ => rfl
  have nCheckSeen : Binds K fdCheckSeen ["system", "seen"] [] := FCheckSeen.bindsN fun _ _ _ _ _ _ us hl => match us, hl with | [_, _], _ => rfl
  have nInWholeNumbers : Binds K fdInWholeNumbers ["answer"] [] := FInWholeNumbers.bindsN fun _ _ _ _ _ _ us hl => match us, hl with | [_], _ => rfl
  have nSeenLimit : Binds K fdSeenLimit ["row", "answer"] [] := FSeenLimit.bindsN fun _ _ _ _ _ _ us hl => match us, hl with | [_, _], _ => rfl
  have nWidthLimits : Binds K fdWidthLimits ["stretches"] [] := FWidthLimits.bindsN fun _ _ _ _ _ _ us hl => match us, hl with | [_], _ => rfl
  have nNumbersFor : Binds K fdNumbersFor ["row", "seen"] [] := FNumbersFor.bindsN fun _ _ _ _ _ _ us hl => match us, hl with | [_, _], _ => rfl
  have nClash : Binds K fdClash ["system", "seen"] [] := FClash.bindsN fun _ _ _ _ _ _ us hl => match us, hl with | [_, _], _ => rfl
  have nFits : Binds K fdFits ["system", "seen"] [] := FFits.bindsN fun _ _ _ _ _ _ us hl => match us, hl with | [_, _], _ => rfl
  have nFitting : Binds K fdFitting ["system", "seen"] [] := FFitting.bindsN fun _ _ _ _ _ _ us hl => match us, hl with | [_, _], _ => rfl
  have nLawLow : Binds K fdLawLow ["_law_top", "_law_bottom"] [] := FLawLow.bindsN fun _ _ _ _ _ _ us hl => match us, hl with | [_, _], _ => rfl
  have nLawPlus : Binds K fdLawPlus ["_law_one_here", "_law_two_here"] [] := FLawPlus.bindsN fun _ _ _ _ _ _ us hl => match us, hl with | [_, _], _ => rfl
  have nLawTimes : Binds K fdLawTimes ["_law_one_here", "_law_two_here"] [] := FLawTimes.bindsN fun _ _ _ _ _ _ us hl => match us, hl with | [_, _], _ => rfl
  have nLawIsLess : Binds K fdLawIsLess ["_law_one_here", "_law_two_here"] [] := FLawIsLess.bindsN fun _ _ _ _ _ _ us hl => match us, hl with | [_, _], _ => rfl
  have nLawStretch : Binds K fdLawStretch ["_law_purse_here", "_law_size"] [] := FLawStretch.bindsN fun _ _ _ _ _ _ us hl => match us, hl with | [_, _], _ => rfl
  have nLawCard : Binds K fdLawCard ["_law_purse_here", "_law_most_unknowns", "_law_most_rows", "_law_size"] [] := FLawCard.bindsN fun _ _ _ _ _ _ us hl => match us, hl with | [_, _, _, _], _ => rfl
  have nLawMade : Binds K fdLawMade ["_law_card_here"] [] := FLawMade.bindsN fun _ _ _ _ _ _ us hl => match us, hl with | [_], _ => rfl
  have nLawWithoutLast : Binds K fdLawWithoutLast ["_law_rows_here"] [] := FLawWithoutLast.bindsN fun _ _ _ _ _ _ us hl => match us, hl with | [_], _ => rfl
  have nLawHasValues : Binds K fdLawHasValues ["_law_rows_here", "_law_many"] [] := FLawHasValues.bindsN fun _ _ _ _ _ _ us hl => match us, hl with | [_, _], _ => rfl
  have nLawIsFraction : Binds K fdLawIsFraction ["_law_told"] [] := FLawIsFraction.bindsN fun _ _ _ _ _ _ us hl => match us, hl with | [_], _ => rfl
  have nLawSum : Binds K fdLawSum ["_law_numbers_here", "_law_told"] [] := FLawSum.bindsN fun _ _ _ _ _ _ us hl => match us, hl with | [_, _], _ => rfl
  have nLawLies : Binds K fdLawLies ["_law_value", "_law_pair"] [] := FLawLies.bindsN fun _ _ _ _ _ _ us hl => match us, hl with | [_, _], _ => rfl
  have nLawIsMember : Binds K fdLawIsMember ["_law_card_here", "_law_told"] [] := FLawIsMember.bindsN fun _ _ _ _ _ _ us hl => match us, hl with | [_, _], _ => rfl
  have nLawAnswer : Binds K fdLawAnswer ["_law_purse_here", "_law_many"] [] := FLawAnswer.bindsN fun _ _ _ _ _ _ us hl => match us, hl with | [_, _], _ => rfl
  have nLawRowFits : Binds K fdLawRowFits ["_law_part", "_law_views"] [] := FLawRowFits.bindsN fun _ _ _ _ _ _ us hl => match us, hl with | [_, _], _ => rfl
  have nLawClash : Binds K fdLawClash ["_law_card_here", "_law_views"] [] := FLawClash.bindsN fun _ _ _ _ _ _ us hl => match us, hl with | [_, _], _ => rfl
  have nLawIsOf : Binds K fdLawIsOf ["_law_member_here", "_law_told"] [] := FLawIsOf.bindsN fun _ _ _ _ _ _ us hl => match us, hl with | [_, _], _ => rfl
  have nLawSeenRight : Binds K fdLawSeenRight ["_law_card_here", "_law_views"] [] := FLawSeenRight.bindsN fun _ _ _ _ _ _ us hl => match us, hl with | [_, _], _ => rfl
  have nMLen : Binds K fdMLen ["self"] [] := FMLen.bindsN fun _ _ _ _ _ _ us hl => match us, hl with | [_], _ => rfl
  have nMBool : Binds K fdMBool ["self"] [] := FMBool.bindsN fun _ _ _ _ _ _ us hl => match us, hl with | [_], _ => rfl
  have nMStr : Binds K fdMStr ["self"] [] := FMStr.bindsN fun _ _ _ _ _ _ us hl => match us, hl with | [_], _ => rfl
  have nMEq : Binds K fdMEq ["self", "other"] [] := FMEq.bindsN fun _ _ _ _ _ _ us hl => match us, hl with | [_, _], _ => rfl
  have nU : Binds K fdU ["self"] [] := FU.bindsN fun _ _ _ _ _ _ us hl => match us, hl with | [_], _ => rfl
  have nR : Binds K fdR ["self"] [] := FR.bindsN fun _ _ _ _ _ _ us hl => match us, hl with | [_], _ => rfl
  have nN : Binds K fdN ["self"] [] := FN.bindsN fun _ _ _ _ _ _ us hl => match us, hl with | [_], _ => rfl
  obtain ⟨ds, vd, nI⟩ := FMInit.binds1 (ps := ["self", "unknowns", "rows"]) 3 1 (List.cons_ne_nil _ _) rfl fun T kV doc pm an cdv ct us its h1 h2 => match us, its, h1, h2 with | [_, _, _], [_], _, _ => ⟨_, rfl, rfl⟩
  obtain ⟨ds2, vd2, nI0⟩ := FMInit.binds1 (ps := ["self", "unknowns", "rows"]) 2 0 (List.cons_ne_nil _ _) rfl fun T kV doc pm an cdv ct us its h1 h2 => match us, its, h1, h2 with | [_, _], [_], _, _ => ⟨_, rfl, rfl⟩
  have ENotASystem : ErrX P w K mg base (exA K "NotASystem") (exI K "NotASystem") fdXNotASystem "given" "NotASystem" := errx_given x0 gNotASystem FXNotASystem
  have EInvalidSeen : ErrX P w K mg base (exA K "InvalidSeen") (exI K "InvalidSeen") fdXInvalidSeen "index" "InvalidSeen" := errx_index x1 gInvalidSeen FXInvalidSeen
  have GIsInteger := ok_isInteger (P := P) (w := w) (mg := mg) (base := base) FIsInteger B
  have GIsTupleOf := ok_isTupleOf (P := P) (w := w) (mg := mg) (base := base) FIsTupleOf B
  have GIsName := ok_isName (P := P) (w := w) (mg := mg) (base := base) FIsName B C
  have GIsUnknown := ok_isUnknown (P := P) (w := w) (mg := mg) (base := base) FIsUnknown C gIsName GIsName FIsName.kp nIsName
  have GIsStretch := ok_isStretch (P := P) (w := w) (mg := mg) (base := base) FIsStretch C gIsTupleOf GIsTupleOf FIsTupleOf.kp nIsTupleOf gIsInteger GIsInteger FIsInteger.kp nIsInteger
  have GIsRow := ok_isRow (P := P) (w := w) (mg := mg) (base := base) FIsRow B gIsTupleOf GIsTupleOf FIsTupleOf.kp nIsTupleOf gIsName GIsName FIsName.kp nIsName gIsStretch GIsStretch FIsStretch.kp nIsStretch
  have GCheckUnknowns := ok_checkU (P := P) (w := w) (mg := mg) (base := base) FCheckUnknowns B C gIsUnknown GIsUnknown FIsUnknown.kp nIsUnknown
  have GCheckRows := ok_checkR (P := P) (w := w) (mg := mg) (base := base) FCheckRows B C gIsRow GIsRow FIsRow.kp nIsRow
  have GLineOf := ok_line (P := P) (w := w) (mg := mg) (base := base) FLineOf B
  have GI := ok_init (P := P) (w := w) (mg := mg) (base := base) FMInit B S gCheckUnknowns GCheckUnknowns FCheckUnknowns.kp nCheckUnknowns gCheckRows GCheckRows FCheckRows.kp nCheckRows
  have GLen := ok_len (P := P) (w := w) (mg := mg) (base := base) FMLen B S
  have GBool := ok_bool (P := P) (w := w) (mg := mg) (base := base) FMBool
  have GStr := ok_str (P := P) (w := w) (mg := mg) (base := base) FMStr S gLineOf GLineOf FLineOf.kp nLineOf
  have GEq := ok_eq (P := P) (w := w) (mg := mg) (base := base) FMEq B S I gS
  have GU := ok_unknowns (P := P) (w := w) (mg := mg) (base := base) FU S
  have GR := ok_rows (P := P) (w := w) (mg := mg) (base := base) FR S
  have GN := ok_names (P := P) (w := w) (mg := mg) (base := base) FN B S
  have GLawPurse := ok_purse (P := P) (w := w) (mg := mg) (base := base) (fun_of FLawPurse) Bq
  have GLawDraw := ok_draw (P := P) (w := w) (mg := mg) (base := base) (fun_of FLawDraw) Bq
  have GLawPick := ok_pick (P := P) (w := w) (mg := mg) (base := base) (fun_of FLawPick) Bq gLawDraw GLawDraw FLawDraw.kp nLawDraw
  obtain ⟨fdTI, FTI⟩ := d.def_ 60 (d := memT "__init__" "Table.__init__" mTableInit) rfl
  have gTable := gl 98 (x := "Table") rfl
  have TK : TabK K (He.ga K "Table") := ⟨He.cls_ok (d.fact 99 (f := .cls "Table") rfl), He.noat_ok (d.fact 100 (f := .noat "Table" "lines") rfl), He.noat_ok (d.fact 101 (f := .noat "Table" "bottom") rfl), He.noat_ok (d.fact 102 (f := .noat "Table" "basic") rfl), He.noat_ok (d.fact 103 (f := .noat "Table" "free") rfl)⟩
  have mkT := He.mkr_ok (d.fact 104 (f := .mkr "Table") rfl)
  have nTI : Binds K fdTI ["self", "lines", "bottom", "basic", "free"] [] := FTI.bindsN fun _ _ _ _ _ _ us hl => match us, hl with | [_, _, _, _, _], _ => rfl
  have GTI := ok_tabInit (P := P) (w := w) (mg := mg) (base := base) FTI TK
  have GFraction := ok_fraction (P := P) (w := w) (mg := mg) (base := base) FFraction mgcd
  have GPlus := ok_plus (P := P) (w := w) (mg := mg) (base := base) FPlus gFraction GFraction FFraction.kp nFraction
  have GLineBehind := ok_behind (P := P) (w := w) (mg := mg) (base := base) FLineBehind (fr 78 rfl)
  have GExchanged := ok_exchanged (P := P) (w := w) (mg := mg) (base := base) FExchanged TK (fr 80 rfl) gTable mkT gLineBehind GLineBehind FLineBehind.kp nLineBehind GTI nTI
  have GFirstPlace := ok_firstPlace (P := P) (w := w) (mg := mg) (base := base) FFirstPlace (fr 78 rfl) (fr 82 rfl)
  have GFirstWrong := ok_firstWrong (P := P) (w := w) (mg := mg) (base := base) FFirstWrong TK (fr 78 rfl) (fr 82 rfl)
  have GNextExchange := ok_next (P := P) (w := w) (mg := mg) (base := base) FNextExchange TK gFirstWrong GFirstWrong FFirstWrong.kp nFirstWrong gFirstPlace GFirstPlace FFirstPlace.kp nFirstPlace
  have GSettled := ok_settled (P := P) (w := w) (mg := mg) (base := base) FSettled gNextExchange GNextExchange FNextExchange.kp nNextExchange gExchanged GExchanged FExchanged.kp nExchanged
  have GFirstTable := ok_firstTable (P := P) (w := w) (mg := mg) (base := base) FFirstTable (fr 80 rfl) (fr 77 rfl) (fr 74 rfl) gTable mkT GTI nTI
  have GAmountsIn := ok_amounts (P := P) (w := w) (mg := mg) (base := base) FAmountsIn TK (fr 78 rfl) (fr 77 rfl) gZ (ze_ok bZ) gFraction GFraction FFraction.kp nFraction
  have GWeightsIn := ok_weights (P := P) (w := w) (mg := mg) (base := base) FWeightsIn TK (fr 78 rfl) (fr 77 rfl) (fr 74 rfl) gZ (ze_ok bZ) gO (one_ok bO) gFraction GFraction FFraction.kp nFraction
  have GCheapAll := ok_cheap (P := P) (w := w) (mg := mg) (base := base) FCheapestAmounts (fr 74 rfl) gCheapestAmounts nCheapestAmounts gSettled GSettled FSettled.kp nSettled gFirstTable GFirstTable FFirstTable.kp nFirstTable gAmountsIn GAmountsIn FAmountsIn.kp nAmountsIn gWeightsIn GWeightsIn FWeightsIn.kp nWeightsIn
  cases vd
  cases vd2 with
  | cons vr vrr =>
  cases vrr
  have GIsFraction := ok_isFraction (P := P) (w := w) (mg := mg) (base := base) FIsFraction mgcd gIsTupleOf GIsTupleOf FIsTupleOf.kp nIsTupleOf gIsInteger GIsInteger FIsInteger.kp nIsInteger
  have GIsAnswer := ok_isAnswer (P := P) (w := w) (mg := mg) (base := base) FIsAnswer B gIsTupleOf GIsTupleOf FIsTupleOf.kp nIsTupleOf gIsFraction GIsFraction FIsFraction.kp nIsFraction
  have GCheckSystem := ok_chkS (P := P) (w := w) (mg := mg) (base := base) FCheckSystem B S I gS
  have GCheckSystemX := ok_chkSX (P := P) (w := w) (mg := mg) (base := base) FCheckSystem B S I gS ENotASystem
  have GCheckSeen := ok_seenX (P := P) (w := w) (mg := mg) (base := base) FCheckSeen B S (it 65 rfl) pU GU nU EInvalidSeen gIsAnswer GIsAnswer FIsAnswer.kp nIsAnswer
  have GInWholeNumbers := ok_whole (P := P) (w := w) (mg := mg) (base := base) FInWholeNumbers mlcm
  have GSeenLimit := ok_seenLim (P := P) (w := w) (mg := mg) (base := base) FSeenLimit (fr 78 rfl) (fr 86 rfl) gInWholeNumbers GInWholeNumbers FInWholeNumbers.kp nInWholeNumbers
  have GWidthLimits := ok_width (P := P) (w := w) (mg := mg) (base := base) FWidthLimits (fr 76 rfl) (fr 77 rfl) (fr 74 rfl)
  have GNumbersFor := ok_nums (P := P) (w := w) (mg := mg) (base := base) FNumbersFor (fr 78 rfl) (fr 73 rfl) gWidthLimits GWidthLimits FWidthLimits.kp nWidthLimits gSeenLimit GSeenLimit FSeenLimit.kp nSeenLimit gCheapestAmounts (GCheapAll 1) FCheapestAmounts.kp nCheapestAmounts gPlus GPlus FPlus.kp nPlus
  have GClash := ok_clash (P := P) (w := w) (mg := mg) (base := base) FClash B S pR GR nR gCheckSystem GCheckSystemX FCheckSystem.kp nCheckSystem gCheckSeen GCheckSeen FCheckSeen.kp nCheckSeen gNumbersFor GNumbersFor FNumbersFor.kp nNumbersFor
  have GFits := ok_fits (P := P) (w := w) (mg := mg) (base := base) FFits gClash GClash FClash.kp nClash
  have GFitting := ok_fitting (P := P) (w := w) (mg := mg) (base := base) FFitting B S pR GR nR gFits GFits FFits.kp nFits gNumbersFor GNumbersFor FNumbersFor.kp nNumbersFor
  have kClash : KBn K fdClash ["system", "seen"] 0 ["seen", "system"] (fun _ ws => ws.reverse) (fun _ zs => zs.reverse) := kb_all FClash fun _ _ _ _ _ _ us ws h1 h2 => match us, ws, h1, h2 with | [], [_, _], _, _ => rfl
  have kFits : KBn K fdFits ["system", "seen"] 0 ["seen", "system"] (fun _ ws => ws.reverse) (fun _ zs => zs.reverse) := kb_all FFits fun _ _ _ _ _ _ us ws h1 h2 => match us, ws, h1, h2 with | [], [_, _], _, _ => rfl
  have kFitting : KBn K fdFitting ["system", "seen"] 0 ["seen", "system"] (fun _ ws => ws.reverse) (fun _ zs => zs.reverse) := kb_all FFitting fun _ _ _ _ _ _ us ws h1 h2 => match us, ws, h1, h2 with | [], [_, _], _, _ => rfl
  have GLawLow := ok_lowP (P := P) (w := w) (mg := mg) (base := base) FLawLow (fr 83 rfl) (fr 70 rfl)
  have GLawStretch := ok_strP (P := P) (w := w) (mg := mg) (base := base) FLawStretch gLawDraw GLawDraw FLawDraw.kp nLawDraw gLawPick GLawPick FLawPick.kp nLawPick
  have GLawCard := ok_card (P := P) (w := w) (mg := mg) (base := base) FLawCard (fr 73 rfl) (fr 77 rfl) (fr 72 rfl) gLawDraw GLawDraw FLawDraw.kp nLawDraw gLawPick GLawPick FLawPick.kp nLawPick gLawStretch GLawStretch FLawStretch.kp nLawStretch
  have GLawMade := ok_madeP (P := P) (w := w) (mg := mg) (base := base) FLawMade E1.mkr gS GI nI
  have GLawAnswer := ok_ansP (P := P) (w := w) (mg := mg) (base := base) FLawAnswer (fr 73 rfl) (fr 77 rfl) gLawDraw GLawDraw FLawDraw.kp nLawDraw gLawPick GLawPick FLawPick.kp nLawPick gLawLow GLawLow FLawLow.kp nLawLow
  have GLawPlus := ok_lPlus (P := P) (w := w) (mg := mg) (base := base) FLawPlus gLawLow GLawLow FLawLow.kp nLawLow
  have GLawTimes := ok_lTimes (P := P) (w := w) (mg := mg) (base := base) FLawTimes gLawLow GLawLow FLawLow.kp nLawLow
  have GLawIsLess := ok_lLess (P := P) (w := w) (mg := mg) (base := base) FLawIsLess
  have GLawIsFraction := ok_lIsF (P := P) (w := w) (mg := mg) (base := base) FLawIsFraction B gLawLow GLawLow FLawLow.kp nLawLow
  have GLawWithoutLast := ok_wl (P := P) (w := w) (mg := mg) (base := base) FLawWithoutLast (fr 73 rfl) (fr 78 rfl) (fr 88 rfl) (fr 89 rfl)
  have GLawHasValues := ok_hasW (P := P) (w := w) (mg := mg) (base := base) FLawHasValues (fr 77 rfl) gLawWithoutLast GLawWithoutLast FLawWithoutLast.kp nLawWithoutLast
  have GLawRowFits := ok_rowF (P := P) (w := w) (mg := mg) (base := base) FLawRowFits (fr 73 rfl) (fr 77 rfl) (fr 74 rfl) gLawHasValues GLawHasValues FLawHasValues.kp nLawHasValues
  have GLawClash := ok_lClash (P := P) (w := w) (mg := mg) (base := base) FLawClash (fr 77 rfl) (fr 74 rfl) gLawRowFits GLawRowFits FLawRowFits.kp nLawRowFits
  have GLawLies := ok_lLies (P := P) (w := w) (mg := mg) (base := base) FLawLies gLawIsFraction GLawIsFraction FLawIsFraction.kp nLawIsFraction
  have GLawIsMember := ok_isMem (P := P) (w := w) (mg := mg) (base := base) FLawIsMember B (fr 77 rfl) (fr 78 rfl) gLawLies GLawLies FLawLies.kp nLawLies
  have GLawSumT := ok_sumT (P := P) (w := w) (mg := mg) (base := base) FLawSum (fr 78 rfl) gLawPlus GLawPlus FLawPlus.kp nLawPlus gLawTimes GLawTimes FLawTimes.kp nLawTimes
  have GLawIsOf := ok_lOf (P := P) (w := w) (mg := mg) (base := base) FLawIsOf (fr 87 rfl) gLawIsLess GLawIsLess FLawIsLess.kp nLawIsLess gLawSum GLawSumT FLawSum.kp nLawSum
  have GLawSeenRight := ok_seenR (P := P) (w := w) (mg := mg) (base := base) FLawSeenRight (fr 79 rfl) (fr 75 rfl) gLawMade GLawMade FLawMade.kp nLawMade gLawClash GLawClash FLawClash.kp nLawClash gClash GClash FClash.kp nClash kClash gFits GFits FFits.kp nFits kFits gFitting GFitting FFitting.kp nFitting kFitting gLawIsMember GLawIsMember FLawIsMember.kp nLawIsMember gLawIsOf GLawIsOf FLawIsOf.kp nLawIsOf
  have GLawRight := ok_right43 (P := P) (w := w) (mg := mg) (base := base) FLawRight (fr 74 rfl) (fr 77 rfl) (fr 73 rfl) gLawCard GLawCard FLawCard.kp nLawCard gLawDraw GLawDraw FLawDraw.kp nLawDraw gLawAnswer GLawAnswer FLawAnswer.kp nLawAnswer gLawSeenRight GLawSeenRight FLawSeenRight.kp nLawSeenRight
  exact ok_lawP (by decide) FLaw gLawRight GLawRight FLawRight.kp nLawRight gLawPurse GLawPurse FLawPurse.kp nLawPurse (fr 77 rfl) (fr 81 rfl) (fr 82 rfl) (fr 74 rfl)
end
end Ca
open PySem PySem.W PySem.Calls PyProof.Rows
theorem PySem.Challenge.cw_commonanswer_k43_whole_answers_that_were_holds : PySem.Challenge.rw_commonanswer_k43_whole_answers_that_were.Holds := by
  w_on; o_law
  refine HandSHeadRun.head_imp (r := Ca.rowk43) (q := view Ca.rowk43.prog [0, 83]) (H := Ca.hkk43) (ob := Ca.obk43) (M := 20000) (loose := Ca.namesk43) (d := HandSHeadRun.topDef Ca.rowk43.prog 83) (kwd := []) Ca.obk43_eq
    Ca.runk43 (by kernel_rfl) (by kernel_rfl) (by kernel_rfl) (by rfl) (by first | assumption | decide +kernel) (by decide +kernel) ⟨rfl, rfl, rfl, rfl, rfl, by decide +kernel⟩ ?hw ?hc
  case hw => w_witness2
  case hc =>
    refine Att.attach_call (l := PySem.Challenge.rw_commonanswer_k43_whole_answers_that_were) (n := 63) rfl (by kernel_rfl) fun w s₀ s₁ mg mb fa o pm cd doc a vs ns G Y ho hd hcd hmg hobj hints hlen hg => ?_
    obtain ⟨K, KX, c⟩ := Y
    have hmg' : mg ("law" : PySem.Str) = some (.ref fa) := by
      rw [← show (HandSHeadRun.topDef Ca.rowk43.prog 83).name = ("law" : PySem.Str) by kernel_rfl]
      exact hmg
    obtain ⟨fd, hb, hF⟩ := Ca.factsk43 (P := (PySem.Challenge.rw_commonanswer_k43_whole_answers_that_were).prog) (w := w) KX G.T.g hmg' c
    exact Ca.lawGT (k := 12) (cs := []) KX G.T.g G.T.b G.T.builtins G.T.nolimit hg (fun p hp => nomatch hp) (fun p hp => nomatch hp) (fun p hp => nomatch hp) G.T.bmain hobj hints (Nat.le_trans hlen (by decide)) ⟨rfl, by decide, by decide⟩
      (fun base _ _ _ => hF base) hb (fun H hB hS => ⟨a, ns, rfl, hS, (show LamX.Tabs [] H from fun p hp => by cases hp), fun _ => rfl⟩)
