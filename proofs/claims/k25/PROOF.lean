import PyProof.Rows.All
import Wide.All
import OpenK.AllK
import Wide.FinOn
import HandS.Base
import HandS.Call
import HandS.List
import HandS.Comp
import HandS.Ends
import HandS.Words
import HandS.WordsList
import HandS.Defaults
import HandS.HeadEnd
import HandS.Dict
import PyProof.ReprRoads
import HandS.OwnEq
import HandS.IsInst
import PyProof.InstNe
import KE.KCallOwn
import HandS.Iter
import KE.GoesEnum
import HandS.ForMost
import HandS.Star
import HandS.Walk
import PySem.Challenge.RW_commonanswer_k25_whole_possible_by_signs
import HandS.TupAny
import HandS.Property
import PyProof.Rows.RegStrFacts
import KE.KRevSl
import HandS.Style
import PyProof.Rows.RegFStrParts
import PyProof.Rows.ReprOcc
import HandS.MakeKw
import HandS.Zip
import HandS.Head0
import HandS.Head1
import HandS.Head2
import HandS.HeadHook1
import HandS.HeadHook2
import HandS.Exc
import HandS.ExcInit
import HandS.ExcField
import HandS.ExcIs
import KE.KExcInit
import KE.KExcIs
import HandS.ExcValue
import HandS.ExcOwn
import HandS.WordsExc
import HandS.TryMany
import HandS.HeadHook4
import HandS.Lambda
import HandS.EndBits
import HandS.Wide
import PyProof.MinMaxWalk
import PyProof.WalkInts
import PyProof.ConsumeS
import HandS.SortKw
import HandS.Head3
import HandS.Conv
import HandS.Zip0
import HandS.Gcd
import HandS.TupSets
import KE.KeyNested
import KE.SortData
import KE.KMathGC
import PyProof.NeData
import PyProof.EqKinds
import PyProof.ReprBulk
set_option Elab.async false
set_option linter.all false
set_option maxRecDepth 100000
set_option maxHeartbeats 4000000
namespace Ca
open PySem L2
/-! ### a mid-condition at a statement, an expression, a test -/
def cutS (t : TS) : TS := fun D σ H => ∃ P : St → Hp → Prop, t { D with nx := P } σ H ∧ ∀ σ' H', P σ' H' → D.nx σ' H'
theorem sp_mono {X : Cx} {pins : List (Addr × Obj)} {D : Ends} {P : St → Hp → Prop} {f : Flow} {s : Shared} (h : SP X pins { D with nx := P } f s) (k : ∀ σ' H', P σ' H' → D.nx σ' H') : SP X pins D f s := by
  cases f with
  | next => obtain ⟨σ', H', I, q⟩ := h; exact ⟨σ', H', I, k _ _ q⟩
  | brk => exact h
  | cont => exact h
  | ret u => exact h
theorem ps_cut {X : Cx} {st : Stmt} {t : TS} (h : PS X st t) : PS X st (cutS t) := ⟨fun pins s σ H D I q => by
  obtain ⟨P, q1, q2⟩ := q
  exact thn (h.run pins s σ H _ I q1) fun f s' z => sp_mono z q2⟩
/-! ### heaps -/
/-- an urn stands at l -/
def Urn (H : Hp) (l : Addr) : Prop := ∃ g x n : Int, 0 ≤ g ∧ 0 ≤ x ∧ x < 2147483629 ∧ H l = some (.lst [.int g, .int x, .int n])
/-- all that was tracked, but what stands at l, is as it was -/
def Kept (l : Addr) (H H' : Hp) : Prop := ∀ b o, b ≠ l → H b = some o → H' b = some o
theorem Kept.refl (l : Addr) (H : Hp) : Kept l H H := fun _ _ _ h => h
theorem Kept.trans {l : Addr} {H H1 H2 : Hp} (a : Kept l H H1) (b : Kept l H1 H2) : Kept l H H2 := fun c o n h => b c o n (a c o n h)
theorem _root_.L2.Same.kept {l : Addr} {H H' : Hp} (a : Same H H') : Kept l H H' := fun c o _ h => a c o h
theorem Kept.upd {l : Addr} {H : Hp} {o : HO} : Kept l H (L2.upd H l o) := fun b u n h => by rw [upd_ne n]; exact h
theorem Kept.new {l p : Addr} {H : Hp} {o : HO} (h : H p = none) : Kept l H (L2.upd H p o) := fun b u _ e => by rw [upd_ne (ne_of_none e h)]; exact e
theorem _root_.L2.Same.new {p : Addr} {H : Hp} {o : HO} (h : H p = none) : Same H (L2.upd H p o) := fun b u e => by rw [upd_ne (ne_of_none e h)]; exact e
theorem Urn.same {H H' : Hp} {l : Addr} (u : Urn H l) (s : Same H H') : Urn H' l := by
  obtain ⟨g, x, n, h1, h2, h3, h⟩ := u
  exact ⟨g, x, n, h1, h2, h3, s _ _ h⟩
theorem Urn.some {H : Hp} {l : Addr} (u : Urn H l) : ∃ o, H l = some o := by
  obtain ⟨g, x, n, h1, h2, h3, h⟩ := u
  exact ⟨_, h⟩
/-- what is new stands apart from what stood, also behind changes at l -/
theorem Kept.free {l b : Addr} {H H' : Hp} (k : Kept l H H') (n : b ≠ l) (h : H' b = none) : H b = none := by
  cases q : H b with
  | none => rfl
  | some o => rw [k b o n q] at h; cases h

/-- the built-in names are still their own -/
structure Bi (mg : Str → Option Value) : Prop where
  len : mg "len" = none
  int : mg "int" = none
  abs : mg "abs" = none
  divmod : mg "divmod" = none

def spDip : Sp := fun vs H Q _ => ∃ (l : Addr) (t : Int), vs = [.ref l, .int t] ∧ Urn H l ∧ 0 < t ∧ t < 1073741824 ∧
  ∀ H' r, Kept l H H' → Urn H' l → 0 ≤ r → r < t → Q (.int r) H'
def spFrom (K : PySem.W.Frag) : Sp := fun vs H Q _ => ∃ (l a : Addr) (xs : List V), vs = [.ref l, .ref a] ∧ Urn H l ∧ H a = some (.lst xs) ∧ a ≠ l ∧ 0 < xs.length ∧ xs.length < 1000 ∧
  ∀ H' (i : Nat) v, xs[i]? = some v → Kept l H H' → Urn H' l → Q v H'

theorem cut_int_get {ns : List Int} {lo hi : Option Int} {i : Nat} {y : V} (h : (cutV (ns.map V.int) lo hi)[i]? = some y) : ∃ z, y = V.int z := by
  have m := List.mem_of_getElem? h
  unfold cutV at m
  have m2 := List.mem_of_mem_drop (List.mem_of_mem_take m)
  obtain ⟨z, _, e⟩ := List.mem_map.mp m2
  exact ⟨z, e.symm⟩
end Ca
set_option Elab.async false
set_option linter.all false
set_option maxRecDepth 100000
set_option maxHeartbeats 4000000
namespace Ca
open PySem PySem.Spec PyProof.Rows L2
/-! ### defs that ask repr: called where no repr is under way -/
structure FnG (P : Program) (w : World) (K : PySem.W.Frag) (mg : Str → Option Value) (base : Heap) (k : Nat) (f : Addr) (fd : FuncData) (ps : List Str) (sp : Sp) : Prop where
  len : ∀ vs H Q E, sp vs H Q E → vs.length = ps.length
  run : ∀ (A : Around) (outer : List Env) (s : Shared) (H : Hp) (args : Args) (us : List Value) (vs : List V) (Q : VK), A.guards = some [] → Room k A → Env0 P w K mg base A outer s H → BindsTo s fd args (ps.zip us) → Vals vs us → sp vs H Q E0 →
    codeAny (model P w) A (.call (.ref f) args) (CR CX0 outer P w H s Q E0) s
theorem guards_deeper {A : Around} (h : A.guards = some []) (env : Env) : (A.deeper env).guards = some [] := by
  first | exact h | (simp [Around.deeper, h]; done)
/-- a def by its body: the body may ask that no repr is under way -/
theorem fnG_of {P : Program} {w : World} {K : PySem.W.Frag} {mg : Str → Option Value} {base : Heap} {k : Nat} {f : Addr} {x qual : Str} {params : Arguments} {body : List Stmt} {scope : Scope} {dvs : List V} {kws : List (Str × V)} {fd : FuncData} {N ps : List Str} {sp : Sp}
    (F : FunD K x qual params body scope dvs kws f fd) (S : FnScope N ps scope) (len : ∀ vs H Q E, sp vs H Q E → vs.length = ps.length)
    (hbody : ∀ (cdv : Value) (A : Around) (outer : List Env) (s : Shared) (H : Hp) (vs : List V) (Q : VK), (A.deeper (envOfC qual scope s.heap.objs.size f cdv)).guards = some [] → Room k (A.deeper (envOfC qual scope s.heap.objs.size f cdv)) → sp vs H Q E0 →
      ∃ t, PSs (cxOf CX0 P w K mg base N qual scope f cdv A outer s H E0) body t ∧ t { nx := fun _ H' => Q .non H', rt := Q } (start N vs) H) :
    FnG P w K mg base (k + 1) f fd ps sp := by
  obtain ⟨oc, od, dV, kV, doc, pm, an, cdv, ct, osl, rfl, lk, hcd, _, _⟩ := F.ex
  constructor
  · exact len
  · intro A outer s H args us vs Q hgd hr e0 hb r hsp
    have hl := len _ _ _ _ hsp
    have stays : ∀ b o, base.get? b = some o → s.heap.get? b = some o := fun b o e => (e0.bs b o e).1
    have KX : K.In s.heap := e0.mod.kin.keeps stays
    have kinds : ∀ y ∈ ps.zip us, scope.names.lookup y.1 = some .local ∨ (scope.names.lookup y.1 = some .cell ∧ ((cellsFrom (s.heap.objs.size + 1) scope.names []).lookup y.1).isSome = true) := by
      intro y hy
      obtain ⟨n, v⟩ := y
      cases S.par n (List.of_mem_zip hy).1 with
      | inl q => exact .inl q
      | inr q => exact .inr ⟨q, PySem.W.cellsFrom_some _ _ _ (.inl q)⟩
    refine codeAny_call_function hr.depth (KX _ _ lk) rfl S.co S.gen rfl (PySem.W.codeRec_of KX hcd) (hb _ _ _ _ ?_)
    refine wpAny_newFunctionEnv_cells S.kind kinds fun env he s1 x => ?_
    subst he
    refine ⟨(e0.mod.nolimit.keeps stays).keeps x.toInCall.keep, codeAny_func ?_⟩
    obtain ⟨t, ht, hq⟩ := hbody cdv A outer s H vs Q (guards_deeper hgd _) (hr.deeper _) hsp
    have I : Inv (cxOf CX0 P w K mg base N qual scope f cdv A outer s H E0) [] (start N vs) H s1 := inv_start S hr.hd e0 hl r x
    refine wpAny_mono (ht.run [] s1 (start N vs) H _ I hq) (fun fl s' hs => ?_) fun e s' hs => hs
    cases fl with
    | ret u =>
      obtain ⟨v, σ', H', J, rv, q⟩ := hs
      exact ⟨v, H', J.os, J.bare, J.base, J.hok, rv, q⟩
    | next =>
      obtain ⟨σ', H', J, q⟩ := hs
      exact ⟨.non, H', J.os, J.bare, J.base, J.hok, rfl, q⟩
    | brk => exact hs.elim fun _ z => z.elim fun _ y => y.2.elim
    | cont => exact hs.elim fun _ z => z.elim fun _ y => y.2.elim
section
variable {X : Cx} {k : Nat} {f : Addr} {fd : FuncData} {ps : List Str} {sp : Sp} {x : Str} {p pos : Pos} {e : Expr} {es : List Expr} {t : TA}
/-- a call of such a def -/
theorem pe_callG (F : FnG X.prog X.w X.K X.mg X.base k f fd ps sp) (hgd : X.A.guards = some []) (hr : Room k X.A) (hm : X.mg x = some (.ref f)) (hk : PySem.W.keepIn X.K (.ref f) = true) (hb : Binds X.K fd ps [])
    (ha : PA X (e :: es) t) (hg : Gl X x := by rfl) (hdb : (x == ("__debug__" : Str)) = false := by decide) (he : starEach (e :: es) X.env = (false, eval e X.env) :: starEach es X.env := by rfl) (hpl : (backTo pos (starEach es X.env)).any (·.1) = false := by rfl) :
    PE X (.Call (.Name x p) (e :: es) [] pos) (tCall sp [] E0 t) := by
  refine ⟨fun pins s σ H Q I h => ?_⟩
  refine wpAny_Call_Name_kw (ld_glob I hg hm ?_ hdb)
  refine PySem.W.callWith_K (h₀ := X.base) I.ok.mod.kin hk (thn (ha.run pos pins s σ H _ I h) fun us s1 z => ?_) he hpl
  obtain ⟨vs, H1, I1, r, q⟩ := z
  rw [List.append_nil] at q
  refine ⟨I1.kIn, ?_⟩
  have hl : us.length = ps.length := by
    rw [← r.length]
    exact F.len _ _ _ _ q
  have bd := hb s1 us I1.kIn (by rw [List.append_nil]; exact hl)
  rw [List.append_nil] at bd
  show wpAny _ _ (call (.ref f) us) _ _ _
  refine wpAny_call (codeAny_mono (F.run X.A X.stack s1 H1 ⟨us, []⟩ us vs Q hgd hr I1.env0 bd r q) fun res s' z => ?_)
  cases res with
  | error er => exact z.elim
  | ok fl =>
    cases fl with
    | ret u => exact I1.after z
    | next => exact z.elim
    | brk => exact z.elim
    | cont => exact z.elim
end
end Ca
set_option Elab.async false
set_option linter.all false
set_option maxRecDepth 100000
set_option maxHeartbeats 4000000
namespace Ca
open PySem PySem.Spec PyProof.Rows L2
/-- a key as data -/
def kd : Key → PyData
  | .inl i => .int i
  | .inr x => .str x
/-- the dict of modules is known to be one -/
def SysM (K : PySem.W.Frag) : Prop := ∃ o es n, K.lookup sysModules = some o ∧ o.data = .dict es n
/-! ### data that may hold dicts without keys -/
mutual
inductive De (K : PySem.W.Frag) (H : Hp) : V → PyData → Prop
  | non : De K H .non .none
  | bl (b : Bool) : De K H (.bl b) (.bool b)
  | int (i : Int) : De K H (.int i) (.int i)
  | str (x : Str) : De K H (.str x) (.str x)
  | lst {a : Addr} {xs : List V} {ds : List PyData} : SqL K H a xs → DeAll K H xs ds → De K H (.ref a) (.list ds)
  | tup {a : Addr} {xs : List V} {ds : List PyData} : SqT K H a xs → DeAll K H xs ds → De K H (.ref a) (.tuple ds)
  | dic {a : Addr} : H a = some (.dK []) → De K H (.ref a) (.dict [])
inductive DeAll (K : PySem.W.Frag) (H : Hp) : List V → List PyData → Prop
  | nil : DeAll K H [] []
  | cons {v : V} {vs : List V} {d : PyData} {ds : List PyData} : De K H v d → DeAll K H vs ds → DeAll K H (v :: vs) (d :: ds)
end
theorem sql_mono {K : PySem.W.Frag} {H H' : Hp} {a : Addr} {xs : List V} (k : ∀ b o, H b = some o → (∀ ps, o ≠ .tbl ps) → H' b = some o) : SqL K H a xs → SqL K H' a xs
  | .inl (.inl e) => .inl (.inl (k _ _ e fun _ z => nomatch z))
  | .inl (.inr ⟨o, e⟩) => .inl (.inr ⟨o, k _ _ e fun _ z => nomatch z⟩)
  | .inr e => .inr e
theorem sqt_mono {K : PySem.W.Frag} {H H' : Hp} {a : Addr} {xs : List V} (k : ∀ b o, H b = some o → (∀ ps, o ≠ .tbl ps) → H' b = some o) : SqT K H a xs → SqT K H' a xs
  | .inl (.inl e) => .inl (.inl (k _ _ e fun _ z => nomatch z))
  | .inl (.inr ⟨o, e⟩) => .inl (.inr ⟨o, k _ _ e fun _ z => nomatch z⟩)
  | .inr e => .inr e
mutual
theorem De.mono {K : PySem.W.Frag} {H H' : Hp} (k : ∀ b o, H b = some o → (∀ ps, o ≠ .tbl ps) → H' b = some o) : ∀ {d : PyData} {v : V}, De K H v d → De K H' v d
  | .none, _, .non => .non
  | .bool _, _, .bl b => .bl b
  | .int _, _, .int i => .int i
  | .str _, _, .str x => .str x
  | .list _, _, .lst a b => .lst (sql_mono k a) (DeAll.mono k b)
  | .tuple _, _, .tup a b => .tup (sqt_mono k a) (DeAll.mono k b)
  | .dict _, _, .dic a => .dic (k _ _ a fun _ z => nomatch z)
theorem DeAll.mono {K : PySem.W.Frag} {H H' : Hp} (k : ∀ b o, H b = some o → (∀ ps, o ≠ .tbl ps) → H' b = some o) : ∀ {ds : List PyData} {vs : List V}, DeAll K H vs ds → DeAll K H' vs ds
  | [], _, .nil => .nil
  | _ :: _, _, .cons a b => .cons (De.mono k a) (DeAll.mono k b)
end
/-- a value whose repr is known: data without dicts, or a dict of such, or data that may hold dicts without keys -/
inductive Rp (K : PySem.W.Frag) (H : Hp) : V → PyData → Prop
  | dat {v : V} {d : PyData} : Dp K H v d → SeqAt.shaped d = true → Rp K H v d
  | dic {p : Addr} {kvs : List (Key × V)} {ds : List PyData} : H p = some (.dK kvs) → DpAll K H (kvs.map (·.2)) ds → PyData.hasDictAll ds = false → Rp K H (.ref p) (.dict ((kvs.map fun kv => kd kv.1).zip ds))
  | dee {v : V} {d : PyData} : SysM K → De K H v d → Rp K H v d
def rRepr (K : PySem.W.Frag) : List V → Hp → VK → Prop := fun xs H Q => ∃ v d, xs = [v] ∧ Rp K H v d ∧ d.showable = true ∧ d.depth ≤ 64 ∧ d.shown.length ≤ sizeLine ∧ Q (.str d.shown) H
theorem dpAll_len {K : PySem.W.Frag} {H : Hp} : ∀ {vs : List V} {ds : List PyData}, DpAll K H vs ds → vs.length = ds.length
  | _, _, .nil => rfl
  | _, _, .cons _ t => congrArg Nat.succ (dpAll_len t)
section
variable {X : Cx} {pins : List (Addr × Obj)} {σ : L2.St} {H : Hp} {s : Shared}
/-- the keys and the values of a dict as they stand -/
theorem pairs_read {P : Program} {w : World} {h : Heap} : ∀ {es : List DictEntry} {ws : List (Key × Value)}, PySem.Pairs (mixKind P w) es ws →
    (∃ as, ReadsAll h (es.map (·.key)) (ws.map fun kv => kd kv.1) as) ∧ es.map (·.val) = ws.map (·.2)
  | _, _, .nil => ⟨⟨[], .nil⟩, rfl⟩
  | _, _, .cons (e := e) (kv := kv) hk hv t => by
    obtain ⟨⟨as, r⟩, q⟩ := pairs_read (h := h) t
    refine ⟨?_, by rw [List.map_cons, List.map_cons, q, hv]⟩
    obtain ⟨k, v⟩ := kv
    rcases keyIs_shape (show keyIs k e.key = true from hk) with ⟨i, t', ek, ev⟩ | ⟨x, t', ek, ev⟩
    · subst ek
      refine ⟨[] ++ as, ReadsAll.cons (as := []) ?_ r⟩
      show Reads h e.key (.int i) []
      rw [ev]
      exact Reads.int i t'
    · subst ek
      refine ⟨[] ++ as, ReadsAll.cons (as := []) ?_ r⟩
      show Reads h e.key (.str x) []
      rw [ev]
      exact Reads.str x t'
theorem kv_vals : ∀ {kvs : List (Key × V)} {ws : List (Key × Value)}, KV kvs ws → Vals (kvs.map (·.2)) (ws.map (·.2)) ∧ (kvs.map fun kv => kd kv.1) = ws.map fun kv => kd kv.1
  | _, _, .nil => ⟨.nil, rfl⟩
  | _, _, .cons r t => by
    obtain ⟨h1, h2⟩ := kv_vals t
    exact ⟨.cons r.2 h1, by rw [List.map_cons, List.map_cons, h2, r.1]⟩
theorem keys_plain : ∀ ws : List (Key × Value), PyData.hasDictAll (ws.map fun kv => kd kv.1) = false
  | [] => by simp only [List.map_nil, PyData.hasDictAll]
  | (.inl i, v) :: l => by
    show PyData.hasDictAll (.int i :: l.map fun kv => kd kv.1) = false
    simp only [PyData.hasDictAll, PyData.hasDict, Bool.false_or]
    exact keys_plain l
  | (.inr x, v) :: l => by
    show PyData.hasDictAll (.str x :: l.map fun kv => kd kv.1) = false
    simp only [PyData.hasDictAll, PyData.hasDict, Bool.false_or]
    exact keys_plain l
mutual
theorem De.told (SM : SysM X.K) (I : Inv X pins σ H s) : ∀ (d : PyData) (v : V) (u : Value), De X.K H v d → RelV v u → ∃ as, Reads s.heap u d as ∧ sysModules ∉ as
  | .none, _, u, .non, r => by
    obtain rfl : u = .none := r
    exact ⟨[], .none, fun z => nomatch z⟩
  | .bool b, _, u, .bl _, r => by
    obtain rfl : u = .bool b := r
    exact ⟨[], .bool b, fun z => nomatch z⟩
  | .int i, _, u, .int _, r => by
    obtain ⟨t, rfl⟩ : ∃ t, u = .int i t := r
    exact ⟨[], .int i t, fun z => nomatch z⟩
  | .str x, _, u, .str _, r => by
    obtain ⟨t, rfl⟩ : ∃ t, u = .str x t := r
    exact ⟨[], .str x t, fun z => nomatch z⟩
  | .list ds, _, u, .lst (a := a) hs ha, r => by
    obtain rfl : u = .ref a := r
    obtain ⟨its, rv, ⟨o, n, e1, e2, _, e3⟩, _⟩ := I.list hs
    obtain ⟨as, R, na⟩ := DeAll.told SM I ds _ its ha rv
    refine ⟨a :: as, .list e1 e2 e3 R, fun z => ?_⟩
    rcases List.mem_cons.mp z with z | z
    · obtain ⟨o', es, m, lk, dd⟩ := SM
      have g := I.kIn _ _ lk
      rw [z, e1] at g
      cases g
      rw [dd] at e3
      cases e3
    · exact na z
  | .tuple ds, _, u, .tup (a := a) hs ha, r => by
    obtain rfl : u = .ref a := r
    obtain ⟨its, rv, ⟨o, e1, e2, n, e3⟩, _⟩ := I.tuple hs
    obtain ⟨as, R, na⟩ := DeAll.told SM I ds _ its ha rv
    exact ⟨as, .tuple e1 e2 e3 R, na⟩
  | .dict _, _, u, .dic (a := a) h, r => by
    obtain rfl : u = .ref a := r
    obtain ⟨_, sys, ws, rel, o, es, ep, ho, hx, hd, _, ps, _⟩ := dk_of I.hok h
    cases rel
    have he : es.toList = [] := by
      generalize es.toList = l at ps
      cases ps
      rfl
    refine ⟨a :: [] ++ [], .dict ho hx.1 hd (by rw [he]; exact .nil) (by rw [he]; exact .nil), fun z => ?_⟩
    have z' : sysModules = a := List.mem_singleton.mp z
    rw [z', beq_self_eq_true] at sys
    cases sys
theorem DeAll.told (SM : SysM X.K) (I : Inv X pins σ H s) : ∀ (ds : List PyData) (vs : List V) (us : List Value), DeAll X.K H vs ds → Vals vs us → ∃ as, ReadsAll s.heap us ds as ∧ sysModules ∉ as
  | [], _, us, .nil, r => by
    cases r
    exact ⟨[], .nil, fun z => nomatch z⟩
  | d :: ds, _, us, .cons h t, r => by
    cases r with
    | cons r1 r2 =>
      obtain ⟨as, R1, n1⟩ := De.told SM I d _ _ h r1
      obtain ⟨bs, R2, n2⟩ := DeAll.told SM I ds _ _ t r2
      exact ⟨as ++ bs, .cons R1 R2, fun z => (List.mem_append.mp z).elim n1 n2⟩
end
theorem call_repr (hgd : X.A.guards = some []) (hu : X.A.units + 200 < cLine) : CallR X (.builtin "repr") (rRepr X.K) := by
  intro pins s σ H xs us Q I r h
  obtain ⟨v, d, rfl, rp, sh, dp, sz, q⟩ := h
  cases r with
  | @cons _ u _ _ ru rr =>
    cases rr
    cases rp with
    | dat D sd =>
      obtain ⟨as, R⟩ := Dp.reads I d v u D ru
      have nd : d.hasDict = false := PyData.hasDict_of_canLay d (SeqAt.canLay_of_shaped sd)
      have fin : ∀ h' z tk, (∀ b o, s.heap.get? b = some o → h'.get? b = some o) → EP X pins σ Q (.str d.shown z) { s with heap := h', toks := tk } := fun h' z tk kp => ⟨.str d.shown, H, I.kept (t' := tk) kp, ⟨z, rfl⟩, q⟩
      cases R with
      | none => exact P.repr_of_none (by simpa only [PyData.shown] using fin s.heap s.toks _ (fun _ _ e => e))
      | bool b => exact P.repr_of_bool (by simpa only [PyData.shown] using fin s.heap s.toks _ (fun _ _ e => e))
      | int i t => exact P.repr_of_int (by simpa only [PyData.showable, decide_eq_true_eq] using sh) (by simpa only [PyData.shown] using fin s.heap s.toks _ (fun _ _ e => e))
      | str x t => exact P.repr_of_str (by simpa only [PyData.shown] using fin s.heap s.toks _ (fun _ _ e => e)) (by simpa only [PyData.shown] using sz)
      | list h1 h2 h3 h4 => exact repr_of_reads' (.list h1 h2 h3 h4) sh (PyData.noDict_hsm nd) hgd (by omega) (fun _ _ e => e) fin sz
      | tuple h1 h2 h3 h4 => exact repr_of_reads' (.tuple h1 h2 h3 h4) sh (PyData.noDict_hsm nd) hgd (by omega) (fun _ _ e => e) fin sz
      | dict h1 h2 h3 h4 h5 => exact repr_of_reads' (.dict h1 h2 h3 h4 h5) sh (PyData.noDict_hsm nd) hgd (by omega) (fun _ _ e => e) fin sz
    | dee SM D =>
      obtain ⟨as, R, na⟩ := De.told SM I d v u D ru
      have fin : ∀ h' z tk, (∀ b o, s.heap.get? b = some o → h'.get? b = some o) → EP X pins σ Q (.str d.shown z) { s with heap := h', toks := tk } := fun h' z tk kp => ⟨.str d.shown, H, I.kept (t' := tk) kp, ⟨z, rfl⟩, q⟩
      cases R with
      | none => exact P.repr_of_none (by simpa only [PyData.shown] using fin s.heap s.toks _ (fun _ _ e => e))
      | bool b => exact P.repr_of_bool (by simpa only [PyData.shown] using fin s.heap s.toks _ (fun _ _ e => e))
      | int i t => exact P.repr_of_int (by simpa only [PyData.showable, decide_eq_true_eq] using sh) (by simpa only [PyData.shown] using fin s.heap s.toks _ (fun _ _ e => e))
      | str x t => exact P.repr_of_str (by simpa only [PyData.shown] using fin s.heap s.toks _ (fun _ _ e => e)) (by simpa only [PyData.shown] using sz)
      | list h1 h2 h3 h4 => exact repr_of_reads' (.list h1 h2 h3 h4) sh (fun _ => na) hgd (by omega) (fun _ _ e => e) fin sz
      | tuple h1 h2 h3 h4 => exact repr_of_reads' (.tuple h1 h2 h3 h4) sh (fun _ => na) hgd (by omega) (fun _ _ e => e) fin sz
      | dict h1 h2 h3 h4 h5 => exact repr_of_reads' (.dict h1 h2 h3 h4 h5) sh (fun _ => na) hgd (by omega) (fun _ _ e => e) fin sz
    | @dic p kvs ds hp D nd =>
      obtain rfl : u = Value.ref p := ru
      obtain ⟨_, sys, ws, rel, o, es, ep, ho, hx, hd, _, ps, _⟩ := dk_of I.hok hp
      obtain ⟨rv, ek⟩ := kv_vals rel
      obtain ⟨⟨as, rk⟩, evs⟩ := pairs_read (h := s.heap) ps
      obtain ⟨bs, rvs⟩ := Dp.readsAll I ds _ _ D rv
      rw [← evs] at rvs
      have lz : (kvs.map fun kv => kd kv.1).length = ds.length := by
        rw [List.length_map, ← dpAll_len D, List.length_map]
      have z1 : ((kvs.map fun kv => kd kv.1).zip ds).map (·.1) = ws.map fun kv => kd kv.1 := by
        rw [← ek]
        exact List.map_fst_zip (Nat.le_of_eq lz)
      have z2 : ((kvs.map fun kv => kd kv.1).zip ds).map (·.2) = ds := List.map_snd_zip (Nat.le_of_eq lz.symm)
      have R : Reads s.heap (.ref p) (.dict ((kvs.map fun kv => kd kv.1).zip ds)) _ := Reads.dict ho hx.1 hd (by rw [z1]; exact rk) (by rw [z2]; exact rvs)
      generalize (kvs.map fun kv => kd kv.1).zip ds = kk at R z1 z2 sh dp sz q
      have hz' : (dictText (PyData.shownKv kk)).length ≤ sizeLine := by simpa only [PyData.shown] using sz
      obtain ⟨hs1, hs2⟩ := PyData.showableKv_split kk (by simpa only [PyData.showable] using sh)
      have nk : PyData.hasDictAll (kk.map (·.1)) = false := by
        rw [z1]
        exact keys_plain ws
      obtain ⟨b1, hb1, k1⟩ := ReprAllK.of_readsAll (prog := X.prog) (w := X.w) (by rw [z1]; exact rk : ReadsAll s.heap (es.toList.map (·.key)) (kk.map (·.1)) as) hs1 (fun y => by rw [nk] at y; cases y)
        (fun t ht => let ⟨e, he, hl⟩ := PyData.shownKv_key_le kk t ht; Nat.le_trans hl (Nat.le_trans (dictText_mem_le he) hz'))
      obtain ⟨b2, hb2, k2⟩ := ReprAllK.of_readsAll (prog := X.prog) (w := X.w) (by rw [z2]; exact rvs : ReadsAll s.heap (es.toList.map (·.val)) (kk.map (·.2)) bs) hs2 (fun y => by rw [z2, nd] at y; cases y)
        (fun t ht => let ⟨e, he, hl⟩ := PyData.shownKv_val_le kk t ht; Nat.le_trans hl (Nat.le_trans (dictText_mem_le he) hz'))
      have hb : ReadAtMost s.heap (PyData.depthKv kk) (b1 ++ b2) := (hb1.mono (PyData.depthAll_keys_le kk)).append (hb2.mono (PyData.depthAll_vals_le kk))
      have hna : p ∉ b1 ++ b2 := not_mem_of_deeper R (by simp only [PyData.depth]; omega) hb
      have dp' : PyData.depthKv kk + 1 ≤ 64 := by simpa only [PyData.depth] using dp
      have ent := ReprEntriesK.of_two es.toList _ _ (k1.more_le (fun b hb => List.mem_append_left _ hb) (PyData.depthAll_keys_le kk)) (k2.more_le (fun b hb => List.mem_append_right _ hb) (PyData.depthAll_vals_le kk))
      refine call_repr_slot (by omega) ⟨o, ho, hx.1⟩ F.slot_dict_repr ?_
      refine call_dict_reprK ho hx.1 hd sys hna ent hgd (fun b _ => Clear.nil b) (by show X.A.units + 1 + (PyData.depthKv kk + 1) < cLine; omega) (fun _ _ e => e) (fun h' z tk kp => ⟨_, _, rfl, ?_⟩) (by rw [← PyData.shownKv_eq]; exact hz')
      refine ⟨.str (PyData.dict kk).shown, H, I.kept (t' := tk) kp, ⟨z, ?_⟩, q⟩
      simp only [PyData.shown, PyData.shownKv_eq]
end
end Ca
set_option Elab.async false
set_option linter.all false
set_option maxRecDepth 100000
set_option maxHeartbeats 4000000
namespace Ca
open PySem PySem.Spec PyProof.Rows L2
/-! ### a < b < c < d -/
def tChain3 (r r' r'' : R2) (ta tb tc td : TE) : TE := fun σ H Q => ta σ H fun x H1 => tb σ H1 fun y H2 => r x y H2 fun z G3 => ∃ k, z = .bl k ∧
  (if k = true then tc σ G3 fun w' H4 => r' y w' H4 fun z' H5 => ∃ k', z' = .bl k' ∧ (if k' = true then td σ H5 fun x' H6 => r'' w' x' H6 Q else Q (.bl false) H5) else Q (.bl false) G3)
section
variable {X : Cx} {a b c d : Expr} {ta tb tc td : TE} {pos : Pos} {k : Nat} {f C : Addr} {fd : FuncData} {ps : List Str} {sp : Sp} {pins : List (Addr × Obj)} {σ : L2.St} {H : Hp} {s : Shared}
theorem pe_chain3 {op op' op'' : CmpOp} {r r' r'' : R2} (ho : OpR X (compareOp op) r) (ho' : OpR X (compareOp op') r') (ho'' : OpR X (compareOp op'') r'') (ha : PE X a ta) (hb : PE X b tb) (hc : PE X c tc) (hd : PE X d td)
    (hm : lastMarks [op, op', op''] [b, c, d] = false := by with_unfolding_all rfl) : PE X (.Compare a [op, op', op''] [b, c, d] pos) (tChain3 r r' r'' ta tb tc td) := by
  refine ⟨fun pins s σ H Q I h => ?_⟩
  refine Compare_chain (thn (ha.run pins s σ H _ I h) fun v s1 ⟨x, H1, I1, r1, q1⟩ => chain_link (thn (hb.run pins s1 σ H1 _ I1 q1) fun u s2 ⟨y, H2, I2, r2, q2⟩ =>
    thn (ho pins s2 σ H2 x y v u _ I2 r1 r2 q2) fun z0 s3 ⟨z, G3, J3, c3, k, e, w3⟩ => ?_)) hm
  subst e
  cases c3
  refine wpAny_truthy_bool ?_
  cases k with
  | false => exact ite_ff ⟨.bl false, G3, J3, rfl, w3⟩
  | true =>
    refine ite_tt (chain_link (thn (hc.run pins s3 σ G3 _ J3 w3) fun w' s4 ⟨z', H4, I4, r4, q4⟩ => thn (ho' pins s4 σ H4 y z' u w' _ I4 r2 r4 q4) fun z1 s5 ⟨z2, H5, I5, r5, k', e', q5⟩ => ?_))
    subst e'
    cases r5
    refine wpAny_truthy_bool ?_
    cases k' with
    | false => exact ite_ff ⟨.bl false, H5, I5, rfl, q5⟩
    | true => exact ite_tt (chain_last (thn (hd.run pins s5 σ H5 _ I5 q5) fun x' s6 ⟨z3, H6, I6, r6, q6⟩ => ho'' pins s6 σ H6 z' z3 w' x' Q I6 r4 r6 q6))
/-! ### own methods that the language itself calls -/
end
/-- a value's type, for a comparison -/
inductive Ty (K : PySem.W.Frag) (H : Hp) : V → Value → Prop where
  | non : Ty K H .non (.type "NoneType")
  | bl (x : Bool) : Ty K H (.bl x) (.type "bool")
  | int (i : Int) : Ty K H (.int i) (.type "int")
  | str (x : Str) : Ty K H (.str x) (.type "str")
  | lst {a : Addr} {xs : List V} (e : SqL K H a xs) : Ty K H (.ref a) (.type "list")
  | tup {a : Addr} {xs : List V} (e : SqT K H a xs) : Ty K H (.ref a) (.type "tuple")
  | dic {a : Addr} {kvs : List (Key × V)} (e : H a = some (.dK kvs)) : Ty K H (.ref a) (.type "dict")
  | ins {a C dx : Addr} {fs : List (Str × V)} (e : H a = some (.ins C dx fs)) : Ty K H (.ref a) (.ref C)
section
variable {X : Cx} {k : Nat} {f C : Addr} {fd : FuncData} {ps : List Str} {sp : Sp} {pins : List (Addr × Obj)} {σ : L2.St} {H : Hp} {s : Shared}
end
end Ca
set_option Elab.async false
set_option linter.all false
set_option maxRecDepth 100000
set_option maxHeartbeats 4000000
namespace PySem
open Sem (wp)
/-- enumerate(v): its two new cells -/
theorem cx_enum_new {v : Value} {o : Obj} {H : Heap → Prop} (B : Begins v o H) :
    Meets (Builtin.«enumerate.__new__» ⟨[.type "enumerate", v], []⟩) (fun _ R s => H s.heap ∧
      R (.ok (.ret (.ref (s.heap.push o).objs.size))) { s with heap := (s.heap.push o).push { cls := .type "enumerate", data := .fields #[.none, .bool false, .ref s.heap.objs.size, rawInt 0, .none, .none] } }) :=
  .of_wp fun prog w A R s h => by
    obtain ⟨hp, g, d, tk, os⟩ := s
    obtain ⟨h1, h⟩ := h
    have z1 := sub_enumerate
    have z2 : ∀ {A' : Around} {E : Value → Shared → Prop} {Q : Value → Shared → Prop}, Q (.ref hp.objs.size) ⟨hp.push o, g, d, tk, os⟩ → wpAny (model prog w) A' (pyIter v) Q E ⟨hp, g, d, tk, os⟩ :=
      fun q => B.iter prog w _ _ ⟨hp, g, d, tk, os⟩ _ h1 q
    wp_walk using z2
    refine wpAny_stack_any fun st => wpAny_pure ?_
    split
    · rename_i c _ _ _ _ _
      cases (c == Value.type "enumerate") <;> (wp_walk using z2; exact ⟨_, rfl, h⟩)
    · wp_walk using z2
      exact ⟨_, rfl, h⟩
section
variable {prog : Program} {w : World} {A : Around} {E : Value → Shared → Prop} {s : Shared}
theorem cx_enum {v : Value} {o : Obj} {H : Heap → Prop} {Q : Value → Shared → Prop} (B : Begins v o H) (h1 : H s.heap)
    (h : ∀ h', IsEnum h' (s.heap.objs.size + 1) s.heap.objs.size 0 .none → h'.get? s.heap.objs.size = some o → h'.objs.size = s.heap.objs.size + 2 →
      (∀ b o, s.heap.get? b = some o → h'.get? b = some o) → Q (.ref (s.heap.objs.size + 1)) { s with heap := h' }) :
    wpAny (model prog w) A (call (.type "enumerate") [v]) Q E s := by
  refine callType_new F.called_enumerate (by decide) (F.typeCall_enumerate_1 _) (F.newCall_enumerate_1 _) (fun obj => F.args_object_init_2 obj _) F.entry_enumerate_new (cx_enum_new B) ⟨h1, ?_⟩
  have hSz : (s.heap.push o).objs.size = s.heap.objs.size + 1 := Heap.size_push ..
  show _ ∧ _
  rw [hSz]
  have hEn : IsEnum ((s.heap.push o).push { cls := .type "enumerate", data := .fields #[.none, .bool false, .ref s.heap.objs.size, rawInt 0, .none, .none] }) (s.heap.objs.size + 1) s.heap.objs.size 0 .none := by
    have z := Heap.get?_push_size (s.heap.push o) (o := { cls := .type "enumerate", data := .fields #[.none, .bool false, .ref s.heap.objs.size, rawInt 0, .none, .none] }) rfl
    rw [hSz] at z
    exact z
  exact ⟨⟨_, hEn, rfl⟩, h _ hEn (Heap.get?_push_of_some _ (Heap.get?_push_size _ B.free)) (by rw [Heap.size_push, hSz]) fun b o x => Heap.get?_push_of_some _ (Heap.get?_push_of_some _ x)⟩
end
end PySem
namespace Ca
open PySem PySem.Spec PyProof.Rows L2
/-! ### enumerate(tuple) -/
def IteT (K : PySem.W.Frag) (a : Addr) : It :=
  ⟨fun i H => ∃ (xs : List V) (x : V), SqT K H a xs ∧ xs[i]? = some x, fun i H v H' => ∃ T x, v = .ref T ∧ H T = none ∧ H' = upd H T (.tup [.int (i : Nat), x]) ∧ ∀ xs, SqT K H a xs → xs[i]? = some x, fun i H => ∃ xs : List V, SqT K H a xs ∧ xs.length = i⟩
theorem turn_enumT {P : Program} {w : World} {K : PySem.W.Frag} {elts : List Expr} {kk : Nat} {tpos : Pos} (a e it : Addr) :
    Turn P w K (.Tuple elts kk tpos) (IteT K a) [e, it] e (fun i h => (∃ was, IsEnum h e it ((i : Nat) : Int) was) ∧ h.IsTupleIter it a i ∧ e ≠ it) where
  mem := by simp
  obj := fun i h st b hb => by
    obtain ⟨⟨was, hEn⟩, ⟨o, ho, hc, hd⟩, _⟩ := st
    rcases (show b = e ∨ b = it by simpa using hb) with z | z
    · rw [z]; exact ⟨_, hEn, fun v q => nomatch q⟩
    · rw [z]; exact ⟨o, ho, fun v q => by rw [hd] at q; cases q⟩
  keep := fun i h h' st k => let ⟨⟨was, hEn⟩, hi, hne⟩ := st; ⟨⟨was, k e (by simp) _ hEn⟩, hi.at fun o q => k it (by simp) o q, hne⟩
  item := by
    intro X hP hw hK hc i pins s σ H E I hf st hg
    subst hP hw hK
    obtain ⟨⟨was, hEn⟩, hIt, hne⟩ := st
    obtain ⟨xs, x, hSq, hIx⟩ := hg
    obtain ⟨its, rVs, p, hSz⟩ := I.tuple hSq
    obtain ⟨u, hUu, rUu⟩ := rVs.get hIx
    have ltE : e < s.heap.objs.size := Heap.lt_size hEn
    have ltI : it < s.heap.objs.size := by obtain ⟨_, q, _⟩ := hIt; exact Heap.lt_size q
    have p' : s.heap.IsTuple a its.toArray := p
    have nai : a ≠ it := fun z => by
      obtain ⟨o1, q1, c1, _⟩ := p'
      obtain ⟨o2, q2, c2, _⟩ := hIt
      rw [z, q2] at q1
      cases q1
      rw [c1] at c2
      injection c2 with c2
      exact absurd c2 (by decide)
    have nae : e ≠ a := fun z => by
      obtain ⟨o1, q1, c1, _⟩ := p'
      rw [← z, hEn] at q1
      cases q1
      injection c1 with c1
      exact absurd c1 (by decide)
    have D := Draws.tuple (prog := X.prog) (w := X.w) (A := X.A.in1) (I.ok.hd hc) it a nai its.toArray
    have lt : i < its.toArray.size := by
      have := (Array.getElem?_eq_some_iff.mp (show its.toArray[i]? = some u by simpa using hUu)).1
      exact this
    refine wpAny_pyNext_enum_itemD D hEn ⟨hIt, p'⟩ lt hne (by simp [hne, nae]) fun u' h' tk hu' ho hit' hT hsz hk => ?_
    have eu : u' = u := by
      have z1 : its.toArray[i]? = some u' := hu'
      have z2 : its.toArray[i]? = some u := by simpa using hUu
      exact Option.some.inj (z1.symm.trans z2)
    subst eu
    refine ⟨_, rfl, wpAny_letOwnedTupleGo_enum (s := { s with heap := h', toks := tk + 1 }) ho fun h'' he' sm => ?_⟩
    have tT : h''.get? s.heap.objs.size = some { cls := .type "tuple", data := .seq #[.int i tk, u'] } := (sm.2 _ (Nat.ne_of_gt ltE)).trans hT
    have new : ObjOk X.prog X.w (upd H s.heap.objs.size (.tup [.int (i : Nat), x])) h'' s.heap.objs.size (.tup [.int (i : Nat), x]) :=
      ⟨by show 2 ≤ sizeLine; decide, [.int i tk, u'], .cons ⟨_, rfl⟩ (.cons rUu .nil), ⟨_, tT, rfl, _, rfl⟩⟩
    have J1 : Inv X pins σ (upd H s.heap.objs.size (.tup [.int (i : Nat), x])) { s with heap := h'', toks := tk + 1 } :=
      I.turnedNew (ch := [e, it]) (fun b ob hb q => (sm.2 b (fun z => hb (by simp [z]))).trans (hk b ob (fun z => hb (by simp [z])) (fun z => hb (by simp [z])) q)) hf (Nat.le_refl _) new
    refine ⟨.ref s.heap.objs.size, _, J1, rfl, ⟨_, x, rfl, I.hok.fresh (Nat.le_refl _), rfl, fun ys hy => by rw [I.tuple_inj hy hSq]; exact hIx⟩, ⟨⟨u', ?_⟩, hit'.1.at fun o q => (sm.2 it (Ne.symm hne)).trans q, hne⟩, fun b hb => ?_⟩
    · have e1 : ((i + 1 : Nat) : Int) = (i : Int) + 1 := by omega
      rw [e1]; exact he'
    · have hb' : b < s.heap.objs.size := by
        rcases (show b = e ∨ b = it by simpa using hb) with z | z
        · rw [z]; exact ltE
        · rw [z]; exact ltI
      rw [upd_ne (Nat.ne_of_lt hb')]
      exact (hf b hb).1
  done := by
    intro X hP hw hK hc i pins s σ H E I hf st hg
    subst hP hw hK
    obtain ⟨⟨was, hEn⟩, hIt, hne⟩ := st
    obtain ⟨xs, hSq, hIx⟩ := hg
    obtain ⟨its, rVs, p, hSz⟩ := I.tuple hSq
    obtain ⟨f0, f1, f2, f3, f4, f5⟩ := hf it (by simp)
    have hl := rVs.length
    have p' : s.heap.IsTuple a its.toArray := p
    have nai : a ≠ it := fun z => by
      obtain ⟨o1, q1, c1, _⟩ := p'
      obtain ⟨o2, q2, c2, _⟩ := hIt
      rw [z, q2] at q1
      cases q1
      rw [c1] at c2
      injection c2 with c2
      exact absurd c2 (by decide)
    have D := Draws.tuple (prog := X.prog) (w := X.w) (A := X.A.in1) (I.ok.hd hc) it a nai its.toArray
    have e1 : its.toArray.size = i := by simp; omega
    exact wpAny_pyNext_enum_endD D hEn ⟨by rw [e1]; exact hIt, p'⟩ fun h' eb => ⟨rfl, I.turned (t' := s.toks) (fun b o hb q => eb b o hb q) f0 f1 f3 f4 f5⟩
  self := fun A i s Q E st h => let ⟨⟨_, hEn⟩, _⟩ := st; wpAny_pyIter_enum hEn h
def iEnumT (K : PySem.W.Frag) (ta : TA) : TI := fun σ H R => ta σ H fun vs H1 => ∃ a xs, vs = [.ref a] ∧ SqT K H1 a xs ∧ R (IteT K a) H1
theorem pi_enumT {X : Cx} {e : Expr} {ta : TA} {p pos tpos : Pos} {elts : List Expr} {kk : Nat} (hg : Gl X "enumerate") (hm : X.mg "enumerate" = none) (ha : PA X [e] ta) (hs : starEach [e] X.env = [(false, eval e X.env)] := by rfl) :
    PI X (.Tuple elts kk tpos) (.Call (.Name "enumerate" p) [e] [] pos) (iEnumT X.K ta) := by
  refine ⟨fun pins s σ H R I h => ?_⟩
  refine Call_ (ld_blt I hg hm boot_enumerate (PyProof.Rows.callWith_type1 (thn (ha.run pos pins s σ H _ I h) fun us s1 ⟨vs, H1, J1, r1, q1⟩ => ?_) hs rfl))
  obtain ⟨a, xs, ex, hSq, q⟩ := q1
  subst ex
  cases r1 with
  | cons r rr =>
    cases rr
    cases r
    obtain ⟨its, rVs, p', hSz⟩ := J1.tuple hSq
    refine cx_enum (begins_tuple a its.toArray) (show s1.heap.IsTuple a its.toArray from p') fun h' hEn hIt hsz hk => wpAny_pyIter_enum hEn ?_
    have I2 : Inv X pins σ H1 { s1 with heap := h' } := J1.kept (t' := s1.toks) hk
    refine ⟨s1.heap.objs.size + 1, [s1.heap.objs.size + 1, s1.heap.objs.size], _, _, H1, rfl, I2, turn_enumT a (s1.heap.objs.size + 1) s1.heap.objs.size, ⟨⟨.none, hEn⟩, ⟨_, hIt, rfl, rfl⟩, Nat.succ_ne_self _⟩, fun b hb => ?_, q⟩
    have hle : s1.heap.objs.size ≤ b := by
      rcases (show b = s1.heap.objs.size + 1 ∨ b = s1.heap.objs.size by simpa using hb) with z | z
      · rw [z]; exact Nat.le_add_right _ _
      · rw [z]; exact Nat.le_refl _
    exact J1.fpOk hle (J1.hok.fresh hle)
end Ca
set_option Elab.async false
set_option linter.all false
set_option maxRecDepth 100000
set_option maxHeartbeats 4000000
namespace Ca
open PySem L2
/-! ### values as data, dicts among them -/
mutual
inductive Dq (K : PySem.W.Frag) (H : Hp) : V → PyData → Prop
  | non : Dq K H .non .none
  | bl (b : Bool) : Dq K H (.bl b) (.bool b)
  | int (i : Int) : Dq K H (.int i) (.int i)
  | str (x : Str) (h : x.length ≤ 1000) : Dq K H (.str x) (.str x)
  | lst {a : Addr} {xs : List V} {ds : List PyData} : SqL K H a xs → DqAll K H xs ds → Dq K H (.ref a) (.list ds)
  | tup {a : Addr} {xs : List V} {ds : List PyData} : SqT K H a xs → DqAll K H xs ds → Dq K H (.ref a) (.tuple ds)
  | dic {a : Addr} {kvs : List (Key × V)} : H a = some (.dK kvs) → Dq K H (.ref a) (.dict [])
inductive DqAll (K : PySem.W.Frag) (H : Hp) : List V → List PyData → Prop
  | nil : DqAll K H [] []
  | cons {v : V} {vs : List V} {d : PyData} {ds : List PyData} : Dq K H v d → DqAll K H vs ds → DqAll K H (v :: vs) (d :: ds)
end
theorem same_sqt {K : PySem.W.Frag} {H H' : Hp} {a : Addr} {xs : List V} (s : Same H H') (h : SqT K H a xs) : SqT K H' a xs := h.ext s
mutual
theorem Dq.same {K : PySem.W.Frag} {H H' : Hp} (s : Same H H') : ∀ {d : PyData} {v : V}, Dq K H v d → Dq K H' v d
  | .none, _, h => by cases h; exact .non
  | .bool b, _, h => by cases h; exact .bl b
  | .int i, _, h => by cases h; exact .int i
  | .str x, _, h => by cases h with | str _ a => exact .str x a
  | .list ds, _, h => by
    cases h with
    | lst a b => exact .lst (s.seq a) (DqAll.same s b)
  | .tuple ds, _, h => by
    cases h with
    | tup a b => exact .tup (same_sqt s a) (DqAll.same s b)
  | .dict ds, _, h => by
    cases h with
    | dic a => exact .dic (s _ _ a)
theorem DqAll.same {K : PySem.W.Frag} {H H' : Hp} (s : Same H H') : ∀ {ds : List PyData} {vs : List V}, DqAll K H vs ds → DqAll K H' vs ds
  | [], _, h => by cases h; exact .nil
  | d :: ds, _, h => by
    cases h with
    | cons a b => exact .cons (Dq.same s a) (DqAll.same s b)
end
theorem DqAll.len {K : PySem.W.Frag} {H : Hp} : ∀ {vs : List V} {ds : List PyData}, DqAll K H vs ds → vs.length = ds.length
  | _, _, .nil => rfl
  | _, _, .cons _ t => congrArg Nat.succ t.len
theorem DqAll.get {K : PySem.W.Frag} {H : Hp} : ∀ {vs : List V} {ds : List PyData} {i : Nat} {v : V}, DqAll K H vs ds → vs[i]? = some v → ∃ d, ds[i]? = some d ∧ Dq K H v d
  | _, _, 0, _, .cons a _, e => by
    cases e
    exact ⟨_, rfl, a⟩
  | _, _, i + 1, _, .cons _ t, e => t.get (i := i) e
theorem DqAll.app {K : PySem.W.Frag} {H : Hp} : ∀ {vs ws : List V} {ds es : List PyData}, DqAll K H vs ds → DqAll K H ws es → DqAll K H (vs ++ ws) (ds ++ es)
  | _, _, _, _, .nil, h => h
  | _, _, _, _, .cons a t, h => .cons a (t.app h)
def tyOf : PyData → String
  | .none => "NoneType"
  | .bool _ => "bool"
  | .int _ => "int"
  | .str _ => "str"
  | .list _ => "list"
  | .tuple _ => "tuple"
  | .dict _ => "dict"
theorem Dq.ty {K : PySem.W.Frag} {H : Hp} {v : V} {d : PyData} (h : Dq K H v d) : Ty K H v (.type (tyOf d)) := by
  cases h with
  | non => exact .non
  | bl b => exact .bl b
  | int i => exact .int i
  | str x h => exact .str x
  | lst a b => exact .lst a
  | tup a b => exact .tup a
  | dic a => exact .dic a
theorem tyx_l {K : PySem.W.Frag} {H : Hp} {a : Addr} {xs : List V} (h : SqL K H a xs) : TyX K H (.ref a) (.type "list") := by
  rcases h with (e | ⟨o, e⟩) | ⟨o, _, _, e, c, _⟩
  · exact .base (.lst e)
  · exact .base (.frz e)
  · exact .kList e c
theorem tyx_t {K : PySem.W.Frag} {H : Hp} {a : Addr} {xs : List V} (h : SqT K H a xs) : TyX K H (.ref a) (.type "tuple") := by
  rcases h with (e | ⟨o, e⟩) | ⟨o, _, _, e, c, _⟩
  · exact .base (.tup e)
  · exact .fTuple e
  · exact .kTuple e c
theorem Dq.tyx {K : PySem.W.Frag} {H : Hp} {v : V} {d : PyData} (h : Dq K H v d) : TyX K H v (.type (tyOf d)) := by
  cases h with
  | non => exact .base .non
  | bl b => exact .base (.bl b)
  | int i => exact .base (.int i)
  | str x h => exact .base (.str x)
  | lst a b => exact tyx_l a
  | tup a b => exact tyx_t a
  | dic a => exact .base (.dK a)
def isInt : PyData → Bool
  | .int _ => true
  | _ => false
def isBool : PyData → Bool
  | .bool _ => true
  | _ => false
def isStr : PyData → Bool
  | .str _ => true
  | _ => false
def isTup : PyData → Bool
  | .tuple _ => true
  | _ => false
theorem kit_int : ∀ d : PyData, kitB (tyOf d) "int" = some (isInt d || isBool d)
  | .none => (by decide +kernel : kitB "NoneType" "int" = some false)
  | .bool _ => (by decide +kernel : kitB "bool" "int" = some true)
  | .int _ => (by decide +kernel : kitB "int" "int" = some true)
  | .str _ => (by decide +kernel : kitB "str" "int" = some false)
  | .list _ => (by decide +kernel : kitB "list" "int" = some false)
  | .tuple _ => (by decide +kernel : kitB "tuple" "int" = some false)
  | .dict _ => (by decide +kernel : kitB "dict" "int" = some false)
theorem kit_bool : ∀ d : PyData, kitB (tyOf d) "bool" = some (isBool d)
  | .none => (by decide +kernel : kitB "NoneType" "bool" = some false)
  | .bool _ => (by decide +kernel : kitB "bool" "bool" = some true)
  | .int _ => (by decide +kernel : kitB "int" "bool" = some false)
  | .str _ => (by decide +kernel : kitB "str" "bool" = some false)
  | .list _ => (by decide +kernel : kitB "list" "bool" = some false)
  | .tuple _ => (by decide +kernel : kitB "tuple" "bool" = some false)
  | .dict _ => (by decide +kernel : kitB "dict" "bool" = some false)
theorem kit_str : ∀ d : PyData, kitB (tyOf d) "str" = some (isStr d)
  | .none => (by decide +kernel : kitB "NoneType" "str" = some false)
  | .bool _ => (by decide +kernel : kitB "bool" "str" = some false)
  | .int _ => (by decide +kernel : kitB "int" "str" = some false)
  | .str _ => (by decide +kernel : kitB "str" "str" = some true)
  | .list _ => (by decide +kernel : kitB "list" "str" = some false)
  | .tuple _ => (by decide +kernel : kitB "tuple" "str" = some false)
  | .dict _ => (by decide +kernel : kitB "dict" "str" = some false)
theorem kit_tup : ∀ d : PyData, kitB (tyOf d) "tuple" = some (isTup d)
  | .none => (by decide +kernel : kitB "NoneType" "tuple" = some false)
  | .bool _ => (by decide +kernel : kitB "bool" "tuple" = some false)
  | .int _ => (by decide +kernel : kitB "int" "tuple" = some false)
  | .str _ => (by decide +kernel : kitB "str" "tuple" = some false)
  | .list _ => (by decide +kernel : kitB "list" "tuple" = some false)
  | .tuple _ => (by decide +kernel : kitB "tuple" "tuple" = some true)
  | .dict _ => (by decide +kernel : kitB "dict" "tuple" = some false)
section
variable {K : PySem.W.Frag} {σ : L2.St} {H : Hp} {v : V} {d : PyData} {i : Nat}
theorem rd_isd {n : String} {b : Bool} {Q : VK} (h : Dq K H v d) (hv : σ[i]? = some (some v)) (hk : kitB (tyOf d) n = some b) (q : Q (.bl b) H) : tCB (rIsi K) (tCons (tVar i) (tCons (tC (.ty n)) tNil)) σ H Q :=
  ⟨_, hv, v, .ty n, _, _, b, rfl, .ty n, h.tyx, kit_ty hk, q⟩
end
/-- a def that tells something of a value -/
def spIs (K : PySem.W.Frag) (f : PyData → Bool) : Sp := fun vs H Q _ => ∃ v d, vs = [v] ∧ Dq K H v d ∧ ∀ H', Same H H' → Q (.bl (f d)) H'
def spIs2 (K : PySem.W.Frag) (f : PyData → Nat → Bool) : Sp := fun vs H Q _ => ∃ v d m, vs = [v, .int (m : Nat)] ∧ m ≤ 1000 ∧ Dq K H v d ∧ ∀ H', Same H H' → Q (.bl (f d m)) H'
end Ca
set_option Elab.async false
set_option linter.all false
set_option maxRecDepth 100000
set_option maxHeartbeats 4000000
namespace Ca
open PySem L2
theorem walk_enumT {K : PySem.W.Frag} {a : Addr} {xs : List V} : Walk (IteT K a) xs.length (fun H => SqT K H a xs) (fun i H v H' => ∃ T x, v = .ref T ∧ H T = none ∧ H' = upd H T (.tup [.int (i : Nat), x]) ∧ xs[i]? = some x) :=
  ⟨fun i _ hi q => ⟨xs, xs[i], q, by simp [hi]⟩, fun _ q => ⟨xs, q, rfl⟩, fun _ _ _ _ _ q y => by
    obtain ⟨T, x, e1, e2, e3, e4⟩ := y
    exact ⟨T, x, e1, e2, e3, e4 xs q⟩⟩
/-- a comprehension without a test, whose items are known ahead -/
theorem lc_known {J : It} {n : Nat} {G : Hp → Prop} {Y : Nat → Hp → V → Hp → Prop} (w : Walk J n G Y) {te : TE} {vs : List Nat} {σ : L2.St} {H1 : Hp} {D : Addr} {Qd : Hp → Prop} {j : Nat} (f : Nat → V) (hn : n ≤ 100000) (hD : H1 D = none) (hG : ∀ H, Same H1 H → G H)
    (hY : ∀ i H x H', Y i H x H' → Same H H') (hw : ∀ x, wipe ((wipe σ vs).set j (some x)) vs = wipe σ vs)
    (hs : ∀ i x H H' (Qk : VK), i < n → Same H1 H → Y i H x H' → (∀ H4, Same H' H4 → Qk (f i) H4) → te ((wipe σ vs).set j (some x)) H' Qk) (hd : ∀ H, Same H1 H → H D = some (.lst ((List.range n).map f)) → Qd H) :
    ∃ W : Nat → Nat → Hp → Prop, (∃ m, W 0 m (upd H1 D (.lst []))) ∧ ∀ i m H, W i m H →
      (J.stop i H ∧ Qd H) ∨ (J.go i H ∧ ∃ Nx : Hp → Prop, (∀ H', Nx H' → ∃ m', m' < m ∧ W (i + 1) m' H') ∧ ∀ x H', J.yld i H x H' → gName j x (wipe σ vs) H' fun σ2 H2 => wipe σ2 vs = wipe σ vs ∧ tYes σ2 H2 fun b H3 =>
        if b = true then te σ2 H3 fun y H4 => ∃ acc, H4 D = some (.lst acc) ∧ acc.length < sizeLine ∧ Nx (upd H4 D (.lst (acc ++ [y]))) else Nx H3) :=
  lc_it w (fun i H => Same H1 H ∧ H D = some (.lst ((List.range i).map f))) ⟨Same.new hD, upd_same⟩ (fun i H hi p => hG H p.1) (fun i x H H' hi p y => ⟨hw x, rd_yes' (hs i x H H' _ hi p.1 y fun H4 s4 => by
    have t := hY i H x H' y
    refine ⟨_, s4 _ _ (t _ _ p.2), ?_, fun b o e => ?_, ?_⟩
    · rw [List.length_map, List.length_range]
      exact Nat.lt_of_lt_of_le (Nat.lt_of_lt_of_le hi hn) (by decide)
    · rw [upd_ne (ne_of_none e hD)]
      exact s4 _ _ (t _ _ (p.1 _ _ e))
    · rw [upd_same, List.range_succ, List.map_append]
      rfl)⟩) fun H p => hd H p.1 p.2
where
  rd_yes' {A B : Hp → Prop} {σ : L2.St} {H : Hp} (h : A H) : tYes σ H (fun b H3 => if b = true then A H3 else B H3) := by
    show (if true = true then A H else B H)
    rw [if_pos rfl]
    exact h
end Ca
set_option Elab.async false
set_option linter.all false
set_option maxRecDepth 100000
namespace Ca
open PySem L2
def top (i : Nat) : Stmt := PySem.Challenge.pw_commonanswer_k25_whole_possible_by_signs.main.body.getD i (.Pass ⟨0, 0, 0, 0⟩)
def inner (s : Stmt) (j : Nat) : Stmt := match s with
  | .ClassDef _ _ _ body _ _ _ _ _ _ _ => body.getD j (.Pass ⟨0, 0, 0, 0⟩)
  | s => s
abbrev sIsInteger : Stmt := top 16
abbrev sIsTupleOf : Stmt := top 17
abbrev sIsName : Stmt := top 18
abbrev sIsUnknown : Stmt := top 19
abbrev sIsStretch : Stmt := top 20
abbrev sIsRow : Stmt := top 21
abbrev sCheckUnknowns : Stmt := top 22
abbrev sCheckRows : Stmt := top 23
abbrev sLineOf : Stmt := top 24
abbrev mSystemInit : Stmt := inner (top 27) 0
abbrev mSystemUnknowns : Stmt := inner (top 27) 2
abbrev mSystemRows : Stmt := inner (top 27) 3
abbrev mSystemNames : Stmt := inner (top 27) 4
abbrev mSystemLen : Stmt := inner (top 27) 5
abbrev mSystemBool : Stmt := inner (top 27) 6
abbrev mSystemStr : Stmt := inner (top 27) 7
abbrev mSystemEq : Stmt := inner (top 27) 8
abbrev sFraction : Stmt := top 31
abbrev sPlus : Stmt := top 32
abbrev sOpposite : Stmt := top 33
abbrev sMinus : Stmt := top 34
abbrev sCheckSystem : Stmt := top 36
abbrev mTableInit : Stmt := inner (top 38) 0
abbrev sFirstTable : Stmt := top 39
abbrev sLineBehind : Stmt := top 40
abbrev sExchanged : Stmt := top 41
abbrev sFirstPlace : Stmt := top 42
abbrev sFirstWrong : Stmt := top 43
abbrev sNextExchange : Stmt := top 44
abbrev sSettled : Stmt := top 45
abbrev sAmountsIn : Stmt := top 46
abbrev sWeightsIn : Stmt := top 47
abbrev sCheapestAmounts : Stmt := top 48
abbrev sSignRows : Stmt := top 50
abbrev sPossibleLimit : Stmt := top 51
abbrev sCheapestPossible : Stmt := top 52
abbrev sAnyPossible : Stmt := top 53
abbrev sPossible : Stmt := top 55
abbrev sSureLimit : Stmt := top 57
abbrev sCheapestSure : Stmt := top 58
abbrev sCommon : Stmt := top 60
abbrev sLawPurse : Stmt := top 62
abbrev sLawDraw : Stmt := top 63
abbrev sLawPick : Stmt := top 64
abbrev sLawLow : Stmt := top 65
abbrev sLawPlus : Stmt := top 66
abbrev sLawTimes : Stmt := top 67
abbrev sLawIsLess : Stmt := top 68
abbrev sLawStretch : Stmt := top 70
abbrev sLawCard : Stmt := top 71
abbrev sLawMade : Stmt := top 72
abbrev sLawSigns : Stmt := top 73
abbrev sLawCase : Stmt := top 74
abbrev sLawWithoutLast : Stmt := top 75
abbrev sLawHasValues : Stmt := top 76
abbrev sLawHas : Stmt := top 77
abbrev sLawIsFraction : Stmt := top 78
abbrev sLawAreFractions : Stmt := top 79
abbrev sLawSum : Stmt := top 80
abbrev sLawKeeps : Stmt := top 83
abbrev sLawHard : Stmt := top 84
abbrev sLawRight : Stmt := top 85
abbrev sLaw : Stmt := top 86
end Ca
set_option Elab.async false
set_option linter.all false
set_option maxRecDepth 100000
set_option maxHeartbeats 4000000
namespace Ca
open PySem L2
abbrev FnT (K : PySem.W.Frag) (x : Str) (st : Stmt) (f : Addr) (fd : FuncData) : Prop := FunD K x x (defArgs st) (defBody st) (defScope st) [] [] f fd
/-- the built-in names that these defs read -/
structure Bn (mg : Str → Option Value) : Prop where
  isi : mg "isinstance" = none
  int : mg "int" = none
  bool : mg "bool" = none
  str : mg "str" = none
  tup : mg "tuple" = none
  len : mg "len" = none
  all : mg "all" = none
  enum : mg "enumerate" = none
def isTupN : PyData → Nat → Bool
  | .tuple ds, m => decide (ds.length = m)
  | _, _ => false
section
variable {P : Program} {w : World} {K : PySem.W.Frag} {mg : Str → Option Value} {base : Heap}
theorem scIsInteger : FnScope ["value"] ["value"] (defScope sIsInteger) := ⟨rfl, rfl, rfl, by decide +kernel, rfl, by decide +kernel, by decide +kernel⟩
theorem ok_isInteger {f : Addr} {fd : FuncData} (F : FnT K "is_integer" sIsInteger f fd) (B : Bn mg) : FnOk P w K mg base CX0 1 f fd ["value"] (spIs K isInt) := by
  refine F.ok scIsInteger (fun vs H Q E h => ?_) (fun cdv A outer s H vs Q E hr h => ?_)
  · obtain ⟨v, d, rfl, _⟩ := h
    rfl
  · obtain ⟨v, d, rfl, hd, q⟩ := h
    have q0 := q H (fun _ _ e => e)
    refine ⟨_, PSs.nox (pss_one (ps_ret (pe_and (pe_callB call_isi (by rfl) B.isi PyProof.Rows.boot_isinstance (pa_cons (pv 0) (pa_cons (pe_bltn (v := .ty "int") (by rfl) B.int (by decide +kernel) rfl) pa_nil)))
      (pe_one (pe_not (pe_callB call_isi (by rfl) B.isi PyProof.Rows.boot_isinstance (pa_cons (pv 0) (pa_cons (pe_bltn (v := .ty "bool") (by rfl) B.bool (by decide +kernel) rfl) pa_nil)))))))), ?_⟩
    refine rd_isd hd rfl (kit_int d) ⟨_, rfl, ?_⟩
    cases d with
    | int i => exact iteT (rd_isd hd rfl (kit_bool _) ⟨_, rfl, q0⟩)
    | bool b => exact iteT (rd_isd hd rfl (kit_bool _) ⟨_, rfl, q0⟩)
    | _ => exact iteF q0
theorem scIsTupleOf : FnScope ["value", "many"] ["value", "many"] (defScope sIsTupleOf) := ⟨rfl, rfl, rfl, by decide +kernel, rfl, by decide +kernel, by decide +kernel⟩
theorem ok_isTupleOf {f : Addr} {fd : FuncData} (F : FnT K "is_tuple_of" sIsTupleOf f fd) (B : Bn mg) : FnOk P w K mg base CX0 1 f fd ["value", "many"] (spIs2 K isTupN) := by
  refine F.ok scIsTupleOf (fun vs H Q E h => ?_) (fun cdv A outer s H vs Q E hr h => ?_)
  · obtain ⟨v, d, m, rfl, _⟩ := h
    rfl
  · obtain ⟨v, d, m, rfl, hm, hd, q⟩ := h
    have q0 := q H (fun _ _ e => e)
    refine ⟨_, PSs.nox (pss_one (ps_ret (pe_and (pe_callB call_isi (by rfl) B.isi PyProof.Rows.boot_isinstance (pa_cons (pv 0) (pa_cons (pe_bltn (v := .ty "tuple") (by rfl) B.tup (by decide +kernel) rfl) pa_nil)))
      (pe_one (pe_cmpR op_eq (pe_callB call_len (by rfl) B.len boot_len (pa_cons (pv 0) pa_nil)) (pv 1) (nomark _)))))), ?_⟩
    refine rd_isd hd rfl (kit_tup d) ⟨_, rfl, ?_⟩
    cases d with
    | tuple ds =>
      cases hd with
      | @tup a xs _ h1 h2 =>
        refine iteT ⟨_, rfl, _, _, rfl, .inr ⟨_, h1, rfl⟩, _, rfl, rfl, ?_⟩
        have e : decide (V.int (xs.length : Int) = V.int (m : Int)) = decide (ds.length = m) := by
          rw [h2.len]
          by_cases c : ds.length = m
          · rw [decide_eq_true c, decide_eq_true (by rw [c])]
          · rw [decide_eq_false c, decide_eq_false (fun z => c (by injection z with z; omega))]
        rw [e]
        exact q0
    | _ => exact iteF q0
/-! ### names -/
def LET : Str := "abcdefghijklmnopqrstuvwxyz"
def DIG : Str := "0123456789"
structure Cn (mg : Str → Option Value) : Prop where
  letters : ∃ t, mg "LETTERS" = some (.str LET t)
  digits : ∃ t, mg "DIGITS" = some (.str DIG t)
  chars : ∃ t, mg "MOST_CHARACTERS" = some (.int 8 t)
  bound : ∃ t, mg "BOUND" = some (.str "bound" t)
  unknowns : ∃ t, mg "MOST_UNKNOWNS" = some (.int 3 t)
  rows : ∃ t, mg "MOST_ROWS" = some (.int 6 t)
  number : ∃ t, mg "MOST_NUMBER" = some (.int 10000 t)
def isLet (c : Nat) : Bool := decide (c ∈ LET.cps.toList)
def isSign (c : Nat) : Bool := isLet c || decide (c ∈ DIG.cps.toList)
def nameS (x : Str) : Bool := decide (1 ≤ x.length) && (decide (x.length ≤ 8) && (isLet (x.cps.toList.getD 0 0) && x.cps.toList.all isSign))
def isNameD : PyData → Bool
  | .str x => nameS x
  | _ => false
theorem all_range (l : List Nat) (g : Nat → Bool) (n : Nat) (h : l.length = n) : ((List.range n).map fun i => g (l.getD i 0)).all id = l.all g := by
  have e : ((List.range n).map fun i => g (l.getD i 0)) = l.map g := by
    refine List.ext_getElem (by simp [h]) fun i h1 h2 => ?_
    have hi : i < l.length := by simpa using h2
    simp [List.getElem?_eq_getElem hi]
  rw [e, List.all_map]
  rfl
theorem scIsName : FnScope ["value", "char"] ["value"] (defScope sIsName) := ⟨rfl, rfl, rfl, by decide +kernel, rfl, by decide +kernel, by decide +kernel⟩
theorem ok_isName {f : Addr} {fd : FuncData} (F : FnT K "is_name" sIsName f fd) (B : Bn mg) (C : Cn mg) : FnOk P w K mg base CX0 1 f fd ["value"] (spIs K isNameD) := by
  obtain ⟨t1, c1⟩ := C.letters
  obtain ⟨t2, c2⟩ := C.digits
  obtain ⟨t3, c3⟩ := C.chars
  refine F.ok scIsName (fun vs H Q E h => ?_) (fun cdv A outer s H vs Q E hr h => ?_)
  · obtain ⟨v, d, rfl, _⟩ := h
    rfl
  · obtain ⟨v, d, rfl, hd, q⟩ := h
    have nd := scIsName.nd
    have q0 := q H (fun _ _ e => e)
    refine ⟨_, PSs.nox (pss_cons (ps_if (PW.pt (pw_or (pt_not (pt_val (pe_callB call_isi (by rfl) B.isi PyProof.Rows.boot_isinstance (pa_cons (pv 0) (pa_cons (pe_bltn (v := .ty "str") (by rfl) B.str (by decide +kernel) rfl) pa_nil)))))
        (pw_or1 (pt_not (pt_chain op_le op_le pe_int (pe_callB call_len (by rfl) B.len boot_len (pa_cons (pv 0) pa_nil)) (pe_glob (v := .int 8) rfl c3 ⟨_, rfl⟩)))))) (pss_one (ps_ret pe_bl)) pss_nil)
      (pss_one (ps_ret (pe_and (pe_cmpR op_in_sign (pe_ix ix_str (pv 0) pe_int (fun _ _ => rfl)) (pe_glob (v := .str LET) rfl c1 ⟨_, rfl⟩) (by rfl))
        (pe_one (pe_callB (cr_all rfl) (by rfl) B.all PyProof.Rows.boot_all (pa_cons (pe_lc (own := [("char", 1)]) (g := gName 1) (tt := tYes) rfl nd (pi_str (pv 0))
          (blkOk_by (own := [("char", 1)]) (N := ["value", "char"]) (sc := defScope sIsName) (by decide +kernel)) (fun _ _ _ _ _ => pg_name (i := 1) nd rfl (Or.inl rfl)) (fun _ _ _ _ _ => pts_nil)
          (fun _ _ _ _ _ => pe_or (pe_cmpR op_in_sign (pv 1) (pe_glob (v := .str LET) rfl c1 ⟨_, rfl⟩) (by rfl)) (pe_one (pe_cmpR op_in_sign (pv 1) (pe_glob (v := .str DIG) rfl c2 ⟨_, rfl⟩) (by rfl))))) pa_nil))))))), ?_⟩
    refine rd_isd hd rfl (kit_str d) ⟨_, rfl, ?_⟩
    cases d with
    | str x =>
      cases hd with
      | str _ hx =>
        have hx2 : x.length ≤ sizeLine := Nat.le_trans hx (by decide)
        have fin0 : nameS x = false → Q (.bl false) H := fun z => by
          have q1 : Q (.bl (nameS x)) H := q0
          rw [z] at q1
          exact q1
        refine iteF ⟨_, rfl, _, x.length, rfl, ⟨hx2, rfl⟩, _, _, rfl, rfl, _, rfl, ?_⟩
        by_cases g1 : 1 ≤ x.length
        · rw [decide_eq_true (show (1 : Int) ≤ (x.length : Int) by omega)]
          refine iteT ⟨_, _, rfl, rfl, _, rfl, ?_⟩
          by_cases g2 : x.length ≤ 8
          · rw [decide_eq_true (show ((x.length : Nat) : Int) ≤ (8 : Int) by omega)]
            have hsz : 0 < x.cps.toList.length := by
              show 0 < x.cps.toList.length
              rw [Array.length_toList]
              exact g1
            have hc : x.cps.toList[0]? = some (x.cps.toList.getD 0 0) := by
              rw [List.getD_eq_getElem?_getD, List.getElem?_eq_getElem hsz]
              rfl
            refine iteF ⟨_, rfl, x, 0, x.cps.toList.getD 0 0, rfl, rfl, hx2, atI_nat (j := 0) hc, _, _, rfl, rfl, _, rfl, ?_⟩
            have en : nameS x = (isLet (x.cps.toList.getD 0 0) && x.cps.toList.all isSign) := by
              unfold nameS
              rw [decide_eq_true g1, decide_eq_true g2]
              rfl
            have q2 : ∀ H', Same H H' → Q (.bl (isLet (x.cps.toList.getD 0 0) && x.cps.toList.all isSign)) H' := fun H' s => by
              rw [← en]
              exact q H' s
            refine ite2 (fun g3 => ?_) (fun g3 => ?_)
            · rw [show isLet (x.cps.toList.getD 0 0) = true from g3] at q2
              refine ⟨_, rfl, x, rfl, fun D hD => lc_known walk_str (fun i => .bl (isSign (x.cps.toList.getD i 0))) (by show x.length ≤ 100000; omega) hD (fun _ _ => trivial) (fun _ _ _ _ y => by obtain ⟨rfl, _⟩ := y; exact fun _ _ e => e) (fun _ => rfl) ?_ ?_⟩
              · rintro i _ H1 _ Qk hi s1 ⟨rfl, c, hc, rfl⟩ k
                have ec : x.cps.toList.getD i 0 = c := by
                  rw [List.getD_eq_getElem?_getD, Array.getElem?_toList, hc]
                  rfl
                have k1 := k _ (fun _ _ e => e)
                rw [ec] at k1
                refine ⟨_, rfl, c, LET, rfl, rfl, _, rfl, ite2 (fun g4 => ?_) (fun g4 => ⟨_, rfl, c, DIG, rfl, rfl, ?_⟩)⟩
                · rw [show isSign c = true from by unfold isSign isLet; rw [g4]; rfl] at k1
                  exact k1
                · rw [show isSign c = decide (c ∈ DIG.cps.toList) from by unfold isSign isLet; rw [Bool.eq_false_iff.mpr g4]; rfl] at k1
                  exact k1
              · intro H1 s1 bD
                refine ⟨D, (List.range x.cps.size).map fun i => isSign (x.cps.toList.getD i 0), rfl, SqL.of (by rw [bD, List.map_map]; rfl), ?_⟩
                rw [all_range x.cps.toList isSign x.cps.size Array.length_toList]
                exact q2 H1 s1
            · rw [show isLet (x.cps.toList.getD 0 0) = false from Bool.eq_false_iff.mpr g3] at q2
              exact q2 H fun _ _ e => e
          · rw [decide_eq_false (show ¬ ((x.length : Nat) : Int) ≤ (8 : Int) by omega)]
            exact iteT (fin0 (by unfold nameS; rw [decide_eq_false g2, Bool.false_and, Bool.and_false]))
        · rw [decide_eq_false (show ¬ (1 : Int) ≤ (x.length : Int) by omega)]
          exact iteF ⟨_, rfl, iteT (fin0 (by unfold nameS; rw [decide_eq_false g1, Bool.false_and]))⟩
    | _ => exact iteT q0
end
end Ca
set_option Elab.async false
set_option linter.all false
set_option maxRecDepth 100000
set_option maxHeartbeats 4000000
namespace Ca
open PySem L2
def isUnknownD : PyData → Bool
  | .str x => nameS x && !decide (x = "bound")
  | _ => false
def isStretchD : PyData → Bool
  | .tuple [.int a, .int b] => decide (-10000 ≤ a) && (decide (a ≤ b) && decide (b ≤ 10000))
  | _ => false
def partsOf : PyData → List PyData
  | .tuple ps => ps
  | _ => []
def isRowD : PyData → Nat → Bool
  | .tuple [n, p, b], m => isNameD n && (isTupN p m && ((partsOf p ++ [b]).all isStretchD))
  | _, _ => false
section
variable {P : Program} {w : World} {K : PySem.W.Frag} {mg : Str → Option Value} {base : Heap}
theorem scIsUnknown : FnScope ["value"] ["value"] (defScope sIsUnknown) := ⟨rfl, rfl, rfl, by decide +kernel, rfl, by decide +kernel, by decide +kernel⟩
theorem ok_isUnknown {f fN : Addr} {fd fdN : FuncData} (F : FnT K "is_unknown" sIsUnknown f fd) (C : Cn mg) (gN : mg "is_name" = some (.ref fN)) (GN : FnOk P w K mg base CX0 1 fN fdN ["value"] (spIs K isNameD)) (kN : PySem.W.keepIn K (.ref fN) = true) (bN : Binds K fdN ["value"] []) :
    FnOk P w K mg base CX0 2 f fd ["value"] (spIs K isUnknownD) := by
  obtain ⟨t1, c1⟩ := C.bound
  refine F.ok scIsUnknown (fun vs H Q E h => ?_) (fun cdv A outer s H vs Q E hr h => ?_)
  · obtain ⟨v, d, rfl, _⟩ := h
    rfl
  · obtain ⟨v, d, rfl, hd, q⟩ := h
    refine ⟨_, PSs.nox (pss_one (ps_ret (pe_and (pe_call GN hr rfl gN kN bN .nil pass0 (pa_cons (pv 0) pa_nil)) (pe_one (pe_cmpR op_ne (pv 0) (pe_glob (v := .str "bound") rfl c1 ⟨_, rfl⟩) (nomark _)))))), ?_⟩
    refine ⟨_, rfl, v, d, rfl, hd, fun H1 s1 => ⟨_, rfl, ?_⟩⟩
    cases d with
    | str x =>
      cases hd with
      | str _ hx =>
        have q1 : Q (.bl (nameS x && !decide (x = "bound"))) H1 := q H1 s1
        refine ite2 (fun g => ?_) (fun g => ?_)
        · have g' : nameS x = true := g
          rw [g', Bool.true_and] at q1
          refine ⟨_, rfl, rfl, ?_⟩
          rw [show decide (V.str x = V.str "bound") = decide (x = "bound") from by
            by_cases z : x = "bound"
            · rw [decide_eq_true z, decide_eq_true (by rw [z])]
            · rw [decide_eq_false z, decide_eq_false (fun y => z (by injection y))]]
          exact q1
        · have g' : nameS x = false := Bool.eq_false_iff.mpr g
          rw [g', Bool.false_and] at q1
          exact q1
    | _ => exact iteF (q H1 s1)
theorem scIsStretch : FnScope ["value", "low", "high"] ["value"] (defScope sIsStretch) := ⟨rfl, rfl, rfl, by decide +kernel, rfl, by decide +kernel, by decide +kernel⟩
theorem ok_isStretch {f fT fI : Addr} {fd fdT fdI : FuncData} (F : FnT K "is_stretch" sIsStretch f fd) (C : Cn mg)
    (gT : mg "is_tuple_of" = some (.ref fT)) (GT : FnOk P w K mg base CX0 1 fT fdT ["value", "many"] (spIs2 K isTupN)) (kT : PySem.W.keepIn K (.ref fT) = true) (bT : Binds K fdT ["value", "many"] [])
    (gI : mg "is_integer" = some (.ref fI)) (GI : FnOk P w K mg base CX0 1 fI fdI ["value"] (spIs K isInt)) (kI : PySem.W.keepIn K (.ref fI) = true) (bI : Binds K fdI ["value"] []) :
    FnOk P w K mg base CX0 2 f fd ["value"] (spIs K isStretchD) := by
  obtain ⟨t1, c1⟩ := C.number
  refine F.ok scIsStretch (fun vs H Q E h => ?_) (fun cdv A outer s H vs Q E hr h => ?_)
  · obtain ⟨v, d, rfl, _⟩ := h
    rfl
  · obtain ⟨v, d, rfl, hd, q⟩ := h
    have nd := scIsStretch.nd
    refine ⟨_, PSs.nox (pss_cons (ps_if (pt_not (pt_val (pe_call GT hr rfl gT kT bT .nil pass0 (pa_cons (pv 0) (pa_cons pe_int pa_nil))))) (pss_one (ps_ret pe_bl)) pss_nil)
      (pss_cons (ps_asg (pv 0) (pg_tup rfl (pgs_cons (pg_name (i := 1) nd rfl (.inl rfl)) (pgs_cons (pg_name (i := 2) nd rfl (.inl rfl)) pgs_nil))))
      (pss_one (ps_ret (pe_and (pe_call GI hr rfl gI kI bI .nil pass0 (pa_cons (pv 1) pa_nil)) (pe_and (pe_call GI hr rfl gI kI bI .nil pass0 (pa_cons (pv 2) pa_nil))
        (pe_one (pe_chain3 op_le op_le op_le (pe_un un_neg (pe_glob (v := .int 10000) rfl c1 ⟨_, rfl⟩)) (pv 1) (pv 2) (pe_glob (v := .int 10000) rfl c1 ⟨_, rfl⟩))))))))), ?_⟩
    refine ⟨_, rfl, v, d, 2, rfl, by decide, hd, fun H1 s1 => ⟨_, rfl, ?_⟩⟩
    have bad : isTupN d 2 = false → isStretchD d = false := fun z => by
      cases d with
      | tuple ds =>
        match ds with
        | [] => simp [isStretchD]
        | [_] => simp [isStretchD]
        | [_, _] => cases z
        | _ :: _ :: _ :: _ => simp [isStretchD]
      | _ => rfl
    cases g : isTupN d 2 with
    | false =>
      have q1 := q H1 s1
      rw [bad g] at q1
      exact iteT q1
    | true =>
      cases d with
      | tuple ds =>
        have hl : ds.length = 2 := of_decide_eq_true g
        match ds, hl with
        | [d1, d2], _ =>
          have hd1 := hd.same s1
          cases hd1 with
          | @tup a xs _ h1 h2 =>
            cases h2 with
            | @cons v1 _ _ _ e1 r1 =>
              cases r1 with
              | @cons v2 _ _ _ e2 r2 =>
                cases r2
                refine iteF ⟨_, rfl, a, _, rfl, h1, rfl, _, _, rfl, _, _, rfl, rfl, ?_⟩
                refine ⟨_, rfl, v1, d1, rfl, e1, fun H2 s2 => ⟨_, rfl, ?_⟩⟩
                have q2 := fun H3 (s3 : Same H2 H3) => q H3 (s1.trans (s2.trans s3))
                cases d1 with
                | int i =>
                  refine iteT ⟨_, rfl, v2, d2, rfl, e2.same s2, fun H3 s3 => ⟨_, rfl, ?_⟩⟩
                  have q3 := q2 H3 s3
                  cases d2 with
                  | int j =>
                    cases e1
                    cases e2
                    refine iteT ⟨_, rfl, _, rfl, _, _, rfl, rfl, _, rfl, ?_⟩
                    have q4 : Q (.bl (decide (-10000 ≤ i) && (decide (i ≤ j) && decide (j ≤ 10000)))) H3 := q3
                    refine ite2 (fun g1 => ?_) (fun g1 => ?_)
                    · rw [g1, Bool.true_and] at q4
                      refine ⟨_, rfl, _, _, rfl, rfl, _, rfl, ite2 (fun g2 => ?_) (fun g2 => ?_)⟩
                      · rw [g2, Bool.true_and] at q4
                        exact ⟨_, _, rfl, rfl, q4⟩
                      · rw [Bool.eq_false_iff.mpr g2, Bool.false_and] at q4
                        exact q4
                    · rw [Bool.eq_false_iff.mpr g1, Bool.false_and] at q4
                      exact q4
                  | _ => exact iteF q3
                | _ => exact iteF (q2 H2 fun _ _ e => e)
      | _ => cases g
theorem all_getD (ds : List PyData) (g : PyData → Bool) (n : Nat) (h : ds.length = n) : ((List.range n).map fun i => g (ds.getD i .none)).all id = ds.all g := by
  have e : ((List.range n).map fun i => g (ds.getD i .none)) = ds.map g := by
    refine List.ext_getElem (by simp [h]) fun i h1 h2 => ?_
    have hi : i < ds.length := by simpa using h2
    simp [List.getElem?_eq_getElem hi]
  rw [e, List.all_map]
  rfl
theorem row_bad {d : PyData} {m : Nat} (z : isTupN d 3 = false) : isRowD d m = false := by
  cases d with
  | tuple ds =>
    match ds with
    | [] => simp [isRowD]
    | [_] => simp [isRowD]
    | [_, _] => simp [isRowD]
    | [_, _, _] => cases z
    | _ :: _ :: _ :: _ :: _ => simp [isRowD]
  | _ => simp [isRowD]
abbrev NRow : List Str := ["value", "many", "name", "stretches", "bound", "stretch"]
theorem scIsRow : FnScope NRow ["value", "many"] (defScope sIsRow) := ⟨rfl, rfl, rfl, by decide +kernel, rfl, by decide +kernel, by decide +kernel⟩
theorem ok_isRow {f fT fN fS : Addr} {fd fdT fdN fdS : FuncData} (F : FnT K "is_row" sIsRow f fd) (B : Bn mg)
    (gT : mg "is_tuple_of" = some (.ref fT)) (GT : FnOk P w K mg base CX0 1 fT fdT ["value", "many"] (spIs2 K isTupN)) (kT : PySem.W.keepIn K (.ref fT) = true) (bT : Binds K fdT ["value", "many"] [])
    (gN : mg "is_name" = some (.ref fN)) (GN : FnOk P w K mg base CX0 1 fN fdN ["value"] (spIs K isNameD)) (kN : PySem.W.keepIn K (.ref fN) = true) (bN : Binds K fdN ["value"] [])
    (gS : mg "is_stretch" = some (.ref fS)) (GS : FnOk P w K mg base CX0 2 fS fdS ["value"] (spIs K isStretchD)) (kS : PySem.W.keepIn K (.ref fS) = true) (bS : Binds K fdS ["value"] []) :
    FnOk P w K mg base CX0 3 f fd ["value", "many"] (spIs2 K isRowD) := by
  refine F.ok scIsRow (fun vs H Q E h => ?_) (fun cdv A outer s H vs Q E hr h => ?_)
  · obtain ⟨v, d, m, rfl, _⟩ := h
    rfl
  · obtain ⟨v, d, m, rfl, hm, hd, q⟩ := h
    have nd := scIsRow.nd
    have hr1 : Room 1 _ := hr.mono (by decide)
    refine ⟨_, PSs.nox (pss_cons (ps_if (pt_not (pt_val (pe_call GT hr1 rfl gT kT bT .nil pass0 (pa_cons (pv 0) (pa_cons pe_int pa_nil))))) (pss_one (ps_ret pe_bl)) pss_nil)
      (pss_cons (ps_asg (pv 0) (pg_tup rfl (pgs_cons (pg_name (i := 2) nd rfl (.inl rfl)) (pgs_cons (pg_name (i := 3) nd rfl (.inl rfl)) (pgs_cons (pg_name (i := 4) nd rfl (.inl rfl)) pgs_nil)))))
      (pss_cons (ps_if (PW.pt (pw_or (pt_not (pt_val (pe_call GN hr1 rfl gN kN bN .nil pass0 (pa_cons (pv 2) pa_nil)))) (pw_or1 (pt_not (pt_val (pe_call GT hr1 rfl gT kT bT .nil pass0 (pa_cons (pv 3) (pa_cons (pv 1) pa_nil)))))))) (pss_one (ps_ret pe_bl)) pss_nil)
      (pss_one (ps_ret (pe_callB (cr_all rfl) (by rfl) B.all PyProof.Rows.boot_all (pa_cons (pe_lc (own := [("stretch", 5)]) (g := gName 5) (tt := tYes) rfl nd (pi_tup (pe_tup (StX.pa_star (pv 3) (pa_cons (pv 4) pa_nil))))
          (blkOk_by (own := [("stretch", 5)]) (N := NRow) (sc := defScope sIsRow) (by decide +kernel)) (fun _ _ _ _ _ => pg_name (i := 5) nd rfl (Or.inl rfl)) (fun _ _ _ _ _ => pts_nil)
          (fun _ _ _ _ _ => pe_call GS hr rfl gS kS bS .nil pass0 (pa_cons (pv 5) pa_nil))) pa_nil))))))), ?_⟩
    refine ⟨_, rfl, v, d, 3, rfl, by decide, hd, fun H1 s1 => ⟨_, rfl, ?_⟩⟩
    cases g : isTupN d 3 with
    | false =>
      have q1 := q H1 s1
      rw [row_bad g] at q1
      exact iteT q1
    | true =>
      cases d with
      | tuple ds =>
        have hl : ds.length = 3 := of_decide_eq_true g
        match ds, hl with
        | [d1, d2, d3], _ =>
          have hd1 := hd.same s1
          cases hd1 with
          | @tup a xs _ h1 h2 =>
            cases h2 with
            | @cons v1 _ _ _ e1 r1 =>
              cases r1 with
              | @cons v2 _ _ _ e2 r2 =>
                cases r2 with
                | @cons v3 _ _ _ e3 r3 =>
                  cases r3
                  refine iteF ⟨_, rfl, a, _, rfl, h1, rfl, _, _, rfl, _, _, rfl, _, _, rfl, rfl, ?_⟩
                  refine ⟨_, rfl, v1, d1, rfl, e1, fun H2 s2 => ⟨_, rfl, ?_⟩⟩
                  have q2 : ∀ H', Same H2 H' → Q (.bl (isNameD d1 && (isTupN d2 m && ((partsOf d2 ++ [d3]).all isStretchD)))) H' := fun H' s' => q H' (s1.trans (s2.trans s'))
                  cases g2 : isNameD d1 with
                  | false =>
                    rw [g2] at q2
                    exact iteT (q2 H2 fun _ _ e => e)
                  | true =>
                    rw [g2] at q2
                    refine iteF ⟨_, rfl, _, rfl, v2, d2, m, rfl, hm, e2.same s2, fun H3 s3 => ⟨_, rfl, ?_⟩⟩
                    cases g3 : isTupN d2 m with
                    | false =>
                      rw [g3] at q2
                      exact iteT (q2 H3 s3)
                    | true =>
                      rw [g3] at q2
                      cases d2 with
                      | tuple ps =>
                        have hps : ps.length = m := of_decide_eq_true g3
                        have e2' := e2.same (s2.trans s3)
                        cases e2' with
                        | @tup a2 xs2 _ h3 h4 =>
                          have hx2 : xs2.length = m := by rw [h4.len, hps]
                          have hall : DqAll K H3 (xs2 ++ [v3]) (ps ++ [d3]) := h4.app (.cons (e3.same (s2.trans s3)) .nil)
                          refine iteF ⟨_, rfl, a2, xs2, rfl, .inl h3, _, rfl, by rw [List.length_append, hx2]; exact Nat.le_trans (Nat.succ_le_succ hm) (by decide), fun p hp => ⟨p, rfl, ⟨_, SqT.of upd_same⟩, fun D hD => ?_⟩⟩
                          have s4 : Same H3 (upd H3 p (.tup (xs2 ++ [v3]))) := Same.new hp
                          refine lc_known (walk_tup (K := K) (a := p) (xs := xs2 ++ [v3])) (fun i => .bl (isStretchD ((ps ++ [d3]).getD i .none))) (by rw [List.length_append, hx2]; show m + 1 ≤ 100000; omega) hD (fun H' s' => same_sqt s' (SqT.of upd_same)) (fun _ _ _ _ y => by obtain ⟨rfl, _⟩ := y; exact fun _ _ e => e) (fun _ => rfl) ?_ ?_
                          · rintro i x H5 H6 Qk hi s5 ⟨rfl, hx⟩ k
                            obtain ⟨d, hdi, hdq⟩ := (hall.same (s4.trans s5)).get hx
                            have ed : (ps ++ [d3]).getD i .none = d := by
                              rw [List.getD_eq_getElem?_getD, hdi]
                              rfl
                            refine ⟨_, rfl, x, d, rfl, hdq, fun H7 s7 => ?_⟩
                            have k1 := k H7 s7
                            rw [ed] at k1
                            exact k1
                          · intro H5 s5 bD
                            refine ⟨D, (List.range (xs2 ++ [v3]).length).map fun i => isStretchD ((ps ++ [d3]).getD i .none), rfl, SqL.of (by rw [bD, List.map_map]; rfl), ?_⟩
                            rw [all_getD (ps ++ [d3]) isStretchD _ (by rw [List.length_append, List.length_append, hx2, hps]; rfl)]
                            exact q2 H5 (s3.trans (s4.trans s5))
                      | _ => cases g3
      | _ => cases g
end
end Ca
set_option Elab.async false
set_option linter.all false
set_option maxRecDepth 100000
set_option maxHeartbeats 4000000
namespace Ca
open PySem L2
structure Folk (ns : List Str) : Prop where
  lo : 1 ≤ ns.length
  hi : ns.length ≤ 3
  ok : ∀ x ∈ ns, isUnknownD (.str x) = true
  nd : ns.Nodup
def folkD (ns : List Str) : PyData := .tuple (ns.map .str)
theorem strs_of {K : PySem.W.Frag} {H : Hp} : ∀ {ns : List Str} {xs : List V}, DqAll K H xs (ns.map .str) → xs = ns.map V.str ∧ ∀ x ∈ ns, x.length ≤ 1000
  | [], _, .nil => ⟨rfl, fun _ z => nomatch z⟩
  | n :: ns, _, .cons (.str _ h) t => by
    obtain ⟨e, q⟩ := strs_of (ns := ns) t
    refine ⟨by rw [e]; rfl, fun x z => ?_⟩
    rcases List.mem_cons.mp z with rfl | z
    · exact h
    · exact q x z
theorem flat_strs : ∀ ns : List Str, (ns.map V.str).all flatV = true
  | [] => rfl
  | n :: ns => flat_strs ns
theorem inV_strs (x : Str) : ∀ ns : List Str, inV (.str x) (ns.map V.str) = decide (x ∈ ns)
  | [] => rfl
  | n :: ns => by
    show (eqV (.str n) (.str x) || inV (.str x) (ns.map V.str)) = _
    rw [inV_strs x ns]
    by_cases h : n = x
    · subst h
      have e : eqV (.str n) (.str n) = true := by show decide (n = n) = true; exact decide_eq_true rfl
      rw [e, decide_eq_true (List.mem_cons_self ..)]
      rfl
    · have e : eqV (.str n) (.str x) = false := by show decide (n = x) = false; exact decide_eq_false h
      rw [e, Bool.false_or]
      by_cases g : x ∈ ns
      · rw [decide_eq_true g, decide_eq_true (List.mem_cons_of_mem _ g)]
      · rw [decide_eq_false g, decide_eq_false fun z => (List.mem_cons.mp z).elim (fun y => h y.symm) g]
def spCheckU (K : PySem.W.Frag) : Sp := fun vs H Q _ => ∃ v ns, vs = [v] ∧ Dq K H v (folkD ns) ∧ Folk ns ∧ ∀ H', Same H H' → Q .non H'
section
variable {P : Program} {w : World} {K : PySem.W.Frag} {mg : Str → Option Value} {base : Heap}
theorem scCheckU : FnScope ["unknowns", "index", "name"] ["unknowns"] (defScope sCheckUnknowns) := ⟨rfl, rfl, rfl, by decide +kernel, rfl, by decide +kernel, by decide +kernel⟩
theorem ok_checkU {f fU : Addr} {fd fdU : FuncData} (F : FnT K "check_unknowns" sCheckUnknowns f fd) (B : Bn mg) (C : Cn mg)
    (gU : mg "is_unknown" = some (.ref fU)) (GU : FnOk P w K mg base CX0 2 fU fdU ["value"] (spIs K isUnknownD)) (kU : PySem.W.keepIn K (.ref fU) = true) (bU : Binds K fdU ["value"] []) :
    FnOk P w K mg base CX0 3 f fd ["unknowns"] (spCheckU K) := by
  obtain ⟨t1, c1⟩ := C.unknowns
  refine F.ok scCheckU (fun vs H Q E h => ?_) (fun cdv A outer s H vs Q E hr h => ?_)
  · obtain ⟨v, d, rfl, _⟩ := h
    rfl
  · obtain ⟨v, ns, rfl, hd, N, q⟩ := h
    have nd := scCheckU.nd
    refine ⟨_, PSs.nox (pss_cons (ps_if (PW.pt (pw_or (pt_not (pt_val (pe_callB call_isi (by rfl) B.isi PyProof.Rows.boot_isinstance (pa_cons (pv 0) (pa_cons (pe_bltn (v := .ty "tuple") (by rfl) B.tup (by decide +kernel) rfl) pa_nil)))))
        (pw_or1 (pt_cmpR op_eq (pe_callB call_len (by rfl) B.len boot_len (pa_cons (pv 0) pa_nil)) pe_int (nomark _))))) (pss_one ps_never) pss_nil)
      (pss_one (ps_for PassesOwn.never rfl (pi_enumT (by rfl) B.enum (pa_cons (pv 0) pa_nil)) (pg_tup rfl (pgs_cons (pg_name (i := 1) nd rfl (.inl rfl)) (pgs_cons (pg_name (i := 2) nd rfl (.inl rfl)) pgs_nil)))
        (pss_one (ps_if (PW.pt (pw_or (pt_cmpR op_eq (pv 1) (pe_glob (v := .int 3) rfl c1 ⟨_, rfl⟩) (nomark _)) (pw_or (pt_not (pt_val (pe_call GU hr rfl gU kU bU .nil pass0 (pa_cons (pv 2) pa_nil))))
          (pw_or1 (pt_cmpR op_in_seq (pv 2) (pe_slice sl_tupA (pv 0) po_none (po_some (pv 1))) (by rfl)))))) (pss_one ps_never) pss_nil))))), ?_⟩
    have hd0 := hd
    cases hd with
    | @tup a xs _ h1 h2 =>
      obtain ⟨rfl, hlen⟩ := strs_of h2
      have hl : (ns.map V.str).length = ns.length := List.length_map ..
      refine rd_isd hd0 rfl (kit_tup _) ⟨_, rfl, iteF ⟨_, rfl, _, _, rfl, .inr ⟨_, h1, rfl⟩, rfl, _, rfl, ?_⟩⟩
      rw [decide_eq_false (fun z => by injection z with z; rw [hl] at z; have := N.lo; omega)]
      refine iteF ⟨_, rfl, a, _, rfl, h1, ?_⟩
      refine for_it walk_enumT (fun i σ' H' => i ≤ ns.length ∧ (∃ o1 o2, σ' = [some (.ref a), o1, o2]) ∧ Same H H') ⟨Nat.zero_le _, ⟨_, _, rfl⟩, fun _ _ e => e⟩ (fun i σ' H' hi p => same_sqt p.2.2 h1) ?_ (fun σ' H' p => q H' p.2.2)
      rintro i _ _ H1 _ hi ⟨_, ⟨o1, o2, rfl⟩, s1⟩ ⟨T, x, rfl, hT, rfl, hx⟩
      refine ⟨T, _, rfl, SqT.of upd_same, rfl, _, _, rfl, _, _, rfl, rfl, ?_⟩
      have hil : i < ns.length := by rw [← hl]; exact hi
      obtain ⟨z, hz, rfl⟩ : ∃ z, ns[i]? = some z ∧ x = .str z := by
        rw [List.getElem?_map] at hx
        cases e : ns[i]? with
        | none => rw [e] at hx; cases hx
        | some z => rw [e] at hx; exact ⟨z, rfl, (Option.some.inj hx).symm⟩
      have hzm : z ∈ ns := List.mem_of_getElem? hz
      have s2 : Same H1 (upd H1 T (.tup [.int (i : Nat), .str z])) := Same.new hT
      refine ⟨_, rfl, rfl, _, rfl, ?_⟩
      rw [decide_eq_false (fun y => by injection y with y; have := N.hi; omega)]
      refine iteF ⟨_, rfl, _, _, rfl, .str z (hlen z hzm), fun H3 s3 => ⟨_, rfl, ?_⟩⟩
      rw [N.ok z hzm]
      have h3 : SqT K H3 a (ns.map V.str) := same_sqt (s1.trans (s2.trans s3)) h1
      refine iteF ⟨_, rfl, _, rfl, _, rfl, i, rfl, a, _, rfl, h3, fun y => ?_, fun _ p hp => ⟨p, _, rfl, .inr (SqT.of upd_same), rfl, ?_, _, rfl, ?_⟩⟩
      · have := y.2
        rw [HT.sIx_nat, hl] at this
        omega
      · unfold cutV
        rw [List.all_eq_true]
        intro b hb
        exact List.all_eq_true.mp (flat_strs ns) b (List.mem_of_mem_drop (List.mem_of_mem_take hb))
      · have ec : cutV (ns.map V.str) none (some (i : Int)) = (ns.take i).map V.str := by
          unfold cutV
          rw [HT.sIx_none, HT.sIx_nat, hl, List.drop_zero, Nat.sub_zero, Nat.min_eq_left (Nat.le_of_lt hil), List.map_take]
        rw [ec]
        rw [inV_strs, decide_eq_false (fun y => by
          obtain ⟨j, hj, ej⟩ := List.mem_iff_getElem.mp y
          rw [List.getElem_take] at ej
          have hj2 : j < i := by
            have := hj
            rw [List.length_take] at this
            omega
          have ei : ns[i] = z := by
            have := List.getElem?_eq_getElem hil
            rw [hz] at this
            exact (Option.some.inj this).symm
          exact List.pairwise_iff_getElem.mp N.nd j i (by omega) hil hj2 (ej.trans ei.symm))]
        exact iteF ⟨hil, ⟨_, _, rfl⟩, s1.trans (s2.trans (s3.trans (Same.new hp)))⟩
end
/-! ### rows -/
structure Rw where
  name : Str
  parts : List (Int × Int)
  bd : Int × Int
deriving DecidableEq
def strD (p : Int × Int) : PyData := .tuple [.int p.1, .int p.2]
def rowD (r : Rw) : PyData := .tuple [.str r.name, .tuple (r.parts.map strD), strD r.bd]
def rowsD (rs : List Rw) : PyData := .tuple (rs.map rowD)
structure Lines (rs : List Rw) (m : Nat) : Prop where
  hi : rs.length ≤ 6
  ok : ∀ r ∈ rs, isRowD (rowD r) m = true
  nd : (rs.map Rw.name).Nodup
def spCheckR (K : PySem.W.Frag) : Sp := fun vs H Q _ => ∃ v rs m, vs = [v, .int (m : Nat)] ∧ m ≤ 1000 ∧ Dq K H v (rowsD rs) ∧ Lines rs m ∧ ∀ H', Same H H' → Q .non H'
/-- a row as it stands -/
theorem row_at {K : PySem.W.Frag} {H : Hp} {v : V} {r : Rw} (h : Dq K H v (rowD r)) : ∃ a v2 v3, v = .ref a ∧ SqT K H a [.str r.name, v2, v3] ∧ Dq K H v2 (.tuple (r.parts.map strD)) ∧ Dq K H v3 (strD r.bd) ∧ r.name.length ≤ 1000 := by
  cases h with
  | @tup a xs _ h1 h2 =>
    cases h2 with
    | cons e1 r1 =>
      cases r1 with
      | cons e2 r2 =>
        cases r2 with
        | cons e3 r3 =>
          cases r3
          cases e1 with
          | str _ hx => exact ⟨a, _, _, rfl, h1, e2, e3, hx⟩
section
variable {P : Program} {w : World} {K : PySem.W.Frag} {mg : Str → Option Value} {base : Heap}
theorem scCheckR : FnScope ["rows", "many", "names", "index", "row"] ["rows", "many"] (defScope sCheckRows) := ⟨rfl, rfl, rfl, by decide +kernel, rfl, by decide +kernel, by decide +kernel⟩
theorem ok_checkR {f fR : Addr} {fd fdR : FuncData} (F : FnT K "check_rows" sCheckRows f fd) (B : Bn mg) (C : Cn mg)
    (gR : mg "is_row" = some (.ref fR)) (GR : FnOk P w K mg base CX0 3 fR fdR ["value", "many"] (spIs2 K isRowD)) (kR : PySem.W.keepIn K (.ref fR) = true) (bR : Binds K fdR ["value", "many"] []) :
    FnOk P w K mg base CX0 4 f fd ["rows", "many"] (spCheckR K) := by
  obtain ⟨t1, c1⟩ := C.rows
  refine F.ok scCheckR (fun vs H Q E h => ?_) (fun cdv A outer s H vs Q E hr h => ?_)
  · obtain ⟨v, rs, m, rfl, _⟩ := h
    rfl
  · obtain ⟨v, rs, m, rfl, hm, hd, N, q⟩ := h
    have nd := scCheckR.nd
    refine ⟨_, PSs.nox (pss_cons (ps_if (pt_not (pt_val (pe_callB call_isi (by rfl) B.isi PyProof.Rows.boot_isinstance (pa_cons (pv 0) (pa_cons (pe_bltn (v := .ty "tuple") (by rfl) B.tup (by decide +kernel) rfl) pa_nil))))) (pss_one ps_never) pss_nil)
      (pss_cons (ps_set (i := 2) nd rfl (.inl rfl) (pe_lst pa_nil))
      (pss_one (ps_for PassesOwn.never rfl (pi_enumT (by rfl) B.enum (pa_cons (pv 0) pa_nil)) (pg_tup rfl (pgs_cons (pg_name (i := 3) nd rfl (.inl rfl)) (pgs_cons (pg_name (i := 4) nd rfl (.inl rfl)) pgs_nil)))
        (pss_cons (ps_if (PW.pt (pw_or (pt_cmpR op_eq (pv 3) (pe_glob (v := .int 6) rfl c1 ⟨_, rfl⟩) (nomark _)) (pw_or (pt_not (pt_val (pe_call GR hr rfl gR kR bR .nil pass0 (pa_cons (pv 4) (pa_cons (pv 1) pa_nil)))))
          (pw_or1 (pt_cmpR op_in_seq (pe_ix ix_tup (pv 4) pe_int (fun _ _ => rfl)) (pv 2) (by rfl)))))) (pss_one ps_never) pss_nil)
        (pss_one (ps_expr (pe_bm PySem.F.plainAttrs_list PySem.F.slot_list_append PySem.F.type_list_append mt_append (pv 2) (pa_cons (pe_ix ix_tup (pv 4) pe_int (fun _ _ => rfl)) pa_nil))))))))), ?_⟩
    have hd0 := hd
    cases hd with
    | @tup a xs _ h1 h2 =>
      have hl : xs.length = rs.length := by rw [h2.len, List.length_map]
      refine rd_isd hd0 rfl (kit_tup _) ⟨_, rfl, iteF ⟨by show 0 ≤ sizeLine; decide, fun nl hnl => ?_⟩⟩
      have s0 : Same H (upd H nl (.lst [])) := Same.new hnl
      refine ⟨_, rfl, a, _, rfl, same_sqt s0 h1, ?_⟩
      refine for_it walk_enumT (fun i σ' H' => i ≤ rs.length ∧ (∃ o1 o2, σ' = [some (.ref a), some (.int m), some (.ref nl), o1, o2]) ∧ Same H H' ∧ H' nl = some (.lst (((rs.take i).map Rw.name).map V.str))) ⟨Nat.zero_le _, ⟨_, _, rfl⟩, s0, upd_same⟩ (fun i σ' H' hi p => same_sqt p.2.2.1 h1) ?_ (fun σ' H' p => q H' p.2.2.1)
      rintro i x _ H1 _ hi ⟨_, ⟨o1, o2, rfl⟩, s1, hn1⟩ ⟨T, x, rfl, hT, rfl, hx⟩
      refine ⟨T, _, rfl, SqT.of upd_same, rfl, _, _, rfl, _, _, rfl, rfl, ?_⟩
      have hil : i < rs.length := by rw [← hl]; exact hi
      have s2 : Same H1 (upd H1 T (.tup [.int (i : Nat), x])) := Same.new hT
      obtain ⟨d, hdi, hdq⟩ := (h2.same (s1.trans s2)).get hx
      obtain ⟨r, hr2, rfl⟩ : ∃ r, rs[i]? = some r ∧ d = rowD r := by
        rw [List.getElem?_map, List.getElem?_eq_getElem hil] at hdi
        exact ⟨_, List.getElem?_eq_getElem hil, (Option.some.inj hdi).symm⟩
      have hrm : r ∈ rs := List.mem_of_getElem? hr2
      refine ⟨_, rfl, rfl, _, rfl, ?_⟩
      rw [decide_eq_false (fun y => by injection y with y; have := N.hi; omega)]
      refine iteF ⟨_, rfl, _, rfl, x, _, m, rfl, hm, hdq, fun H3 s3 => ⟨_, rfl, ?_⟩⟩
      rw [N.ok r hrm]
      obtain ⟨b, v2, v3, rfl, hb, _, _, _⟩ := row_at (hdq.same s3)
      have hn3 := s3 _ _ (s2 _ _ hn1)
      refine iteF ⟨_, rfl, b, _, 0, _, rfl, rfl, hb, atI_nat (j := 0) rfl, _, rfl, nl, _, rfl, .inl (SqL.of hn3), rfl, ?_, _, rfl, ?_⟩
      · exact flat_strs _
      · have ein : inV (.str r.name) (((rs.take i).map Rw.name).map V.str) = false := by
          rw [inV_strs]
          refine decide_eq_false fun y => ?_
          obtain ⟨j, hj, ej⟩ := List.mem_iff_getElem.mp y
          rw [List.getElem_map, List.getElem_take] at ej
          have hj2 : j < i := by
            have := hj
            rw [List.length_map, List.length_take] at this
            omega
          have ei : rs[i] = r := by
            have := List.getElem?_eq_getElem hil
            rw [hr2] at this
            exact (Option.some.inj this).symm
          have := List.pairwise_iff_getElem.mp N.nd j i (by rw [List.length_map]; omega) (by rw [List.length_map]; exact hil) hj2
          rw [List.getElem_map, List.getElem_map, ei] at this
          exact this ej
        show (fun b_1 H1 => if b_1 = true then _ else _) (inV (.str r.name) (((rs.take i).map Rw.name).map V.str)) H3
        rw [ein]
        refine iteF ⟨_, rfl, .inl ⟨rfl, _, SqL.of hn3⟩, _, rfl, b, _, 0, _, rfl, rfl, hb, atI_nat (j := 0) rfl, nl, _, _, rfl, rfl, hn3, ?_, hil, ⟨_, _, rfl⟩, fun c o e => ?_, ?_⟩
        · rw [List.length_map, List.length_map, List.length_take]
          have := N.hi
          exact Nat.lt_of_le_of_lt (Nat.le_trans (Nat.min_le_right ..) this) (by decide)
        · rw [upd_ne (ne_of_none e hnl)]
          exact s3 _ _ (s2 _ _ (s1 _ _ e))
        · rw [upd_same]
          have et : rs.take (i + 1) = rs.take i ++ [r] := by
            rw [List.take_succ, hr2]
            rfl
          rw [et, List.map_append, List.map_append]
          rfl
end
end Ca
set_option Elab.async false
set_option linter.all false
set_option maxRecDepth 100000
set_option maxHeartbeats 4000000
namespace Ca
open PySem L2
/-! ### systems -/
abbrev FnM (K : PySem.W.Frag) (x q : Str) (st : Stmt) (dvs : List V) (f : Addr) (fd : FuncData) : Prop := FunD K x q (defArgs st) (defBody st) (defScope st) dvs [] f fd
structure SysC (K : PySem.W.Frag) (C : Addr) : Prop where
  cl : Cls K C
  nu : NoAttr K C "_unknowns"
  nr : NoAttr K C "_rows"
def sysF (u r : V) : List (Str × V) := [("_unknowns", u), ("_rows", r)]
/-- a system stands at x -/
def SysAt (K : PySem.W.Frag) (C : Addr) (H : Hp) (x : Addr) (ns : List Str) (rs : List Rw) : Prop :=
  Folk ns ∧ Lines rs ns.length ∧ ∃ dx u r, H x = some (.ins C dx (sysF u r)) ∧ Dq K H u (folkD ns) ∧ Dq K H r (rowsD rs)
theorem SysAt.same {K : PySem.W.Frag} {C : Addr} {H H' : Hp} {x : Addr} {ns : List Str} {rs : List Rw} (h : SysAt K C H x ns rs) (s : Same H H') : SysAt K C H' x ns rs := by
  obtain ⟨h1, h2, dx, u, r, e, du, dr⟩ := h
  exact ⟨h1, h2, dx, u, r, s _ _ e, du.same s, dr.same s⟩
def spInit (K : PySem.W.Frag) (C : Addr) : Sp := fun vs H Q _ => ∃ x dx u r ns rs, vs = [.ref x, u, r] ∧ H x = some (.ins C dx []) ∧ Dq K H u (folkD ns) ∧ Folk ns ∧ Dq K H r (rowsD rs) ∧ Lines rs ns.length ∧
  ∀ H', Kept x H H' → H' x = some (.ins C dx (sysF u r)) → Q .non H'
def spUnknowns (C : Addr) : Sp := fun vs H Q _ => ∃ x dx u r, vs = [.ref x] ∧ H x = some (.ins C dx (sysF u r)) ∧ Q u H
def spRows (C : Addr) : Sp := fun vs H Q _ => ∃ x dx u r, vs = [.ref x] ∧ H x = some (.ins C dx (sysF u r)) ∧ Q r H
def spLen (K : PySem.W.Frag) (C : Addr) : Sp := fun vs H Q _ => ∃ x ns rs, vs = [.ref x] ∧ SysAt K C H x ns rs ∧ Q (.int rs.length) H
def spYes : Sp := fun vs H Q _ => ∃ x, vs = [x] ∧ Q (.bl true) H
theorem tup_len {K : PySem.W.Frag} {H : Hp} {v : V} {ds : List PyData} (h : Dq K H v (.tuple ds)) : ∃ a xs, v = .ref a ∧ SqT K H a xs ∧ DqAll K H xs ds ∧ xs.length = ds.length := by
  cases h with
  | @tup a xs _ h1 h2 => exact ⟨a, xs, rfl, h1, h2, h2.len⟩
section
variable {P : Program} {w : World} {K : PySem.W.Frag} {mg : Str → Option Value} {base : Heap} {C : Addr}
theorem scInit : FnScope ["self", "unknowns", "rows"] ["self", "unknowns", "rows"] (defScope mSystemInit) := ⟨rfl, rfl, rfl, by decide +kernel, rfl, by decide +kernel, by decide +kernel⟩
theorem ok_init {f fU fR : Addr} {fd fdU fdR : FuncData} {dvs : List V} (F : FnM K "__init__" "System.__init__" mSystemInit dvs f fd) (B : Bn mg) (S : SysC K C)
    (gU : mg "check_unknowns" = some (.ref fU)) (GU : FnOk P w K mg base CX0 3 fU fdU ["unknowns"] (spCheckU K)) (kU : PySem.W.keepIn K (.ref fU) = true) (bU : Binds K fdU ["unknowns"] [])
    (gR : mg "check_rows" = some (.ref fR)) (GR : FnOk P w K mg base CX0 4 fR fdR ["rows", "many"] (spCheckR K)) (kR : PySem.W.keepIn K (.ref fR) = true) (bR : Binds K fdR ["rows", "many"] []) :
    FnOk P w K mg base CX0 5 f fd ["self", "unknowns", "rows"] (spInit K C) := by
  refine F.ok scInit (fun vs H Q E h => ?_) (fun cdv A outer s H vs Q E hr h => ?_)
  · obtain ⟨x, dx, u, r, ns, rs, rfl, _⟩ := h
    rfl
  · obtain ⟨x, dx, u, r, ns, rs, rfl, hx, du, hN, dr, hL, q⟩ := h
    have hr3 : Room 3 _ := hr.mono (by decide)
    refine ⟨_, PSs.nox (pss_cons (ps_expr (pe_call GU hr3 rfl gU kU bU .nil pass0 (pa_cons (pv 1) pa_nil)))
      (pss_cons (ps_expr (pe_call GR hr rfl gR kR bR .nil pass0 (pa_cons (pv 2) (pa_cons (pe_callB call_len (by rfl) B.len boot_len (pa_cons (pv 1) pa_nil)) pa_nil))))
      (pss_cons (ps_fld (pv 0) (pv 1) rfl) (pss_one (ps_fld (pv 0) (pv 2) rfl))))), ?_⟩
    refine ⟨_, rfl, u, ns, rfl, du, hN, fun H1 s1 => ?_⟩
    obtain ⟨a, xs, rfl, h1, h2, hl⟩ := tup_len (du.same s1)
    have hl2 : xs.length = ns.length := by rw [hl, List.length_map]
    refine ⟨_, rfl, _, rfl, _, ns.length, rfl, .inr ⟨_, h1, hl2.symm⟩, r, rs, ns.length, rfl, by have := hN.hi; omega, dr.same s1, hL, fun H2 s2 => ?_⟩
    have hx2 := s2 _ _ (s1 _ _ hx)
    refine ⟨_, rfl, _, rfl, x, C, dx, _, rfl, hx2, S.cl, S.nu, by show 0 < 1000; decide, _, rfl, _, rfl, x, C, dx, _, rfl, upd_same, S.cl, S.nr, by show 1 < 1000; decide, ?_⟩
    refine q _ (fun b o n e => ?_) upd_same
    rw [upd_ne n, upd_ne n]
    exact s2 _ _ (s1 _ _ e)
theorem scUnknowns : FnScope ["self"] ["self"] (defScope mSystemUnknowns) := ⟨rfl, rfl, rfl, by decide +kernel, rfl, by decide +kernel, by decide +kernel⟩
theorem ok_unknowns {f : Addr} {fd : FuncData} (F : FnM K "unknowns" "System.unknowns" mSystemUnknowns [] f fd) (S : SysC K C) : FnOk P w K mg base CX0 1 f fd ["self"] (spUnknowns C) := by
  refine F.ok scUnknowns (fun vs H Q E h => ?_) (fun cdv A outer s H vs Q E hr h => ?_)
  · obtain ⟨x, dx, u, r, rfl, _⟩ := h
    rfl
  · obtain ⟨x, dx, u, r, rfl, hx, q⟩ := h
    exact ⟨_, PSs.nox (pss_one (ps_ret (pe_fld (pv 0) rfl))), _, rfl, x, C, dx, _, u, rfl, hx, S.cl, S.nu, rfl, q⟩
theorem scRows : FnScope ["self"] ["self"] (defScope mSystemRows) := ⟨rfl, rfl, rfl, by decide +kernel, rfl, by decide +kernel, by decide +kernel⟩
theorem ok_rows {f : Addr} {fd : FuncData} (F : FnM K "rows" "System.rows" mSystemRows [] f fd) (S : SysC K C) : FnOk P w K mg base CX0 1 f fd ["self"] (spRows C) := by
  refine F.ok scRows (fun vs H Q E h => ?_) (fun cdv A outer s H vs Q E hr h => ?_)
  · obtain ⟨x, dx, u, r, rfl, _⟩ := h
    rfl
  · obtain ⟨x, dx, u, r, rfl, hx, q⟩ := h
    exact ⟨_, PSs.nox (pss_one (ps_ret (pe_fld (pv 0) rfl))), _, rfl, x, C, dx, _, r, rfl, hx, S.cl, S.nr, rfl, q⟩
theorem scLen : FnScope ["self"] ["self"] (defScope mSystemLen) := ⟨rfl, rfl, rfl, by decide +kernel, rfl, by decide +kernel, by decide +kernel⟩
theorem ok_len {f : Addr} {fd : FuncData} (F : FnM K "__len__" "System.__len__" mSystemLen [] f fd) (B : Bn mg) (S : SysC K C) : FnOk P w K mg base CX0 1 f fd ["self"] (spLen K C) := by
  refine F.ok scLen (fun vs H Q E h => ?_) (fun cdv A outer s H vs Q E hr h => ?_)
  · obtain ⟨x, ns, rs, rfl, _⟩ := h
    rfl
  · obtain ⟨x, ns, rs, rfl, ⟨_, _, dx, u, r, hx, du, dr⟩, q⟩ := h
    obtain ⟨a, xs, rfl, h1, h2, hl⟩ := tup_len dr
    refine ⟨_, PSs.nox (pss_one (ps_ret (pe_callB call_len (by rfl) B.len boot_len (pa_cons (pe_fld (pv 0) rfl) pa_nil)))), _, rfl, x, C, dx, _, _, rfl, hx, S.cl, S.nr, rfl, _, rs.length, rfl, .inr ⟨_, h1, ?_⟩, q⟩
    rw [hl, List.length_map]
theorem scBool : FnScope ["self"] ["self"] (defScope mSystemBool) := ⟨rfl, rfl, rfl, by decide +kernel, rfl, by decide +kernel, by decide +kernel⟩
theorem ok_bool {f : Addr} {fd : FuncData} (F : FnM K "__bool__" "System.__bool__" mSystemBool [] f fd) : FnOk P w K mg base CX0 1 f fd ["self"] spYes := by
  refine F.ok scBool (fun vs H Q E h => ?_) (fun cdv A outer s H vs Q E hr h => ?_)
  · obtain ⟨x, rfl, _⟩ := h
    rfl
  · obtain ⟨x, rfl, q⟩ := h
    exact ⟨_, PSs.nox (pss_one (ps_ret pe_bl)), q⟩
end
end Ca
set_option Elab.async false
set_option linter.all false
set_option maxRecDepth 100000
set_option maxHeartbeats 4000000
namespace Ca
open PySem L2
/-! ### what is known of the data of systems -/
theorem sign_small : ∀ c, isSign c = true → c < 128 := by
  intro c h
  have h1 : ∀ x ∈ LET.cps.toList, x < 128 := by decide +kernel
  have h2 : ∀ x ∈ DIG.cps.toList, x < 128 := by decide +kernel
  unfold isSign isLet at h
  rcases Bool.or_eq_true_iff.mp h with h | h
  · exact h1 c (of_decide_eq_true h)
  · exact h2 c (of_decide_eq_true h)
theorem name_parts {x : Str} (h : nameS x = true) : 1 ≤ x.length ∧ x.length ≤ 8 ∧ ∀ c ∈ x.cps.toList, c < 128 := by
  unfold nameS at h
  obtain ⟨h1, h⟩ := Bool.and_eq_true_iff.mp h
  obtain ⟨h2, h⟩ := Bool.and_eq_true_iff.mp h
  obtain ⟨_, h4⟩ := Bool.and_eq_true_iff.mp h
  exact ⟨of_decide_eq_true h1, of_decide_eq_true h2, fun c hc => sign_small c (List.all_eq_true.mp h4 c hc)⟩
theorem unk_name {x : Str} (h : isUnknownD (.str x) = true) : nameS x = true := (Bool.and_eq_true_iff.mp (show (nameS x && !decide (x = "bound")) = true from h)).1
theorem row_name {r : Rw} {m : Nat} (h : isRowD (rowD r) m = true) : nameS r.name = true ∧ r.parts.length = m := by
  obtain ⟨h1, h2⟩ := Bool.and_eq_true_iff.mp (show (nameS r.name && (isTupN (.tuple (r.parts.map strD)) m && ((partsOf (.tuple (r.parts.map strD)) ++ [strD r.bd]).all isStretchD))) = true from h)
  obtain ⟨h3, _⟩ := Bool.and_eq_true_iff.mp h2
  refine ⟨h1, ?_⟩
  have := of_decide_eq_true h3
  rwa [List.length_map] at this
mutual
theorem dp_of {K : PySem.W.Frag} {H : Hp} : ∀ {d : PyData} {v : V}, d.hasDict = false → Dq K H v d → Dp K H v d
  | .none, _, _, h => by cases h; exact .non
  | .bool b, _, _, h => by cases h; exact .bl b
  | .int i, _, _, h => by cases h; exact .int i
  | .str x, _, _, h => by cases h; exact .str x
  | .list ds, _, n, h => by
    cases h with
    | lst a b => exact .lst a (dpAll_of (by simpa only [PyData.hasDict] using n) b)
  | .tuple ds, _, n, h => by
    cases h with
    | tup a b => exact .tup a (dpAll_of (by simpa only [PyData.hasDict] using n) b)
  | .dict ds, _, n, h => by simp [PyData.hasDict] at n
theorem dpAll_of {K : PySem.W.Frag} {H : Hp} : ∀ {ds : List PyData} {vs : List V}, PyData.hasDictAll ds = false → DqAll K H vs ds → DpAll K H vs ds
  | [], _, _, h => by cases h; exact .nil
  | d :: ds, _, n, h => by
    have n' : (d.hasDict || PyData.hasDictAll ds) = false := by simpa only [PyData.hasDictAll] using n
    obtain ⟨n1, n2⟩ := Bool.or_eq_false_iff.mp n'
    cases h with
    | cons a b => exact .cons (dp_of n1 a) (dpAll_of n2 b)
end
theorem eqvAll_strs : ∀ ns ms : List Str, PyData.eqvAll (ns.map .str) (ms.map .str) = decide (ns = ms)
  | [], [] => by simp [PyData.eqvAll]
  | [], _ :: _ => by simp [PyData.eqvAll]
  | _ :: _, [] => by simp [PyData.eqvAll]
  | n :: ns, m :: ms => by
    simp only [List.map_cons, PyData.eqvAll, PyData.eqv]
    rw [eqvAll_strs ns ms, Bool.eq_iff_iff]
    simp
theorem eqv_folk (ns ms : List Str) : PyData.eqv (folkD ns) (folkD ms) = decide (ns = ms) := by
  unfold folkD
  simp only [PyData.eqv]
  exact eqvAll_strs ns ms
theorem eqv_str (p q : Int × Int) : PyData.eqv (strD p) (strD q) = decide (p = q) := by
  obtain ⟨a, b⟩ := p
  obtain ⟨c, d⟩ := q
  unfold strD
  simp only [PyData.eqv, PyData.eqvAll]
  rw [Bool.eq_iff_iff]
  simp
theorem eqvAll_strD : ∀ ps qs : List (Int × Int), PyData.eqvAll (ps.map strD) (qs.map strD) = decide (ps = qs)
  | [], [] => by simp [PyData.eqvAll]
  | [], _ :: _ => by simp [PyData.eqvAll]
  | _ :: _, [] => by simp [PyData.eqvAll]
  | p :: ps, q :: qs => by
    simp only [List.map_cons, PyData.eqvAll]
    rw [eqvAll_strD ps qs, eqv_str, Bool.eq_iff_iff]
    simp
theorem eqv_row (r q : Rw) : PyData.eqv (rowD r) (rowD q) = decide (r = q) := by
  obtain ⟨a, b, c⟩ := r
  obtain ⟨d, e, f⟩ := q
  unfold rowD
  simp only [PyData.eqv, PyData.eqvAll]
  rw [eqvAll_strD, eqv_str, Bool.eq_iff_iff]
  simp
theorem eqvAll_rows : ∀ rs qs : List Rw, PyData.eqvAll (rs.map rowD) (qs.map rowD) = decide (rs = qs)
  | [], [] => by simp [PyData.eqvAll]
  | [], _ :: _ => by simp [PyData.eqvAll]
  | _ :: _, [] => by simp [PyData.eqvAll]
  | p :: ps, q :: qs => by
    simp only [List.map_cons, PyData.eqvAll]
    rw [eqvAll_rows ps qs, eqv_row, Bool.eq_iff_iff]
    simp
theorem eqv_rows (rs qs : List Rw) : PyData.eqv (rowsD rs) (rowsD qs) = decide (rs = qs) := by
  unfold rowsD
  simp only [PyData.eqv]
  exact eqvAll_rows rs qs
theorem strOk_of {x : Str} (h : ∀ c ∈ x.cps.toList, c < 128) : PyData.strOk x = true := by
  unfold PyData.strOk
  rw [← Array.all_toList, List.all_eq_true]
  intro c hc
  exact decide_eq_true (Nat.lt_of_lt_of_le (h c hc) (by decide))
theorem lay_strs : ∀ ns : List Str, (∀ x ∈ ns, nameS x = true) → PyData.canLayAll0 (ns.map .str) = true
  | [], _ => rfl
  | n :: ns, h => by
    simp only [List.map_cons, PyData.canLayAll0, PyData.canLay0]
    rw [strOk_of (name_parts (h n (List.mem_cons_self ..))).2.2, lay_strs ns fun x z => h x (List.mem_cons_of_mem _ z)]
    rfl
theorem dep_strs : ∀ ns : List Str, PyData.depthAll (ns.map .str) = 0
  | [] => rfl
  | n :: ns => by
    simp only [List.map_cons, PyData.depthAll, PyData.depth]
    rw [dep_strs ns]
    rfl
theorem shaped_strs {ns : List Str} (h : ∀ x ∈ ns, nameS x = true) : SeqAt.shaped (.tuple (ns.map .str)) = true := by
  refine Bool.and_eq_true_iff.mpr ⟨by simp only [PyData.canLay0]; exact lay_strs ns h, decide_eq_true ?_⟩
  simp only [PyData.depth]
  rw [dep_strs]
  decide
theorem folk_names {ns : List Str} (N : Folk ns) : ∀ x ∈ ns, nameS x = true := fun x z => unk_name (N.ok x z)
theorem shaped_folk {ns : List Str} (N : Folk ns) : SeqAt.shaped (folkD ns) = true := shaped_strs (folk_names N)
theorem lay_strD : ∀ ps : List (Int × Int), PyData.canLayAll0 (ps.map strD) = true
  | [] => rfl
  | p :: ps => by
    simp only [List.map_cons, PyData.canLayAll0, strD, PyData.canLay0]
    exact lay_strD ps
theorem dep_strD : ∀ ps : List (Int × Int), PyData.depthAll (ps.map strD) ≤ 1
  | [] => Nat.zero_le _
  | p :: ps => by
    simp only [List.map_cons, PyData.depthAll, strD, PyData.depth]
    have := dep_strD ps
    show max (max 0 (max 0 0) + 1) _ ≤ 1
    exact Nat.max_le.mpr ⟨Nat.le_refl _, this⟩
theorem lay_row {r : Rw} (h : nameS r.name = true) : PyData.canLay0 (rowD r) = true := by
  unfold rowD
  simp only [PyData.canLay0, PyData.canLayAll0]
  rw [strOk_of (name_parts h).2.2, lay_strD]
  rfl
theorem dep_row (r : Rw) : (rowD r).depth ≤ 3 := by
  unfold rowD strD
  simp only [PyData.depth, PyData.depthAll]
  have := dep_strD r.parts
  unfold strD at this
  omega
theorem lay_rows : ∀ rs : List Rw, (∀ r ∈ rs, nameS r.name = true) → PyData.canLayAll0 (rs.map rowD) = true
  | [], _ => rfl
  | r :: rs, h => by
    simp only [List.map_cons, PyData.canLayAll0]
    rw [lay_row (h r (List.mem_cons_self ..)), lay_rows rs fun x z => h x (List.mem_cons_of_mem _ z)]
    rfl
theorem dep_rows : ∀ rs : List Rw, PyData.depthAll (rs.map rowD) ≤ 3
  | [] => Nat.zero_le _
  | r :: rs => by
    simp only [List.map_cons, PyData.depthAll]
    exact Nat.max_le.mpr ⟨dep_row r, dep_rows rs⟩
theorem shaped_rows {rs : List Rw} (h : ∀ r ∈ rs, nameS r.name = true) : SeqAt.shaped (rowsD rs) = true := by
  refine Bool.and_eq_true_iff.mpr ⟨by unfold rowsD; simp only [PyData.canLay0]; exact lay_rows rs h, decide_eq_true ?_⟩
  unfold rowsD
  simp only [PyData.depth]
  have := dep_rows rs
  omega
theorem lines_names {rs : List Rw} {m : Nat} (L : Lines rs m) : ∀ r ∈ rs, nameS r.name = true := fun r z => (row_name (L.ok r z)).1
theorem nodict_strs : ∀ ns : List Str, PyData.hasDictAll (ns.map .str) = false
  | [] => rfl
  | n :: ns => by
    simp only [List.map_cons, PyData.hasDictAll, PyData.hasDict, Bool.false_or]
    exact nodict_strs ns
theorem nodict_folk (ns : List Str) : (folkD ns).hasDict = false := by
  unfold folkD
  simp only [PyData.hasDict]
  exact nodict_strs ns
theorem nodict_strD : ∀ ps : List (Int × Int), PyData.hasDictAll (ps.map strD) = false
  | [] => rfl
  | p :: ps => by
    simp only [List.map_cons, PyData.hasDictAll, strD, PyData.hasDict, Bool.false_or]
    exact nodict_strD ps
theorem nodict_row (r : Rw) : (rowD r).hasDict = false := by
  unfold rowD strD
  simp only [PyData.hasDictAll, PyData.hasDict, Bool.false_or]
  have := nodict_strD r.parts
  unfold strD at this
  rw [this]
  rfl
theorem nodict_rows : ∀ rs : List Rw, (rowsD rs).hasDict = false := by
  intro rs
  unfold rowsD
  simp only [PyData.hasDict]
  induction rs with
  | nil => rfl
  | cons r rs ih =>
    simp only [List.map_cons, PyData.hasDictAll]
    rw [nodict_row, ih]
    rfl
end Ca
set_option Elab.async false
set_option linter.all false
set_option maxRecDepth 100000
set_option maxHeartbeats 4000000
namespace Ca
open PySem L2
section
variable {X : Cx}
theorem ixT (K : PySem.W.Frag) (h : X.K = K := by rfl) : IxR X (rIxT K) := h ▸ ix_tup
end
def namesD (rs : List Rw) : PyData := .tuple ((rs.map Rw.name).map .str)
def spNames (K : PySem.W.Frag) (C : Addr) : Sp := fun vs H Q _ => ∃ x ns rs, vs = [.ref x] ∧ SysAt K C H x ns rs ∧ ∀ H' v, Same H H' → Dq K H' v (namesD rs) → Q v H'
theorem strs_dq {K : PySem.W.Frag} {H : Hp} : ∀ {ns : List Str}, (∀ x ∈ ns, x.length ≤ 1000) → DqAll K H (ns.map V.str) (ns.map .str)
  | [], _ => .nil
  | n :: ns, h => .cons (.str n (h n (List.mem_cons_self ..))) (strs_dq fun x z => h x (List.mem_cons_of_mem _ z))
theorem map_range {α β : Type} (l : List α) (d : α) (g : α → β) (n : Nat) (h : l.length = n) : ((List.range n).map fun i => g (l.getD i d)) = l.map g := by
  refine List.ext_getElem (by simp [h]) fun i h1 h2 => ?_
  have hi : i < l.length := by simpa using h2
  simp [List.getElem?_eq_getElem hi]
theorem ty_tyx {K : PySem.W.Frag} {H : Hp} {y : V} {t : String} (h : Ty K H y (.type t)) : TyX K H y (.type t) := by
  cases h with
  | non => exact .base .non
  | bl b => exact .base (.bl b)
  | int i => exact .base (.int i)
  | str x => exact .base (.str x)
  | lst e => exact tyx_l e
  | tup e => exact tyx_t e
  | dic e => exact .base (.dK e)
/-- what isinstance(x, System) leans on -/
structure SysI (K : PySem.W.Frag) (C : Addr) : Prop where
  ha : PySem.W.findIn K (.ref C) "__class__" = some (some (.builtin "object.__class__"))
  hn : PySem.W.specialIn K (.builtin "object.__class__") "__get__" = some (some (.builtin "getset_descriptor.__get__"))
  ht : PySem.W.takesIn K (.builtin "object.__class__") = some true
  hm : PySem.W.mroIn K C (.type "object") = some true
  own : PySem.W.kitOne K (.ref C) (.ref C) = some true
  odd : ∀ t : String, t ∈ ["NoneType", "bool", "int", "str", "list", "tuple", "dict"] → PySem.W.kitOne K (.type t) (.ref C) = some false ∧ PySem.W.notFirst K C (.type t) = true
  nf : PySem.W.notFirst K C (.ref C) = true
/-- self == other -/
def spEqS (K : PySem.W.Frag) (C : Addr) : Sp := fun vs H Q _ => ∃ x y ns rs, vs = [.ref x, y] ∧ SysAt K C H x ns rs ∧
  ((∃ t : String, Ty K H y (.type t) ∧ PySem.W.kitOne K (.type t) (.ref C) = some false ∧ Q (.bl false) H) ∨ ∃ z ms qs, y = .ref z ∧ SysAt K C H z ms qs ∧ Q (.bl (decide (ns = ms) && decide (rs = qs))) H)
section
variable {P : Program} {w : World} {K : PySem.W.Frag} {mg : Str → Option Value} {base : Heap} {C : Addr}
theorem scNames : FnScope ["self", "row"] ["self"] (defScope mSystemNames) := ⟨rfl, rfl, rfl, by decide +kernel, rfl, by decide +kernel, by decide +kernel⟩
theorem ok_names {f : Addr} {fd : FuncData} (F : FnM K "names" "System.names" mSystemNames [] f fd) (B : Bn mg) (S : SysC K C) : FnOk P w K mg base CX0 1 f fd ["self"] (spNames K C) := by
  refine F.ok scNames (fun vs H Q E h => ?_) (fun cdv A outer s H vs Q E hr h => ?_)
  · obtain ⟨x, ns, rs, rfl, _⟩ := h
    rfl
  · obtain ⟨x, ns, rs, rfl, ⟨hN, hL, dx, u, r, hx, du, dr⟩, q⟩ := h
    have nd := scNames.nd
    obtain ⟨a, xs, rfl, h1, h2, hl⟩ := tup_len dr
    have hl2 : xs.length = rs.length := by rw [hl, List.length_map]
    refine ⟨_, PSs.nox (pss_one (ps_ret (pe_callTy call_tuple_of (by rfl) B.tup (by decide +kernel) (pa_cons (pe_lc (own := [("row", 1)]) (g := gName 1) (tt := tYes) rfl nd (pi_tup (pe_fld (pv 0) rfl))
      (blkOk_by (own := [("row", 1)]) (N := ["self", "row"]) (sc := defScope mSystemNames) (by decide +kernel)) (fun _ _ _ _ _ => pg_name (i := 1) nd rfl (Or.inl rfl)) (fun _ _ _ _ _ => pts_nil)
      (fun _ _ _ _ _ => pe_ix (ixT K) (pv 1) pe_int (fun _ _ => rfl))) pa_nil)))), ?_⟩
    refine ⟨_, rfl, x, C, dx, _, _, rfl, hx, S.cl, S.nr, rfl, a, rfl, ⟨_, h1⟩, fun D hD => ?_⟩
    refine lc_known (walk_tup (K := K) (a := a) (xs := xs)) (fun i => .str ((rs.map Rw.name).getD i "")) (by rw [hl2]; have := hL.hi; omega) hD (fun H' s' => same_sqt s' h1) (fun _ _ _ _ y => by obtain ⟨rfl, _⟩ := y; exact fun _ _ e => e) (fun _ => rfl) ?_ ?_
    · rintro i z H5 H6 Qk hi s5 ⟨rfl, hz⟩ k
      obtain ⟨d, hdi, hdq⟩ := (h2.same s5).get hz
      have hi2 : i < rs.length := by rw [← hl2]; exact hi
      rw [List.getElem?_map, List.getElem?_eq_getElem hi2] at hdi
      cases hdi
      obtain ⟨b, v2, v3, rfl, hb, _, _, _⟩ := row_at hdq
      refine ⟨_, rfl, b, _, 0, _, rfl, rfl, hb, atI_nat (j := 0) rfl, ?_⟩
      have k1 := k _ (fun _ _ e => e)
      have en : (rs.map Rw.name).getD i "" = rs[i].name := by
        rw [List.getD_eq_getElem?_getD, List.getElem?_map, List.getElem?_eq_getElem hi2]
        rfl
      rw [en] at k1
      exact k1
    · intro H5 s5 bD
      rw [hl2, map_range (rs.map Rw.name) "" V.str rs.length (List.length_map ..)] at bD
      refine ⟨D, _, rfl, .inl ⟨SqL.of bD, fun p hp => q _ _ (s5.trans (Same.new hp)) (.tup (SqT.of upd_same) (strs_dq fun y z => ?_))⟩⟩
      obtain ⟨r, hr1, rfl⟩ := List.mem_map.mp z
      have := (name_parts (lines_names hL r hr1)).2.1
      omega
theorem scEq : FnScope ["self", "other"] ["self", "other"] (defScope mSystemEq) := ⟨rfl, rfl, rfl, by decide +kernel, rfl, by decide +kernel, by decide +kernel⟩
theorem ok_eq {f : Addr} {fd : FuncData} (F : FnM K "__eq__" "System.__eq__" mSystemEq [] f fd) (B : Bn mg) (S : SysC K C) (I : SysI K C) (gC : mg "System" = some (.ref C)) : FnOk P w K mg base CX0 1 f fd ["self", "other"] (spEqS K C) := by
  refine F.ok scEq (fun vs H Q E h => ?_) (fun cdv A outer s H vs Q E hr h => ?_)
  · obtain ⟨x, y, ns, rs, rfl, _⟩ := h
    rfl
  · obtain ⟨x, y, ns, rs, rfl, ⟨hN, hL, dx, u, r, hx, du, dr⟩, q⟩ := h
    refine ⟨_, PSs.nox (pss_one (ps_ret (pe_and (pe_callB call_isi (by rfl) B.isi PyProof.Rows.boot_isinstance (pa_cons (pv 1) (pa_cons (pe_glob (v := .ref C) rfl gC rfl) pa_nil)))
      (pe_and (pe_cmpR (op_eqD hr.units) (pe_fld (pv 0) rfl) (pe_fld (pv 1) rfl) (nomark _)) (pe_one (pe_cmpR (op_eqD hr.units) (pe_fld (pv 0) rfl) (pe_fld (pv 1) rfl) (nomark _))))))), ?_⟩
    rcases q with ⟨t, ht, hk, q⟩ | ⟨z, ms, qs, rfl, ⟨hN2, hL2, dz, u2, r2, hz, du2, dr2⟩, q⟩
    · exact ⟨_, rfl, y, .ref C, _, _, false, rfl, .own C, ty_tyx ht, hk, _, rfl, iteF q⟩
    · refine ⟨_, rfl, .ref z, .ref C, _, _, true, rfl, .own C, .base (.ins hz S.cl I.ha I.hn I.ht I.hm), I.own, _, rfl, iteT ?_⟩
      refine ⟨_, rfl, x, C, dx, _, u, rfl, hx, S.cl, S.nu, rfl, _, rfl, z, C, dz, _, u2, rfl, hz, S.cl, S.nu, rfl, _, _, dp_of (nodict_folk ns) du, dp_of (nodict_folk ms) du2, shaped_folk hN, shaped_folk hN2, _, rfl, ?_⟩
      rw [eqv_folk]
      refine ite2 (fun g => ?_) (fun g => ?_)
      · rw [g, Bool.true_and] at q
        refine ⟨_, rfl, x, C, dx, _, r, rfl, hx, S.cl, S.nr, rfl, _, rfl, z, C, dz, _, r2, rfl, hz, S.cl, S.nr, rfl, _, _, dp_of (nodict_rows rs) dr, dp_of (nodict_rows qs) dr2, shaped_rows (lines_names hL), shaped_rows (lines_names hL2), ?_⟩
        rw [eqv_rows]
        exact q
      · rw [Bool.eq_false_iff.mpr g, Bool.false_and] at q
        exact q
end
end Ca
set_option Elab.async false
set_option linter.all false
set_option maxRecDepth 100000
set_option maxHeartbeats 4000000
namespace Ca
open PySem L2
/-- the first items of a comprehension of two clauses -/
def items2 (m : Nat → Nat) (f : Nat → Nat → V) (i : Nat) : List V := (List.range i).flatMap fun a => (List.range (m a)).map (f a)
theorem items2_more (m : Nat → Nat) (f : Nat → Nat → V) (i : Nat) : items2 m f (i + 1) = items2 m f i ++ (List.range (m i)).map (f i) := by
  unfold items2
  rw [List.range_succ, List.flatMap_append]
  simp
theorem rdYes {A B : Hp → Prop} {σ : L2.St} {H : Hp} (h : A H) : tYes σ H (fun b H3 => if b = true then A H3 else B H3) := by
  show (if true = true then A H else B H)
  rw [if_pos rfl]
  exact h
/-- a comprehension of two clauses without tests, whose items are known ahead -/
theorem lc2_known {J : It} {n : Nat} {G : Hp → Prop} {Y : Nat → Hp → V → Hp → Prop} (w : Walk J n G Y) {wi1 : TI} {te : TE} {vs vs1 : List Nat} {σ : L2.St} {H1 : Hp} {D : Addr} {Qd : Hp → Prop} {j j1 : Nat} (m : Nat → Nat) (f : Nat → Nat → V) (hn : ∀ i, i ≤ n → (items2 m f i).length ≤ 100000)
    (hD : H1 D = none) (hG : ∀ H, Same H1 H → G H) (hY : ∀ i H x H', Y i H x H' → Same H H') (hw : ∀ x, wipe ((wipe σ vs).set j (some x)) vs = wipe σ vs) (hw1 : ∀ x z, wipe ((wipe ((wipe σ vs).set j (some x)) vs1).set j1 (some z)) vs1 = wipe ((wipe σ vs).set j (some x)) vs1)
    (hs : ∀ i x H H' (R : It → Hp → Prop), i < n → Same H1 H → Y i H x H' →
      (∀ J1 G1 Y1 H4, Walk J1 (m i) G1 Y1 → Same H' H4 → (∀ H5, Same H1 H5 → G1 H5) → (∀ k H z H', Y1 k H z H' → Same H H') →
        (∀ k z H5 H6 (Qk : VK), k < m i → Same H1 H5 → Y1 k H5 z H6 → (∀ H7, Same H6 H7 → Qk (f i k) H7) → te ((wipe ((wipe σ vs).set j (some x)) vs1).set j1 (some z)) H6 Qk) → R J1 H4) → wi1 ((wipe σ vs).set j (some x)) H' R)
    (hd : ∀ H, Same H1 H → H D = some (.lst (items2 m f n)) → Qd H) :
    ∃ W : Nat → Nat → Hp → Prop, (∃ m, W 0 m (upd H1 D (.lst []))) ∧ ∀ i m H, W i m H →
      (J.stop i H ∧ Qd H) ∨ (J.go i H ∧ ∃ Nx : Hp → Prop, (∀ H', Nx H' → ∃ m', m' < m ∧ W (i + 1) m' H') ∧ ∀ x H', J.yld i H x H' → gName j x (wipe σ vs) H' fun σ2 H2 => wipe σ2 vs = wipe σ vs ∧ tYes σ2 H2 fun b H3 =>
        if b = true then wi1 σ2 H3 fun J1 H4 => ∃ W1 : Nat → Nat → Hp → Prop, (∃ m, W1 0 m H4) ∧ ∀ j k H, W1 j k H →
          (J1.stop j H ∧ Nx H) ∨ (J1.go j H ∧ ∃ Nx1 : Hp → Prop, (∀ H', Nx1 H' → ∃ k', k' < k ∧ W1 (j + 1) k' H') ∧ ∀ x H', J1.yld j H x H' → gName j1 x (wipe σ2 vs1) H' fun σ3 H5 => wipe σ3 vs1 = wipe σ2 vs1 ∧ tYes σ3 H5 fun b H6 =>
            if b = true then te σ3 H6 fun y H7 => ∃ acc, H7 D = some (.lst acc) ∧ acc.length < sizeLine ∧ Nx1 (upd H7 D (.lst (acc ++ [y]))) else Nx1 H6)
        else Nx H3) := by
  refine ⟨fun i m' H => m' = n - i ∧ i ≤ n ∧ Same H1 H ∧ H D = some (.lst (items2 m f i)), ⟨n, by simp, Nat.zero_le _, Same.new hD, upd_same⟩, ?_⟩
  rintro i m' H ⟨rfl, hi, s, b⟩
  have g := hG H s
  by_cases hlt : i < n
  · refine .inr ⟨w.goes i H hlt g, fun H' => Same H1 H' ∧ H' D = some (.lst (items2 m f (i + 1))), fun H' p => ⟨n - (i + 1), by omega, rfl, hlt, p⟩, fun x H' y => ⟨hw x, rdYes ?_⟩⟩
    have y' := w.yields i H x H' hlt g y
    have sy := hY i H x H' y'
    refine hs i x H H' _ hlt s y' fun J1 G1 Y1 H4 w1 s4 hG1 hY1 he => ?_
    refine ⟨fun k k' H => k' = m i - k ∧ k ≤ m i ∧ Same H1 H ∧ H D = some (.lst (items2 m f i ++ (List.range k).map (f i))), ⟨m i, by simp, Nat.zero_le _, fun a o e => s4 _ _ (sy _ _ (s _ _ e)), by simpa using s4 _ _ (sy _ _ b)⟩, ?_⟩
    rintro k k' H5 ⟨rfl, hk, s5, b5⟩
    by_cases klt : k < m i
    · refine .inr ⟨w1.goes k H5 klt (hG1 H5 s5), fun H' => Same H1 H' ∧ H' D = some (.lst (items2 m f i ++ (List.range (k + 1)).map (f i))), fun H' p => ⟨m i - (k + 1), by omega, rfl, klt, p⟩, fun z H6 yz => ⟨hw1 x z, rdYes ?_⟩⟩
      have y6 := w1.yields k H5 z H6 klt (hG1 H5 s5) yz
      have s6 := hY1 k H5 z H6 y6
      refine he k z H5 H6 _ klt s5 y6 fun H7 s7 => ⟨_, s7 _ _ (s6 _ _ b5), ?_, fun a o e => ?_, ?_⟩
      · have := hn (i + 1) hlt
        rw [items2_more, List.length_append, List.length_map, List.length_range] at this
        rw [List.length_append, List.length_map, List.length_range]
        exact Nat.lt_of_lt_of_le (show _ < 100001 by omega) (by decide)
      · rw [upd_ne (ne_of_none e hD)]
        exact s7 _ _ (s6 _ _ (s5 _ _ e))
      · rw [upd_same, List.range_succ, List.map_append, List.append_assoc]
        rfl
    · have e : k = m i := by omega
      subst e
      exact .inl ⟨w1.stops H5 (hG1 H5 s5), s5, by rw [items2_more]; exact b5⟩
  · have e : i = n := by omega
    subst e
    exact .inl ⟨w.stops H g, hd H s b⟩
end Ca
set_option Elab.async false
set_option linter.all false
set_option maxRecDepth 100000
set_option maxHeartbeats 4000000
namespace Ca
open PySem L2
section
variable {X : Cx}
theorem piT (K : PySem.W.Frag) {tg e : Expr} {te : TE} (he : PE X e te) (h : X.K = K := by rfl) : PI X tg e (iTup K te) := h ▸ pi_tup he
end
def intS (i : Int) : Str := toString i
def wordsOf (ps : List (Int × Int)) : List Str := ps.flatMap fun p => [intS p.1, intS p.2]
def lineS (r : Rw) : Str := Txt.join " " ([("row" : Str), r.name] ++ wordsOf (r.parts ++ [r.bd]))
def pageS (ns : List Str) (rs : List Rw) : Str := Txt.join "\n" (Txt.join " " ("unknowns" :: ns) :: rs.map lineS)
def inB (p : Int × Int) : Prop := p.1.natAbs.log2 < 1920 ∧ p.2.natAbs.log2 < 1920
theorem str_ok {p : Int × Int} (h : isStretchD (strD p) = true) : -10000 ≤ p.1 ∧ p.1 ≤ p.2 ∧ p.2 ≤ 10000 := by
  obtain ⟨h1, h⟩ := Bool.and_eq_true_iff.mp (show (decide (-10000 ≤ p.1) && (decide (p.1 ≤ p.2) && decide (p.2 ≤ 10000))) = true from h)
  obtain ⟨h2, h3⟩ := Bool.and_eq_true_iff.mp h
  exact ⟨of_decide_eq_true h1, of_decide_eq_true h2, of_decide_eq_true h3⟩
theorem log_small {i : Int} (h1 : -10000 ≤ i) (h2 : i ≤ 10000) : i.natAbs.log2 < 1920 := by
  have : i.natAbs < 2 ^ 14 := by show i.natAbs < 16384; omega
  by_cases z : i.natAbs = 0
  · rw [z]; decide
  · have := (Nat.log2_lt z).mpr this
    omega
theorem str_in {p : Int × Int} (h : isStretchD (strD p) = true) : inB p := by
  obtain ⟨h1, h2, h3⟩ := str_ok h
  exact ⟨log_small h1 (by omega), log_small (by omega) h3⟩
theorem row_in {r : Rw} {m : Nat} (h : isRowD (rowD r) m = true) : ∀ p ∈ r.parts ++ [r.bd], inB p := by
  obtain ⟨_, h2⟩ := Bool.and_eq_true_iff.mp (show (nameS r.name && (isTupN (.tuple (r.parts.map strD)) m && ((partsOf (.tuple (r.parts.map strD)) ++ [strD r.bd]).all isStretchD))) = true from h)
  obtain ⟨_, h4⟩ := Bool.and_eq_true_iff.mp h2
  intro p hp
  refine str_in (List.all_eq_true.mp h4 (strD p) ?_)
  show strD p ∈ r.parts.map strD ++ [strD r.bd]
  rw [show r.parts.map strD ++ [strD r.bd] = (r.parts ++ [r.bd]).map strD by rw [List.map_append]; rfl]
  exact List.mem_map_of_mem hp
theorem intS_len {i : Int} (h : i.natAbs.log2 < 1920) : (intS i).length ≤ 1921 := PyProof.Rows.int_text_len_1921 h
theorem words_len : ∀ ps : List (Int × Int), (∀ p ∈ ps, inB p) → ((wordsOf ps).map (·.length)).sum ≤ 3842 * ps.length ∧ (wordsOf ps).length = 2 * ps.length
  | [], _ => ⟨Nat.le_refl _, rfl⟩
  | p :: ps, h => by
    obtain ⟨h1, h2⟩ := words_len ps fun x z => h x (List.mem_cons_of_mem _ z)
    have hp := h p (List.mem_cons_self ..)
    have e : wordsOf (p :: ps) = intS p.1 :: intS p.2 :: wordsOf ps := rfl
    rw [e]
    have l1 := intS_len hp.1
    have l2 := intS_len hp.2
    refine ⟨?_, ?_⟩
    · simp only [List.map_cons, List.sum_cons, List.length_cons]
      omega
    · simp only [List.length_cons]
      omega
def wordAt (ps : List (Int × Int)) (a k : Nat) : V := .str (if k = 0 then intS (ps.getD a (0, 0)).1 else intS (ps.getD a (0, 0)).2)
theorem items_words (ps : List (Int × Int)) (n : Nat) (h : ps.length = n) : items2 (fun _ => 2) (wordAt ps) n = (wordsOf ps).map V.str := by
  unfold items2 wordsOf
  rw [List.flatMap_def, List.flatMap_def]
  have e : (List.range n).map (fun a => (List.range 2).map (wordAt ps a)) = ps.map fun p => [V.str (intS p.1), V.str (intS p.2)] :=
    map_range ps (0, 0) (fun p => [V.str (intS p.1), V.str (intS p.2)]) n h
  rw [e, List.map_flatten, List.map_map]
  rfl
theorem items_two (f : Nat → Nat → V) : ∀ i, (items2 (fun _ => 2) f i).length = 2 * i
  | 0 => rfl
  | i + 1 => by
    rw [items2_more, List.length_append, items_two f i, List.length_map, List.length_range]
    omega
def spLine (K : PySem.W.Frag) : Sp := fun vs H Q _ => ∃ v r m, vs = [v] ∧ Dq K H v (rowD r) ∧ isRowD (rowD r) m = true ∧ m ≤ 3 ∧ ∀ H', Same H H' → Q (.str (lineS r)) H'
section
variable {P : Program} {w : World} {K : PySem.W.Frag} {mg : Str → Option Value} {base : Heap} {C : Addr}
abbrev NLine : List Str := ["row", "name", "stretches", "bound", "ends", "stretch", "end"]
theorem scLine : FnScope NLine ["row"] (defScope sLineOf) := ⟨rfl, rfl, rfl, by decide +kernel, rfl, by decide +kernel, by decide +kernel⟩
theorem ok_line {f : Addr} {fd : FuncData} (F : FnT K "line_of" sLineOf f fd) (B : Bn mg) : FnOk P w K mg base CX0 1 f fd ["row"] (spLine K) := by
  refine F.ok scLine (fun vs H Q E h => ?_) (fun cdv A outer s H vs Q E hr h => ?_)
  · obtain ⟨v, r, m, rfl, _⟩ := h
    rfl
  · obtain ⟨v, r, m, rfl, hd, ok, hm, q⟩ := h
    have nd := scLine.nd
    refine ⟨_, PSs.nox (pss_cons (ps_asg (pv 0) (pg_tup rfl (pgs_cons (pg_name (i := 1) nd rfl (.inl rfl)) (pgs_cons (pg_name (i := 2) nd rfl (.inl rfl)) (pgs_cons (pg_name (i := 3) nd rfl (.inl rfl)) pgs_nil)))))
      (pss_cons (ps_setLc2 (i := 4) (own := [("stretch", 5), ("end", 6)]) (vs1 := [6]) (g := gName 5) (g1 := gName 6) (tt := tYes) (tt1 := tYes) rfl nd rfl rfl (sw_true rfl rfl rfl (by decide +kernel)) (pi_tup (pe_tup (StX.pa_star (pv 2) (pa_cons (pv 3) pa_nil))))
          (blkOk_by (own := [("stretch", 5), ("end", 6)]) (N := NLine) (sc := defScope sLineOf) (by decide +kernel)) (by decide) (fun _ _ _ _ _ => pg_name (i := 5) nd rfl (Or.inl rfl)) (fun _ _ _ _ _ => pts_nil)
          (fun _ _ _ _ _ => piT K (pv 5)) (fun _ _ _ _ _ => pg_name (i := 6) nd rfl (Or.inl rfl)) (fun _ _ _ _ _ => pts_nil)
          (fun _ _ _ _ _ => pe_callTy call_str_int (by rfl) B.str (by decide +kernel) (pa_cons (pv 6) pa_nil)))
      (pss_one (ps_ret (pe_join pe_str (pe_lst (pa_cons pe_str (pa_cons (pv 1) (StX.pa_star (pv 4) pa_nil))))))))), ?_⟩
    have hd1 := hd
    cases hd1 with
    | @tup a xs _ h1 h2 =>
      cases h2 with
      | @cons v1 _ _ _ e1 r1 =>
        cases r1 with
        | @cons v2 _ _ _ e2 r2 =>
          cases r2 with
          | @cons v3 _ _ _ e3 r3 =>
            cases r3
            refine ⟨_, rfl, a, _, rfl, h1, rfl, _, _, rfl, _, _, rfl, _, _, rfl, rfl, ?_⟩
            cases e1 with
            | str _ hname =>
              obtain ⟨a2, xs2, rfl, h3, h4, hl⟩ := tup_len e2
              rw [List.length_map] at hl
              have hp3 := (row_name ok).2
              have hall : DqAll K H (xs2 ++ [v3]) ((r.parts ++ [r.bd]).map strD) := by
                rw [List.map_append]
                exact h4.app (.cons e3 .nil)
              have hlen : (xs2 ++ [v3]).length = r.parts.length + 1 := by rw [List.length_append, hl]; rfl
              refine ⟨_, rfl, a2, xs2, rfl, .inl h3, _, rfl, by rw [hlen, hp3]; exact Nat.le_trans (Nat.succ_le_succ hm) (by decide), fun p hp => ⟨p, rfl, ⟨_, SqT.of upd_same⟩, fun D hD => ?_⟩⟩
              have s4 : Same H (upd H p (.tup (xs2 ++ [v3]))) := Same.new hp
              have hall1 := hall.same s4
              refine lc2_known (walk_tup (K := K) (a := p) (xs := xs2 ++ [v3])) (fun _ => 2) (wordAt (r.parts ++ [r.bd])) (fun i hi => by rw [items_two]; rw [hlen] at hi; omega) hD (fun H' s' => same_sqt s' (SqT.of upd_same)) (fun _ _ _ _ y => by obtain ⟨rfl, _⟩ := y; exact fun _ _ e => e) (fun _ => rfl) (fun _ _ => rfl) ?_ ?_
              · rintro i x H5 H6 R hi s5 ⟨rfl, hx⟩ k
                obtain ⟨d, hdi, hdq⟩ := hall1.get hx
                obtain ⟨pp, hpp, rfl⟩ : ∃ pp, (r.parts ++ [r.bd])[i]? = some pp ∧ d = strD pp := by
                  rw [List.getElem?_map] at hdi
                  cases e : (r.parts ++ [r.bd])[i]? with
                  | none => rw [e] at hdi; cases hdi
                  | some z => rw [e] at hdi; exact ⟨z, rfl, (Option.some.inj hdi).symm⟩
                have hin := row_in ok pp (List.mem_of_getElem? hpp)
                have hgd : (r.parts ++ [r.bd]).getD i (0, 0) = pp := by
                  rw [List.getD_eq_getElem?_getD, hpp]
                  rfl
                cases hdq with
                | @tup b ys _ g1 g2 =>
                  cases g2 with
                  | @cons w1 _ _ _ i1 t1 =>
                    cases t1 with
                    | @cons w2 _ _ _ i2 t2 =>
                      cases t2
                      cases i1
                      cases i2
                      refine ⟨_, rfl, b, rfl, ⟨_, same_sqt s5 g1⟩, k (Itt K b) _ _ _ (walk_tup (K := K) (a := b) (xs := [.int pp.1, .int pp.2])) (fun _ _ e => e) (fun H7 s7 => same_sqt s7 g1) (fun _ _ _ _ y => by obtain ⟨rfl, _⟩ := y; exact fun _ _ e => e) ?_⟩
                      rintro j z H7 H8 Qk hj s7 ⟨rfl, hz⟩ kk
                      have k1 := kk _ (fun _ _ e => e)
                      unfold wordAt at k1
                      rw [hgd] at k1
                      match j, hj, hz with
                      | 0, _, hz =>
                        cases hz
                        exact ⟨_, rfl, _, rfl, hin.1, k1⟩
                      | 1, _, hz =>
                        cases hz
                        exact ⟨_, rfl, _, rfl, hin.2, k1⟩
              · intro H5 s5 bD
                rw [items_words _ _ (by rw [hlen, List.length_append]; rfl)] at bD
                obtain ⟨w1, w2⟩ := words_len (r.parts ++ [r.bd]) (row_in ok)
                have l3 : (r.parts ++ [r.bd]).length ≤ 4 := by rw [List.length_append, hp3]; show m + 1 ≤ 4; omega
                refine ⟨⟨_, rfl⟩, _, rfl, _, rfl, D, _, rfl, .inr (SqL.of bD), ?_, fun l hl => ?_⟩
                · simp only [List.length_cons, List.length_append, List.length_map, List.length_nil]
                  rw [w2]
                  exact Nat.le_trans (show _ ≤ 100 by omega) (by decide)
                · rw [List.append_nil]
                  refine ⟨" ", l, [("row" : Str), r.name] ++ wordsOf (r.parts ++ [r.bd]), rfl, rfl, .inl (SqL.of upd_same), ?_, q _ (s4.trans (s5.trans (Same.new hl)))⟩
                  rw [List.map_append, List.sum_append, List.length_append, w2]
                  show 3 + (r.name.length + 0) + _ + (2 + 2 * (r.parts ++ [r.bd]).length) * 1 ≤ 16777216
                  omega
end
end Ca
set_option Elab.async false
set_option linter.all false
set_option maxRecDepth 100000
set_option maxHeartbeats 4000000
namespace Ca
open PySem L2
theorem cat_len (x y : Str) : (x ++ y).length = x.length + y.length := by
  show (x.cps ++ y.cps).size = x.cps.size + y.cps.size
  exact Array.size_append
theorem join_le (y : Str) : ∀ ps : List Str, (Str.join y ps).length ≤ (ps.map (·.length)).sum + ps.length * y.length
  | [] => Nat.zero_le _
  | [p] => by
    show p.length ≤ _
    simp only [List.map_cons, List.map_nil, List.sum_cons, List.sum_nil, List.length_cons, List.length_nil]
    omega
  | p :: z :: r => by
    have ih := join_le y (z :: r)
    show (p ++ y ++ Str.join y (z :: r)).length ≤ _
    rw [cat_len, cat_len]
    simp only [List.map_cons, List.sum_cons, List.length_cons, Nat.add_mul, Nat.one_mul] at ih ⊢
    omega
theorem line_len {r : Rw} {m : Nat} (ok : isRowD (rowD r) m = true) (hm : m ≤ 3) : (lineS r).length ≤ 16000 := by
  have hp3 := (row_name ok).2
  have l3 : (r.parts ++ [r.bd]).length ≤ 4 := by rw [List.length_append, hp3]; show m + 1 ≤ 4; omega
  obtain ⟨w1, w2⟩ := words_len (r.parts ++ [r.bd]) (row_in ok)
  have hn := (name_parts (row_name ok).1).2.1
  unfold lineS
  rw [TL.join_eq]
  refine Nat.le_trans (join_le _ _) ?_
  rw [List.map_append, List.sum_append, List.length_append, w2]
  show 3 + (r.name.length + 0) + _ + (2 + 2 * (r.parts ++ [r.bd]).length) * 1 ≤ 16000
  omega
theorem lines_len : ∀ (rs : List Rw) (m : Nat), (∀ r ∈ rs, isRowD (rowD r) m = true) → m ≤ 3 → (((rs.map lineS).map (·.length)).sum ≤ 16000 * rs.length)
  | [], _, _, _ => Nat.le_refl _
  | r :: rs, m, h, hm => by
    have ih := lines_len rs m (fun x z => h x (List.mem_cons_of_mem _ z)) hm
    have l := line_len (h r (List.mem_cons_self ..)) hm
    simp only [List.map_cons, List.sum_cons, List.length_cons]
    omega
theorem names_len : ∀ ns : List Str, (∀ x ∈ ns, nameS x = true) → (ns.map (·.length)).sum ≤ 8 * ns.length
  | [], _ => Nat.le_refl _
  | n :: ns, h => by
    have ih := names_len ns fun x z => h x (List.mem_cons_of_mem _ z)
    have l := (name_parts (h n (List.mem_cons_self ..))).2.1
    simp only [List.map_cons, List.sum_cons, List.length_cons]
    omega
def spStr (K : PySem.W.Frag) (C : Addr) : Sp := fun vs H Q _ => ∃ x ns rs, vs = [.ref x] ∧ SysAt K C H x ns rs ∧ ∀ H', Same H H' → Q (.str (pageS ns rs)) H'
section
variable {P : Program} {w : World} {K : PySem.W.Frag} {mg : Str → Option Value} {base : Heap} {C : Addr}
abbrev NStr : List Str := ["self", "first", "others", "row"]
theorem scStr : FnScope NStr ["self"] (defScope mSystemStr) := ⟨rfl, rfl, rfl, by decide +kernel, rfl, by decide +kernel, by decide +kernel⟩
theorem ok_str {f fL : Addr} {fd fdL : FuncData} (F : FnM K "__str__" "System.__str__" mSystemStr [] f fd) (S : SysC K C)
    (gL : mg "line_of" = some (.ref fL)) (GL : FnOk P w K mg base CX0 1 fL fdL ["row"] (spLine K)) (kL : PySem.W.keepIn K (.ref fL) = true) (bL : Binds K fdL ["row"] []) : FnOk P w K mg base CX0 2 f fd ["self"] (spStr K C) := by
  refine F.ok scStr (fun vs H Q E h => ?_) (fun cdv A outer s H vs Q E hr h => ?_)
  · obtain ⟨x, ns, rs, rfl, _⟩ := h
    rfl
  · obtain ⟨x, ns, rs, rfl, ⟨hN, hL, dx, u, r, hx, du, dr⟩, q⟩ := h
    have nd := scStr.nd
    refine ⟨_, PSs.nox (pss_cons (ps_set (i := 1) nd rfl (.inl rfl) (pe_join pe_str (pe_lst (pa_cons pe_str (StX.pa_star (pe_fld (pv 0) rfl) pa_nil)))))
      (pss_cons (ps_setLc (i := 2) (own := [("row", 3)]) (g := gName 3) (tt := tYes) rfl nd rfl rfl (sw_true rfl rfl rfl (by decide +kernel)) (pi_tup (pe_fld (pv 0) rfl))
          (blkOk_by (own := [("row", 3)]) (N := NStr) (sc := defScope mSystemStr) (by decide +kernel)) (fun _ _ _ _ _ => pg_name (i := 3) nd rfl (Or.inl rfl)) (fun _ _ _ _ _ => pts_nil)
          (fun _ _ _ _ _ => pe_call GL hr rfl gL kL bL .nil pass0 (pa_cons (pv 3) pa_nil)))
      (pss_one (ps_ret (pe_join pe_str (pe_lst (pa_cons (pv 1) (StX.pa_star (pv 2) pa_nil)))))))), ?_⟩
    obtain ⟨a, xs, rfl, h1, h2, hl⟩ := tup_len du
    obtain ⟨rfl, hlen⟩ := strs_of h2
    have nl := names_len ns (folk_names hN)
    have n3 := hN.hi
    refine ⟨⟨_, rfl⟩, _, rfl, x, C, dx, _, _, rfl, hx, S.cl, S.nu, rfl, a, _, rfl, .inl h1, ?_, fun l hlf => ?_⟩
    · simp only [List.length_cons, List.length_append, List.length_map, List.length_nil]
      exact Nat.le_trans (show _ ≤ 100 by omega) (by decide)
    rw [List.append_nil]
    refine ⟨" ", l, ("unknowns" : Str) :: ns, rfl, rfl, .inl (SqL.of upd_same), ?_, ?_⟩
    · simp only [List.map_cons, List.sum_cons, List.length_cons]
      show 8 + _ + (ns.length + 1) * 1 ≤ 16777216
      omega
    have s1 : Same H (upd H l (.lst ((("unknowns" : Str) :: ns).map V.str))) := Same.new hlf
    change tSeq _ _ _ _ (upd H l (.lst ((("unknowns" : Str) :: ns).map V.str)))
    generalize upd H l (.lst ((("unknowns" : Str) :: ns).map V.str)) = H1 at s1 ⊢
    obtain ⟨b, ys, rfl, g1, g2, gl⟩ := tup_len (dr.same s1)
    rw [List.length_map] at gl
    refine ⟨_, rfl, x, C, dx, _, _, rfl, s1 _ _ hx, S.cl, S.nr, rfl, b, rfl, ⟨_, g1⟩, fun D hD => ?_⟩
    refine lc_known (walk_tup (K := K) (a := b) (xs := ys)) (fun i => .str ((rs.map lineS).getD i "")) (by rw [gl]; have := hL.hi; omega) hD (fun H' s' => same_sqt s' g1) (fun _ _ _ _ y => by obtain ⟨rfl, _⟩ := y; exact fun _ _ e => e) (fun _ => rfl) ?_ ?_
    · rintro i z H5 H6 Qk hi s5 ⟨rfl, hz⟩ k
      obtain ⟨d, hdi, hdq⟩ := (g2.same s5).get hz
      have hi2 : i < rs.length := by rw [← gl]; exact hi
      rw [List.getElem?_map, List.getElem?_eq_getElem hi2] at hdi
      cases hdi
      refine ⟨_, rfl, z, rs[i], ns.length, rfl, hdq, hL.ok _ (List.getElem_mem hi2), n3, fun H7 s7 => ?_⟩
      have k1 := k H7 s7
      have en : (rs.map lineS).getD i "" = lineS rs[i] := by
        rw [List.getD_eq_getElem?_getD, List.getElem?_map, List.getElem?_eq_getElem hi2]
        rfl
      rw [en] at k1
      exact k1
    · intro H5 s5 bD
      rw [gl, map_range (rs.map lineS) "" V.str rs.length (List.length_map ..)] at bD
      have ll := lines_len rs ns.length hL.ok n3
      have r6 := hL.hi
      refine ⟨⟨_, rfl⟩, _, rfl, _, rfl, D, _, rfl, .inr (SqL.of bD), ?_, fun l2 hl2 => ?_⟩
      · simp only [List.length_cons, List.length_append, List.length_map, List.length_nil]
        exact Nat.le_trans (show _ ≤ 100 by omega) (by decide)
      rw [List.append_nil]
      refine ⟨"\n", l2, Txt.join " " (("unknowns" : Str) :: ns) :: rs.map lineS, rfl, rfl, .inl (SqL.of upd_same), ?_, q _ (s1.trans (s5.trans (Same.new hl2)))⟩
      have j1 := join_le " " (("unknowns" : Str) :: ns)
      rw [← TL.join_eq] at j1
      simp only [List.map_cons, List.sum_cons, List.length_cons, List.length_map] at j1 ⊢
      have e8 : Str.length "unknowns" = 8 := rfl
      have e1 : Str.length " " = 1 := rfl
      have e2 : Str.length "\n" = 1 := rfl
      rw [e8, e1] at j1
      rw [e2]
      omega
end
end Ca
set_option Elab.async false
set_option linter.all false
set_option maxRecDepth 100000
set_option maxHeartbeats 4000000
namespace Ca
open PySem L2
section
variable {P : Program} {w : World} {K : PySem.W.Frag} {mg : Str → Option Value} {base : Heap}
end
end Ca
set_option Elab.async false
set_option linter.all false
set_option maxRecDepth 100000
set_option maxHeartbeats 4000000
namespace Ca
open PySem L2
/-! ### data of tuples, ints and texts alone, behind changes of a list -/
mutual
def noL : PyData → Bool
  | .list _ => false
  | .dict _ => false
  | .tuple ds => noLs ds
  | _ => true
def noLs : List PyData → Bool
  | [] => true
  | d :: ds => noL d && noLs ds
end
theorem sqt_but {K : PySem.W.Frag} {H H' : Hp} {l a : Addr} {ys xs : List V} (hl : H l = some (.lst ys)) (k : Kept l H H') (h : SqT K H a xs) : SqT K H' a xs := by
  have n : ∀ o, H a = some o → (∀ zs, o ≠ .lst zs) → a ≠ l := fun o e z y => by
    rw [y, hl] at e
    cases e
    exact z _ rfl
  rcases h with (e | ⟨o, e⟩) | e
  · exact .inl (.inl (k _ _ (n _ e fun _ z => nomatch z) e))
  · exact .inl (.inr ⟨o, k _ _ (n _ e fun _ z => nomatch z) e⟩)
  · exact .inr e
mutual
theorem Dq.but {K : PySem.W.Frag} {H H' : Hp} {l : Addr} {ys : List V} (hl : H l = some (.lst ys)) (k : Kept l H H') : ∀ {d : PyData} {v : V}, noL d = true → Dq K H v d → Dq K H' v d
  | .none, _, _, h => by cases h; exact .non
  | .bool b, _, _, h => by cases h; exact .bl b
  | .int i, _, _, h => by cases h; exact .int i
  | .str x, _, _, h => by cases h with | str _ a => exact .str x a
  | .list ds, _, n, _ => by simp [noL] at n
  | .tuple ds, _, n, h => by
    cases h with
    | tup a b => exact .tup (sqt_but hl k a) (DqAll.but hl k (by simpa only [noL] using n) b)
  | .dict ds, _, n, _ => by simp [noL] at n
theorem DqAll.but {K : PySem.W.Frag} {H H' : Hp} {l : Addr} {ys : List V} (hl : H l = some (.lst ys)) (k : Kept l H H') : ∀ {ds : List PyData} {vs : List V}, noLs ds = true → DqAll K H vs ds → DqAll K H' vs ds
  | [], _, _, h => by cases h; exact .nil
  | d :: ds, _, n, h => by
    obtain ⟨n1, n2⟩ := Bool.and_eq_true_iff.mp (show (noL d && noLs ds) = true by simpa only [noLs] using n)
    cases h with
    | cons a b => exact .cons (Dq.but hl k n1 a) (DqAll.but hl k n2 b)
end
theorem urn_lst {H : Hp} {l : Addr} (u : Urn H l) : ∃ ys, H l = some (.lst ys) := by
  obtain ⟨g, x, n, _, _, _, h⟩ := u
  exact ⟨_, h⟩
theorem noL_strD (p : Int × Int) : noL (strD p) = true := rfl
theorem noLs_map {α : Type} (g : α → PyData) (h : ∀ a, noL (g a) = true) : ∀ l : List α, noLs (l.map g) = true
  | [] => rfl
  | a :: l => by
    simp only [List.map_cons, noLs]
    rw [h a, noLs_map g h l]
    rfl
theorem noL_strs (ns : List Str) : noLs (ns.map .str) = true := noLs_map _ (fun _ => rfl) ns
theorem noL_folk (ns : List Str) : noL (folkD ns) = true := noL_strs ns
theorem noL_row (r : Rw) : noL (rowD r) = true := by
  have := noLs_map strD noL_strD r.parts
  unfold rowD
  simp only [noL, noLs, this, noL_strD]
  rfl
theorem noL_rows (rs : List Rw) : noL (rowsD rs) = true := noLs_map rowD noL_row rs
/-- a comprehension that draws from the urn at l, its items kept as data -/
theorem lc_draw {J : It} {n : Nat} {G : Hp → Prop} {Y : Nat → Hp → V → Hp → Prop} (w : Walk J n G Y) {K : PySem.W.Frag} {α : Type} (g : α → PyData) (ok : Nat → α → Prop) {te : TE} {vs : List Nat} {σ : L2.St} {H1 : Hp} {D l : Addr} {Qd : Hp → Prop} {j : Nat} (hg : ∀ a, noL (g a) = true) (hn : n ≤ 100000) (hU : Urn H1 l) (hD : H1 D = none)
    (hG : ∀ H, Kept l H1 H → G H) (hY : ∀ i H x H', Y i H x H' → H' = H) (hw : ∀ x, wipe ((wipe σ vs).set j (some x)) vs = wipe σ vs)
    (hs : ∀ i x H (Qk : VK), i < n → Y i H x H → Kept l H1 H → Urn H l → (∀ y a H4, Kept l H H4 → Urn H4 l → Dq K H4 y (g a) → ok i a → Qk y H4) → te ((wipe σ vs).set j (some x)) H Qk)
    (hd : ∀ H xs (as : List α), Kept l H1 H → Urn H l → H D = some (.lst xs) → DqAll K H xs (as.map g) → as.length = n → (∀ i a, as[i]? = some a → ok i a) → Qd H) :
    ∃ W : Nat → Nat → Hp → Prop, (∃ m, W 0 m (upd H1 D (.lst []))) ∧ ∀ i m H, W i m H →
      (J.stop i H ∧ Qd H) ∨ (J.go i H ∧ ∃ Nx : Hp → Prop, (∀ H', Nx H' → ∃ m', m' < m ∧ W (i + 1) m' H') ∧ ∀ x H', J.yld i H x H' → gName j x (wipe σ vs) H' fun σ2 H2 => wipe σ2 vs = wipe σ vs ∧ tYes σ2 H2 fun b H3 =>
        if b = true then te σ2 H3 fun y H4 => ∃ acc, H4 D = some (.lst acc) ∧ acc.length < sizeLine ∧ Nx (upd H4 D (.lst (acc ++ [y]))) else Nx H3) := by
  obtain ⟨lo, hlo⟩ := hU.some
  have nDl : D ≠ l := fun z => by rw [z, hlo] at hD; cases hD
  refine lc_it w (fun i H => Kept l H1 H ∧ Urn H l ∧ ∃ xs, ∃ as : List α, H D = some (.lst xs) ∧ DqAll K H xs (as.map g) ∧ as.length = i ∧ ∀ i a, as[i]? = some a → ok i a)
    ⟨(Same.new hD).kept, hU.same (Same.new hD), [], [], upd_same, .nil, rfl, fun _ _ z => nomatch z⟩ (fun i H _ p => hG H p.1) ?_ (fun H p => by
      obtain ⟨p1, p2, xs, as, p3, p4, p5, p6⟩ := p
      exact hd H xs as p1 p2 p3 p4 p5 p6)
  rintro i x H H' hi ⟨p1, p2, xs, as, p3, p4, p5, p6⟩ yy
  obtain rfl := hY i H x H' yy
  refine ⟨hw _, rdYes (hs i x _ _ hi yy p1 p2 fun y a H4 k4 u4 q4 ok4 => ?_)⟩
  have d4 := k4 _ _ nDl p3
  obtain ⟨us, hus⟩ := urn_lst p2
  have a4 : DqAll K H4 xs (as.map g) := DqAll.but hus k4 (noLs_map g hg as) p4
  have kD : Kept D H4 (upd H4 D (.lst (xs ++ [y]))) := fun b o n e => by rw [upd_ne n]; exact e
  refine ⟨_, d4, ?_, fun b o n e => ?_, ?_, xs ++ [y], as ++ [a], upd_same, ?_, by rw [List.length_append, p5]; rfl, fun i' a' hia => ?_⟩
  · have := p4.len
    rw [List.length_map, p5] at this
    rw [this]
    exact Nat.lt_of_lt_of_le (Nat.lt_of_lt_of_le hi hn) (by decide)
  · have nb : b ≠ D := fun z => by rw [z, hD] at e; cases e
    rw [upd_ne nb]
    exact k4 _ _ n (p1 _ _ n e)
  · obtain ⟨x1, x2, x3, y1, y2, y3, y4⟩ := u4
    exact ⟨x1, x2, x3, y1, y2, y3, by rw [upd_ne nDl.symm]; exact y4⟩
  · rw [List.map_append]
    exact (DqAll.but d4 kD (noLs_map g hg as) a4).app (.cons (Dq.but d4 kD (hg a) q4) .nil)
  · by_cases c : i' < as.length
    · rw [List.getElem?_append_left c] at hia
      exact p6 i' a' hia
    · rw [List.getElem?_append_right (Nat.le_of_not_lt c)] at hia
      have e0 : i' - as.length = 0 := by
        cases z : i' - as.length with
        | zero => rfl
        | succ k => rw [z] at hia; cases hia
      rw [e0] at hia
      cases hia
      have : i' = i := by omega
      rw [this]
      exact ok4
end Ca
set_option Elab.async false
set_option linter.all false
set_option maxRecDepth 100000
set_option maxHeartbeats 4000000
namespace Ca
open PySem L2
section
variable {X : Cx}
end
def pick (ms : List Str) (b s m : Nat) : List Str := (List.range m).map fun k => ms.getD ((b + s * k) % 11) ""
section
variable {P : Program} {w : World} {K : PySem.W.Frag} {mg : Str → Option Value} {base : Heap} {C : Addr}
end
end Ca
set_option Elab.async false
set_option linter.all false
set_option maxRecDepth 100000
set_option maxHeartbeats 4000000
namespace Ca
open PySem L2
theorem two_ok {p : Int × Int} (h1 : -10000 ≤ p.1) (h2 : p.1 ≤ p.2) (h3 : p.2 ≤ 10000) : isStretchD (strD p) = true := by
  show (decide (-10000 ≤ p.1) && (decide (p.1 ≤ p.2) && decide (p.2 ≤ 10000))) = true
  rw [decide_eq_true h1, decide_eq_true h2, decide_eq_true h3]
  rfl
theorem strD_at {K : PySem.W.Frag} {H : Hp} {t : Addr} {a b : Int} (h : H t = some (.tup [.int a, .int b])) : Dq K H (.ref t) (strD (a, b)) := .tup (SqT.of h) (.cons (.int _) (.cons (.int _) .nil))
section
variable {P : Program} {w : World} {K : PySem.W.Frag} {mg : Str → Option Value} {base : Heap} {C : Addr}
end
end Ca
set_option Elab.async false
set_option linter.all false
set_option maxRecDepth 100000
set_option maxHeartbeats 4000000
namespace Ca
open PySem PySem.Spec PyProof.Rows L2
/-! ### tuples of which it is known that they have no attributes of their own -/
def TupN (H : Hp) (a : Addr) (xs : List V) : Prop := ∃ o : Obj, H a = some (.frz o (.tup xs)) ∧ o.cls = .type "tuple" ∧ o.dict = none
theorem TupN.sq {K : PySem.W.Frag} {H : Hp} {a : Addr} {xs : List V} (h : TupN H a xs) : SqT K H a xs := h.elim fun o e => .inl (.inr ⟨o, e.1⟩)
theorem TupN.same {H H' : Hp} {a : Addr} {xs : List V} (h : TupN H a xs) (s : Same H H') : TupN H' a xs := h.elim fun o e => ⟨o, s _ _ e.1, e.2⟩
theorem TupN.kept {H H' : Hp} {l a : Addr} {xs ys : List V} (hl : H l = some (.lst ys)) (h : TupN H a xs) (k : Kept l H H') : TupN H' a xs := by
  obtain ⟨o, e, r⟩ := h
  exact ⟨o, k _ _ (fun z => by rw [z, hl] at e; cases e) e, r⟩
section
variable {X : Cx} {pins : List (Addr × Obj)} {σ : L2.St} {H : Hp} {s : Shared}
end
end Ca
set_option Elab.async false
set_option linter.all false
set_option maxRecDepth 100000
set_option maxHeartbeats 4000000
namespace Ca
open PySem L2
section
variable {X : Cx}
theorem call_lenK (K : PySem.W.Frag) (h : X.K = K := by rfl) : CallR X (.builtin "len") (fun xs H Q => ∃ x n, xs = [x] ∧ LenV K x H n ∧ Q (.int n) H) := h ▸ call_len
end
theorem row_ok {r : Rw} {m : Nat} (hn : nameS r.name = true) (hp : r.parts.length = m) (h : ∀ p ∈ r.parts ++ [r.bd], isStretchD (strD p) = true) : isRowD (rowD r) m = true := by
  refine Bool.and_eq_true_iff.mpr ⟨hn, Bool.and_eq_true_iff.mpr ⟨?_, ?_⟩⟩
  · show decide ((r.parts.map strD).length = m) = true
    rw [List.length_map]
    exact decide_eq_true hp
  · show ((r.parts.map strD ++ [strD r.bd]).all isStretchD) = true
    rw [show r.parts.map strD ++ [strD r.bd] = (r.parts ++ [r.bd]).map strD by rw [List.map_append]; rfl, List.all_map, List.all_eq_true]
    exact h
section
variable {P : Program} {w : World} {K : PySem.W.Frag} {mg : Str → Option Value} {base : Heap} {C : Addr}
end
end Ca
set_option Elab.async false
set_option linter.all false
set_option maxRecDepth 100000
set_option maxHeartbeats 4000000
namespace Ca
open PySem L2
section
variable {X : Cx}
theorem pgT (K : PySem.W.Frag) {es : List Expr} {k : Nat} {pos : Pos} {t : TGs} {n : Nat} (hc : X.calm = true) (h : PGs X es t) (hK : X.K = K := by rfl) (hn : (assignEach es X.env).length = n := by rfl) (hst : (assignEach es X.env).findIdx? (·.1) = none := by rfl) : PG X (.Tuple es k pos) (gTup K n t) := hK ▸ pg_tup hc h hn hst
end
end Ca
set_option Elab.async false
set_option linter.all false
set_option maxRecDepth 100000
set_option maxHeartbeats 4000000
namespace Ca
open PySem L2
/-! ### cases: what is drawn, and what is made of it -/
abbrev Case := List Str × List Rw
theorem Lines.none (m : Nat) : Lines [] m := ⟨Nat.zero_le _, (fun _ z => nomatch z), List.nodup_nil⟩
/-- the four that are made out of the first ones -/
def four (c0 c1 : Case) : List Case := [c0, (c0.1, c0.2.reverse), (c0.1.reverse, c0.2), (c1.1, [])]
theorem SysAt.lst {K : PySem.W.Frag} {C D : Addr} {H : Hp} {x : Addr} {ns : List Str} {rs : List Rw} {ys zs : List V} (h : SysAt K C H x ns rs) (hD : H D = some (.lst ys)) : SysAt K C (upd H D (.lst zs)) x ns rs := by
  obtain ⟨h1, h2, dx, u, r, e, du, dr⟩ := h
  have k : Kept D H (upd H D (.lst zs)) := fun b o n e => by rw [upd_ne n]; exact e
  have n : x ≠ D := fun z => by rw [z, hD] at e; cases e
  exact ⟨h1, h2, dx, u, r, k _ _ n e, Dq.but hD k (noL_folk ns) du, Dq.but hD k (noL_rows rs) dr⟩
/-- systems of the cases, one each -/
def Sys (K : PySem.W.Frag) (C : Addr) (H : Hp) (xs : List Addr) (cs : List Case) : Prop := ∀ (k : Nat) (x : Addr) (c : Case), xs[k]? = some x → cs[k]? = some c → SysAt K C H x c.1 c.2
theorem Sys.same {K : PySem.W.Frag} {C : Addr} {H H' : Hp} {xs : List Addr} {cs : List Case} (h : Sys K C H xs cs) (s : Same H H') : Sys K C H' xs cs := fun k x c h1 h2 => (h k x c h1 h2).same s
theorem Sys.lst {K : PySem.W.Frag} {C D : Addr} {H : Hp} {xs : List Addr} {cs : List Case} {ys zs : List V} (h : Sys K C H xs cs) (hD : H D = some (.lst ys)) : Sys K C (upd H D (.lst zs)) xs cs := fun k x c h1 h2 => (h k x c h1 h2).lst hD
theorem Sys.nil {K : PySem.W.Frag} {C : Addr} {H : Hp} {cs : List Case} : Sys K C H [] cs := fun k x c h _ => by cases h
/-- a new instance's two objects -/
theorem made_same {H H' : Hp} {x dx C : Addr} (hx : H x = none) (hdx : H dx = none) (k : Kept x (upd (upd H dx (.own x)) x (.ins C dx [])) H') : Same H H' := fun b o e => by
  have n1 := ne_of_none e hx
  have n2 := ne_of_none e hdx
  exact k b o n1 (by rw [upd_ne n1, upd_ne n2]; exact e)
theorem made_new {H : Hp} {x dx C : Addr} (hx : H x = none) (hdx : H dx = none) : Same H (upd (upd H dx (.own x)) x (.ins C dx [])) := fun b o e => by
  rw [upd_ne (ne_of_none e hx), upd_ne (ne_of_none e hdx)]
  exact e
end Ca
set_option Elab.async false
set_option linter.all false
set_option maxRecDepth 100000
set_option maxHeartbeats 4000000
namespace Ca
open PySem PySem.Calls PyProof.Rows
open Builtin Builtin.Slice
section
variable {prog : Program} {w : World} {A : Around} {E : Value → Shared → Prop} {s : Shared}
end
end Ca
namespace Ca
open PySem PySem.Spec PyProof.Rows L2
section
variable {X : Cx}
end
end Ca
set_option Elab.async false
set_option linter.all false
set_option maxRecDepth 100000
set_option maxHeartbeats 4000000
namespace Ca
open PySem L2
section
variable {X : Cx}
theorem reprK (K : PySem.W.Frag) (hgd : X.A.guards = some []) (hu : X.A.units + 200 < cLine) (h : X.K = K := by rfl) : CallR X (.builtin "repr") (rRepr K) := h ▸ call_repr hgd hu
end
/-- a value whose repr comes through -/
def Good (K : PySem.W.Frag) (H : Hp) (v : V) (d : PyData) : Prop := Rp K H v d ∧ d.showable = true ∧ d.depth ≤ 64 ∧ d.shown.length ≤ sizeLine
end Ca
set_option Elab.async false
set_option linter.all false
set_option maxRecDepth 100000
set_option maxHeartbeats 4000000
namespace Ca
open PySem L2
/-! ### the size of what is told -/
/-! ### signs of the page -/
end Ca
set_option Elab.async false
set_option linter.all false
set_option maxRecDepth 100000
set_option maxHeartbeats 8000000
namespace Ca
open PySem L2
section
variable {X : Cx} {k : Nat} {f C : Addr} {fd : FuncData} {ps ks : List Str} {sp : Sp} {x : Str} {p pos : Pos} {kws : List Keyword} {tk : TA} {g : List Value → List Value → List Value} {gV : List V → List V → List V}
end
/-- what the law's own part leans on of System -/
structure SysE (K : PySem.W.Frag) (C fI fE fS fL fB fN fUn fRo pUn pRo pNa : Addr) : Prop where
  mkr : Mk K C fI
  eq : PySem.W.findIn K (.ref C) "__eq__" = some (some (.ref fE))
  eqf : PySem.W.isFn K (.ref fE) = true
  ne : PySem.W.findIn K (.ref C) "__ne__" = some (some (.builtin "object.__ne__"))
  ob : PySem.W.subIn K (.ref C) (.type "object") = some true
  str : PySem.W.findIn K (.ref C) "__str__" = some (some (.ref fS))
  strf : PySem.W.isFn K (.ref fS) = true
  len : PySem.W.findIn K (.ref C) "__len__" = some (some (.ref fL))
  lenf : PySem.W.isFn K (.ref fL) = true
  bool : PySem.W.findIn K (.ref C) "__bool__" = some (some (.ref fB))
  boolf : PySem.W.isFn K (.ref fB) = true
  un : PropOf K C "unknowns" pUn fUn
  ro : PropOf K C "rows" pRo fRo
  na : PropOf K C "names" pNa fN
/-- the further built-in names of the law's own part -/
structure Bm (mg : Str → Option Value) : Prop where
  rng : mg "range" = none
  zip : mg "zip" = none
  rep : mg "repr" = none
end Ca
set_option Elab.async false
set_option linter.all false
set_option maxRecDepth 100000
set_option maxHeartbeats 0
namespace Ca
open PySem PySem.Spec PyProof.Rows L2
/-! ### what the top leaves, by names -/
def topD (x : Str) (st : Stmt) : He.DefD := ⟨(x, none), x, x, defArgs st, defBody st, defScope st, [], []⟩
def memD (m q : Str) (st : Stmt) (dv : List He.Dv) : He.DefD := ⟨("System", some m), m, q, defArgs st, defBody st, defScope st, dv, []⟩
def e0A (K : PySem.W.Frag) : Addr := He.dflAt ("System", some "__init__") 0 K
/-! ### and of System -/
abbrev sysA (K : PySem.W.Frag) : Addr := He.ga K "System"
def isF (a b : Option (Option Value)) : Bool := decide (a = b)
/-- the getter of a property -/
def getA (K : PySem.W.Frag) (m : Str) : Addr := match PySem.W.recIn K (He.ma K (sysA K) m) "property" with
  | some (.ref g :: _) => g
  | _ => 0
def fnA (K : PySem.W.Frag) (a : Addr) : He.FnW := match K.lookup a with
  | some ⟨_, _, .func fd, _⟩ => some (fd.name, fd.qualname, fd.params, fd.body, fd.scope, fd.globals, fd.closure, fd.builtins)
  | _ => none
def okA (K : PySem.W.Frag) (a : Addr) (q : Str) : Bool := PySem.W.keepIn K (.ref a) && (match K.lookup a with
  | some ⟨_, _, .func fd, _⟩ => PySem.W.codeIn K fd.code q && He.dflB K fd.defaults []
  | _ => false)
theorem fun_at {K : PySem.W.Frag} {a : Addr} {n q : Str} {st : Stmt} (e : fnA K a = some (n, q, defArgs st, .stmts (defBody st), defScope st, mainGlobals, [], builtinsNs)) (c : okA K a q = true) : ∃ fd, FunD K n q (defArgs st) (defBody st) (defScope st) [] [] a fd := by
  obtain ⟨kp, c2⟩ := He.ba c
  unfold fnA at e
  cases z : K.lookup a with
  | none => rw [z] at c2; cases c2
  | some o =>
    obtain ⟨oc, od, dt, sl⟩ := o
    rw [z] at c2 e
    cases dt with
    | func fd =>
      obtain ⟨m1, m2, m3, m4, m5, m6, m7, m8, m9, m10, m11, m12, m13, m14, m15⟩ := fd
      have e2 : (some (m1, m2, m3, m4, m5, m6, m7, m15) : He.FnW) = some (n, q, defArgs st, .stmts (defBody st), defScope st, mainGlobals, [], builtinsNs) := e
      simp only [Option.some.injEq, Prod.mk.injEq] at e2
      obtain ⟨g1, g2, g3, g4, g5, g6, g7, g8⟩ := e2
      subst g1 g2 g3 g4 g5 g6 g7 g8
      obtain ⟨k1, k2⟩ := He.ba (show (PySem.W.codeIn K m13 m2 && He.dflB K m8 []) = true from c2)
      exact ⟨_, ⟨oc, od, m8, m9, m10, m11, m12, m13, m14, sl, rfl, z, k1, He.dflB_ok k2, .inl rfl⟩, kp⟩
    | _ => cases c2
def prB (K : PySem.W.Frag) (m q : Str) : Bool := isF (PySem.W.findIn K (.ref (sysA K)) m) (some (some (.ref (He.ma K (sysA K) m)))) && (isF (PySem.W.specialIn K (.ref (He.ma K (sysA K) m)) "__get__") (some (some (.builtin "property.__get__"))) &&
  (decide (PySem.W.takesIn K (.ref (He.ma K (sysA K) m)) = some true) && ((match PySem.W.recIn K (He.ma K (sysA K) m) "property" with
    | some (.ref _ :: _) => true
    | _ => false) && okA K (getA K m) q)))
def tyNames : List String := ["NoneType", "bool", "int", "str", "list", "tuple", "dict"]
def emB (K : PySem.W.Frag) : Bool := match K.lookup (e0A K) with
  | some ⟨.type c, _, .seq its _, _⟩ => decide (c = "tuple") && (decide (its.size ≤ sizeLine) && He.relAll [] its.toList)
  | _ => false
def sysB (K : PySem.W.Frag) : Bool := prB K "unknowns" "System.unknowns" && (prB K "rows" "System.rows" && (prB K "names" "System.names" && (emB K &&
  (isF (PySem.W.findIn K (.ref (sysA K)) "__ne__") (some (some (.builtin "object.__ne__"))) && (decide (PySem.W.subIn K (.ref (sysA K)) (.type "object") = some true) &&
  (isF (PySem.W.findIn K (.ref (sysA K)) "__class__") (some (some (.builtin "object.__class__"))) && (isF (PySem.W.specialIn K (.builtin "object.__class__") "__get__") (some (some (.builtin "getset_descriptor.__get__"))) &&
  (decide (PySem.W.takesIn K (.builtin "object.__class__") = some true) && (decide (PySem.W.mroIn K (sysA K) (.type "object") = some true) && (decide (PySem.W.kitOne K (.ref (sysA K)) (.ref (sysA K)) = some true) &&
  (PySem.W.notFirst K (sysA K) (.ref (sysA K)) && tyNames.all fun t => decide (PySem.W.kitOne K (.type t) (.ref (sysA K)) = some false) && PySem.W.notFirst K (sysA K) (.type t))))))))))))
def getV (n q : Str) (st : Stmt) : He.FnW := some (n, q, defArgs st, .stmts (defBody st), defScope st, mainGlobals, [], builtinsNs)
theorem isF_ok {a b : Option (Option Value)} (h : isF a b = true) : a = b := of_decide_eq_true h
theorem an {a b : Bool} (h : (a && b) = true) : a = true ∧ b = true := Bool.and_eq_true_iff.mp h
theorem pr_ok {K : PySem.W.Frag} {m q : Str} (h : prB K m q = true) : PropOf K (sysA K) m (He.ma K (sysA K) m) (getA K m) ∧ okA K (getA K m) q = true := by
  obtain ⟨h1, h⟩ := an h
  obtain ⟨h2, h⟩ := an h
  obtain ⟨h3, h⟩ := an h
  obtain ⟨h4, h5⟩ := an h
  refine ⟨⟨isF_ok h1, isF_ok h2, of_decide_eq_true h3, ?_⟩, h5⟩
  unfold getA
  cases z : PySem.W.recIn K (He.ma K (sysA K) m) "property" with
  | none => rw [z] at h4; cases h4
  | some l =>
    rw [z] at h4
    match l, h4 with
    | .ref g :: rest, _ => exact ⟨rest, rfl⟩
theorem fun_of {K : PySem.W.Frag} {x : Str} {st : Stmt} {f : Addr} {fd : FuncData} (F : FunD K x x (defArgs st) (defBody st) (defScope st) [] [] f fd) : Fun K x x st f fd := by
  obtain ⟨⟨oc, od, dV, kV, doc, pm, an, cdv, ct, osl, rfl, lk, hcd, hD, hK⟩, kp⟩ := F
  rcases hD with ⟨_, rfl⟩ | ⟨e, _⟩
  · exact fun_mk lk hcd kp
  · exact absurd rfl e
end Ca
set_option Elab.async false
set_option linter.all false
set_option maxRecDepth 100000
set_option maxHeartbeats 4000000
namespace Ca
open PySem PySem.W PySem.Calls PyProof.Rows
section
variable {prog : Program} {w : World} {A : Around} {E : Value → Shared → Prop} {hp : Heap} {g : Array GenState} {d : Drawn} {t : Nat} {os : OsState}
end
end Ca
set_option Elab.async false
set_option linter.all false
set_option maxRecDepth 100000
set_option maxHeartbeats 4000000
namespace Ca
open PySem L2
/-! ### exceptions as values -/
/-- an exception of the class at C stands at e; its one field f holds v -/
def Exc (H : Hp) (e C : Addr) (f : Str) (v : V) : Prop := ∃ d, H e = some (exo e C (some d)) ∧ H d = some (exd d [(f, v)])
theorem Exc.same {H H' : Hp} {e C : Addr} {f : Str} {v : V} (x : Exc H e C f v) (s : Same H H') : Exc H' e C f v := by
  obtain ⟨d, h1, h2⟩ := x
  exact ⟨d, s _ _ h1, s _ _ h2⟩
section
variable {X : Cx} {pins : List (Addr × Obj)} {σ : St} {H : Hp} {s : Shared} {a C dx : Addr} {f : Str} {y : V} {u : Value} {Q : Unit → Shared → Prop} {E : Value → Shared → Prop} {A : Around} {B : String} {bmB : List Value}
end

/-! ### the __init__ of such a class -/
section
variable {P : Program} {w : World} {K : PySem.W.Frag} {mg : Str → Option Value} {base : Heap} {B : String} {bmB : List Value}
end
end Ca
set_option Elab.async false
set_option linter.all false
set_option maxRecDepth 100000
set_option maxHeartbeats 8000000
namespace Ca
open PySem PySem.W PySem.Calls PyProof.Rows PySem.HandSPX
section
variable {prog : Program} {w : World} {A : Around} {E : Value → Shared → Prop} {R : Result → Shared → Prop} {hp : Heap} {gs : Array GenState} {dr : Drawn} {tk : Nat} {os : OsState}
variable {nm q : PySem.Str} {C N : Addr} {bs bm bmB : List Value} {hdct : Bool} {sn : List PySem.Str} {sub : List Value} {ab : Bool} {col : Option Bool} {dd : Option Addr} {k0 k1 k2 k3 k5 : Option Value} {B newId initId : String}
variable {kn : PySem.Str} {u : Value}
end
end Ca
set_option Elab.async false
set_option linter.all false
set_option maxRecDepth 100000
set_option maxHeartbeats 4000000
namespace Ca
open PySem L2
section
variable {X : Cx} {pins : List (Addr × Obj)} {σ : St} {H : Hp} {s : Shared} {C fI : Addr} {f x : Str} {v : V} {u : Value} {Q : VK} {B newId initId : String} {bmB : List Value} {k : Nat} {fd : FuncData} {ps : List Str}
/-- isinstance of such an exception -/
def IsE (H : Hp) (a D : Addr) : Prop := H a = some (exo a D none) ∨ ∃ f v, Exc H a D f v
theorem IsE.same {H H' : Hp} {a D : Addr} (x : IsE H a D) (s : Same H H') : IsE H' a D := x.elim (fun e => .inl (s _ _ e)) fun ⟨f, v, e⟩ => .inr ⟨f, v, e.same s⟩
end
end Ca
set_option Elab.async false
set_option linter.all false
set_option maxRecDepth 100000
set_option maxHeartbeats 4000000
namespace Ca
open PySem PySem.Spec PyProof.Rows L2
/-! ### errors raised -/
/-- what is wished of an error with one field -/
def ErrW (E : XK) (H : Hp) (C : Addr) (f : Str) (v : V) : Prop := ∀ d H', H d = none → Same H H' → H' d = some (.xd [(f, v)]) → E (.ref C) (some d) H'
theorem same_none {H H' : Hp} {d : Addr} (s : Same H H') (n : H' d = none) : H d = none := by
  cases e : H d with
  | none => rfl
  | some o =>
    rw [s _ _ e] at n
    cases n
theorem ErrW.on {E : XK} {H0 H : Hp} {C : Addr} {f : Str} {v : V} (h : ErrW E H0 C f v) (s : Same H0 H) : ErrW E H C f v := fun d H' n s' e => h d H' (same_none s n) (s.trans s') e
section
variable {X : Cx} {C fI : Addr} {f x : Str} {B newId initId : String} {bmB : List Value} {k : Nat} {fd : FuncData} {e : Expr} {ta : TA} {p pos pos2 : Pos}
end
end Ca
set_option Elab.async false
set_option linter.all false
set_option maxRecDepth 100000
set_option maxHeartbeats 4000000
namespace Ca
open PySem PySem.Spec PyProof.Rows L2
/-! ### o.m(k = v) -/
section
variable {X : Cx} {k : Nat} {f C : Addr} {fd : FuncData} {ps ks : List Str} {sp : Sp} {m : Str} {apos pos : Pos} {kws : List Keyword} {tk : TA} {g : List Value → List Value → List Value} {gV : List V → List V → List V} {o : Expr} {ta : TE}
end
/-! ### slices and sums of tuples, whatever object tells them -/
theorem cut_take (xs : List V) (k : Nat) : cutV xs none (some (k : Int)) = xs.take k := by
  unfold cutV
  rw [HT.sIx_none, HT.sIx_nat, List.drop_zero, Nat.sub_zero]
  by_cases h : k ≤ xs.length
  · rw [Nat.min_eq_left h]
  · rw [Nat.min_eq_right (Nat.le_of_not_le h), List.take_length, List.take_of_length_le (Nat.le_of_not_le h)]
theorem rd_no {σ : L2.St} {H : Hp} {Q : Option Int → Hp → Prop} (h : Q none H) : tNoPart σ H Q := h
theorem rd_slA {K : PySem.W.Frag} {H : Hp} {a : Addr} {xs : List V} {lo hi : Option Int} {Q : VK} (h : SqT K H a xs) (q : ∀ H' b, Same H H' → SqT K H' b (cutV xs lo hi) → Q (.ref b) H') : rSlA K (.ref a) lo hi H Q :=
  ⟨a, xs, rfl, h, fun y => q H a (fun _ _ e => e) (by
    have e : cutV xs lo hi = xs := by
      unfold cutV
      rw [y.1, y.2, List.drop_zero, Nat.sub_zero, List.take_length]
    rw [e]
    exact h), fun _ p hp => q _ p (Same.new hp) (SqT.of upd_same)⟩
theorem rd_catA {K : PySem.W.Frag} {H : Hp} {a b : Addr} {xs ys : List V} {Q : VK} (ha : SqT K H a xs) (hb : SqT K H b ys) (hl : xs.length + ys.length ≤ sizeLine) (q : ∀ H' c, Same H H' → SqT K H' c (xs ++ ys) → Q (.ref c) H') : rCatA K (.ref a) (.ref b) H Q :=
  ⟨a, b, xs, ys, rfl, rfl, ha, hb, hl, fun z => q H b (fun _ _ e => e) (by rw [z]; exact hb), fun _ z => q H a (fun _ _ e => e) (by rw [z, List.append_nil]; exact ha), fun _ _ p hp => q _ p (Same.new hp) (SqT.of upd_same)⟩
theorem DqAll.take {K : PySem.W.Frag} {H : Hp} : ∀ {vs : List V} {ds : List PyData} (k : Nat), DqAll K H vs ds → DqAll K H (vs.take k) (ds.take k)
  | _, _, 0, _ => .nil
  | _, _, _ + 1, .nil => .nil
  | _, _, k + 1, .cons a t => .cons a (t.take k)
theorem DqAll.drop {K : PySem.W.Frag} {H : Hp} : ∀ {vs : List V} {ds : List PyData} (k : Nat), DqAll K H vs ds → DqAll K H (vs.drop k) (ds.drop k)
  | _, _, 0, h => h
  | _, _, _ + 1, .nil => .nil
  | _, _, k + 1, .cons _ t => t.drop k
theorem Lines.sub {rs qs : List Rw} {m : Nat} (h : qs.Sublist rs) (L : Lines rs m) : Lines qs m :=
  ⟨Nat.le_trans h.length_le L.hi, fun r z => L.ok r (h.subset z), L.nd.sublist (h.map Rw.name)⟩
/-- systems behind changes of a list -/
theorem SysAt.but {K : PySem.W.Frag} {C l : Addr} {H H' : Hp} {x : Addr} {ns : List Str} {rs : List Rw} {ys : List V} (hl : H l = some (.lst ys)) (k : Kept l H H') (h : SysAt K C H x ns rs) : SysAt K C H' x ns rs := by
  obtain ⟨h1, h2, dx, u, r, e, du, dr⟩ := h
  have n : x ≠ l := fun z => by rw [z, hl] at e; cases e
  exact ⟨h1, h2, dx, u, r, k _ _ n e, Dq.but hl k (noL_folk ns) du, Dq.but hl k (noL_rows rs) dr⟩
end Ca
set_option Elab.async false
set_option linter.all false
set_option maxRecDepth 100000
set_option maxHeartbeats 4000000
namespace Ca
open PySem PySem.Spec PyProof.Rows L2
/-! ### data told twice -/
theorem rd_sameD {K : PySem.W.Frag} {H : Hp} {a b : V} {d : PyData} {Q : VK} (ha : Dp K H a d) (hb : Dp K H b d) (sh : SeqAt.shaped d = true) (q : Q (.bl false) H) : rNeD K a b H Q :=
  ⟨d, d, ha, hb, sh, sh, by rw [SeqAt.eqv_refl _ (Bool.and_eq_true_iff.mp (show (d.canLay0 && decide (d.depth ≤ 64)) = true from sh)).1]; exact q⟩
/-! ### the repr of a case's parts -/
end Ca
set_option Elab.async false
set_option linter.all false
set_option maxRecDepth 100000
set_option maxHeartbeats 4000000
namespace Ca
open PySem L2
/-! ### the first wrong row, the first wrong unknown -/
section
variable {P : Program} {w : World} {K : PySem.W.Frag} {mg : Str → Option Value} {base : Heap} {CR CU fIR fIU : Addr} {fdIR fdIU : FuncData}
variable {C : Addr}
end
end Ca
set_option Elab.async false
set_option linter.all false
set_option maxRecDepth 100000
set_option maxHeartbeats 4000000
namespace Ca
open PySem PySem.Spec PyProof.Rows L2 LamX
/-! ### defs that make lambdas: the code object is known -/
/-! ### a law whose defs make lambdas -/
theorem lawGT {P : Program} {w : World} {K : PySem.W.Frag} {mg mb : Str → Option Value} {k : Nat} {fa a : Addr} {cs : List (Addr × Addr)} {fd : FuncData} {x : Str} {sp : Sp} {s₁ : Shared} {vs : List Value} {ns : List Int}
    (KX : K.In s₁.heap) (hns : s₁.heap.Ns mainGlobals mg) (hb : s₁.heap.Ns builtinsNs mb) (hbb : ∀ x : Str, x ≠ "__name__" → mb x = bootBuiltins x) (hlim : s₁.heap.NoLimit) (hg : s₁.gens = #[])
    (hT : ∀ p ∈ cs, s₁.heap.get? p.2 = some { cls := .none, data := .fields #[] }) (nT : ∀ p ∈ cs, K.lookup p.2 = none) (hC : ∀ p ∈ cs, PySem.W.codeHdIn K p.1 p.2 = true)
    (hbm : ∃ (bm : Addr) (ob : Obj), mg "__builtins__" = some (.ref bm) ∧ bm ≠ builtinsNs ∧ s₁.heap.get? bm = some ob ∧ ob.cls = .type "module" ∧ ob.dict = some builtinsNs ∧ ob.data = .plain)
    (ha : s₁.heap.get? a = some { cls := .type "list", data := .seq vs.toArray }) (hi : IntsAre vs ns) (hl : ns.length ≤ sizeLine) (hr : Room k callerA)
    (F : ∀ base : Heap, K.In base → base.Ns mainGlobals mg → (∀ p ∈ cs, TabB base mg p.1 p.2) → FnG P w K mg base k fa fd [x] sp) (hbind : ∀ (s : Shared) (u : Value), BindsTo s fd ⟨[u], []⟩ [(x, u)])
    (hsp : ∀ H : Hp, (∀ p ∈ cs, H p.2 = some (.tbl #[])) → SqL K H a (ns.map V.int) → sp [.ref a] H (fun v _ => v = .bl true) E0) :
    codeAny (model P w) callerA (.call (.ref fa) ⟨[.ref a], []⟩) (fun r s' => r = .ok (.ret (.bool true)) ∧ OldK s₁.heap s'.heap ∧ s'.os = s₁.os ∧ AllBare s'.gens) s₁ := by
  have rv := vals_ints hi
  have tab : ∀ b, b ∈ cs.map (·.2) → s₁.heap.get? b = some { cls := .none, data := .fields #[] } ∧ K.lookup b = none := fun b hb => by
    obtain ⟨p, hp, rfl⟩ := List.mem_map.mp hb
    exact ⟨hT p hp, nT p hp⟩
  have aT : a ∉ cs.map (·.2) := fun z => by
    have e := (tab a z).1
    rw [ha] at e
    injection e with e
    injection e with _ _ e
    cases e
  have go : ∀ H : Hp, (∀ b u, H b = some u → (b ∈ cs.map (·.2) ∧ u = .tbl #[]) ∨ (b = a ∧ u = .frz { cls := .type "list", data := .seq vs.toArray } (.lst (ns.map V.int)) ∧ K.lookup a = none)) → (∀ b, b ∈ cs.map (·.2) → H b = some (.tbl #[])) → SqL K H a (ns.map V.int) →
      codeAny (model P w) callerA (.call (.ref fa) ⟨[.ref a], []⟩) (fun r s' => r = .ok (.ret (.bool true)) ∧ OldK s₁.heap s'.heap ∧ s'.os = s₁.os ∧ AllBare s'.gens) s₁ := by
    intro H hH hB hS
    have hok : HOk P w H s₁.heap := fun b u z => by
      rcases hH b u z with ⟨m, rfl⟩ | ⟨rfl, rfl, _⟩
      · exact (tab b m).1
      · exact ⟨ha, by rw [List.length_map]; exact hl, vs, _, rv, ha⟩
    have free : ∀ {b : Addr} {o : Obj}, s₁.heap.get? b = some o → (∀ v n, o.data ≠ .seq v n) → o.data ≠ .fields #[] → H b = none := fun {b o} e d1 d2 => by
      cases q : H b with
      | none => rfl
      | some u =>
        rcases hH b u q with ⟨m, _⟩ | ⟨rfl, _⟩
        · rw [(tab b m).1] at e
          cases e
          exact (d2 rfl).elim
        · rw [ha] at e
          cases e
          exact (d1 _ _ rfl).elim
    have dictFree : ∀ {b : Addr} {m : Str → Option Value}, s₁.heap.Ns b m → (hidT s₁.heap H).Ns b m := fun {b m} z => by
      obtain ⟨o, es, ep, e, dd, r⟩ := z
      exact ⟨o, es, ep, hidT_get e (free e (fun v n y => by rw [dd] at y; cases y) fun y => by rw [dd] at y; cases y), dd, r⟩
    have hKb : K.In (hidT s₁.heap H) := fun b o e => hidT_get (KX b o e) (by
      cases q : H b with
      | none => rfl
      | some u =>
        rcases hH b u q with ⟨m, _⟩ | ⟨rfl, _, z⟩
        · rw [(tab b m).2] at e
          cases e
        · rw [z] at e
          cases e)
    obtain ⟨mc, l1, l2⟩ := hlim
    have md : Mod K mg (hidT s₁.heap H) := { kin := hKb, glob := dictFree hns, blt := ⟨mb, dictFree hb, hbb⟩, nolimit := ⟨mc, dictFree l1, l2⟩ }
    have none' : ∀ b : Addr, b ∉ frs [] := fun b z => nomatch z
    have e0 : Env0 P w K mg (hidT s₁.heap H) callerA [] s₁ H :=
      { frames := rfl, mod := md, bs := fun b o e => of_hidT e, bsz := Nat.le_of_eq (hidT_size _ _), funs := trivial, frf := fun b z => (none' b z).elim, hok := hok, bare := .of_eq hg }
    have TB : ∀ p ∈ cs, TabB (hidT s₁.heap H) mg p.1 p.2 := fun p hp => by
      obtain ⟨bm, ob, b1, b2, b3, b4, b5, b6⟩ := hbm
      refine ⟨PySem.W.codeHd_of_K hKb (hC p hp), ⟨bm, ob, b1, b2, fun z => ?_, fun z => ?_, hidT_get b3 (free b3 (fun v n y => by rw [b6] at y; cases y) fun y => by rw [b6] at y; cases y), b4, b5, b6⟩, fun z => ?_⟩
      · obtain ⟨o, es, ep, e, dd, _⟩ := hns
        rw [← z, b3] at e
        cases e
        rw [dd] at b6
        cases b6
      · rw [z, hT p hp] at b3
        cases b3
        cases b6
      · obtain ⟨o, es, ep, e, dd, _⟩ := hns
        rw [z, hT p hp] at e
        cases e
        cases dd
    have run := (F _ hKb (dictFree hns) TB).run callerA [] s₁ H ⟨[.ref a], []⟩ [.ref a] [.ref a] (fun v _ => v = .bl true) rfl hr e0 (hbind s₁ (.ref a)) (.cons rfl .nil) (hsp H (fun p hp => hB _ (List.mem_map.mpr ⟨p, hp, rfl⟩)) hS)
    refine codeAny_mono run fun r s' z => ?_
    match r, z with
    | .error _, z => exact z.elim
    | .ok .next, z => exact z.elim
    | .ok .brk, z => exact z.elim
    | .ok .cont, z => exact z.elim
    | .ok (.ret u), z =>
      obtain ⟨v, H', os, bare, un, hok', r', q⟩ := z
      obtain rfl : v = .bl true := q
      obtain rfl : u = Value.bool true := r'
      have stays : ∀ b o, b ∉ cs.map (·.2) → s₁.heap.get? b = some o → s'.heap.get? b = some o := fun b o nb e => by
        cases q : H b with
        | none => exact un.keep b o e q (none' b) (by simp)
        | some y =>
          rcases hH b y q with ⟨m, _⟩ | ⟨rfl, rfl, _⟩
          · exact (nb m).elim
          · rw [ha] at e
            cases e
            exact (hok' b _ (un.frzs b _ _ q)).1
      have grows : ∀ b, b ∈ cs.map (·.2) → ∃ more : Array Value, s'.heap.get? b = some { cls := .none, data := .fields more } := fun b m => by
        obtain ⟨more, y⟩ := un.tbls b #[] (hB b m)
        exact ⟨_, hok' b _ y⟩
      refine ⟨rfl, ⟨fun b o e => ?_, fun b o e => ?_⟩, os, bare⟩
      · by_cases m : b ∈ cs.map (·.2)
        · obtain ⟨more, y⟩ := grows b m
          obtain ⟨p, hp, rfl⟩ := List.mem_map.mp m
          rw [hT p hp] at e
          cases e
          exact .inr (.inl ⟨((PySem.W.codeHd_of_K KX (hC p hp)).tab (hT p hp)).isCodeTable, rfl, #[], more, rfl, by rw [Array.empty_append]; exact y⟩)
        · exact .inl (stays b o m e)
      · by_cases m : b ∈ cs.map (·.2)
        · obtain ⟨more, y⟩ := grows b m
          exact ⟨_, y⟩
        · exact ⟨o, stays b o m e⟩
  cases hk : K.lookup a with
  | some o =>
    have e := KX a o hk
    rw [ha] at e
    cases e
    refine go (fun b => if b ∈ cs.map (·.2) then some (.tbl #[]) else none) (fun b u z => ?_) (fun b m => if_pos m) (.inr ⟨_, vs.toArray, _, hk, rfl, rfl, rfl, by rw [List.size_toArray, hi.length]; exact hl, by simpa using rv⟩)
    by_cases m : b ∈ cs.map (·.2)
    · have y := (if_pos m).symm.trans z
      exact .inl ⟨m, (Option.some.inj y).symm⟩
    · have y := (if_neg m).symm.trans z
      cases y
  | none =>
    refine go (fun b => if b ∈ cs.map (·.2) then some (.tbl #[]) else if b = a then some (.frz { cls := .type "list", data := .seq vs.toArray } (.lst (ns.map V.int))) else none) (fun b u z => ?_) (fun b m => if_pos m) (.inl (.inr ⟨{ cls := .type "list", data := .seq vs.toArray }, (if_neg aT).trans (if_pos rfl)⟩))
    by_cases m : b ∈ cs.map (·.2)
    · have y := (if_pos m).symm.trans z
      exact .inl ⟨m, (Option.some.inj y).symm⟩
    · have y := (if_neg m).symm.trans z
      by_cases n : b = a
      · subst n
        have y2 := (if_pos rfl).symm.trans y
        exact .inr ⟨rfl, (Option.some.inj y2).symm, hk⟩
      · have y2 := (if_neg n).symm.trans y
        cases y2
end Ca
set_option Elab.async false
set_option linter.all false
set_option maxRecDepth 100000
set_option maxHeartbeats 0
namespace Ca
open PySem PySem.Spec PyProof.Rows L2
/-! ### classes of errors, by names -/
/-! ### which is a kind of which -/
/-! ### how values reach an error's __init__ -/
/-! ### the dict of modules -/
/-! ### tables of code objects, empty and left out -/
structure TabsOut (tf : List He.Defn) (h : Heap) (K : PySem.W.Frag) : Prop where
  hd : ∀ p ∈ tf, PySem.W.codeHdIn K (He.cT K p).1 (He.cT K p).2 = true
  out : ∀ p ∈ tf, K.lookup (He.cT K p).2 = none
  empty : ∀ p ∈ tf, h.get? (He.cT K p).2 = some { cls := .none, data := .fields #[] }
theorem tabs_out {tf : List He.Defn} {as : List Addr} {h : Heap} (e : He.tabsB h.get? tf (He.frT h.get? as) = true) : TabsOut tf h (He.frT h.get? as) := by
  have key : ∀ p ∈ tf, PySem.W.codeHdIn (He.frT h.get? as) (He.cT (He.frT h.get? as) p).1 (He.cT (He.frT h.get? as) p).2 = true ∧ ∃ o, h.get? (He.cT (He.frT h.get? as) p).2 = some o ∧ He.emptyTab o = true := fun p hp => by
    obtain ⟨u, v⟩ := He.ba (List.all_eq_true.mp e p hp)
    refine ⟨u, ?_⟩
    split at v
    · rename_i o eo
      exact ⟨o, eo, v⟩
    · cases v
  refine ⟨fun p hp => (key p hp).1, fun p hp => ?_, fun p hp => ?_⟩
  · obtain ⟨_, o, eo, et⟩ := key p hp
    exact He.frT_none eo et
  · obtain ⟨_, o, eo, et⟩ := key p hp
    rw [eo, He.emptyTab_eq et]
end Ca
set_option Elab.async false
set_option linter.all false
set_option maxRecDepth 100000
set_option maxHeartbeats 4000000
namespace Ca
open PySem PySem.Spec PyProof.Rows L2
/-! ### what the laws of answers lean on besides -/
def gcdB (K : PySem.W.Frag) : Bool := decide (PySem.W.nsIn K mainGlobals "gcd" = some (some (.builtin "math.gcd")))
def zeA (K : PySem.W.Frag) : Addr := He.ga K "ZERO"
def zeB (K : PySem.W.Frag) : Bool := match K.lookup (zeA K) with
  | some ⟨.type c, _, .seq its _, _⟩ => decide (c = "tuple") && (decide (its.size ≤ sizeLine) && He.relAll [.int 0, .int 1] its.toList)
  | _ => false
theorem gcd_ok {K : PySem.W.Frag} {h : Heap} {mg : Str → Option Value} (X : K.In h) (G : h.Ns mainGlobals mg) (c : gcdB K = true) : mg "gcd" = some (.builtin "math.gcd") := PySem.W.mg_of X G (of_decide_eq_true c)
theorem ze_ok {K : PySem.W.Frag} (h : zeB K = true) (H : Hp) : SqT K H (zeA K) [.int 0, .int 1] := by
  unfold zeB at h
  cases q : K.lookup (zeA K) with
  | none => rw [q] at h; cases h
  | some o =>
    obtain ⟨oc, od, dt, osl⟩ := o
    rw [q] at h
    cases oc with
    | type c =>
      cases dt with
      | seq its n =>
        obtain ⟨h1, h2⟩ := an (show (decide (c = "tuple") && (decide (its.size ≤ sizeLine) && He.relAll [.int 0, .int 1] its.toList)) = true from h)
        obtain ⟨h3, h4⟩ := an h2
        exact .inr ⟨_, its, n, q, congrArg Value.type (of_decide_eq_true h1), rfl, of_decide_eq_true h3, He.relAll_ok h4⟩
      | _ => cases h
    | _ => cases dt <;> cases h
end Ca
set_option Elab.async false
set_option linter.all false
set_option maxRecDepth 100000
set_option maxHeartbeats 4000000
namespace Ca.Det
/-! ### an alternating form of columns of integers -/
abbrev Col : Type := Nat → Int
abbrev Form : Type := List Col → Int
def Lin (n : Nat) (f : Form) : Prop := ∀ (l1 l2 : List Col) (u v w : Col) (a b : Int), l1.length + l2.length + 1 = n → (∀ r, w r = a * u r + b * v r) → f (l1 ++ w :: l2) = a * f (l1 ++ u :: l2) + b * f (l1 ++ v :: l2)
def Alt (n : Nat) (f : Form) : Prop := ∀ (l1 l2 : List Col) (u : Col), l1.length + l2.length + 2 = n → f (l1 ++ u :: u :: l2) = 0
def alt (f : Form) (r : Nat) : List Col → List Col → Int
  | _, [] => 0
  | pre, x :: post => x r * f (pre ++ post) - alt f r (pre ++ [x]) post
def det : Nat → Nat → Form
  | 0, _ => fun _ => 1
  | n + 1, r => fun l => alt (det n (r + 1)) r [] l
theorem alt_pre {n : Nat} {f : Form} (hf : Lin n f) (r : Nat) {u v w : Col} {a b : Int} (hw : ∀ r, w r = a * u r + b * v r) : ∀ (post p1 p2 : List Col), p1.length + p2.length + post.length = n → alt f r (p1 ++ w :: p2) post = a * alt f r (p1 ++ u :: p2) post + b * alt f r (p1 ++ v :: p2) post
  | [], _, _, _ => by simp [alt]
  | x :: post, p1, p2, h => by
    simp only [List.length_cons] at h
    have ih := alt_pre hf r hw post p1 (p2 ++ [x]) (by rw [List.length_append, List.length_singleton]; omega)
    have e := hf p1 (p2 ++ post) u v w a b (by rw [List.length_append]; omega) hw
    simp only [alt, List.append_assoc, List.cons_append] at ih e ⊢
    rw [ih, e]
    grind
theorem alt_post {n : Nat} {f : Form} (hf : Lin n f) (r : Nat) {u v w : Col} {a b : Int} (hw : ∀ r, w r = a * u r + b * v r) (q2 : List Col) : ∀ (q1 pre : List Col), pre.length + q1.length + q2.length = n → alt f r pre (q1 ++ w :: q2) = a * alt f r pre (q1 ++ u :: q2) + b * alt f r pre (q1 ++ v :: q2)
  | [], pre, h => by
    have e := alt_pre hf r hw q2 pre [] (by simpa using h)
    simp only [List.nil_append, alt]
    rw [e, hw r]
    grind
  | x :: q1, pre, h => by
    simp only [List.length_cons] at h
    have ih := alt_post hf r hw q2 q1 (pre ++ [x]) (by rw [List.length_append, List.length_singleton]; omega)
    have e := hf (pre ++ q1) q2 u v w a b (by rw [List.length_append]; omega) hw
    simp only [List.append_assoc] at e
    simp only [List.cons_append, alt]
    rw [ih, e]
    grind
theorem altz_pre {n : Nat} {f : Form} (hf : Alt n f) (r : Nat) (u : Col) : ∀ (post p1 p2 : List Col), p1.length + p2.length + post.length + 1 = n → alt f r (p1 ++ u :: u :: p2) post = 0
  | [], _, _, _ => rfl
  | x :: post, p1, p2, h => by
    simp only [List.length_cons] at h
    have ih := altz_pre hf r u post p1 (p2 ++ [x]) (by rw [List.length_append, List.length_singleton]; omega)
    have e := hf p1 (p2 ++ post) u (by rw [List.length_append]; omega)
    simp only [alt, List.append_assoc, List.cons_append] at ih e ⊢
    rw [ih, e]
    simp
theorem altz_post {n : Nat} {f : Form} (hf : Alt n f) (r : Nat) (u : Col) (q2 : List Col) : ∀ (q1 pre : List Col), pre.length + q1.length + q2.length + 1 = n → alt f r pre (q1 ++ u :: u :: q2) = 0
  | [], pre, h => by
    have e := altz_pre hf r u q2 pre [] (by simpa using h)
    simp only [List.nil_append, alt, List.append_assoc, List.cons_append] at e ⊢
    rw [e]
    omega
  | x :: q1, pre, h => by
    simp only [List.length_cons] at h
    have ih := altz_post hf r u q2 q1 (pre ++ [x]) (by rw [List.length_append, List.length_singleton]; omega)
    have e := hf (pre ++ q1) q2 u (by rw [List.length_append]; omega)
    simp only [List.append_assoc] at e
    simp only [List.cons_append, alt]
    rw [ih, e]
    simp
theorem det_lin : ∀ (n r : Nat), Lin n (det n r)
  | 0, _ => fun l1 l2 u v w a b h => by omega
  | n + 1, r => fun l1 l2 u v w a b h hw => alt_post (det_lin n (r + 1)) r hw l2 l1 [] (by simp only [List.length_nil]; omega)
theorem det_alt : ∀ (n r : Nat), Alt n (det n r)
  | 0, _ => fun l1 l2 u h => by omega
  | n + 1, r => fun l1 l2 u h => altz_post (det_alt n (r + 1)) r u l2 l1 [] (by simp only [List.length_nil]; omega)
/-! ### equal columns anywhere -/
theorem swap {n : Nat} {f : Form} (hl : Lin n f) (ha : Alt n f) (l1 l2 : List Col) (u v : Col) (h : l1.length + l2.length + 2 = n) : f (l1 ++ u :: v :: l2) = - f (l1 ++ v :: u :: l2) := by
  let w : Col := fun r => u r + v r
  have h1 := hl l1 (w :: l2) u v w 1 1 (by simp only [List.length_cons]; omega) (fun r => by show u r + v r = _; omega)
  have h2 := hl (l1 ++ [u]) l2 u v w 1 1 (by simp only [List.length_append, List.length_singleton]; omega) (fun r => by show u r + v r = _; omega)
  have h3 := hl (l1 ++ [v]) l2 u v w 1 1 (by simp only [List.length_append, List.length_singleton]; omega) (fun r => by show u r + v r = _; omega)
  have z0 := ha l1 l2 w h
  have z1 := ha l1 l2 u h
  have z2 := ha l1 l2 v h
  simp only [List.append_assoc, List.singleton_append, List.cons_append, List.nil_append] at h2 h3
  omega
theorem equal_zero {n : Nat} {f : Form} (hl : Lin n f) (ha : Alt n f) (u : Col) (l2 : List Col) : ∀ (mid l1 : List Col), l1.length + mid.length + l2.length + 2 = n → f (l1 ++ u :: (mid ++ u :: l2)) = 0
  | [], l1, h => by
    simp only [List.length_nil] at h
    exact ha l1 l2 u (by omega)
  | x :: mid, l1, h => by
    simp only [List.length_cons] at h
    have s := swap hl ha l1 (mid ++ u :: l2) u x (by simp only [List.length_append, List.length_cons]; omega)
    have ih := equal_zero hl ha u l2 mid (l1 ++ [x]) (by simp only [List.length_append, List.length_singleton]; omega)
    simp only [List.append_assoc, List.singleton_append, List.cons_append, List.nil_append] at ih ⊢
    rw [s, ih]
    rfl
/-! ### by place -/
theorem split_at {α : Type} {l : List α} {i : Nat} {a : α} (h : l[i]? = some a) : ∃ l1 l2, l = l1 ++ a :: l2 ∧ l1.length = i := by
  obtain ⟨hi, e⟩ := List.getElem?_eq_some_iff.mp h
  refine ⟨l.take i, l.drop (i + 1), ?_, by rw [List.length_take]; omega⟩
  rw [← e, ← List.drop_eq_getElem_cons hi, List.take_append_drop]
theorem set_at {α : Type} {l1 l2 : List α} {a b : α} : (l1 ++ a :: l2).set l1.length b = l1 ++ b :: l2 := by
  rw [List.set_append_right _ _ (Nat.le_refl _), Nat.sub_self]
  rfl
section
variable {n r : Nat} {B : List Col}
theorem det_set (hB : B.length = n) {i : Nat} (hi : i < n) {u v w : Col} {a b : Int} (hw : ∀ r, w r = a * u r + b * v r) : det n r (B.set i w) = a * det n r (B.set i u) + b * det n r (B.set i v) := by
  obtain ⟨l1, l2, e, h1⟩ := split_at (List.getElem?_eq_getElem (l := B) (i := i) (by omega))
  subst h1
  rw [e, set_at, set_at, set_at]
  refine det_lin n r l1 l2 u v w a b ?_ hw
  have := congrArg List.length e
  rw [List.length_append, List.length_cons] at this
  omega
theorem det_zero (hB : B.length = n) {i k : Nat} (hk : k < n) (hik : i < k) {u : Col} (h1 : B[i]? = some u) (h2 : B[k]? = some u) : det n r B = 0 := by
  obtain ⟨l1, l2, e, hl⟩ := split_at h1
  have h2' : l2[k - i - 1]? = some u := by
    rw [e, List.getElem?_append_right (by omega), hl] at h2
    rw [show k - i = (k - i - 1) + 1 by omega, List.getElem?_cons_succ] at h2
    exact h2
  obtain ⟨m, l3, e2, hm⟩ := split_at h2'
  subst e2
  rw [e]
  refine equal_zero (det_lin n r) (det_alt n r) u l3 m l1 ?_
  have := congrArg List.length e
  simp only [List.length_append, List.length_cons] at this
  omega
theorem det_same (hB : B.length = n) {i k : Nat} (hi : i < n) (hk : k < n) (hik : i ≠ k) {u : Col} (h : B[k]? = some u) : det n r (B.set i u) = 0 := by
  have g1 : (B.set i u)[i]? = some u := by rw [List.getElem?_set_self (by omega)]
  have g2 : (B.set i u)[k]? = some u := by rw [List.getElem?_set_ne hik]; exact h
  have hl : (B.set i u).length = n := by rw [List.length_set]; exact hB
  rcases Nat.lt_or_gt_of_ne hik with h' | h'
  · exact det_zero hl hk h' g1 g2
  · exact det_zero hl hi h' g2 g1
end
end Ca.Det
set_option Elab.async false
set_option linter.all false
set_option maxRecDepth 100000
set_option maxHeartbeats 4000000
namespace Ca.Det
/-! ### sums of columns -/
def lsum (c : Nat → Int) (f : Col → Int) : Nat → List Col → Int
  | _, [] => 0
  | k, x :: xs => c k * f x + lsum c f (k + 1) xs
theorem lsum_congr {c d : Nat → Int} {f g : Col → Int} : ∀ (xs : List Col) (k : Nat), (∀ i, i < xs.length → ∀ x, xs[i]? = some x → c (k + i) * f x = d (k + i) * g x) → lsum c f k xs = lsum d g k xs
  | [], _, _ => rfl
  | x :: xs, k, h => by
    have h0 := h 0 (Nat.succ_pos _) x rfl
    have ih := lsum_congr (c := c) (d := d) (f := f) (g := g) xs (k + 1) fun i hi y hy => by
      have := h (i + 1) (Nat.succ_lt_succ hi) y (by rw [List.getElem?_cons_succ]; exact hy)
      rw [show k + (i + 1) = k + 1 + i by omega] at this
      exact this
    unfold lsum
    rw [ih]
    have : c k * f x = d k * g x := h0
    omega
theorem lsum_lin {c d e : Nat → Int} {f : Col → Int} {a b : Int} (h : ∀ i, e i = a * c i + b * d i) : ∀ (xs : List Col) (k : Nat), lsum e f k xs = a * lsum c f k xs + b * lsum d f k xs
  | [], _ => by simp [lsum]
  | x :: xs, k => by
    unfold lsum
    rw [lsum_lin h xs (k + 1), h k]
    grind
theorem lsum_one {c : Nat → Int} {f : Col → Int} : ∀ (xs : List Col) (k i : Nat) (b : Col), xs[i]? = some b → (∀ l, l < xs.length → l ≠ i → ∀ x, xs[l]? = some x → c (k + l) * f x = 0) → lsum c f k xs = c (k + i) * f b
  | [], _, _, _, h, _ => by cases h
  | x :: xs, k, 0, b, h, z => by
    cases h
    have : lsum c f (k + 1) xs = lsum (fun _ => 0) f (k + 1) xs := lsum_congr xs (k + 1) fun i hi y hy => by
      have := z (i + 1) (Nat.succ_lt_succ hi) (by omega) y (by rw [List.getElem?_cons_succ]; exact hy)
      rw [show k + (i + 1) = k + 1 + i by omega] at this
      rw [this, Int.zero_mul]
    have zero : ∀ (ys : List Col) (j : Nat), lsum (fun _ => 0) f j ys = 0 := fun ys => by
      induction ys with
      | nil => intro j; rfl
      | cons y ys ih => intro j; unfold lsum; rw [ih]; simp
    unfold lsum
    rw [this, zero]
    simp
  | x :: xs, k, i + 1, b, h, z => by
    rw [List.getElem?_cons_succ] at h
    have h0 := z 0 (Nat.succ_pos _) (by omega) x rfl
    have ih := lsum_one (c := c) (f := f) xs (k + 1) i b h fun l hl n y hy => by
      have := z (l + 1) (Nat.succ_lt_succ hl) (by omega) y (by rw [List.getElem?_cons_succ]; exact hy)
      rw [show k + (l + 1) = k + 1 + l by omega] at this
      exact this
    unfold lsum
    rw [ih, show k + 1 + i = k + (i + 1) by omega]
    have : c k * f x = 0 := h0
    omega
theorem lsum_set {c : Nat → Int} {f : Col → Int} {x b : Col} : ∀ (xs : List Col) (k i : Nat), xs[i]? = some b → lsum c f k (xs.set i x) + c (k + i) * f b = lsum c f k xs + c (k + i) * f x
  | [], _, _, h => by cases h
  | y :: xs, k, 0, h => by
    cases h
    rw [List.set_cons_zero]
    simp only [lsum, Nat.add_zero]
    omega
  | y :: xs, k, i + 1, h => by
    rw [List.getElem?_cons_succ] at h
    have ih := lsum_set (c := c) (f := f) (x := x) xs (k + 1) i h
    rw [show k + 1 + i = k + (i + 1) by omega] at ih
    rw [List.set_cons_succ]
    unfold lsum
    omega
/-- two lists of coefficients that differ at one place -/
theorem lsum_but {c d : Nat → Int} {f : Col → Int} {b : Col} (xs : List Col) (i : Nat) (h : xs[i]? = some b) (e : ∀ l, l ≠ i → c l = d l) : lsum c f 0 xs = lsum d f 0 xs + (c i - d i) * f b := by
  have hl := lsum_lin (c := d) (d := fun l => c l - d l) (e := c) (f := f) (a := 1) (b := 1) (fun l => by omega) xs 0
  have h1 := lsum_one (c := fun l => c l - d l) (f := f) xs 0 i b h fun l hl n y hy => by
    simp only [Nat.zero_add]
    rw [e l n]
    simp
  simp only [Nat.zero_add] at h1
  rw [hl, h1]
  omega
/-- what is linear in a column -/
structure LinF (L : Col → Int) : Prop where
  lin : ∀ (u v w : Col) (a b : Int), (∀ r, w r = a * u r + b * v r) → L w = a * L u + b * L v
theorem LinF.sum {L : Col → Int} (h : LinF L) (c : Nat → Int) : ∀ (xs : List Col) (k : Nat), L (fun r => lsum c (fun x => x r) k xs) = lsum c L k xs
  | [], k => by
    have := h.lin (fun _ => 0) (fun _ => 0) (fun r => lsum c (fun x => x r) k []) 0 0 (fun r => by simp [lsum])
    rw [this]
    simp [lsum]
  | x :: xs, k => by
    have := h.lin x (fun r => lsum c (fun x => x r) (k + 1) xs) (fun r => lsum c (fun x => x r) k (x :: xs)) (c k) 1 (fun r => by show c k * x r + _ = _; omega)
    rw [this, h.sum c xs (k + 1)]
    show _ = c k * L x + _
    omega
theorem LinF.comb {L : Col → Int} (h : LinF L) {c : Nat → Int} {xs : List Col} {a : Int} {w : Col} (e : ∀ r, a * w r = lsum c (fun x => x r) 0 xs) : a * L w = lsum c L 0 xs := by
  rw [← h.sum c xs 0]
  have := h.lin w w (fun r => lsum c (fun x => x r) 0 xs) a 0 (fun r => by rw [← e r]; omega)
  rw [this]
  omega
theorem lin_set {n : Nat} {B : List Col} (hB : B.length = n) {i : Nat} (hi : i < n) : LinF fun w => det n 0 (B.set i w) := ⟨fun u v w a b hw => det_set hB hi hw⟩
theorem set_self {α : Type} {B : List α} {i : Nat} {b : α} (h : B[i]? = some b) : B.set i b = B := by
  apply List.ext_getElem?
  intro k
  by_cases e : i = k
  · subst e
    rw [List.getElem?_set_self (List.getElem?_eq_some_iff.mp h).1, h]
  · rw [List.getElem?_set_ne e]
/-! ### dictionaries: D times a free column is made of the basic ones -/
structure Dic (V : Nat → Col) (M : Nat) (bs fs : List Nat) (T : Nat → Nat → Int) (D : Int) : Prop where
  len : bs.length = M
  pos : 0 < D
  sg : ∃ s : Int, (s = 1 ∨ s = -1) ∧ det M 0 (bs.map V) = s * D
  eqn : ∀ (j q : Nat), fs[j]? = some q → ∀ r, D * V q r = lsum (fun i => T i j) (fun x => x r) 0 (bs.map V)
section
variable {V : Nat → Col} {M : Nat} {bs fs : List Nat} {T : Nat → Nat → Int} {D : Int}
theorem Dic.blen (h : Dic V M bs fs T D) : (bs.map V).length = M := by rw [List.length_map]; exact h.len
theorem Dic.entry (h : Dic V M bs fs T D) {s : Int} (hs : det M 0 (bs.map V) = s * D) {i j q : Nat} (hi : i < M) (hq : fs[j]? = some q) : det M 0 ((bs.map V).set i (V q)) = s * T i j := by
  have hb := h.blen
  obtain ⟨b, hbi⟩ : ∃ b, (bs.map V)[i]? = some b := ⟨_, List.getElem?_eq_getElem (by omega)⟩
  have e := (lin_set hb hi).comb (h.eqn j q hq)
  have e2 := lsum_one (c := fun i => T i j) (f := fun w => det M 0 ((bs.map V).set i w)) (bs.map V) 0 i b hbi fun l hl n x hx => by
    show _ * det M 0 ((bs.map V).set i x) = 0
    rw [det_same hb hi (by omega) (Ne.symm n) hx]
    simp
  simp only [Nat.zero_add] at e2
  rw [e2, set_self hbi, hs] at e
  have hp := h.pos
  have : D * det M 0 ((bs.map V).set i (V q)) = D * (s * T i j) := by rw [e]; grind
  exact Int.eq_of_mul_eq_mul_left (by omega) this
/-- exchanging two places turns the sign -/
theorem det_turn {B : List Col} (hB : B.length = M) {i k : Nat} (hi : i < M) (hk : k < M) (n : i ≠ k) (u w : Col) : det M 0 ((B.set i u).set k w) = - det M 0 ((B.set i w).set k u) := by
  have c : ∀ x y : Col, (B.set i x).set k y = (B.set k y).set i x := fun x y => List.set_comm x y n
  have lA : ∀ x, (B.set i x).length = M := fun x => by rw [List.length_set]; exact hB
  have lB : ∀ x, (B.set k x).length = M := fun x => by rw [List.length_set]; exact hB
  have zero : ∀ x, det M 0 ((B.set i x).set k x) = 0 := fun x => det_same (lA x) hk hi (Ne.symm n) (by rw [List.getElem?_set_self (by omega)])
  let z : Col := fun r => u r + w r
  have hz : ∀ r, z r = 1 * u r + 1 * w r := fun r => by show u r + w r = _; omega
  have e1 := det_set (r := 0) (lA z) hk hz
  have e2 := det_set (r := 0) (lB u) hi hz
  have e3 := det_set (r := 0) (lB w) hi hz
  rw [← c, ← c, ← c] at e2
  rw [← c, ← c, ← c] at e3
  have z0 := zero z
  have z1 := zero u
  have z2 := zero w
  omega
/-- the division behind an exchange leaves no rest -/
theorem Dic.exact (h : Dic V M bs fs T D) {i0 i j0 j q0 q : Nat} (hi0 : i0 < M) (hi : i < M) (n : i ≠ i0) (hq0 : fs[j0]? = some q0) (hq : fs[j]? = some q) : ∃ X : Int, D * X = T i0 j0 * T i j - T i j0 * T i0 j := by
  have hb := h.blen
  obtain ⟨s, hs1, hs⟩ := h.sg
  obtain ⟨b, hbi⟩ : ∃ b, (bs.map V)[i]? = some b := ⟨_, List.getElem?_eq_getElem (by omega)⟩
  obtain ⟨b0, hb0⟩ : ∃ b, (bs.map V)[i0]? = some b := ⟨_, List.getElem?_eq_getElem (by omega)⟩
  have hA : ((bs.map V).set i (V q)).length = M := by rw [List.length_set]; exact hb
  have e := (lin_set hA hi0).comb (h.eqn j0 q0 hq0)
  have c0 : (fun k => T k j0) i0 = T i0 j0 := rfl
  -- all other columns stand there twice
  have e2 := lsum_but (c := fun k => T k j0) (d := fun k => if k = i0 then 0 else T k j0) (f := fun w => det M 0 (((bs.map V).set i (V q)).set i0 w)) (bs.map V) i0 hb0 (fun l hl => by simp only [if_neg hl])
  have e3 := lsum_one (c := fun k => if k = i0 then 0 else T k j0) (f := fun w => det M 0 (((bs.map V).set i (V q)).set i0 w)) (bs.map V) 0 i b hbi fun l hl nl x hx => by
    simp only [Nat.zero_add]
    by_cases g : l = i0
    · simp only [if_pos g]
      simp
    · rw [det_same hA hi0 (by omega) (Ne.symm g) (by rw [List.getElem?_set_ne (Ne.symm nl)]; exact hx)]
      simp
  simp only [Nat.zero_add, if_neg n, if_pos] at e3
  have s0 : ((bs.map V).set i (V q)).set i0 b0 = (bs.map V).set i (V q) := set_self (by rw [List.getElem?_set_ne n]; exact hb0)
  have s1 := det_turn hb hi hi0 n (V q) b
  rw [set_self hbi] at s1
  have t1 := h.entry hs hi hq
  have t2 := h.entry hs hi0 hq
  rw [e2, e3] at e
  simp only [if_pos] at e
  rw [s0, s1, t1, t2] at e
  refine ⟨s * det M 0 (((bs.map V).set i (V q)).set i0 (V q0)), ?_⟩
  have ss : s * s = 1 := by rcases hs1 with rfl | rfl <;> rfl
  have : D * (s * det M 0 (((bs.map V).set i (V q)).set i0 (V q0))) = s * (D * det M 0 (((bs.map V).set i (V q)).set i0 (V q0))) := by grind
  rw [this, e]
  grind
end
end Ca.Det
set_option Elab.async false
set_option linter.all false
set_option maxRecDepth 100000
set_option maxHeartbeats 4000000
namespace Ca.Det
/-! ### an exchange -/
def exch (T : Nat → Nat → Int) (D : Int) (i0 j0 : Nat) : Nat → Nat → Int := fun i j =>
  if i = i0 then (if j = j0 then D else T i0 j) else if j = j0 then - T i j0 else (T i0 j0 * T i j - T i j0 * T i0 j) / D
def sgn (p : Int) : Int := if p > 0 then 1 else -1
theorem sgn_pos {p : Int} (h : p ≠ 0) : 0 < sgn p * p := by
  unfold sgn
  split
  · omega
  · omega
theorem sgn_sq (p : Int) : sgn p * sgn p = 1 := by
  unfold sgn
  split <;> rfl
theorem sgn_one (p : Int) : sgn p = 1 ∨ sgn p = -1 := by
  unfold sgn
  split
  · exact .inl rfl
  · exact .inr rfl
theorem lsum_but2 {c d : Nat → Int} {f : Col → Int} {b : Col} (xs : List Col) (i : Nat) (h : xs[i]? = some b) (e : ∀ l, l < xs.length → l ≠ i → c l = d l) : lsum c f 0 xs = lsum d f 0 xs + (c i - d i) * f b := by
  have h1 : lsum c f 0 xs = lsum (fun l => if l = i then c i else d l) f 0 xs := lsum_congr xs 0 fun l hl x hx => by
    simp only [Nat.zero_add]
    by_cases g : l = i
    · rw [if_pos g, g]
    · rw [if_neg g, e l hl g]
  have h2 := lsum_but (c := fun l => if l = i then c i else d l) (d := d) (f := f) xs i h (fun l n => if_neg n)
  simp only [if_pos] at h2
  rw [h1, h2]
theorem lsum_mul {c : Nat → Int} {f : Col → Int} (a : Int) (xs : List Col) (k : Nat) : lsum (fun i => a * c i) f k xs = a * lsum c f k xs := by
  have := lsum_lin (c := c) (d := c) (e := fun i => a * c i) (f := f) (a := a) (b := 0) (fun i => by omega) xs k
  rw [this]
  omega
section
variable {V : Nat → Col} {M : Nat} {bs fs : List Nat} {T : Nat → Nat → Int} {D : Int}
theorem Dic.quot (h : Dic V M bs fs T D) {i0 i j0 j q0 q : Nat} (hi0 : i0 < M) (hi : i < M) (n : i ≠ i0) (nj : j ≠ j0) (hq0 : fs[j0]? = some q0) (hq : fs[j]? = some q) : D * exch T D i0 j0 i j = T i0 j0 * T i j - T i j0 * T i0 j := by
  obtain ⟨X, e⟩ := h.exact hi0 hi n hq0 hq
  unfold exch
  rw [if_neg n, if_neg nj, ← e, Int.mul_ediv_cancel_left _ (by have := h.pos; omega)]
theorem Dic.step (h : Dic V M bs fs T D) {i0 j0 q0 b0 : Nat} (hq0 : fs[j0]? = some q0) (hb0 : bs[i0]? = some b0) (hp : T i0 j0 ≠ 0) :
    Dic V M (bs.set i0 q0) (fs.set j0 b0) (fun i j => sgn (T i0 j0) * exch T D i0 j0 i j) (sgn (T i0 j0) * T i0 j0) := by
  have hi0 : i0 < M := by rw [← h.len]; exact (List.getElem?_eq_some_iff.mp hb0).1
  have hb := h.blen
  have hB0 : (bs.map V)[i0]? = some (V b0) := by rw [List.getElem?_map, hb0]; rfl
  have hD := h.pos
  refine ⟨by rw [List.length_set]; exact h.len, sgn_pos hp, ?_, fun j q hq r => ?_⟩
  · obtain ⟨s, hs1, hs⟩ := h.sg
    have e := h.entry hs hi0 hq0
    refine ⟨s * sgn (T i0 j0), ?_, ?_⟩
    · rcases hs1 with rfl | rfl <;> rcases sgn_one (T i0 j0) with g | g <;> rw [g] <;> decide
    · rw [List.map_set, e]
      have := sgn_sq (T i0 j0)
      grind
  · rw [lsum_mul, List.map_set]
    have s1 := lsum_set (c := fun i => exch T D i0 j0 i j) (f := fun x => x r) (x := V q0) (bs.map V) 0 i0 hB0
    simp only [Nat.zero_add] at s1
    have e0 := h.eqn j0 q0 hq0 r
    have key : lsum (fun i => exch T D i0 j0 i j) (fun x => x r) 0 ((bs.map V).set i0 (V q0)) = T i0 j0 * V q r := by
      by_cases g : j = j0
      · subst g
        have qe : q = b0 := by
          rw [List.getElem?_set_self (List.getElem?_eq_some_iff.mp hq0).1] at hq
          exact (Option.some.inj hq).symm
        subst qe
        have b1 := lsum_but2 (c := fun i => exch T D i0 j i j) (d := fun i => -1 * T i j) (f := fun x => x r) (bs.map V) i0 hB0 fun l hl n => by
          show exch T D i0 j l j = _
          unfold exch
          rw [if_neg n, if_pos rfl]
          omega
        have b2 := lsum_mul (c := fun i => T i j) (f := fun x => x r) (-1) (bs.map V) 0
        have x0 : exch T D i0 j i0 j = D := by
          unfold exch
          rw [if_pos rfl, if_pos rfl]
        simp only [x0] at b1 s1
        rw [b2, ← e0] at b1
        grind
      · have hq' : fs[j]? = some q := by rw [List.getElem?_set_ne (Ne.symm g)] at hq; exact hq
        have ej := h.eqn j q hq' r
        have b1 := lsum_but2 (c := fun i => D * exch T D i0 j0 i j) (d := fun i => T i0 j0 * T i j + (- T i0 j) * T i j0) (f := fun x => x r) (bs.map V) i0 hB0 fun l hl n => by
          show D * exch T D i0 j0 l j = _
          rw [h.quot hi0 (by omega) n g hq0 hq']
          grind
        have b2 := lsum_lin (c := fun i => T i j) (d := fun i => T i j0) (e := fun i => T i0 j0 * T i j + (- T i0 j) * T i j0) (f := fun x => x r) (a := T i0 j0) (b := - T i0 j) (fun i => rfl) (bs.map V) 0
        have b3 := lsum_mul (c := fun i => exch T D i0 j0 i j) (f := fun x => x r) D (bs.map V) 0
        have x0 : exch T D i0 j0 i0 j = T i0 j := by
          unfold exch
          rw [if_pos rfl, if_neg g]
        simp only [x0] at b1 s1
        rw [b2, b3, ← ej, ← e0] at b1
        have : D * lsum (fun i => exch T D i0 j0 i j) (fun x => x r) 0 (bs.map V) = D * (T i0 j0 * V q r - T i0 j * V q0 r + T i0 j * V b0 r) := by
          rw [b1]
          grind
        have c := Int.eq_of_mul_eq_mul_left (by omega) this
        rw [c] at s1
        omega
    rw [key]
    grind
end
end Ca.Det
set_option Elab.async false
set_option linter.all false
set_option maxRecDepth 100000
set_option maxHeartbeats 4000000
namespace Ca.Det
/-! ### sums over quantities -/
def fsum (g : Nat → Nat → Int) : Nat → List Nat → Int
  | _, [] => 0
  | k, q :: l => g k q + fsum g (k + 1) l
theorem fsum_app (g : Nat → Nat → Int) (G : Nat) : ∀ (l : List Nat) (k : Nat), fsum g k (l ++ [G]) = fsum g k l + g (k + l.length) G
  | [], k => by simp [fsum]
  | q :: l, k => by
    have ih := fsum_app g G l (k + 1)
    simp only [List.cons_append, fsum, List.length_cons]
    rw [ih, show k + 1 + l.length = k + (l.length + 1) by omega]
    omega
theorem fsum_congr {g h : Nat → Nat → Int} : ∀ (l : List Nat) (k : Nat), (∀ j q, l[j]? = some q → g (k + j) q = h (k + j) q) → fsum g k l = fsum h k l
  | [], _, _ => rfl
  | q :: l, k, e => by
    have e0 := e 0 q rfl
    have ih := fsum_congr (g := g) (h := h) l (k + 1) fun j p hp => by
      have := e (j + 1) p (by rw [List.getElem?_cons_succ]; exact hp)
      rw [show k + (j + 1) = k + 1 + j by omega] at this
      exact this
    simp only [Nat.add_zero] at e0
    simp only [fsum]
    rw [ih, e0]
theorem fsum_nonneg {g : Nat → Nat → Int} : ∀ (l : List Nat) (k : Nat), (∀ j q, l[j]? = some q → 0 ≤ g (k + j) q) → 0 ≤ fsum g k l
  | [], _, _ => Int.le_refl 0
  | q :: l, k, e => by
    have e0 := e 0 q rfl
    have ih := fsum_nonneg (g := g) l (k + 1) fun j p hp => by
      have := e (j + 1) p (by rw [List.getElem?_cons_succ]; exact hp)
      rw [show k + (j + 1) = k + 1 + j by omega] at this
      exact this
    simp only [Nat.add_zero] at e0
    simp only [fsum]
    omega
theorem fsum_pos {g : Nat → Nat → Int} : ∀ (l : List Nat) (k i p : Nat), l[i]? = some p → 0 < g (k + i) p → (∀ j q, l[j]? = some q → 0 ≤ g (k + j) q) → 0 < fsum g k l
  | [], _, _, _, h, _, _ => by cases h
  | q :: l, k, 0, p, h, pos, e => by
    cases h
    have ih := fsum_nonneg (g := g) l (k + 1) fun j p hp => by
      have := e (j + 1) p (by rw [List.getElem?_cons_succ]; exact hp)
      rw [show k + (j + 1) = k + 1 + j by omega] at this
      exact this
    simp only [Nat.add_zero] at pos
    simp only [fsum]
    omega
  | q :: l, k, i + 1, p, h, pos, e => by
    have e0 := e 0 q rfl
    rw [List.getElem?_cons_succ] at h
    rw [show k + (i + 1) = k + 1 + i by omega] at pos
    have ih := fsum_pos (g := g) l (k + 1) i p h pos fun j p hp => by
      have := e (j + 1) p (by rw [List.getElem?_cons_succ]; exact hp)
      rw [show k + (j + 1) = k + 1 + j by omega] at this
      exact this
    simp only [Nat.add_zero] at e0
    simp only [fsum]
    omega
def msum (g : Nat → Int) : List Nat → Int
  | [] => 0
  | q :: l => g q + msum g l
theorem msum_perm {g : Nat → Int} {l l' : List Nat} (h : l.Perm l') : msum g l = msum g l' := by
  induction h with
  | nil => rfl
  | cons x _ ih => simp only [msum, ih]
  | swap x y l => simp only [msum]; omega
  | trans _ _ ih1 ih2 => rw [ih1, ih2]
theorem msum_app (g : Nat → Int) : ∀ l l' : List Nat, msum g (l ++ l') = msum g l + msum g l'
  | [], l' => by simp [msum]
  | q :: l, l' => by simp only [List.cons_append, msum]; rw [msum_app g l l']; omega
theorem fsum_msum (g : Nat → Int) : ∀ (l : List Nat) (k : Nat), fsum (fun _ q => g q) k l = msum g l
  | [], _ => rfl
  | q :: l, k => by simp only [fsum, msum]; rw [fsum_msum g l (k + 1)]
theorem msum_mul (g : Nat → Int) (a : Int) : ∀ l : List Nat, msum (fun q => a * g q) l = a * msum g l
  | [] => by simp [msum]
  | q :: l => by simp only [msum]; rw [msum_mul g a l]; grind
/-! ### what all dictionaries agree upon -/
def Ker (V : Nat → Col) (x : Nat → Int) (l : List Nat) : Prop := ∀ r, msum (fun q => x q * V q r) l = 0
section
variable {V : Nat → Col} {M : Nat} {bs fs : List Nat} {T : Nat → Nat → Int} {D : Int} {x : Nat → Int}
theorem lsum_bs (V : Nat → Col) (x : Nat → Int) (D : Int) (r : Nat) (c : Nat → Int) : ∀ (bs : List Nat) (k : Nat), (∀ i b, bs[i]? = some b → c (k + i) = D * x b) → lsum c (fun y => y r) k (bs.map V) = D * msum (fun q => x q * V q r) bs
  | [], _, _ => by simp [lsum, msum]
  | b :: bs, k, h => by
    have h0 := h 0 b rfl
    have ih := lsum_bs V x D r c bs (k + 1) fun i b' hb => by
      have := h (i + 1) b' (by rw [List.getElem?_cons_succ]; exact hb)
      rw [show k + (i + 1) = k + 1 + i by omega] at this
      exact this
    simp only [Nat.add_zero] at h0
    simp only [List.map_cons, lsum, msum]
    rw [ih, h0]
    grind
theorem lsum_fs (x : Nat → Int) (r : Nat) (Bm : List Col) : ∀ (fs : List Nat) (k : Nat), (∀ j q, fs[j]? = some q → D * V q r = lsum (fun i => T i (k + j)) (fun y => y r) 0 Bm) →
    lsum (fun i => fsum (fun j q => T i j * x q) k fs) (fun y => y r) 0 Bm = D * msum (fun q => x q * V q r) fs
  | [], _, _ => by
    have := lsum_mul (c := fun _ => 0) (f := fun y : Col => y r) 0 Bm 0
    simp only [fsum, msum]
    simpa using this
  | q :: fs, k, h => by
    have h0 := h 0 q rfl
    have ih := lsum_fs x r Bm fs (k + 1) fun j p hp => by
      have := h (j + 1) p (by rw [List.getElem?_cons_succ]; exact hp)
      rw [show k + (j + 1) = k + 1 + j by omega] at this
      exact this
    simp only [Nat.add_zero] at h0
    have e := lsum_lin (c := fun i => T i k) (d := fun i => fsum (fun j q => T i j * x q) (k + 1) fs) (e := fun i => fsum (fun j q => T i j * x q) k (q :: fs)) (f := fun y => y r) (a := x q) (b := 1) (fun i => by simp only [fsum]; grind) Bm 0
    rw [e, ih, ← h0]
    simp only [msum]
    grind
theorem Dic.row (h : Dic V M bs fs T D) (hx : Ker V x (bs ++ fs)) {i b : Nat} (hb : bs[i]? = some b) : D * x b + fsum (fun j q => T i j * x q) 0 fs = 0 := by
  have hi : i < M := by rw [← h.len]; exact (List.getElem?_eq_some_iff.mp hb).1
  have hB := h.blen
  have hbi : (bs.map V)[i]? = some (V b) := by rw [List.getElem?_map, hb]; rfl
  let c : Nat → Int := fun l => D * x (bs.getD l 0) + fsum (fun j q => T l j * x q) 0 fs
  have zero : ∀ r, 1 * (fun _ => 0 : Col) r = lsum c (fun y => y r) 0 (bs.map V) := fun r => by
    have e := lsum_lin (c := fun l => D * x (bs.getD l 0)) (d := fun l => fsum (fun j q => T l j * x q) 0 fs) (e := c) (f := fun y => y r) (a := 1) (b := 1) (fun l => by show D * _ + _ = _; omega) (bs.map V) 0
    have e1 := lsum_bs V x D r (fun l => D * x (bs.getD l 0)) bs 0 fun l b' hl => by
      simp only [Nat.zero_add, List.getD_eq_getElem?_getD, hl, Option.getD_some]
    have e2 := lsum_fs (V := V) (T := T) (D := D) x r (bs.map V) fs 0 fun j q hq => by
      simp only [Nat.zero_add]
      exact h.eqn j q hq r
    have k := hx r
    rw [msum_app] at k
    rw [e, e1, e2]
    grind
  have L := lin_set hB hi
  have e := L.comb zero
  have z : det M 0 ((bs.map V).set i (fun _ => 0 : Col)) = 0 := by
    have := L.lin (V b) (V b) (fun _ => 0) 0 0 (fun r => by simp)
    rw [this]
    omega
  have e2 := lsum_one (c := c) (f := fun w => det M 0 ((bs.map V).set i w)) (bs.map V) 0 i (V b) hbi fun l hl n y hy => by
    show _ * det M 0 ((bs.map V).set i y) = 0
    rw [det_same hB hi (by omega) (Ne.symm n) hy]
    simp
  simp only [Nat.zero_add] at e2
  rw [e2, z, set_self hbi] at e
  obtain ⟨s, hs1, hs⟩ := h.sg
  have hD := h.pos
  rw [hs] at e
  have nz : s * D ≠ 0 := by rcases hs1 with rfl | rfl <;> omega
  have ci : c i = 0 := by
    have e' : c i * (s * D) = 0 := by omega
    rcases Int.mul_eq_zero.mp e' with g | g
    · exact g
    · exact absurd g nz
  have : c i = D * x b + fsum (fun j q => T i j * x q) 0 fs := by
    show D * x (bs.getD i 0) + _ = _
    simp only [List.getD_eq_getElem?_getD, hb, Option.getD_some]
  omega
/-- a free quantity, the basic ones behind it -/
def plc (q : Nat) : Nat → List Nat → Option Nat
  | _, [] => none
  | k, b :: l => if b = q then some k else plc q (k + 1) l
theorem plc_some {q : Nat} : ∀ (l : List Nat) (k i : Nat), l.Nodup → l[i]? = some q → plc q k l = some (k + i)
  | [], _, _, _, h => by cases h
  | b :: l, k, 0, _, h => by
    cases h
    simp [plc]
  | b :: l, k, i + 1, nd, h => by
    rw [List.getElem?_cons_succ] at h
    obtain ⟨n1, n2⟩ := List.nodup_cons.mp nd
    have ih := plc_some (q := q) l (k + 1) i n2 h
    unfold plc
    rw [if_neg (fun z => n1 (by rw [z]; exact List.mem_of_getElem? h)), ih]
    congr 1
    omega
theorem plc_none {q : Nat} : ∀ (l : List Nat) (k : Nat), q ∉ l → plc q k l = none
  | [], _, _ => rfl
  | b :: l, k, h => by
    unfold plc
    rw [if_neg (fun z => h (by rw [z]; exact List.mem_cons_self ..)), plc_none l (k + 1) fun z => h (List.mem_cons_of_mem _ z)]
theorem Dic.col (h : Dic V M bs fs T D) (nd : (bs ++ fs).Nodup) {j f : Nat} (hf : fs[j]? = some f) : ∃ x : Nat → Int, Ker V x (bs ++ fs) ∧ x f = D ∧ (∀ i b, bs[i]? = some b → x b = - T i j) ∧ (∀ l q, fs[l]? = some q → l ≠ j → x q = 0) := by
  obtain ⟨n1, n2, n3⟩ := List.nodup_append.mp nd
  let x : Nat → Int := fun q => if q = f then D else match plc q 0 bs with | some i => - T i j | none => 0
  have hfm := List.mem_of_getElem? hf
  have xb : ∀ i b, bs[i]? = some b → x b = - T i j := fun i b hb => by
    have ne : b ≠ f := n3 b (List.mem_of_getElem? hb) f hfm
    show (if b = f then D else match plc b 0 bs with | some i => - T i j | none => 0) = _
    rw [if_neg ne, plc_some bs 0 i n1 hb]
    simp
  have xf : x f = D := by
    show (if f = f then D else _) = _
    rw [if_pos rfl]
  have xo : ∀ l q, fs[l]? = some q → l ≠ j → x q = 0 := fun l q hq nl => by
    have ne : q ≠ f := fun z => by
      rw [z] at hq
      have l1 := (List.getElem?_eq_some_iff.mp hq).1
      exact nl ((List.getElem?_inj l1 n2).mp (by rw [hq, hf]))
    show (if q = f then D else match plc q 0 bs with | some i => - T i j | none => 0) = _
    rw [if_neg ne, plc_none bs 0 (fun z => n3 q z q (List.mem_of_getElem? hq) rfl)]
  refine ⟨x, fun r => ?_, xf, xb, xo⟩
  rw [msum_app]
  have e1 := lsum_bs V x 1 r (fun i => -1 * T i j) bs 0 fun i b hb => by
    simp only [Nat.zero_add]
    rw [xb i b hb]
    omega
  have e2 := lsum_mul (c := fun i => T i j) (f := fun y => y r) (-1) (bs.map V) 0
  have e3 := h.eqn j f hf r
  have e4 : msum (fun q => x q * V q r) fs = D * V f r := by
    have single : ∀ (l : List Nat) (k : Nat), l[k]? = some f → (∀ i q, l[i]? = some q → i ≠ k → x q = 0) → msum (fun q => x q * V q r) l = D * V f r := by
      intro l
      induction l with
      | nil => intro k hk; cases hk
      | cons q l ih =>
        intro k hk hz
        cases k with
        | zero =>
          cases hk
          have zz : ∀ (l : List Nat), (∀ q ∈ l, x q = 0) → msum (fun q => x q * V q r) l = 0 := by
            intro l
            induction l with
            | nil => intro _; rfl
            | cons q l ih => intro h; simp only [msum]; rw [h q (List.mem_cons_self ..), ih fun p hp => h p (List.mem_cons_of_mem _ hp)]; simp
          simp only [msum]
          rw [zz l fun p hp => by
            obtain ⟨i, hi⟩ := List.mem_iff_getElem?.mp hp
            exact hz (i + 1) p (by rw [List.getElem?_cons_succ]; exact hi) (by omega)]
          rw [xf]
          omega
        | succ k =>
          rw [List.getElem?_cons_succ] at hk
          have h0 := hz 0 q rfl (by omega)
          have := ih k hk fun i p hp n => hz (i + 1) p (by rw [List.getElem?_cons_succ]; exact hp) (by omega)
          simp only [msum]
          rw [h0, this]
          omega
    exact single fs j hf xo
  rw [e2] at e1
  rw [e4]
  omega
end
end Ca.Det
set_option Elab.async false
set_option linter.all false
set_option maxRecDepth 100000
set_option maxHeartbeats 4000000
namespace Ca.Det
/-! ### the criss-cross method -/
structure Sta where
  bs : List Nat
  fs : List Nat
  T : Nat → Nat → Int
  D : Int
/-- m limits, n amounts, the quantities 0 to m + n - 1; the costs are m + n, the bounds m + n + 1 -/
structure Ok (V : Nat → Col) (m n : Nat) (S : Sta) : Prop where
  bl : S.bs.length = m
  fl : S.fs.length = n
  pm : (S.bs ++ S.fs).Perm (List.range (m + n))
  dic : Dic V (m + 1) (S.bs ++ [m + n]) (S.fs ++ [m + n + 1]) S.T S.D
def Wrong (m n : Nat) (S : Sta) (q : Nat) : Prop := (∃ i, S.bs[i]? = some q ∧ S.T i n < 0) ∨ (∃ j, S.fs[j]? = some q ∧ S.T m j < 0)
def exSta (S : Sta) (i j b f : Nat) : Sta := ⟨S.bs.set i f, S.fs.set j b, fun k l => sgn (S.T i j) * exch S.T S.D i j k l, sgn (S.T i j) * S.T i j⟩
/-- the exchange of a basic quantity and a free one: by rows, or by columns -/
def ByRow (m n : Nat) (S : Sta) (i j b f : Nat) : Prop := S.T i n < 0 ∧ S.T i j < 0 ∧ (∀ q, Wrong m n S q → b ≤ q) ∧ ∀ l q, S.fs[l]? = some q → S.T i l < 0 → f ≤ q
def ByCol (m n : Nat) (S : Sta) (i j b f : Nat) : Prop := S.T m j < 0 ∧ 0 < S.T i j ∧ (∀ q, Wrong m n S q → f ≤ q) ∧ ∀ l q, S.bs[l]? = some q → 0 < S.T l j → b ≤ q
structure Step (m n : Nat) (S S' : Sta) (i j b f : Nat) : Prop where
  hb : S.bs[i]? = some b
  hf : S.fs[j]? = some f
  way : ByRow m n S i j b f ∨ ByCol m n S i j b f
  to : S' = exSta S i j b f
section
variable {V : Nat → Col} {m n : Nat} {S S' : Sta} {i j b f : Nat}
theorem Ok.nd (h : Ok V m n S) : (S.bs ++ S.fs).Nodup := h.pm.nodup_iff.mpr List.nodup_range
theorem Ok.lt (h : Ok V m n S) {q : Nat} (hq : q ∈ S.bs ++ S.fs) : q < m + n := List.mem_range.mp (h.pm.mem_iff.mp hq)
theorem Ok.mem (h : Ok V m n S) {q : Nat} (hq : q < m + n) : q ∈ S.bs ∨ q ∈ S.fs := List.mem_append.mp (h.pm.mem_iff.mpr (List.mem_range.mpr hq))
theorem Ok.apart (h : Ok V m n S) {q : Nat} (hb : q ∈ S.bs) (hf : q ∈ S.fs) : False := (List.nodup_append.mp h.nd).2.2 q hb q hf rfl
theorem Ok.bsnd (h : Ok V m n S) : S.bs.Nodup := (List.nodup_append.mp h.nd).1
theorem Ok.fsnd (h : Ok V m n S) : S.fs.Nodup := (List.nodup_append.mp h.nd).2.1
theorem Ok.allPerm (h : Ok V m n S) : ((S.bs ++ [m + n]) ++ (S.fs ++ [m + n + 1])).Perm (List.range (m + n) ++ [m + n, m + n + 1]) := by
  have e : ((S.bs ++ [m + n]) ++ (S.fs ++ [m + n + 1])).Perm ((S.bs ++ S.fs) ++ ([m + n] ++ [m + n + 1])) := by
    rw [List.append_assoc, List.append_assoc]
    refine List.Perm.append_left _ ?_
    rw [← List.append_assoc, ← List.append_assoc]
    exact List.Perm.append_right _ List.perm_append_comm
  exact e.trans (List.Perm.append_right _ h.pm)
theorem Ok.allNd (h : Ok V m n S) : ((S.bs ++ [m + n]) ++ (S.fs ++ [m + n + 1])).Nodup := by
  refine h.allPerm.nodup_iff.mpr ?_
  refine List.nodup_append.mpr ⟨List.nodup_range, by simp, fun a ha b hb => ?_⟩
  have := List.mem_range.mp ha
  simp only [List.mem_cons, List.not_mem_nil, or_false] at hb
  omega
theorem perm_exchange {α : Type} {l1 l2 : List α} {i j : Nat} {a c : α} (h1 : l1[i]? = some a) (h2 : l2[j]? = some c) : (l1.set i c ++ l2.set j a).Perm (l1 ++ l2) := by
  obtain ⟨p1, p2, rfl, rfl⟩ := split_at h1
  obtain ⟨q1, q2, rfl, rfl⟩ := split_at h2
  rw [set_at, set_at]
  have mv : ∀ (x : α) (u v : List α), (u ++ x :: v).Perm (x :: (u ++ v)) := fun x u v => List.perm_middle
  refine ((mv c p1 p2).append (mv a q1 q2)).trans (List.Perm.trans ?_ ((mv a p1 p2).append (mv c q1 q2)).symm)
  rw [List.cons_append, List.cons_append]
  refine (List.Perm.cons c List.perm_middle).trans ((List.Perm.swap a c _).trans (List.Perm.cons a List.perm_middle.symm))
theorem Ok.step (h : Ok V m n S) (s : Step m n S S' i j b f) : Ok V m n S' := by
  obtain ⟨hb, hf, way, rfl⟩ := s
  have hi := (List.getElem?_eq_some_iff.mp hb).1
  have hj := (List.getElem?_eq_some_iff.mp hf).1
  refine ⟨by show (S.bs.set i f).length = m; rw [List.length_set]; exact h.bl, by show (S.fs.set j b).length = n; rw [List.length_set]; exact h.fl, (perm_exchange hb hf).trans h.pm, ?_⟩
  have hb' : (S.bs ++ [m + n])[i]? = some b := by rw [List.getElem?_append_left hi]; exact hb
  have hf' : (S.fs ++ [m + n + 1])[j]? = some f := by rw [List.getElem?_append_left hj]; exact hf
  have hp : S.T i j ≠ 0 := by
    rcases way with ⟨_, g, _⟩ | ⟨_, g, _⟩ <;> omega
  have d := h.dic.step hf' hb' hp
  rw [List.set_append_left _ _ hi, List.set_append_left _ _ hj] at d
  exact d
/-! ### signs where k comes in, and where it goes out -/
/-- from a state in which k is the next to leave: a vector that all rows of all states agree upon -/
theorem leaves (h : Ok V m n S) (s : Step m n S S' i j b f) : ∃ y : Nat → Int, Ker V y (List.range (m + n) ++ [m + n, m + n + 1]) ∧ y b < 0 ∧ (∀ q, q < m + n → q < b → 0 ≤ y q) ∧ (∀ q, q ∈ S.fs → b < q → (f ≤ b → y q = 0)) ∧
    ((y (m + n) = S.T m n ∧ y (m + n + 1) = - S.D ∧ (∀ q, Wrong m n S q → b ≤ q) ∧ ∀ q ∈ S.fs, y q = 0) ∨ (0 < y (m + n) ∧ y (m + n + 1) = 0)) := by
  have hD := h.dic.pos
  have hi := (List.getElem?_eq_some_iff.mp s.hb).1
  have hj := (List.getElem?_eq_some_iff.mp s.hf).1
  have bx : ∀ {l q : Nat}, S.bs[l]? = some q → (S.bs ++ [m + n])[l]? = some q := fun {l q} e => by rw [List.getElem?_append_left (List.getElem?_eq_some_iff.mp e).1]; exact e
  have fx : ∀ {l q : Nat}, S.fs[l]? = some q → (S.fs ++ [m + n + 1])[l]? = some q := fun {l q} e => by rw [List.getElem?_append_left (List.getElem?_eq_some_iff.mp e).1]; exact e
  have bF : (S.bs ++ [m + n])[m]? = some (m + n) := by rw [List.getElem?_append_right (by rw [h.bl]; exact Nat.le_refl _), h.bl, Nat.sub_self]; rfl
  have fG : (S.fs ++ [m + n + 1])[n]? = some (m + n + 1) := by rw [List.getElem?_append_right (by rw [h.fl]; exact Nat.le_refl _), h.fl, Nat.sub_self]; rfl
  have fl := h.fl
  rcases s.way with ⟨w1, w2, w3, w4⟩ | ⟨w1, w2, w3, w4⟩
  · obtain ⟨x, kx, x1, x2, x3⟩ := h.dic.col h.allNd fG
    refine ⟨fun q => - x q, fun r => ?_, ?_, fun q hq hk => ?_, fun q hq _ _ => ?_, .inl ⟨?_, ?_, w3, fun q hq => ?_⟩⟩
    · have := kx r
      rw [msum_perm h.allPerm] at this
      have e := msum_mul (fun q => x q * V q r) (-1) (List.range (m + n) ++ [m + n, m + n + 1])
      rw [this] at e
      have : (fun q => - x q * V q r) = (fun q => -1 * (x q * V q r)) := funext fun q => by grind
      rw [this, e]
      rfl
    · show - x b < 0
      rw [x2 i b (bx s.hb)]
      omega
    · show 0 ≤ - x q
      rcases h.mem hq with hm | hm
      · obtain ⟨l, hl⟩ := List.mem_iff_getElem?.mp hm
        rw [x2 l q (bx hl)]
        by_cases g : S.T l n < 0
        · have := w3 q (.inl ⟨l, hl, g⟩)
          omega
        · omega
      · obtain ⟨l, hl⟩ := List.mem_iff_getElem?.mp hm
        have := (List.getElem?_eq_some_iff.mp hl).1
        rw [x3 l q (fx hl) (by omega)]
        omega
    · show - x q = 0
      obtain ⟨l, hl⟩ := List.mem_iff_getElem?.mp hq
      have := (List.getElem?_eq_some_iff.mp hl).1
      rw [x3 l q (fx hl) (by omega)]
      rfl
    · show - x (m + n) = _
      rw [x2 m (m + n) bF]
      omega
    · show - x (m + n + 1) = _
      rw [x1]
    · show - x q = 0
      obtain ⟨l, hl⟩ := List.mem_iff_getElem?.mp hq
      have := (List.getElem?_eq_some_iff.mp hl).1
      rw [x3 l q (fx hl) (by omega)]
      rfl
  · obtain ⟨x, kx, x1, x2, x3⟩ := h.dic.col h.allNd (fx s.hf)
    refine ⟨x, fun r => ?_, ?_, fun q hq hk => ?_, fun q hq hk hfb => ?_, .inr ⟨?_, ?_⟩⟩
    · have := kx r
      rw [msum_perm h.allPerm] at this
      exact this
    · rw [x2 i b (bx s.hb)]
      omega
    · rcases h.mem hq with hm | hm
      · obtain ⟨l, hl⟩ := List.mem_iff_getElem?.mp hm
        rw [x2 l q (bx hl)]
        by_cases g : 0 < S.T l j
        · have := w4 l q hl g
          omega
        · omega
      · obtain ⟨l, hl⟩ := List.mem_iff_getElem?.mp hm
        by_cases g : l = j
        · rw [g, s.hf] at hl
          rw [← Option.some.inj hl, x1]
          omega
        · rw [x3 l q (fx hl) g]
          omega
    · obtain ⟨l, hl⟩ := List.mem_iff_getElem?.mp hq
      refine x3 l q (fx hl) fun z => ?_
      rw [z, s.hf] at hl
      have := Option.some.inj hl
      omega
    · rw [x2 m (m + n) bF]
      omega
    · exact x3 n _ fG (by omega)
end
end Ca.Det
set_option Elab.async false
set_option linter.all false
set_option maxRecDepth 100000
set_option maxHeartbeats 4000000
namespace Ca.Det
section
variable {V : Nat → Col} {m n : Nat} {S S' S1 S1' : Sta} {i j b i' j' f' k : Nat}
theorem Ok.ker (h : Ok V m n S) {y : Nat → Int} (hy : Ker V y (List.range (m + n) ++ [m + n, m + n + 1])) : Ker V y ((S.bs ++ [m + n]) ++ (S.fs ++ [m + n + 1])) := fun r => by
  rw [msum_perm h.allPerm]
  exact hy r
theorem Ok.bat (h : Ok V m n S) {l q : Nat} (e : S.bs[l]? = some q) : (S.bs ++ [m + n])[l]? = some q := by rw [List.getElem?_append_left (List.getElem?_eq_some_iff.mp e).1]; exact e
theorem Ok.fat (h : Ok V m n S) {l q : Nat} (e : S.fs[l]? = some q) : (S.fs ++ [m + n + 1])[l]? = some q := by rw [List.getElem?_append_left (List.getElem?_eq_some_iff.mp e).1]; exact e
theorem Ok.bF (h : Ok V m n S) : (S.bs ++ [m + n])[m]? = some (m + n) := by rw [List.getElem?_append_right (by rw [h.bl]; exact Nat.le_refl _), h.bl, Nat.sub_self]; rfl
theorem Ok.fG (h : Ok V m n S) : (S.fs ++ [m + n + 1])[n]? = some (m + n + 1) := by rw [List.getElem?_append_right (by rw [h.fl]; exact Nat.le_refl _), h.fl, Nat.sub_self]; rfl
/-- the amounts that a state tells -/
theorem Ok.atG (h : Ok V m n S) : ∃ y : Nat → Int, Ker V y (List.range (m + n) ++ [m + n, m + n + 1]) ∧ (∀ l q, S.bs[l]? = some q → y q = S.T l n) ∧ y (m + n) = S.T m n ∧ y (m + n + 1) = - S.D ∧ ∀ q ∈ S.fs, y q = 0 := by
  obtain ⟨x, kx, x1, x2, x3⟩ := h.dic.col h.allNd h.fG
  refine ⟨fun q => - x q, fun r => ?_, fun l q hl => ?_, ?_, ?_, fun q hq => ?_⟩
  · have := kx r
    rw [msum_perm h.allPerm] at this
    have e := msum_mul (fun q => x q * V q r) (-1) (List.range (m + n) ++ [m + n, m + n + 1])
    rw [this] at e
    have : (fun q => - x q * V q r) = (fun q => -1 * (x q * V q r)) := funext fun q => by grind
    rw [this, e]
    rfl
  · show - x q = _
    rw [x2 l q (h.bat hl)]
    omega
  · show - x (m + n) = _
    rw [x2 m (m + n) h.bF]
    omega
  · show - x (m + n + 1) = _
    rw [x1]
  · show - x q = 0
    obtain ⟨l, hl⟩ := List.mem_iff_getElem?.mp hq
    have := (List.getElem?_eq_some_iff.mp hl).1
    have fl := h.fl
    rw [x3 l q (h.fat hl) (by omega)]
    rfl
theorem Ok.rowAt (h : Ok V m n S) {y : Nat → Int} (hy : Ker V y (List.range (m + n) ++ [m + n, m + n + 1])) {i b : Nat} (hb : (S.bs ++ [m + n])[i]? = some b) : S.D * y b + fsum (fun j q => S.T i j * y q) 0 S.fs + S.T i n * y (m + n + 1) = 0 := by
  have e := h.dic.row (h.ker hy) hb
  rw [fsum_app, Nat.zero_add, h.fl] at e
  omega
theorem clash (h : Ok V m n S) (s : Step m n S S1 i j b k) (h' : Ok V m n S') (s' : Step m n S' S1' i' j' k f') (hbk : b ≤ k) (hfk : f' ≤ k) (e1 : ∀ q, k < q → q ∈ S.fs → q ∈ S'.fs) (e2 : ∀ q, k < q → q ∈ S'.fs → q ∈ S.fs) : False := by
  have hD := h.dic.pos
  have hD' := h'.dic.pos
  have kf : k ∈ S.fs := List.mem_of_getElem? s.hf
  have kb' : k ∈ S'.bs := List.mem_of_getElem? s'.hb
  have bb : b ∈ S.bs := List.mem_of_getElem? s.hb
  have bne : b ≠ k := fun z => h.apart (q := k) (by rw [← z]; exact bb) kf
  have ltq : ∀ {q : Nat}, q ∈ S.fs → q < m + n := fun hq => h.lt (List.mem_append_right _ hq)
  have ltb : b < m + n := h.lt (List.mem_append_left _ bb)
  obtain ⟨y, ky, yk, ylo, yhi, yG⟩ := leaves h' s'
  have uniq : ∀ l, S.fs[l]? = some k → l = j := fun l hl => by
    have l1 := (List.getElem?_eq_some_iff.mp hl).1
    exact (List.getElem?_inj l1 h.fsnd).mp (by rw [hl, s.hf])
  -- the sum over the free ones
  have sum : ∀ t : Nat, S.T t j < 0 → (∀ l q, S.fs[l]? = some q → q < k → 0 ≤ S.T t l) → 0 < fsum (fun j q => S.T t j * y q) 0 S.fs := fun t ht hq => by
    refine fsum_pos S.fs 0 j k s.hf ?_ fun l q hl => ?_
    · rw [Nat.zero_add]
      exact Int.mul_pos_of_neg_of_neg ht yk
    · rw [Nat.zero_add]
      have qf := List.mem_of_getElem? hl
      rcases Nat.lt_trichotomy q k with g | g | g
      · exact Int.mul_nonneg (hq l q hl g) (ylo q (ltq qf) g)
      · rw [g] at hl ⊢
        rw [uniq l hl]
        exact Int.le_of_lt (Int.mul_pos_of_neg_of_neg ht yk)
      · rw [yhi q (e1 q g qf) g hfk]
        simp
  rcases s.way with ⟨w1, w2, w3, w4⟩ | ⟨w1, w2, w3, w4⟩
  · have e := h.rowAt ky (h.bat s.hb)
    have p := sum i w2 fun l q hl g => by
      by_cases z : S.T i l < 0
      · have := w4 l q hl z
        omega
      · omega
    have y0 : 0 ≤ S.D * y b := Int.mul_nonneg (by omega) (ylo b ltb (by omega))
    have g0 : 0 ≤ S.T i n * y (m + n + 1) := by
      rcases yG with ⟨_, g, _⟩ | ⟨_, g⟩
      · rw [g]
        exact Int.le_of_lt (Int.mul_pos_of_neg_of_neg w1 (by omega))
      · rw [g]
        simp
    omega
  · have e := h.rowAt ky h.bF
    have p := sum m w1 fun l q hl g => by
      by_cases z : S.T m l < 0
      · have := w3 q (.inr ⟨l, hl, z⟩)
        omega
      · omega
    rcases yG with ⟨gF, gG, gw, gz⟩ | ⟨gF, gG⟩
    · obtain ⟨z, kz, zb, zF, zG, zf⟩ := h.atG
      have e' := h'.rowAt kz h'.bF
      have p' : 0 ≤ fsum (fun j q => S'.T m j * z q) 0 S'.fs := fsum_nonneg S'.fs 0 fun l q hl => by
        rw [Nat.zero_add]
        have qf := List.mem_of_getElem? hl
        have qlt := h'.lt (List.mem_append_right S'.bs qf)
        rcases Nat.lt_trichotomy q k with g | g | g
        · refine Int.mul_nonneg ?_ ?_
          · by_cases w : S'.T m l < 0
            · have := gw q (.inr ⟨l, hl, w⟩)
              omega
            · omega
          · rcases h.mem qlt with hm | hm
            · obtain ⟨l2, hl2⟩ := List.mem_iff_getElem?.mp hm
              rw [zb l2 q hl2]
              by_cases w : S.T l2 n < 0
              · have := w3 q (.inl ⟨l2, hl2, w⟩)
                omega
              · omega
            · rw [zf q hm]
              exact Int.le_refl 0
        · exact absurd qf fun w => h'.apart (by rw [g]; exact kb') w
        · rw [zf q (e2 q g qf)]
          simp
      rw [gF, gG] at e
      rw [zF, zG] at e'
      have c1 : S.D * S'.T m n = S'.T m n * S.D := Int.mul_comm _ _
      have c2 : S'.D * S.T m n = S.T m n * S'.D := Int.mul_comm _ _
      have c3 : S.T m n * -S'.D = -(S.T m n * S'.D) := Int.mul_neg _ _
      have c4 : S'.T m n * -S.D = -(S'.T m n * S.D) := Int.mul_neg _ _
      omega
    · rw [gG] at e
      have : 0 < S.D * y (m + n) := Int.mul_pos hD gF
      have : S.T m n * 0 = 0 := Int.mul_zero _
      omega
end
/-! ### no state comes back -/
def Moved (s : Nat → Sta) (a c q : Nat) : Prop := ∃ u, a ≤ u ∧ u < c ∧ ¬ (q ∈ (s u).bs ↔ q ∈ (s (u + 1)).bs)
theorem set_mem {α : Type} {l : List α} {i : Nat} {a c q : α} (nd : l.Nodup) (h : l[i]? = some a) : q ∈ l.set i c ↔ (q = c ∨ (q ∈ l ∧ q ≠ a)) := by
  obtain ⟨l1, l2, rfl, rfl⟩ := split_at h
  rw [set_at]
  obtain ⟨n1, n2, n3⟩ := List.nodup_append.mp nd
  obtain ⟨n4, n5⟩ := List.nodup_cons.mp n2
  simp only [List.mem_append, List.mem_cons]
  constructor
  · rintro (g | g | g)
    · exact .inr ⟨.inl g, n3 q g a (List.mem_cons_self ..)⟩
    · exact .inl g
    · exact .inr ⟨.inr (.inr g), fun z => n4 (by rw [← z]; exact g)⟩
  · rintro (g | ⟨g | g | g, ne⟩)
    · exact .inr (.inl g)
    · exact .inl g
    · exact absurd g ne
    · exact .inr (.inr g)
theorem flip_back {p : Nat → Prop} {a c : Nat} (h : p a ↔ p c) {u : Nat} (h1 : a ≤ u) (h2 : u < c) (h3 : ¬ (p u ↔ p (u + 1))) : (∃ v, a ≤ v ∧ v < c ∧ p v ∧ ¬ p (v + 1)) ∧ (∃ v, a ≤ v ∧ v < c ∧ ¬ p v ∧ p (v + 1)) := by
  have down : (¬ ∃ v, a ≤ v ∧ v < c ∧ ¬ p v ∧ p (v + 1)) → ∀ d v, a ≤ v → v + d ≤ c → ¬ p v → ¬ p (v + d) := fun no d => by
    induction d with
    | zero => intro v _ _ h; exact h
    | succ d ih =>
      intro v hv hc h z
      have := ih v hv (by omega) h
      exact no ⟨v + d, by omega, by omega, this, z⟩
  have up : (¬ ∃ v, a ≤ v ∧ v < c ∧ p v ∧ ¬ p (v + 1)) → ∀ d v, a ≤ v → v + d ≤ c → p v → p (v + d) := fun no d => by
    induction d with
    | zero => intro v _ _ h; exact h
    | succ d ih =>
      intro v hv hc h
      have := ih v hv (by omega) h
      exact Classical.byContradiction fun z => no ⟨v + d, by omega, by omega, this, z⟩
  refine ⟨Classical.byContradiction fun no => ?_, Classical.byContradiction fun no => ?_⟩
  · by_cases pu : p u
    · exact h3 ⟨fun _ => Classical.byContradiction fun z => no ⟨u, h1, h2, pu, z⟩, fun _ => pu⟩
    · have pu1 : p (u + 1) := Classical.byContradiction fun z => h3 ⟨fun w => absurd w pu, fun w => absurd w z⟩
      have pc := up no (c - (u + 1)) (u + 1) (by omega) (by omega) pu1
      rw [show u + 1 + (c - (u + 1)) = c by omega] at pc
      have pa := h.mpr pc
      have := up no (u - a) a (Nat.le_refl _) (by omega) pa
      rw [show a + (u - a) = u by omega] at this
      exact pu this
  · by_cases pu : p u
    · have pu1 : ¬ p (u + 1) := fun z => h3 ⟨fun _ => z, fun _ => pu⟩
      have pc := down no (c - (u + 1)) (u + 1) (by omega) (by omega) pu1
      rw [show u + 1 + (c - (u + 1)) = c by omega] at pc
      have pa : ¬ p a := fun z => pc (h.mp z)
      have := down no (u - a) a (Nat.le_refl _) (by omega) pa
      rw [show a + (u - a) = u by omega] at this
      exact this pu
    · exact h3 ⟨fun w => absurd w pu, fun w => absurd ⟨u, h1, h2, pu, w⟩ no⟩
theorem greatest {p : Nat → Prop} : ∀ (N : Nat), (∃ q, q < N ∧ p q) → ∃ k, k < N ∧ p k ∧ ∀ q, q < N → p q → q ≤ k
  | 0, ⟨q, h, _⟩ => absurd h (Nat.not_lt_zero _)
  | N + 1, ⟨q, h, hq⟩ => by
    by_cases g : p N
    · exact ⟨N, Nat.lt_succ_self _, g, fun q hq _ => Nat.le_of_lt_succ hq⟩
    · have : q ≠ N := fun z => g (z ▸ hq)
      obtain ⟨k, k1, k2, k3⟩ := greatest N ⟨q, by omega, hq⟩
      refine ⟨k, by omega, k2, fun r hr pr => ?_⟩
      have : r ≠ N := fun z => g (z ▸ pr)
      exact k3 r (by omega) pr
theorem no_cycle {V : Nat → Col} {m n : Nat} {s : Nat → Sta} {a c : Nat} (hac : a < c) (ok : ∀ u, u ≤ c → Ok V m n (s u)) (st : ∀ u, u < c → ∃ i j b f, Step m n (s u) (s (u + 1)) i j b f) (same : ∀ q, q < m + n → (q ∈ (s a).bs ↔ q ∈ (s c).bs)) : False := by
  -- what a step moves
  have mv : ∀ u i j b f, u < c → Step m n (s u) (s (u + 1)) i j b f → (b ∈ (s u).bs ∧ ¬ b ∈ (s (u + 1)).bs) ∧ (¬ f ∈ (s u).bs ∧ f ∈ (s (u + 1)).bs) ∧ ∀ q, q ≠ b → q ≠ f → (q ∈ (s u).bs ↔ q ∈ (s (u + 1)).bs) := fun u i j b f hu t => by
    have o := ok u (by omega)
    have fb : ¬ f ∈ (s u).bs := fun z => o.apart z (List.mem_of_getElem? t.hf)
    have bb := List.mem_of_getElem? t.hb
    have e : ∀ q, q ∈ (s (u + 1)).bs ↔ (q = f ∨ (q ∈ (s u).bs ∧ q ≠ b)) := fun q => by
      rw [t.to]
      exact set_mem o.bsnd t.hb
    refine ⟨⟨bb, fun z => ?_⟩, ⟨fb, (e f).mpr (.inl rfl)⟩, fun q q1 q2 => ?_⟩
    · rcases (e b).mp z with g | g
      · exact fb (g ▸ bb)
      · exact g.2 rfl
    · rw [e q]
      exact ⟨fun z => .inr ⟨z, q1⟩, fun z => z.elim (fun g => absurd g q2) fun g => g.1⟩
  obtain ⟨k, kN, km, kx⟩ : ∃ k, k < m + n ∧ Moved s a c k ∧ ∀ q, q < m + n → Moved s a c q → q ≤ k := by
    refine greatest (m + n) ?_
    obtain ⟨i, j, b, f, t⟩ := st a hac
    obtain ⟨⟨b1, b2⟩, _, _⟩ := mv a i j b f hac t
    exact ⟨b, (ok a (by omega)).lt (List.mem_append_left _ b1), a, Nat.le_refl _, hac, fun z => b2 (z.mp b1)⟩
  have moved_le : ∀ u i j b f, a ≤ u → u < c → Step m n (s u) (s (u + 1)) i j b f → b ≤ k ∧ f ≤ k := fun u i j b f ha hu t => by
    obtain ⟨⟨b1, b2⟩, ⟨f1, f2⟩, _⟩ := mv u i j b f hu t
    have o := ok u (by omega)
    exact ⟨kx b (o.lt (List.mem_append_left _ b1)) ⟨u, ha, hu, fun z => b2 (z.mp b1)⟩, kx f (o.lt (List.mem_append_right _ (List.mem_of_getElem? t.hf))) ⟨u, ha, hu, fun z => f1 (z.mpr f2)⟩⟩
  -- what is greater stays
  have stay : ∀ q, k < q → q < m + n → ∀ d, a + d ≤ c → (q ∈ (s a).bs ↔ q ∈ (s (a + d)).bs) := fun q hq hl d => by
    induction d with
    | zero => intro _; exact Iff.rfl
    | succ d ih =>
      intro hd
      refine (ih (by omega)).trans (Classical.byContradiction fun z => ?_)
      have := kx q hl ⟨a + d, by omega, by omega, z⟩
      omega
  have stay2 : ∀ q, k < q → q < m + n → ∀ u v, a ≤ u → u ≤ c → a ≤ v → v ≤ c → (q ∈ (s u).bs ↔ q ∈ (s v).bs) := fun q hq hl u v hu hu' hv hv' => by
    have x := stay q hq hl (u - a) (by omega)
    have y := stay q hq hl (v - a) (by omega)
    rw [show a + (u - a) = u by omega] at x
    rw [show a + (v - a) = v by omega] at y
    exact x.symm.trans y
  obtain ⟨w, w1, w2, w3⟩ := km
  obtain ⟨⟨v, v1, v2, v3, v4⟩, ⟨u, u1, u2, u3, u4⟩⟩ := flip_back (p := fun t => k ∈ (s t).bs) (same k kN) w1 w2 w3
  obtain ⟨i, j, b, f, t⟩ := st u u2
  obtain ⟨i', j', b', f', t'⟩ := st v v2
  have fk : f = k := by
    obtain ⟨⟨x1, x2⟩, _, x3⟩ := mv u i j b f u2 t
    by_cases g : k = b
    · exact absurd u4 (by rw [g]; exact x2)
    · by_cases g2 : k = f
      · exact g2.symm
      · exact absurd ((x3 k g g2).mpr u4) u3
  have bk : b' = k := by
    obtain ⟨_, ⟨x1, x2⟩, x3⟩ := mv v i' j' b' f' v2 t'
    by_cases g : k = f'
    · exact absurd v3 (by rw [g]; exact x1)
    · by_cases g2 : k = b'
      · exact g2.symm
      · exact absurd ((x3 k g2 g).mp v3) v4
  subst fk
  subst bk
  have o1 := ok u (by omega)
  have o2 := ok v (by omega)
  refine clash o1 t o2 t' (moved_le u i j b _ u1 u2 t).1 (moved_le v i' j' _ f' v1 v2 t').2 (fun q hq hf => ?_) (fun q hq hf => ?_)
  · have hl := o1.lt (List.mem_append_right _ hf)
    rcases o2.mem hl with g | g
    · exact absurd ((stay2 q hq hl u v u1 (by omega) v1 (by omega)).mpr g) fun z => o1.apart z hf
    · exact g
  · have hl := o2.lt (List.mem_append_right _ hf)
    rcases o1.mem hl with g | g
    · exact absurd ((stay2 q hq hl u v u1 (by omega) v1 (by omega)).mp g) fun z => o2.apart z hf
    · exact g
end Ca.Det
set_option Elab.async false
set_option linter.all false
set_option maxRecDepth 100000
set_option maxHeartbeats 4000000
namespace Ca.Det
/-! ### so it ends -/
theorem pigeon : ∀ (N t : Nat) (f : Nat → Nat), N ≤ t → (∀ u, u ≤ t → f u < N) → ∃ a c, a < c ∧ c ≤ t ∧ f a = f c
  | 0, t, f, _, h => absurd (h 0 (Nat.zero_le _)) (Nat.not_lt_zero _)
  | N + 1, t, f, hN, h => by
    by_cases g : ∃ u, u ≤ t ∧ f u = N
    · obtain ⟨u0, h0, e0⟩ := g
      by_cases pr : ∃ u, u ≤ t ∧ u ≠ u0 ∧ f u = N
      · obtain ⟨u, hu, ne, e⟩ := pr
        rcases Nat.lt_or_gt_of_ne ne with g | g
        · exact ⟨u, u0, g, h0, by rw [e, e0]⟩
        · exact ⟨u0, u, g, hu, by rw [e, e0]⟩
      · obtain ⟨a, c, h1, h2, h3⟩ := pigeon N (t - 1) (fun u => f (if u < u0 then u else u + 1)) (by omega) fun u hu => by
          show f (if u < u0 then u else u + 1) < N
          have hle : (if u < u0 then u else u + 1) ≤ t := by split <;> omega
          have hne : (if u < u0 then u else u + 1) ≠ u0 := by split <;> omega
          have := h _ hle
          have : f (if u < u0 then u else u + 1) ≠ N := fun z => pr ⟨_, hle, hne, z⟩
          omega
        refine ⟨if a < u0 then a else a + 1, if c < u0 then c else c + 1, ?_, ?_, h3⟩
        · split <;> split <;> omega
        · split <;> omega
    · exact pigeon N t f (by omega) fun u hu => by
        have := h u hu
        have : f u ≠ N := fun z => g ⟨u, hu, z⟩
        omega
open Classical in
noncomputable def mask (p : Nat → Prop) : Nat → Nat
  | 0 => 0
  | N + 1 => mask p N + if p N then 2 ^ N else 0
theorem mask_lt (p : Nat → Prop) : ∀ N, mask p N < 2 ^ N
  | 0 => by
    show 0 < 1
    decide
  | N + 1 => by
    have := mask_lt p N
    unfold mask
    rw [Nat.pow_succ]
    split <;> omega
theorem mask_inj {p r : Nat → Prop} : ∀ N, mask p N = mask r N → ∀ q, q < N → (p q ↔ r q)
  | 0, _, q, h => absurd h (Nat.not_lt_zero _)
  | N + 1, e, q, h => by
    have a := mask_lt p N
    have b := mask_lt r N
    unfold mask at e
    have top : p N ↔ r N := by
      by_cases g1 : p N <;> by_cases g2 : r N
      · exact ⟨fun _ => g2, fun _ => g1⟩
      · rw [if_pos g1, if_neg g2] at e
        omega
      · rw [if_neg g1, if_pos g2] at e
        omega
      · exact ⟨fun z => absurd z g1, fun z => absurd z g2⟩
    by_cases g : q = N
    · rw [g]
      exact top
    · refine mask_inj N ?_ q (by omega)
      by_cases g1 : p N
      · rw [if_pos g1, if_pos (top.mp g1)] at e
        omega
      · rw [if_neg g1, if_neg (fun z => g1 (top.mpr z))] at e
        omega
/-- behind so many exchanges -/
structure Reach (V : Nat → Col) (m n : Nat) (S0 : Sta) (t : Nat) (S : Sta) : Prop where
  ex : ∃ s : Nat → Sta, s 0 = S0 ∧ s t = S ∧ (∀ u, u ≤ t → Ok V m n (s u)) ∧ ∀ u, u < t → ∃ i j b f, Step m n (s u) (s (u + 1)) i j b f
section
variable {V : Nat → Col} {m n t : Nat} {S0 S S' : Sta}
theorem Reach.start (h : Ok V m n S0) : Reach V m n S0 0 S0 := ⟨fun _ => S0, rfl, rfl, fun _ _ => h, fun u hu => absurd hu (Nat.not_lt_zero _)⟩
theorem Reach.ok (h : Reach V m n S0 t S) : Ok V m n S := by
  obtain ⟨s, _, rfl, o, _⟩ := h.ex
  exact o t (Nat.le_refl _)
theorem Reach.step (h : Reach V m n S0 t S) {i j b f : Nat} (x : Step m n S S' i j b f) : Reach V m n S0 (t + 1) S' := by
  have o' := h.ok.step x
  obtain ⟨s, e0, rfl, o, st⟩ := h.ex
  refine ⟨fun u => if u ≤ t then s u else S', ?_, ?_, fun u hu => ?_, fun u hu => ?_⟩
  · simp only [Nat.zero_le, if_true]
    exact e0
  · show (if t + 1 ≤ t then _ else S') = S'
    rw [if_neg (by omega)]
  · show Ok V m n (if u ≤ t then s u else S')
    split
    · exact o u (by assumption)
    · exact o'
  · show ∃ i j b f, Step m n (if u ≤ t then s u else S') (if u + 1 ≤ t then s (u + 1) else S') i j b f
    rw [if_pos (by omega)]
    by_cases g : u + 1 ≤ t
    · rw [if_pos g]
      exact st u (by omega)
    · rw [if_neg g]
      have : u = t := by omega
      subst this
      exact ⟨i, j, b, f, x⟩
theorem Reach.bound (h : Reach V m n S0 t S) : t < 2 ^ (m + n) := by
  obtain ⟨s, _, _, o, st⟩ := h.ex
  refine Nat.lt_of_not_le fun g => ?_
  obtain ⟨a, c, h1, h2, h3⟩ := pigeon (2 ^ (m + n)) t (fun u => mask (fun q => q ∈ (s u).bs) (m + n)) g fun u _ => mask_lt _ _
  exact no_cycle h1 (fun u hu => o u (by omega)) (fun u hu => st u (by omega)) (mask_inj (m + n) h3)
/-! ### the first state -/
theorem det_unit : ∀ (k r : Nat) (E : Nat → Col), (∀ i l, i < k → l < k → E i (r + l) = if i = l then 1 else 0) → det k r ((List.range k).map E) = 1
  | 0, _, _, _ => rfl
  | k + 1, r, E, h => by
    have step : ∀ (post pre : List Nat), (∀ q ∈ post, E q r = 0) → alt (det k (r + 1)) r (pre.map E) (post.map E) = 0 := fun post => by
      induction post with
      | nil => intro pre _; rfl
      | cons q post ih =>
        intro pre hz
        have := ih (pre ++ [q]) fun p hp => hz p (List.mem_cons_of_mem _ hp)
        simp only [List.map_append, List.map_cons, List.map_nil] at this
        simp only [List.map_cons, alt]
        rw [this, hz q (List.mem_cons_self ..)]
        simp
    show alt (det k (r + 1)) r [] ((List.range (k + 1)).map E) = 1
    rw [List.range_succ_eq_map, List.map_cons, List.map_map]
    have ih := det_unit k (r + 1) (E ∘ Nat.succ) fun i l hi hl => by
      have := h (i + 1) (l + 1) (by omega) (by omega)
      show E (i + 1) (r + 1 + l) = _
      rw [show r + 1 + l = r + (l + 1) by omega, this]
      by_cases g : i = l
      · rw [if_pos g, if_pos (by omega)]
      · rw [if_neg g, if_neg (by omega)]
    have z := step ((List.range k).map Nat.succ) [0] fun q hq => by
      obtain ⟨l, hl, rfl⟩ := List.mem_map.mp hq
      have := h (l + 1) 0 (by have := List.mem_range.mp hl; omega) (by omega)
      exact this.trans (if_neg (by omega))
    have h0 := h 0 0 (by omega) (by omega)
    simp only [Nat.add_zero, if_true] at h0
    rw [List.map_map] at z
    simp only [List.map_cons, List.map_nil] at z
    simp only [alt, List.nil_append]
    rw [ih, z, h0]
    rfl
end
end Ca.Det
set_option Elab.async false
set_option linter.all false
set_option maxRecDepth 100000
set_option maxHeartbeats 4000000
namespace Ca.Det
/-! ### limits and costs -/
/-- the columns: amounts 0 to n - 1, what is left of each limit n to n + m - 1, the costs m + n, the bounds m + n + 1 -/
def colV (m n : Nat) (A : Nat → Nat → Int) (b c : Nat → Int) : Nat → Col := fun q r =>
  if q < n then (if r < m then A r q else if r = m then c q else 0) else if q ≤ m + n then (if r = q - n then 1 else 0) else (if r < m then b r else 0)
def T0 (m n : Nat) (A : Nat → Nat → Int) (b c : Nat → Int) : Nat → Nat → Int := fun i j => if i < m then (if j < n then A i j else b i) else (if j < n then c j else 0)
def S0 (m n : Nat) (A : Nat → Nat → Int) (b c : Nat → Int) : Sta := ⟨(List.range m).map (n + ·), List.range n, T0 m n A b c, 1⟩
theorem lsum_unit (E : Nat → Col) (c : Nat → Int) (r : Nat) : ∀ (k s : Nat), (∀ i, E i r = if r = i then 1 else 0) → lsum c (fun x => x r) s ((List.range' s k).map E) = if s ≤ r ∧ r < s + k then c r else 0
  | 0, s, _ => by
    show 0 = _
    rw [if_neg (by omega)]
  | k + 1, s, h => by
    have ih := lsum_unit E c r k (s + 1) h
    rw [List.range'_succ, List.map_cons]
    show c s * E s r + lsum c (fun x => x r) (s + 1) ((List.range' (s + 1) k).map E) = _
    rw [ih, h s]
    by_cases g : r = s
    · rw [if_pos g, if_neg (by omega), if_pos (by omega), g]
      omega
    · rw [if_neg g]
      by_cases g2 : s + 1 ≤ r ∧ r < s + 1 + k
      · rw [if_pos g2, if_pos (by omega)]
        omega
      · rw [if_neg g2, if_neg (by omega)]
        omega
section
variable {m n : Nat} {A : Nat → Nat → Int} {b c : Nat → Int}
theorem bs0 : (S0 m n A b c).bs ++ [m + n] = (List.range (m + 1)).map (n + ·) := by
  show (List.range m).map (n + ·) ++ [m + n] = _
  rw [List.range_succ, List.map_append, Nat.add_comm m n]
  rfl
theorem unitV (i r : Nat) (hi : i < m + 1) : colV m n A b c (n + i) r = if r = i then 1 else 0 := by
  unfold colV
  rw [if_neg (by omega), if_pos (by omega), Nat.add_sub_cancel_left]
theorem ok0 : Ok (colV m n A b c) m n (S0 m n A b c) := by
  refine ⟨by show ((List.range m).map _).length = m; rw [List.length_map, List.length_range], by show (List.range n).length = n; rw [List.length_range], ?_, ?_⟩
  · show ((List.range m).map (n + ·) ++ List.range n).Perm _
    rw [Nat.add_comm m n, List.range_add]
    exact List.perm_append_comm
  · refine ⟨by rw [bs0, List.length_map, List.length_range], by show (0 : Int) < 1; decide, ⟨1, .inl rfl, ?_⟩, fun j q hq r => ?_⟩
    · rw [bs0, List.map_map]
      have := det_unit (m + 1) 0 (colV m n A b c ∘ fun x => n + x) fun i l hi hl => by
        show colV m n A b c (n + i) (0 + l) = _
        rw [unitV i _ hi, Nat.zero_add]
        by_cases g : l = i
        · rw [if_pos g, if_pos g.symm]
        · rw [if_neg g, if_neg (Ne.symm g)]
      rw [this]
      rfl
    · rw [bs0, List.map_map]
      -- beyond the rows all is 0
      have e : lsum (fun i => T0 m n A b c i j) (fun x => x r) 0 ((List.range (m + 1)).map (colV m n A b c ∘ fun x => n + x)) = if r < m + 1 then T0 m n A b c r j else 0 := by
        have e1 : ((List.range (m + 1)).map (colV m n A b c ∘ fun x => n + x)) = (List.range' 0 (m + 1)).map (fun i r => if r = i then (1 : Int) else 0) := by
          rw [List.range_eq_range']
          refine List.map_congr_left fun i hi => ?_
          have := List.mem_range'_1.mp hi
          exact funext fun r => unitV i r (by omega)
        rw [e1, lsum_unit (fun i r => if r = i then (1 : Int) else 0) _ r (m + 1) 0 fun i => rfl]
        simp
      show 1 * colV m n A b c q r = lsum (fun i => T0 m n A b c i j) (fun x => x r) 0 _
      rw [e]
      have hq' : (List.range n ++ [m + n + 1])[j]? = some q := hq
      by_cases hj : j < n
      · rw [List.getElem?_append_left (by rw [List.length_range]; exact hj), List.getElem?_range hj] at hq'
        obtain rfl := Option.some.inj hq'
        unfold colV T0
        rw [if_pos hj]
        by_cases g : r < m
        · simp only [if_pos g, if_pos hj, if_pos (show r < m + 1 by omega)]
          omega
        · by_cases g2 : r = m
          · simp only [if_neg g, if_pos g2, if_pos hj, if_pos (show r < m + 1 by omega)]
            omega
          · simp only [if_neg g, if_neg g2, if_neg (show ¬ r < m + 1 by omega)]
            rfl
      · rw [List.getElem?_append_right (by rw [List.length_range]; omega), List.length_range] at hq'
        have : j = n := by
          have := (List.getElem?_eq_some_iff.mp hq').1
          simp only [List.length_singleton] at this
          omega
        subst this
        rw [Nat.sub_self] at hq'
        obtain rfl := Option.some.inj hq'
        unfold colV T0
        rw [if_neg (by omega), if_neg (by omega)]
        by_cases g : r < m
        · simp only [if_pos g, if_neg hj, if_pos (show r < m + 1 by omega)]
          omega
        · by_cases g2 : r < m + 1
          · simp only [if_neg g, if_neg hj, if_pos g2]
            rfl
          · simp only [if_neg g, if_neg g2]
            rfl
end
end Ca.Det
set_option Elab.async false
set_option linter.all false
set_option maxRecDepth 100000
set_option maxHeartbeats 4000000
namespace Ca.Det
/-! ### what a state tells of limits and costs -/
theorem msum_zero {g : Nat → Int} : ∀ l : List Nat, (∀ q ∈ l, g q = 0) → msum g l = 0
  | [], _ => rfl
  | q :: l, h => by
    simp only [msum]
    rw [h q (List.mem_cons_self ..), msum_zero l fun p hp => h p (List.mem_cons_of_mem _ hp)]
    rfl
theorem msum_congr {g h : Nat → Int} : ∀ l : List Nat, (∀ q ∈ l, g q = h q) → msum g l = msum h l
  | [], _ => rfl
  | q :: l, e => by
    simp only [msum]
    rw [e q (List.mem_cons_self ..), msum_congr l fun p hp => e p (List.mem_cons_of_mem _ hp)]
theorem msum_only {g : Nat → Int} {i : Nat} : ∀ l : List Nat, l.Nodup → i ∈ l → (∀ q ∈ l, q ≠ i → g q = 0) → msum g l = g i
  | [], _, h, _ => by cases h
  | q :: l, nd, h, z => by
    obtain ⟨n1, n2⟩ := List.nodup_cons.mp nd
    simp only [msum]
    by_cases e : q = i
    · subst e
      rw [msum_zero l fun p hp => z p (List.mem_cons_of_mem _ hp) fun w => n1 (w ▸ hp)]
      omega
    · have hi : i ∈ l := by
        rcases List.mem_cons.mp h with g | g
        · exact absurd g.symm e
        · exact g
      rw [z q (List.mem_cons_self ..) e, msum_only l n2 hi fun p hp => z p (List.mem_cons_of_mem _ hp)]
      omega
theorem msum_map (g : Nat → Int) (f : Nat → Nat) : ∀ l : List Nat, msum g (l.map f) = msum (fun q => g (f q)) l
  | [] => rfl
  | q :: l => by simp only [List.map_cons, msum]; rw [msum_map g f l]
def rsum (g : Nat → Int) (k : Nat) : Int := msum g (List.range k)
section
variable {m n : Nat} {A : Nat → Nat → Int} {b c : Nat → Int} {S : Sta}
theorem msum_all (g : Nat → Int) : msum g (List.range (m + n) ++ [m + n, m + n + 1]) = rsum g n + rsum (fun i => g (n + i)) m + g (m + n) + g (m + n + 1) := by
  rw [msum_app, Nat.add_comm m n, List.range_add, msum_app, msum_map]
  simp only [msum]
  show rsum g n + rsum _ m + _ = _
  omega
/-- a vector that all agree upon, by rows -/
theorem ker_rows {y : Nat → Int} (h : Ker (colV m n A b c) y (List.range (m + n) ++ [m + n, m + n + 1])) : (∀ i, i < m → rsum (fun j => A i j * y j) n + y (n + i) + b i * y (m + n + 1) = 0) ∧ rsum (fun j => c j * y j) n + y (m + n) = 0 := by
  have one : ∀ i l, l < m → (colV m n A b c (n + l) i) = if i = l then 1 else 0 := fun i l hl => unitV l i (by omega)
  refine ⟨fun i hi => ?_, ?_⟩
  · have e := h i
    rw [msum_all] at e
    have e1 : rsum (fun q => y q * colV m n A b c q i) n = rsum (fun j => A i j * y j) n := msum_congr _ fun q hq => by
      have := List.mem_range.mp hq
      unfold colV
      rw [if_pos this, if_pos hi, Int.mul_comm]
    have e2 : rsum (fun l => y (n + l) * colV m n A b c (n + l) i) m = y (n + i) := by
      have := msum_only (g := fun l => y (n + l) * colV m n A b c (n + l) i) (i := i) (List.range m) List.nodup_range (List.mem_range.mpr hi) fun q hq ne => by
        rw [one i q (List.mem_range.mp hq), if_neg (Ne.symm ne), Int.mul_zero]
      rw [one i i hi, if_pos rfl, Int.mul_one] at this
      exact this
    have e3 : colV m n A b c (m + n) i = 0 := by
      unfold colV
      rw [if_neg (by omega), if_pos (by omega), if_neg (by omega)]
    have e4 : colV m n A b c (m + n + 1) i = b i := by
      unfold colV
      rw [if_neg (by omega), if_neg (by omega), if_pos hi]
    rw [e1, e2, e3, e4] at e
    rw [Int.mul_comm (b i)]
    omega
  · have e := h m
    rw [msum_all] at e
    have e1 : rsum (fun q => y q * colV m n A b c q m) n = rsum (fun j => c j * y j) n := msum_congr _ fun q hq => by
      have := List.mem_range.mp hq
      unfold colV
      rw [if_pos this, if_neg (by omega), if_pos rfl, Int.mul_comm]
    have e2 : rsum (fun l => y (n + l) * colV m n A b c (n + l) m) m = 0 := msum_zero _ fun q hq => by
      have := List.mem_range.mp hq
      rw [one m q this, if_neg (by omega), Int.mul_zero]
    have e3 : colV m n A b c (m + n) m = 1 := by
      unfold colV
      rw [if_neg (by omega), if_pos (by omega), if_pos (by omega)]
    have e4 : colV m n A b c (m + n + 1) m = 0 := by
      unfold colV
      rw [if_neg (by omega), if_neg (by omega), if_neg (by omega)]
    rw [e1, e2, e3, e4] at e
    omega
theorem ker_of {y : Nat → Int} (h1 : ∀ i, i < m → rsum (fun j => A i j * y j) n + y (n + i) + b i * y (m + n + 1) = 0) (h2 : rsum (fun j => c j * y j) n + y (m + n) = 0) : Ker (colV m n A b c) y (List.range (m + n) ++ [m + n, m + n + 1]) := fun r => by
  have one : ∀ i l, l < m → (colV m n A b c (n + l) i) = if i = l then 1 else 0 := fun i l hl => unitV l i (by omega)
  rw [msum_all]
  by_cases hr : r < m
  · have e1 : rsum (fun q => y q * colV m n A b c q r) n = rsum (fun j => A r j * y j) n := msum_congr _ fun q hq => by
      have := List.mem_range.mp hq
      unfold colV
      rw [if_pos this, if_pos hr, Int.mul_comm]
    have e2 : rsum (fun l => y (n + l) * colV m n A b c (n + l) r) m = y (n + r) := by
      have := msum_only (g := fun l => y (n + l) * colV m n A b c (n + l) r) (i := r) (List.range m) List.nodup_range (List.mem_range.mpr hr) fun q hq ne => by
        rw [one r q (List.mem_range.mp hq), if_neg (Ne.symm ne), Int.mul_zero]
      rw [one r r hr, if_pos rfl, Int.mul_one] at this
      exact this
    have e3 : colV m n A b c (m + n) r = 0 := by
      unfold colV
      rw [if_neg (by omega), if_pos (by omega), if_neg (by omega)]
    have e4 : colV m n A b c (m + n + 1) r = b r := by
      unfold colV
      rw [if_neg (by omega), if_neg (by omega), if_pos hr]
    have := h1 r hr
    rw [e1, e2, e3, e4]
    rw [Int.mul_comm (b r)] at this
    omega
  · by_cases hr2 : r = m
    · subst hr2
      have e1 : rsum (fun q => y q * colV r n A b c q r) n = rsum (fun j => c j * y j) n := msum_congr _ fun q hq => by
        have := List.mem_range.mp hq
        unfold colV
        rw [if_pos this, if_neg (by omega), if_pos rfl, Int.mul_comm]
      have e2 : rsum (fun l => y (n + l) * colV r n A b c (n + l) r) r = 0 := msum_zero _ fun q hq => by
        have := List.mem_range.mp hq
        rw [one r q this, if_neg (by omega), Int.mul_zero]
      have e3 : colV r n A b c (r + n) r = 1 := by
        unfold colV
        rw [if_neg (by omega), if_pos (by omega), if_pos (by omega)]
      have e4 : colV r n A b c (r + n + 1) r = 0 := by
        unfold colV
        rw [if_neg (by omega), if_neg (by omega), if_neg (by omega)]
      rw [e1, e2, e3, e4]
      omega
    · have z : ∀ q, colV m n A b c q r = 0 ∨ m + n < q := fun q => by
        unfold colV
        by_cases g : q < n
        · rw [if_pos g, if_neg hr, if_neg hr2]
          exact .inl rfl
        · by_cases g2 : q ≤ m + n
          · rw [if_neg g, if_pos g2, if_neg (by omega)]
            exact .inl rfl
          · exact .inr (by omega)
      have e1 : rsum (fun q => y q * colV m n A b c q r) n = 0 := msum_zero _ fun q hq => by
        have := List.mem_range.mp hq
        rcases z q with g | g
        · rw [g, Int.mul_zero]
        · omega
      have e2 : rsum (fun l => y (n + l) * colV m n A b c (n + l) r) m = 0 := msum_zero _ fun q hq => by
        have := List.mem_range.mp hq
        rcases z (n + q) with g | g
        · rw [g, Int.mul_zero]
        · omega
      have e3 : colV m n A b c (m + n) r = 0 := by
        rcases z (m + n) with g | g
        · exact g
        · omega
      have e4 : colV m n A b c (m + n + 1) r = 0 := by
        unfold colV
        rw [if_neg (by omega), if_neg (by omega), if_neg hr]
      rw [e1, e2, e3, e4]
      omega
/-- the amounts of a state, times D -/
theorem Ok.primal (h : Ok (colV m n A b c) m n S) : ∃ y : Nat → Int, (∀ l q, S.bs[l]? = some q → y q = S.T l n) ∧ (∀ q ∈ S.fs, y q = 0) ∧ (∀ i, i < m → rsum (fun j => A i j * y j) n + y (n + i) = S.D * b i) ∧ rsum (fun j => c j * y j) n = - S.T m n := by
  obtain ⟨y, ky, y1, y2, y3, y4⟩ := h.atG
  obtain ⟨k1, k2⟩ := ker_rows ky
  refine ⟨y, y1, y4, fun i hi => ?_, by omega⟩
  have := k1 i hi
  rw [y3, Int.mul_neg, Int.mul_comm] at this
  omega
/-- the weights of a line, times D -/
theorem Ok.dual (h : Ok (colV m n A b c) m n S) {W : Nat → Int} {t d : Nat} {e : Int} (ht : (S.bs ++ [m + n])[t]? = some d) (w1 : ∀ l q, S.fs[l]? = some q → W q = S.T t l) (w2 : ∀ q ∈ S.bs, W q = if q = d then S.D else 0) (he : e = if d = m + n then S.D else 0) :
    (∀ j, j < n → rsum (fun i => A i j * W (n + i)) m = W j - e * c j) ∧ rsum (fun i => b i * W (n + i)) m = S.T t n := by
  -- a row of the state, over all quantities
  have row : ∀ y : Nat → Int, Ker (colV m n A b c) y (List.range (m + n) ++ [m + n, m + n + 1]) → rsum (fun q => W q * y q) n + rsum (fun i => W (n + i) * y (n + i)) m + e * y (m + n) + S.T t n * y (m + n + 1) = 0 := fun y ky => by
    have r := h.rowAt ky ht
    have f1 : fsum (fun j q => S.T t j * y q) 0 S.fs = msum (fun q => W q * y q) S.fs := by
      rw [← fsum_msum (fun q => W q * y q) S.fs 0]
      exact fsum_congr S.fs 0 fun j q hq => by rw [Nat.zero_add, w1 j q hq]
    have f2 : msum (fun q => W q * y q) S.bs + e * y (m + n) = S.D * y d := by
      by_cases g : d = m + n
      · rw [msum_zero S.bs fun q hq => by
          have := h.lt (List.mem_append_left S.fs hq)
          rw [w2 q hq, if_neg (by omega), Int.zero_mul], he, if_pos g, g]
        omega
      · have dm : d ∈ S.bs := by
          have := List.mem_of_getElem? ht
          rcases List.mem_append.mp this with x | x
          · exact x
          · exact absurd (List.mem_singleton.mp x) g
        rw [msum_only (i := d) S.bs h.bsnd dm fun q hq ne => by rw [w2 q hq, if_neg ne, Int.zero_mul], w2 d dm, if_pos rfl, he, if_neg g]
        omega
    have f3 : msum (fun q => W q * y q) (S.bs ++ S.fs) = rsum (fun q => W q * y q) n + rsum (fun i => W (n + i) * y (n + i)) m := by
      rw [msum_perm h.pm, Nat.add_comm m n, List.range_add, msum_app, msum_map]
      rfl
    rw [msum_app] at f3
    omega
  refine ⟨fun j hj => ?_, ?_⟩
  · let y : Nat → Int := fun q => if q < n then (if q = j then 1 else 0) else if q < m + n then - A (q - n) j else if q = m + n then - c j else 0
    have yj : ∀ q, q < n → y q = if q = j then 1 else 0 := fun q hq => if_pos hq
    have yi : ∀ i, i < m → y (n + i) = - A i j := fun i hi => by
      show (if n + i < n then _ else if n + i < m + n then - A (n + i - n) j else _) = _
      rw [if_neg (by omega), if_pos (by omega), Nat.add_sub_cancel_left]
    have yF : y (m + n) = - c j := by
      show (if m + n < n then _ else if m + n < m + n then _ else if m + n = m + n then - c j else 0) = _
      rw [if_neg (by omega), if_neg (by omega), if_pos rfl]
    have yG : y (m + n + 1) = 0 := by
      show (if m + n + 1 < n then _ else if m + n + 1 < m + n then _ else if m + n + 1 = m + n then _ else 0) = _
      rw [if_neg (by omega), if_neg (by omega), if_neg (by omega)]
    have pick : ∀ g : Nat → Int, rsum (fun q => g q * y q) n = g j := fun g => by
      have := msum_only (g := fun q => g q * y q) (i := j) (List.range n) List.nodup_range (List.mem_range.mpr hj) fun q hq ne => by
        rw [yj q (List.mem_range.mp hq), if_neg ne, Int.mul_zero]
      rw [yj j hj, if_pos rfl, Int.mul_one] at this
      exact this
    have ky := ker_of (m := m) (n := n) (A := A) (b := b) (c := c) (y := y) (fun i hi => by
      rw [pick (fun q => A i q), yi i hi, yG]
      omega) (by
      rw [pick c, yF]
      omega)
    have r := row y ky
    rw [pick W, yF, yG] at r
    have s : rsum (fun i => W (n + i) * y (n + i)) m = - rsum (fun i => A i j * W (n + i)) m := by
      have := msum_mul (fun i => A i j * W (n + i)) (-1) (List.range m)
      have e2 : rsum (fun i => W (n + i) * y (n + i)) m = msum (fun i => -1 * (A i j * W (n + i))) (List.range m) := msum_congr _ fun i hi => by
        rw [yi i (List.mem_range.mp hi)]
        grind
      rw [e2, this]
      show -1 * rsum _ m = _
      omega
    rw [s, Int.mul_neg] at r
    omega
  · let y : Nat → Int := fun q => if q < n then 0 else if q < m + n then - b (q - n) else if q = m + n then 0 else 1
    have yj : ∀ q, q < n → y q = 0 := fun q hq => if_pos hq
    have yi : ∀ i, i < m → y (n + i) = - b i := fun i hi => by
      show (if n + i < n then _ else if n + i < m + n then - b (n + i - n) else _) = _
      rw [if_neg (by omega), if_pos (by omega), Nat.add_sub_cancel_left]
    have yF : y (m + n) = 0 := by
      show (if m + n < n then _ else if m + n < m + n then _ else if m + n = m + n then 0 else 1) = _
      rw [if_neg (by omega), if_neg (by omega), if_pos rfl]
    have yG : y (m + n + 1) = 1 := by
      show (if m + n + 1 < n then _ else if m + n + 1 < m + n then _ else if m + n + 1 = m + n then _ else 1) = _
      rw [if_neg (by omega), if_neg (by omega), if_neg (by omega)]
    have none : ∀ g : Nat → Int, rsum (fun q => g q * y q) n = 0 := fun g => msum_zero _ fun q hq => by rw [yj q (List.mem_range.mp hq), Int.mul_zero]
    have ky := ker_of (m := m) (n := n) (A := A) (b := b) (c := c) (y := y) (fun i hi => by
      rw [none (fun q => A i q), yi i hi, yG]
      omega) (by
      rw [none c, yF]
      rfl)
    have r := row y ky
    rw [none W, yF, yG] at r
    have s : rsum (fun i => W (n + i) * y (n + i)) m = - rsum (fun i => b i * W (n + i)) m := by
      have := msum_mul (fun i => b i * W (n + i)) (-1) (List.range m)
      have e2 : rsum (fun i => W (n + i) * y (n + i)) m = msum (fun i => -1 * (b i * W (n + i))) (List.range m) := msum_congr _ fun i hi => by
        rw [yi i (List.mem_range.mp hi)]
        grind
      rw [e2, this]
      show -1 * rsum _ m = _
      omega
    rw [s] at r
    omega
/-- with costs of 0 nothing is wrong in a column -/
theorem Ok.free (h : Ok (colV m n A b fun _ => 0) m n S) : ∀ j, j < n → S.T m j = 0 := fun j hj => by
  obtain ⟨f, hf⟩ : ∃ f, S.fs[j]? = some f := ⟨_, List.getElem?_eq_getElem (by rw [h.fl]; exact hj)⟩
  obtain ⟨x, kx, _, x2, _⟩ := h.dic.col h.allNd (h.fat hf)
  have kx' : Ker (colV m n A b fun _ => 0) x (List.range (m + n) ++ [m + n, m + n + 1]) := fun r => by rw [← msum_perm h.allPerm]; exact kx r
  obtain ⟨_, k2⟩ := ker_rows kx'
  have z : rsum (fun j => (0 : Int) * x j) n = 0 := msum_zero _ fun q _ => Int.zero_mul _
  rw [z] at k2
  have := x2 m (m + n) h.bF
  omega
end
end Ca.Det
set_option Elab.async false
set_option linter.all false
set_option maxRecDepth 100000
set_option maxHeartbeats 4000000
namespace Ca.Det
/-! ### how great the entries are -/
def nrm (r : Nat) : Nat → Col → Nat
  | 0, _ => 0
  | k + 1, x => (x r).natAbs + nrm (r + 1) k x
def prodN (g : Col → Nat) : List Col → Nat
  | [] => 1
  | x :: l => g x * prodN g l
theorem prodN_app (g : Col → Nat) : ∀ l l' : List Col, prodN g (l ++ l') = prodN g l * prodN g l'
  | [], l' => by simp [prodN]
  | x :: l, l' => by simp only [List.cons_append, prodN]; rw [prodN_app g l l', Nat.mul_assoc]
theorem prodN_le {g h : Col → Nat} : ∀ l : List Col, (∀ x ∈ l, g x ≤ h x) → prodN g l ≤ prodN h l
  | [], _ => Nat.le_refl _
  | x :: l, e => by
    simp only [prodN]
    exact Nat.mul_le_mul (e x (List.mem_cons_self ..)) (prodN_le l fun y hy => e y (List.mem_cons_of_mem _ hy))
theorem alt_le {f : Form} {k r : Nat} (hf : ∀ l : List Col, l.length = k → (f l).natAbs ≤ prodN (nrm (r + 1) k) l) : ∀ (post pre : List Col), pre.length + post.length = k + 1 →
    (alt f r pre post).natAbs + prodN (nrm (r + 1) k) pre * prodN (nrm (r + 1) k) post ≤ prodN (nrm (r + 1) k) pre * prodN (nrm r (k + 1)) post
  | [], pre, _ => by simp [alt, prodN]
  | x :: post, pre, h => by
    simp only [List.length_cons] at h
    have ih := alt_le hf post (pre ++ [x]) (by rw [List.length_append, List.length_singleton]; omega)
    have e := hf (pre ++ post) (by rw [List.length_append]; omega)
    rw [prodN_app] at e ih
    have le := prodN_le (g := nrm (r + 1) k) (h := nrm r (k + 1)) post fun y _ => by
      show _ ≤ (y r).natAbs + nrm (r + 1) k y
      omega
    have a1 : (alt f r pre (x :: post)).natAbs ≤ (x r).natAbs * (f (pre ++ post)).natAbs + (alt f r (pre ++ [x]) post).natAbs := by
      simp only [alt]
      rw [← Int.natAbs_mul]
      omega
    simp only [prodN, Nat.mul_one] at ih ⊢
    have a2 : (x r).natAbs * (f (pre ++ post)).natAbs ≤ (x r).natAbs * (prodN (nrm (r + 1) k) pre * prodN (nrm r (k + 1)) post) := Nat.mul_le_mul_left _ (Nat.le_trans e (Nat.mul_le_mul_left _ le))
    show _ ≤ prodN (nrm (r + 1) k) pre * (((x r).natAbs + nrm (r + 1) k x) * prodN (nrm r (k + 1)) post)
    generalize (alt f r pre (x :: post)).natAbs = a at *
    generalize (alt f r (pre ++ [x]) post).natAbs = a' at *
    generalize (x r).natAbs = u at *
    generalize (f (pre ++ post)).natAbs = v at *
    generalize prodN (nrm (r + 1) k) pre = P at *
    generalize nrm (r + 1) k x = N at *
    generalize prodN (nrm (r + 1) k) post = Q at *
    generalize prodN (nrm r (k + 1)) post = R at *
    have b1 : P * ((u + N) * R) = u * (P * R) + P * N * R := by grind
    have b2 : P * (N * Q) = P * N * Q := by grind
    omega
theorem det_le : ∀ (k r : Nat) (l : List Col), l.length = k → (det k r l).natAbs ≤ prodN (nrm r k) l
  | 0, _, l, h => by
    rw [List.length_eq_zero_iff.mp h]
    show (1 : Int).natAbs ≤ 1
    decide
  | k + 1, r, l, h => by
    have := alt_le (f := det k (r + 1)) (k := k) (r := r) (det_le k (r + 1)) l [] (by simpa using h)
    simp only [prodN, Nat.one_mul] at this
    show (alt (det k (r + 1)) r [] l).natAbs ≤ _
    omega
/-- at most n of the columns are greater than 1 -/
theorem prodN_pow (g : Col → Nat) (V : Nat → Col) (K n : Nat) (hK : 1 ≤ K) : ∀ l : List Nat, (∀ q ∈ l, g (V q) ≤ K) → (∀ q ∈ l, n ≤ q → g (V q) ≤ 1) → l.Nodup → ∀ k, (∀ s : List Nat, s.Nodup → (∀ q ∈ s, q ∈ l ∧ q < n) → s.length ≤ k) → prodN g (l.map V) ≤ K ^ k
  | [], _, _, _, k, _ => Nat.one_le_pow _ _ hK
  | q :: l, big, small, nd, k, h => by
    have big' := fun p hp => big p (List.mem_cons_of_mem q hp)
    have small' := fun p hp => small p (List.mem_cons_of_mem q hp)
    obtain ⟨n1, n2⟩ := List.nodup_cons.mp nd
    simp only [List.map_cons, prodN]
    by_cases hq : q < n
    · have k1 := h [q] (by simp) fun p hp => by rw [List.mem_singleton.mp hp]; exact ⟨List.mem_cons_self .., hq⟩
      obtain ⟨k', rfl⟩ : ∃ k', k = k' + 1 := ⟨k - 1, by simp only [List.length_singleton] at k1; omega⟩
      have ih := prodN_pow g V K n hK l big' small' n2 k' fun s hs hm => by
        have := h (q :: s) (List.nodup_cons.mpr ⟨fun z => n1 (hm q z).1, hs⟩) fun p hp => by
          rcases List.mem_cons.mp hp with rfl | hp
          · exact ⟨List.mem_cons_self .., hq⟩
          · exact ⟨List.mem_cons_of_mem _ (hm p hp).1, (hm p hp).2⟩
        simp only [List.length_cons] at this
        omega
      rw [Nat.pow_succ, Nat.mul_comm (K ^ k')]
      exact Nat.mul_le_mul (big q (List.mem_cons_self ..)) ih
    · have ih := prodN_pow g V K n hK l big' small' n2 k fun s hs hm => h s hs fun p hp => ⟨List.mem_cons_of_mem _ (hm p hp).1, (hm p hp).2⟩
      have := Nat.mul_le_mul (small q (List.mem_cons_self ..) (by omega)) ih
      omega
theorem few_below : ∀ (n : Nat) (s : List Nat), s.Nodup → (∀ q ∈ s, q < n) → s.length ≤ n
  | 0, [], _, _ => Nat.le_refl _
  | 0, q :: s, _, h => absurd (h q (List.mem_cons_self ..)) (Nat.not_lt_zero _)
  | n + 1, s, nd, h => by
    have ih := few_below n (s.erase n) (nd.erase n) fun q hq => by
      have := h q (List.mem_of_mem_erase hq)
      have : q ≠ n := fun z => by
        rw [z] at hq
        exact (List.Nodup.mem_erase_iff nd).mp hq |>.1 rfl
      omega
    have := List.length_erase_le (a := n) (l := s)
    by_cases g : n ∈ s
    · rw [List.length_erase_of_mem g] at ih
      omega
    · rw [List.erase_of_not_mem g] at ih
      omega
theorem prodN_set (g : Col → Nat) (x : Col) : ∀ (l : List Col) (i : Nat), (∀ y ∈ l, 1 ≤ g y) → prodN g (l.set i x) ≤ prodN g l * (max 1 (g x))
  | [], _, _ => by simp [prodN]; omega
  | y :: l, 0, h => by
    simp only [List.set_cons_zero, prodN]
    have := h y (List.mem_cons_self ..)
    have a : g x * prodN g l ≤ max 1 (g x) * prodN g l := Nat.mul_le_mul_right _ (Nat.le_max_right _ _)
    have b : 1 * (prodN g l * max 1 (g x)) ≤ g y * (prodN g l * max 1 (g x)) := Nat.mul_le_mul_right _ this
    rw [Nat.mul_comm (max 1 (g x))] at a
    rw [Nat.mul_assoc]
    omega
  | y :: l, i + 1, h => by
    simp only [List.set_cons_succ, prodN]
    have ih := prodN_set g x l i fun z hz => h z (List.mem_cons_of_mem _ hz)
    rw [Nat.mul_assoc]
    exact Nat.mul_le_mul_left _ ih
def big1 (M : Nat) (x : Col) : Nat := max 1 (nrm 0 M x)
theorem nrm_unit (i : Nat) : ∀ (k r : Nat) (x : Col), (∀ l, x l = if l = i then 1 else 0) → nrm r k x ≤ (if r ≤ i then 1 else 0)
  | 0, r, x, _ => Nat.zero_le _
  | k + 1, r, x, h => by
    have ih := nrm_unit i k (r + 1) x h
    simp only [nrm]
    rw [h r]
    by_cases g : r = i
    · rw [if_pos g, if_pos (by omega)]
      rw [if_neg (by omega)] at ih
      show 1 + _ ≤ 1
      omega
    · rw [if_neg g]
      by_cases g2 : r ≤ i
      · rw [if_pos g2]
        rw [if_pos (by omega)] at ih
        show 0 + _ ≤ 1
        omega
      · rw [if_neg g2]
        rw [if_neg (by omega)] at ih
        show 0 + _ ≤ 0
        omega
section
variable {m n : Nat} {A : Nat → Nat → Int} {b c : Nat → Int} {S : Sta} {K : Nat}
theorem Ok.small (h : Ok (colV m n A b c) m n S) (hK : 1 ≤ K) (big : ∀ q, nrm 0 (m + 1) (colV m n A b c q) ≤ K) : S.D.natAbs ≤ K ^ n ∧ ∀ i j, i ≤ m → j ≤ n → (S.T i j).natAbs ≤ K ^ (n + 1) := by
  have lb : (S.bs ++ [m + n]).length = m + 1 := by rw [List.length_append, h.bl]; rfl
  have lm : ((S.bs ++ [m + n]).map (colV m n A b c)).length = m + 1 := by rw [List.length_map, lb]
  have ltb : ∀ q ∈ S.bs ++ [m + n], q ≤ m + n := fun q hq => by
    rcases List.mem_append.mp hq with g | g
    · have := h.lt (List.mem_append_left S.fs g)
      omega
    · rw [List.mem_singleton.mp g]
      exact Nat.le_refl _
  have unit : ∀ q, n ≤ q → q ≤ m + n → big1 (m + 1) (colV m n A b c q) ≤ 1 := fun q h1 h2 => by
    have u := nrm_unit (q - n) (m + 1) 0 (colV m n A b c q) fun l => by
      have := unitV (A := A) (b := b) (c := c) (m := m) (n := n) (q - n) l (by omega)
      rw [show n + (q - n) = q by omega] at this
      exact this
    rw [if_pos (Nat.zero_le _)] at u
    unfold big1
    omega
  have bK : ∀ q, big1 (m + 1) (colV m n A b c q) ≤ K := fun q => by
    have := big q
    unfold big1
    omega
  have base : prodN (big1 (m + 1)) ((S.bs ++ [m + n]).map (colV m n A b c)) ≤ K ^ n :=
    prodN_pow _ _ K n hK _ (fun q _ => bK q) (fun q hq hn => unit q hn (ltb q hq)) (List.nodup_append.mp h.allNd).1 n fun s hs hm => few_below n s hs fun q hq => (hm q hq).2
  have le1 : ∀ l : List Col, prodN (nrm 0 (m + 1)) l ≤ prodN (big1 (m + 1)) l := fun l => prodN_le l fun x _ => Nat.le_max_right _ _
  obtain ⟨s, hs1, hs⟩ := h.dic.sg
  have s1 : s.natAbs = 1 := by rcases hs1 with rfl | rfl <;> rfl
  refine ⟨?_, fun i j hi hj => ?_⟩
  · have := det_le (m + 1) 0 _ lm
    rw [hs, Int.natAbs_mul, s1, Nat.one_mul] at this
    exact Nat.le_trans this (Nat.le_trans (le1 _) base)
  · obtain ⟨f, hf⟩ : ∃ f, (S.fs ++ [m + n + 1])[j]? = some f := ⟨_, List.getElem?_eq_getElem (by rw [List.length_append, h.fl]; show j < n + 1; omega)⟩
    have e := h.dic.entry hs (i := i) (by omega) hf
    have d := det_le (m + 1) 0 (((S.bs ++ [m + n]).map (colV m n A b c)).set i (colV m n A b c f)) (by rw [List.length_set]; exact lm)
    rw [e, Int.natAbs_mul, s1, Nat.one_mul] at d
    have p := prodN_set (big1 (m + 1)) (colV m n A b c f) ((S.bs ++ [m + n]).map (colV m n A b c)) i fun y _ => Nat.le_max_left _ _
    have q := Nat.mul_le_mul base (show max 1 (big1 (m + 1) (colV m n A b c f)) ≤ K by have := bK f; omega)
    rw [Nat.pow_succ]
    exact Nat.le_trans d (Nat.le_trans (le1 _) (Nat.le_trans p q))
end
end Ca.Det
set_option Elab.async false
set_option linter.all false
set_option maxRecDepth 100000
set_option maxHeartbeats 8000000
namespace Ca
open PySem L2
section
variable {X : Cx}
theorem ixLt (K : PySem.W.Frag) (h : X.K = K := by rfl) : IxR X (rIxL K) := h ▸ ix_list
theorem pgTt (K : PySem.W.Frag) {es : List Expr} {k : Nat} {pos : Pos} {t : TGs} {n : Nat} (hc : X.calm = true) (h : PGs X es t) (hK : X.K = K := by rfl) (hn : (assignEach es X.env).length = n := by rfl) (hst : (assignEach es X.env).findIdx? (·.1) = none := by rfl) : PG X (.Tuple es k pos) (gTup K n t) := hK ▸ pg_tup hc h hn hst
end
/-! ### lists of whole numbers -/
def IntsAt (H : Hp) (p : Addr) (xs : List Int) : Prop := H p = some (.lst (xs.map V.int))
theorem IntsAt.same {H H' : Hp} {p : Addr} {xs : List Int} (h : IntsAt H p xs) (s : Same H H') : IntsAt H' p xs := s _ _ h
theorem IntsAt.sq {K : PySem.W.Frag} {H : Hp} {p : Addr} {xs : List Int} (h : IntsAt H p xs) : SqL K H p (xs.map V.int) := SqL.of h
theorem IntsAt.get {xs : List Int} {i : Nat} {x : Int} (h : xs[i]? = some x) : (xs.map V.int)[i]? = some (V.int x) := by rw [List.getElem?_map, h]; rfl
theorem IntsAt.back {xs : List Int} {i : Nat} {y : V} (h : (xs.map V.int)[i]? = some y) : ∃ x, xs[i]? = some x ∧ y = V.int x := by
  rw [List.getElem?_map] at h
  cases e : xs[i]? with
  | none => rw [e] at h; cases h
  | some x => rw [e] at h; exact ⟨x, rfl, (Option.some.inj h).symm⟩
theorem IntsAt.len {K : PySem.W.Frag} {H : Hp} {p : Addr} {xs : List Int} (h : IntsAt H p xs) : LenV K (.ref p) H xs.length := .inl ⟨_, SqL.of h, by rw [List.length_map]⟩
theorem getD_at {xs : List Int} {i : Nat} (h : i < xs.length) : xs[i]? = some (xs.getD i 0) := by
  rw [List.getD_eq_getElem?_getD, List.getElem?_eq_getElem h]
  rfl
/-! ### a line behind an exchange -/
def behindL (xs ps : List Int) (c : Nat) (D : Int) : List Int := ((List.range xs.length).map fun i => (ps.getD c 0 * xs.getD i 0 - xs.getD c 0 * ps.getD i 0) / D).set c (- xs.getD c 0)
def LitS (xs : List Int) : Prop := ∀ x ∈ xs, x.natAbs < 2 ^ 1000
theorem LitS.at {xs : List Int} (h : LitS xs) (i : Nat) : (xs.getD i 0).natAbs < 2 ^ 1000 := by
  by_cases g : i < xs.length
  · exact h _ (List.mem_of_getElem? (getD_at g))
  · rw [List.getD_eq_getElem?_getD, List.getElem?_eq_none (by omega)]
    decide +kernel
theorem small_mul {i j : Int} (h1 : i.natAbs < 2 ^ 1000) (h2 : j.natAbs < 2 ^ 1000) : CMulW i j := by
  have l : ∀ k : Nat, k < 2 ^ 1000 → k.log2 < 1000 := fun k hk => by
    by_cases z : k = 0
    · rw [z]; decide
    · exact (Nat.log2_lt z).mpr hk
  have := l _ h1
  have := l _ h2
  show _ < 1000000
  omega
theorem small_div {i j : Int} (h0 : 0 < j) (h1 : j.natAbs < 2 ^ 1000) : CDivW i j := by
  refine ⟨h0, ?_⟩
  have : j.natAbs.log2 < 1000 := (Nat.log2_lt (by omega)).mpr h1
  omega
def spBehind (K : PySem.W.Frag) : Sp := fun vs H Q _ => ∃ (a p : Addr) (c : Nat) (D : Int) (xs ps : List Int), vs = [.ref a, .ref p, .int c, .int D] ∧ IntsAt H a xs ∧ IntsAt H p ps ∧ xs.length = ps.length ∧ xs.length ≤ 1000 ∧ c < xs.length ∧ 0 < D ∧ D.natAbs < 2 ^ 1000 ∧ LitS xs ∧ LitS ps ∧
  ∀ H' y, Same H H' → IntsAt H' y (behindL xs ps c D) → H y = none → Q (.ref y) H'
abbrev NBh : List Str := ["line", "pivots", "column", "bottom", "behind", "entry", "pivot"]
section
variable {P : Program} {w : World} {K : PySem.W.Frag} {mg : Str → Option Value} {base : Heap}
theorem scBh : FnScope NBh ["line", "pivots", "column", "bottom"] (defScope sLineBehind) := ⟨rfl, rfl, rfl, by decide +kernel, rfl, by decide +kernel, by decide +kernel⟩
theorem ok_behind {f : Addr} {fd : FuncData} (F : FnT K "line_behind" sLineBehind f fd) (mzip : mg "zip" = none) : FnOk P w K mg base CX0 1 f fd ["line", "pivots", "column", "bottom"] (spBehind K) := by
  refine F.ok scBh (fun vs H Q E h => ?_) (fun cdv A outer s H vs Q E hr h => ?_)
  · obtain ⟨a, p, c, D, xs, ps, rfl, _⟩ := h
    rfl
  · obtain ⟨a, p, c, D, xs, ps, rfl, ha, hp, hl, h1000, hc, hD, hDs, sx, sp, q⟩ := h
    have nd := scBh.nd
    refine ⟨_, PSs.nox (pss_cons (ps_cut (ps_setLc (i := 4) (own := [("entry", 5), ("pivot", 6)]) (g := gTup K 2 (gCons (gName 5) (gCons (gName 6) gNil))) (tt := tYes) rfl nd rfl rfl (sw_true rfl rfl rfl (by decide +kernel)) (RZ.pi_zipA (by rfl) mzip (pa_cons (pv 0) (pa_cons (pv 1) pa_nil)))
        (blkOk_by (own := [("entry", 5), ("pivot", 6)]) (N := NBh) (sc := defScope sLineBehind) (by decide +kernel)) (fun _ _ _ _ _ => pgTt K rfl (pgs_cons (pg_name (i := 5) nd rfl (Or.inl rfl)) (pgs_cons (pg_name (i := 6) nd rfl (Or.inl rfl)) pgs_nil))) (fun _ _ _ _ _ => pts_nil)
        (fun _ _ _ _ _ => pe_op op_fdivW (pe_op op_sub (pe_op op_mulW (pe_ix (ixLt K) (pv 1) (pv 2) (fun _ _ => rfl)) (pv 5)) (pe_op op_mulW (pe_ix (ixLt K) (pv 0) (pv 2) (fun _ _ => rfl)) (pv 6))) (pv 3))))
      (pss_cons (ps_cut (ps_asg (pe_un un_neg (pe_ix (ixLt K) (pv 0) (pv 2) (fun _ _ => rfl))) (pg_sub (pv 4) (pv 2) set_list)))
      (pss_one (ps_ret (pv 4))))), ?_⟩
    have ha' := ha.sq (K := K)
    have hp' := hp.sq (K := K)
    have cx := getD_at hc
    have cp := getD_at (xs := ps) (i := c) (by omega)
    refine ⟨fun σ' H' => ∃ y, σ' = [some (.ref a), some (.ref p), some (.int c), some (.int D), some (.ref y), none, none] ∧ Same H H' ∧ IntsAt H' y ((List.range xs.length).map fun i => (ps.getD c 0 * xs.getD i 0 - xs.getD c 0 * ps.getD i 0) / D) ∧ H y = none, ?_, ?_⟩
    · refine ⟨_, rfl, _, rfl, a, p, _, _, rfl, .inl ⟨ha', hp', fun D' hD' => ?_⟩⟩
      refine lc_it (walk_zip (K := K) (a := a) (b := p) (xs := xs.map V.int) (ys := ps.map V.int) (n := xs.length) (by rw [List.length_map, List.length_map]; omega)) (fun i H' => Same H H' ∧ IntsAt H' D' ((List.range i).map fun i => (ps.getD c 0 * xs.getD i 0 - xs.getD c 0 * ps.getD i 0) / D)) ⟨Same.new hD', upd_same⟩ (fun i H' hi p' => ⟨(ha.same p'.1).sq, (hp.same p'.1).sq⟩) ?_ ?_
      · rintro i z H5 _ hi ⟨s5, bD⟩ ⟨T, x1, y1, rfl, hT, rfl, hx, hy⟩
        have s6 := Same.new (o := .tup [x1, y1]) hT
        have s56 := s5.trans s6
        obtain ⟨xi, hxi, rfl⟩ := IntsAt.back hx
        obtain ⟨yi, hyi, rfl⟩ := IntsAt.back hy
        have ex : xi = xs.getD i 0 := by
          have := getD_at (xs := xs) (i := i) (List.getElem?_eq_some_iff.mp hxi).1
          rw [hxi] at this
          exact Option.some.inj this
        have ey : yi = ps.getD i 0 := by
          have := getD_at (xs := ps) (i := i) (List.getElem?_eq_some_iff.mp hyi).1
          rw [hyi] at this
          exact Option.some.inj this
        subst ex
        subst ey
        refine ⟨T, _, rfl, SqT.of upd_same, rfl, _, _, rfl, _, _, rfl, rfl, rfl, rdYes ?_⟩
        have ha6 := (ha.same s56).sq (K := K)
        have hp6 := (hp.same s56).sq (K := K)
        refine ⟨_, rfl, _, rfl, p, _, _, .int (ps.getD c 0), rfl, rfl, hp6, atI_nat (IntsAt.get cp), _, rfl, _, _, rfl, rfl, small_mul (sp.at c) (sx.at i), _, rfl, _, rfl, a, _, _, .int (xs.getD c 0), rfl, rfl, ha6, atI_nat (IntsAt.get cx), _, rfl, _, _, rfl, rfl, small_mul (sx.at c) (sp.at i), _, _, rfl, rfl, _, rfl, _, _, rfl, rfl, small_div hD hDs, ?_⟩
        refine ⟨_, s6 _ _ bD, ?_, fun u o e => ?_, ?_⟩
        · rw [List.length_map, List.length_map, List.length_range]
          exact Nat.lt_of_le_of_lt (show i ≤ 1000 by omega) (by decide)
        · rw [upd_ne (ne_of_none e hD')]
          exact s56 _ _ e
        · show upd _ _ _ _ = _
          rw [upd_same, List.range_succ, List.map_append, List.map_append]
          rfl
      · rintro H5 ⟨s5, bD⟩
        exact ⟨D', rfl, s5, bD, hD'⟩
    rintro _ H1 ⟨y, rfl, s1, e1, hy⟩
    refine ⟨fun σ' H' => σ' = [some (.ref a), some (.ref p), some (.int c), some (.int D), some (.ref y), none, none] ∧ Same H H' ∧ IntsAt H' y (behindL xs ps c D), ?_, ?_⟩
    · refine ⟨_, rfl, _, rfl, a, _, _, .int (xs.getD c 0), rfl, rfl, (ha.same s1).sq, atI_nat (IntsAt.get cx), _, rfl, _, rfl, _, rfl, y, _, _, c, rfl, rfl, e1, ?_, rfl, fun b o e => ?_, ?_⟩
      · unfold ixN
        rw [if_pos (by omega), if_pos (by rw [List.length_map, List.length_map, List.length_range]; omega)]
        simp
      · rw [upd_ne (ne_of_none e hy)]
        exact s1 _ _ e
      · show upd _ _ _ _ = _
        rw [upd_same]
        unfold behindL
        rw [List.map_set]
    rintro _ H2 ⟨rfl, s2, e2⟩
    exact ⟨_, rfl, q H2 y s2 e2 hy⟩
end
end Ca
set_option Elab.async false
set_option linter.all false
set_option maxRecDepth 100000
set_option maxHeartbeats 400000
/-! min(a list of whole numbers, default=..): the least, or the default for none -/
namespace Ca
open PySem
section
variable {prog : Program} {w : World} {A : Around} {R : Result → Shared → Prop} {I S : Addr} {fp wr : List Addr} {n : Nat} {P : Nat → Value → Prop} {St : Nat → Heap → Prop} {bt : Nat → Nat → Bool}
/-- the best of the first j stands twice in S -/
def BestOf (P : Nat → Value → Prop) (bt : Nat → Nat → Bool) (j : Nat) (its : Array Value) : Prop := (j = 0 ∧ its = #[]) ∨ ∃ i v, j = i + 1 ∧ its = #[v, v] ∧ P (argBest bt i) v
theorem minD_turns (W : Walks prog w A.in1 I fp wr n P St) (cmp : CmpOf prog w A.in1 .Lt P bt) (nS : S ∉ fp) (dv : Value) (d : Nat) :
    ∀ (j : Nat) (s : Shared) (c : Nat) (its : Array Value), j + d = n → St j s.heap → s.heap.get? S = some { cls := .type "list", dict := none, data := .seq its c, slots := #[] } → BestOf P bt j its →
      (n = 0 → ∀ h' tk, (∀ b o, b ∉ wr → b ≠ S → s.heap.get? b = some o → h'.get? b = some o) → R (.ok (.ret dv)) { s with heap := h', toks := tk }) →
      (0 < n → ∀ v h' tk, P (argBest bt (n - 1)) v → (∀ b o, b ∉ wr → b ≠ S → s.heap.get? b = some o → h'.get? b = some o) → R (.ok (.ret v)) { s with heap := h', toks := tk }) →
      codeAny (model prog w) A (.builtin "min.loop" ⟨[.ref I, .none, .ref S], [("default", dv)]⟩) R s := by
  have nSw : S ∉ wr := fun h => nS (W.sub _ h)
  have again : (toString "min" ++ toString ".loop" : String) = "min.loop" := by decide
  induction d with
  | zero =>
    intro j s c its hj st hS best r0 r1
    refine codeAny_builtin F.entry_min_loop ?_
    rw [Around.under_plainId F.plain_min_loop _]
    show wpAny _ A.in1 (seqItems? (.ref S) >>= _) _ _ s
    refine wpAny_bind (wpAny_seqItems hS rfl ?_)
    show wpAny _ A.in1 (tryCatch (pyNext (.ref I)) _ >>= _) _ _ s
    have st' : St n s.heap := by rw [← hj]; exact st
    refine wpAny_bind (wpAny_tryCatch (W.done s _ _ st' fun h' tk kept => ?_))
    rcases best with ⟨rfl, rfl⟩ | ⟨i, v, rfl, rfl, hv⟩
    · show wpAny _ A.in1 (rule _ >>= _) _ _ _
      refine wpAny_bind (wpAny_rule (wpAny_pure ?_))
      exact r0 (by omega) h' tk fun b o nb _ e => kept b o nb e
    · have hS' := kept S _ nSw hS
      show wpAny _ A.in1 (updateSeq S (fun _ => #[]) >>= _) _ _ _
      refine wpAny_bind (wpAny_updateSeq hS' rfl (wpAny_bind (wpAny_letGo (wpAny_pure ?_))))
      refine r1 (by omega) v _ tk ?_ fun b o nb ns e => (Heap.get?_update_other _ _ (Ne.symm ns)).trans (kept b o nb e)
      rw [show n - 1 = i by omega]
      exact hv
  | succ d ih =>
    intro j s c its hj st hS best r0 r1
    refine codeAny_builtin F.entry_min_loop ?_
    rw [Around.under_plainId F.plain_min_loop _]
    show wpAny _ A.in1 (seqItems? (.ref S) >>= _) _ _ s
    refine wpAny_bind (wpAny_seqItems hS rfl ?_)
    show wpAny _ A.in1 (tryCatch (pyNext (.ref I)) _ >>= _) _ _ s
    refine wpAny_bind (wpAny_tryCatch (W.item j s _ _ (by omega) st fun v h' tk hv st' kept => ?_))
    have hS' := kept S _ nSw hS
    -- the next turn, whatever S holds then
    have next : ∀ (h2 : Heap) (tk2 : Nat) (c2 : Nat) (its2 : Array Value), St (j + 1) h2 → h2.get? S = some { cls := .type "list", dict := none, data := .seq its2 c2, slots := #[] } → BestOf P bt (j + 1) its2 →
        (∀ b o, b ∉ wr → b ≠ S → s.heap.get? b = some o → h2.get? b = some o) → codeAny (model prog w) A (.builtin "min.loop" ⟨[.ref I, .none, .ref S], [("default", dv)]⟩) R { s with heap := h2, toks := tk2 } := fun h2 tk2 c2 its2 a1 a2 a3 a4 =>
      ih (j + 1) { s with heap := h2, toks := tk2 } c2 its2 (by omega) a1 a2 a3 (fun z => by omega) fun z v' h' tk' hv' k' => r1 z v' h' tk' hv' fun b o nb ns e => k' b o nb ns (a4 b o nb ns e)
    rcases best with ⟨rfl, rfl⟩ | ⟨i, vb, rfl, rfl, hb⟩
    · show wpAny _ A.in1 (updateSeq S (fun _ => #[v, v]) >>= _) _ _ _
      refine wpAny_bind (wpAny_updateSeq hS' rfl ?_)
      rw [again]
      refine wpAny_pure ⟨plainId_quiet F.plain_min_loop _, next _ _ _ _ (W.frame _ _ _ st' fun b hbf o e => ?_) (Heap.get?_update_self _ hS' rfl) (.inr ⟨0, v, rfl, rfl, hv⟩) fun b o nb ns e => ?_⟩
      · exact (Heap.get?_update_other _ _ (fun z : S = b => nS (by rw [z]; exact hbf))).trans e
      · exact (Heap.get?_update_other _ _ (Ne.symm ns)).trans (kept b o nb e)
    · show wpAny _ A.in1 (tryCatch (holding [v, v] (richCompare .Lt v vb >>= _)) _ >>= _) _ _ _
      refine wpAny_bind (wpAny_tryCatch (wpAny_holding (wpAny_bind (cmp (i + 1) (argBest bt i) v vb _ _ _ hv hb ?_))))
      refine wpAny_bind (wpAny_holding (wpAny_truthy_bool ?_))
      refine wpAny_bind (wpAny_letGo (wpAny_pure ?_))
      cases less : bt (i + 1) (argBest bt i) with
      | true =>
        simp only [if_true]
        refine wpAny_bind (wpAny_updateSeq hS' rfl (wpAny_bind (wpAny_letGo ?_)))
        rw [again]
        refine wpAny_pure ⟨plainId_quiet F.plain_min_loop _, next _ _ _ _ (W.frame _ _ _ st' fun b hbf o e => ?_) (Heap.get?_update_self _ hS' rfl) (.inr ⟨i + 1, v, rfl, rfl, ?_⟩) fun b o nb ns e => ?_⟩
        · exact (Heap.get?_update_other _ _ (fun z : S = b => nS (by rw [z]; exact hbf))).trans e
        · simp only [argBest, less, if_true]
          exact hv
        · exact (Heap.get?_update_other _ _ (Ne.symm ns)).trans (kept b o nb e)
      | false =>
        simp only [Bool.false_eq_true, if_false]
        refine wpAny_bind (wpAny_letGo ?_)
        rw [again]
        refine wpAny_pure ⟨plainId_quiet F.plain_min_loop _, next _ _ _ _ st' hS' (.inr ⟨i + 1, vb, rfl, rfl, ?_⟩) fun b o nb _ e => kept b o nb e⟩
        simp only [argBest, less, Bool.false_eq_true, if_false]
        exact hb
end
section
variable {prog : Program} {w : World} {A : Around} {E : Value → Shared → Prop} {s : Shared} {l : Addr} {xs : Array (Int × Tok)}
theorem argsD_min (a d : Value) : argsOk "min" ⟨[a], [("default", d)]⟩ := by unfold argsOk; kernel_rfl
theorem call_turns {id : String} {b : Builtin} {args : List Value} {kw : List (Str × Value)} {Q : Value → Shared → Prop} (hk : builtinKind id = none) (hp : plainId id = true) (hb : entryFor table id = some b) (ha : argsOk id ⟨args, kw⟩)
    (hc : wpAny (model prog w) A.in1 (b ⟨args, kw⟩) (fun fin s' => match fin with
      | .done f => (match (Except.ok f : Result) with | .ok (.ret v) => Q v s' | .ok _ => False | .error e => E e s')
      | .again c' => c'.quiet = true ∧ codeAny (model prog w) A c' (fun r s' => match r with | .ok (.ret v) => Q v s' | .ok _ => False | .error e => E e s') s') E s) :
    wpAny (model prog w) A (call (.builtin id) args kw) Q E s := by
  refine wpAny_call (codeAny_call_builtin hp hb ?_)
  simp only [checkBuiltinCall, hk]
  cases sg : Manifest.signature? id with
  | none => exact wpAny_pure hc
  | some sig =>
    have fit : Bind.checkArgs id sig ⟨args, kw⟩ = pure () := by simpa only [argsOk, sg] using ha
    simp only [fit]
    exact wpAny_pure hc
theorem bindD (dv : Value) : Builtin.Builtins.bindParams "min" ["key", "default"] 0 ⟨[], [("default", dv)]⟩ = pure [none, some dv] := by kernel_rfl
theorem minD_call {dv : Value} {Q : Value → Shared → Prop} (hh : A.handled = none) (hl : s.heap.IsList l (intItems xs))
    (h0 : xs.size = 0 → ∀ h' tk, (∀ b o, s.heap.get? b = some o → h'.get? b = some o) → Q dv { s with heap := h', toks := tk })
    (h1 : 0 < xs.size → ∀ v h' tk, (intItems xs)[argBest (fun i j => decide (numAt xs i < numAt xs j)) (xs.size - 1)]? = some v → (∀ b o, s.heap.get? b = some o → h'.get? b = some o) → Q v { s with heap := h', toks := tk }) :
    wpAny (model prog w) A (call (.builtin "min") [.ref l] [("default", dv)]) Q E s := by
  have loop : (toString "min" ++ toString ".loop" : String) = "min.loop" := by decide
  refine call_turns F.kind_min F.plain_min F.entry_min (argsD_min (.ref l) dv) ?_
  show wpAny _ A.in1 (Builtin.Builtins.bindParams "min" ["key", "default"] 0 ⟨[], [("default", dv)]⟩ >>= _) _ _ s
  refine wpAny_bind (wpAny_of_eq (bindD dv) ?_)
  refine wpAny_bind (wpAny_pure ?_)
  refine wpAny_bind (iter_intList hl fun s₂ e st hfp hlI => ?_)
  subst e
  refine wpAny_bind (wpAny_newObj_type ?_)
  rw [loop]
  have W := Walks.list (prog := prog) (w := w) (A := A.in1) hh s.heap.objs.size l hlI (intItems xs)
  have nS : ∀ b ∈ [s.heap.objs.size, l], b ≠ (s.heap.push { cls := .type "list_iterator", data := .fields #[.ref l, .int 0 0] }).objs.size := fun b hb => Nat.ne_of_lt (hfp b hb)
  have size : (intItems xs).size = xs.size := by simp [intItems]
  have old : ∀ {h' : Heap}, (∀ b o, b ∉ [s.heap.objs.size] → b ≠ (s.heap.push { cls := .type "list_iterator", data := .fields #[.ref l, .int 0 0] }).objs.size → ((s.heap.push { cls := .type "list_iterator", data := .fields #[.ref l, .int 0 0] }).push { cls := .type "list", data := .seq #[] 0 }).get? b = some o → h'.get? b = some o) → ∀ b o, s.heap.get? b = some o → h'.get? b = some o := fun k b o e => by
    have e1 := Heap.get?_push_of_some { cls := .type "list_iterator", data := .fields #[.ref l, .int 0 0] } e
    refine k b o (fun z => ?_) (Nat.ne_of_lt (Heap.lt_size e1)) (Heap.get?_push_of_some _ e1)
    rw [List.mem_singleton.mp z] at e
    exact absurd (Heap.lt_size e) (Nat.lt_irrefl _)
  refine wpAny_pure ⟨plainId_quiet F.plain_min_loop _, ?_⟩
  refine minD_turns W (CmpOf.ints_lt (numAt xs) (fun _ _ => intItems_at)) (fun z => nS _ z rfl) dv (intItems xs).size 0 _ 0 #[] (Nat.zero_add _) (W.frame _ _ _ st fun b _ o e => Heap.get?_push_of_some _ e) (Heap.get?_push_size _ rfl) (.inl ⟨rfl, rfl⟩) (fun z h' tk k => ?_) (fun z v h' tk hv k => ?_)
  · exact h0 (by omega) h' tk (old k)
  · exact h1 (by omega) v h' tk (by rw [size] at hv; exact hv) (old k)
end
end Ca
set_option Elab.async false
set_option linter.all false
set_option maxRecDepth 100000
set_option maxHeartbeats 4000000
namespace Ca
open PySem PySem.Spec PyProof.Rows L2
/-! ### min(xs, default=None) -/
def rMinD (K : PySem.W.Frag) : List V → List V → Hp → VK → Prop := fun xs zs H Q => ∃ (a : Addr) (ns : List Int), xs = [.ref a] ∧ zs = [.non] ∧ SqL K H a (ns.map V.int) ∧ (ns = [] → Q .non H) ∧ ∀ m, m ∈ ns → (∀ y, y ∈ ns → m ≤ y) → Q (.int m) H
theorem cr_minD {X : Cx} (hc : X.calm = true) : CallRK X (.builtin "min") ["default"] (rMinD X.K) := by
  intro pins s σ H xs zs us ws Q I r1 r2 h
  obtain ⟨a, ns, rfl, rfl, hs, q0, q1⟩ := h
  obtain ⟨its, rv, hl, _⟩ := I.list hs
  rw [Vals.ref1 r1]
  have hw : ws = [Value.none] := by
    cases r2 with
    | cons h t =>
      cases t
      rw [show _ = Value.none from h]
  subst hw
  have hi := rv.ints
  obtain ⟨xs, e⟩ := hi.allInts.items
  have hn : numsOf (intItems xs).toList = ns := by rw [← e]; exact hi.numsOf
  rw [nums_intItems] at hn
  subst hn
  have hl' := hl.isList
  rw [e] at hl'
  show wpAny (model X.prog X.w) X.A (call (.builtin "min") [.ref a] [("default", .none)]) _ _ s
  refine minD_call (I.ok.hd hc) hl' (fun z h' tk k => ?_) (fun z v h' tk hv k => ?_)
  · exact ⟨.non, H, I.kept k, rfl, q0 (by
      have : xs.toList.length = 0 := by rw [Array.length_toList]; exact z
      rw [List.map_eq_nil_iff]
      exact List.eq_nil_of_length_eq_zero this)⟩
  · obtain ⟨t, rfl⟩ := intItems_at hv
    obtain ⟨h1, h2⟩ := argBest_lt (numAt xs) (xs.size - 1)
    refine ⟨.int _, H, I.kept k, ⟨_, rfl⟩, q1 _ ?_ fun y hy => ?_⟩
    · rw [numAt_eq]
      exact PySem.getD_mem (by rw [List.length_map, Array.length_toList]; omega)
    · obtain ⟨j, hj, rfl⟩ := mem_getD hy
      rw [List.length_map, Array.length_toList] at hj
      rw [← numAt_eq]
      exact h2 j (by omega)
end Ca
set_option Elab.async false
set_option linter.all false
set_option maxRecDepth 100000
set_option maxHeartbeats 8000000
namespace Ca
open PySem L2
/-! ### tables -/
structure Tb where
  rows : List (List Int)
  D : Int
  bs : List Nat
  fs : List Nat
def natL (ns : List Nat) : List Int := ns.map Int.ofNat
def LinesAt (H : Hp) (L : Addr) (rows : List (List Int)) : Prop := ∃ ps : List Addr, H L = some (.lst (ps.map V.ref)) ∧ ps.length = rows.length ∧ ∀ (i : Nat) (p : Addr) (r : List Int), ps[i]? = some p → rows[i]? = some r → IntsAt H p r
theorem LinesAt.same {H H' : Hp} {L : Addr} {rows : List (List Int)} (h : LinesAt H L rows) (s : Same H H') : LinesAt H' L rows := by
  obtain ⟨ps, h1, h2, h3⟩ := h
  exact ⟨ps, s _ _ h1, h2, fun i p r a b => (h3 i p r a b).same s⟩
def tabF (l d b f : V) : List (Str × V) := [("lines", l), ("bottom", d), ("basic", b), ("free", f)]
def TbAt (C : Addr) (H : Hp) (x : Addr) (t : Tb) : Prop := ∃ (dx L b f : Addr), H x = some (.ins C dx (tabF (.ref L) (.int t.D) (.ref b) (.ref f))) ∧ LinesAt H L t.rows ∧ IntsAt H b (natL t.bs) ∧ IntsAt H f (natL t.fs)
theorem TbAt.same {C : Addr} {H H' : Hp} {x : Addr} {t : Tb} (h : TbAt C H x t) (s : Same H H') : TbAt C H' x t := by
  obtain ⟨dx, L, b, f, h1, h2, h3, h4⟩ := h
  exact ⟨dx, L, b, f, s _ _ h1, h2.same s, h3.same s, h4.same s⟩
structure TabK (K : PySem.W.Frag) (C : Addr) : Prop where
  cl : Cls K C
  n1 : NoAttr K C "lines"
  n2 : NoAttr K C "bottom"
  n3 : NoAttr K C "basic"
  n4 : NoAttr K C "free"
def spTabInit (C : Addr) : Sp := fun vs H Q _ => ∃ x dx l d b f, vs = [.ref x, l, d, b, f] ∧ H x = some (.ins C dx []) ∧ ∀ H', Kept x H H' → H' x = some (.ins C dx (tabF l d b f)) → Q .non H'
section
variable {P : Program} {w : World} {K : PySem.W.Frag} {mg : Str → Option Value} {base : Heap} {C : Addr}
theorem scTabI : FnScope ["self", "lines", "bottom", "basic", "free"] ["self", "lines", "bottom", "basic", "free"] (defScope mTableInit) := ⟨rfl, rfl, rfl, by decide +kernel, rfl, by decide +kernel, by decide +kernel⟩
theorem ok_tabInit {f : Addr} {fd : FuncData} (F : FnM K "__init__" "Table.__init__" mTableInit [] f fd) (T : TabK K C) : FnOk P w K mg base CX0 1 f fd ["self", "lines", "bottom", "basic", "free"] (spTabInit C) := by
  refine F.ok scTabI (fun vs H Q E h => ?_) (fun cdv A outer s H vs Q E hr h => ?_)
  · obtain ⟨x, dx, l, d, b, f, rfl, _⟩ := h
    rfl
  · obtain ⟨x, dx, l, d, b, f, rfl, hx, q⟩ := h
    refine ⟨_, PSs.nox (pss_cons (ps_fld (pv 0) (pv 1) rfl) (pss_cons (ps_fld (pv 0) (pv 2) rfl) (pss_cons (ps_fld (pv 0) (pv 3) rfl) (pss_one (ps_fld (pv 0) (pv 4) rfl))))), ?_⟩
    refine ⟨_, rfl, _, rfl, x, C, dx, _, rfl, hx, T.cl, T.n1, by show 0 < 1000; decide, _, rfl, _, rfl, x, C, dx, _, rfl, upd_same, T.cl, T.n2, by show 1 < 1000; decide, _, rfl, _, rfl, x, C, dx, _, rfl, upd_same, T.cl, T.n3, by show 2 < 1000; decide, _, rfl, _, rfl, x, C, dx, _, rfl, upd_same, T.cl, T.n4, by show 3 < 1000; decide, ?_⟩
    refine q _ (fun b o n e => ?_) upd_same
    rw [upd_ne n, upd_ne n, upd_ne n, upd_ne n]
    exact e
/-! ### the place of the least number that is marked -/
def markedL : List Nat → List Bool → List Nat
  | n :: ns, true :: ms => n :: markedL ns ms
  | _ :: ns, false :: ms => markedL ns ms
  | _, _ => []
theorem marked_mem : ∀ {ns : List Nat} {ms : List Bool} {q : Nat}, q ∈ markedL ns ms ↔ ∃ l : Nat, ns[l]? = some q ∧ ms[l]? = some true
  | [], ms, q => by simp [markedL]
  | n :: ns, [], q => by simp [markedL]
  | n :: ns, true :: ms, q => by
    have ih := marked_mem (ns := ns) (ms := ms) (q := q)
    simp only [markedL, List.mem_cons, ih]
    constructor
    · rintro (rfl | ⟨l, h1, h2⟩)
      · exact ⟨0, rfl, rfl⟩
      · exact ⟨l + 1, by simpa using h1, by simpa using h2⟩
    · rintro ⟨l, h1, h2⟩
      cases l with
      | zero => cases h1; exact .inl rfl
      | succ l => exact .inr ⟨l, by simpa using h1, by simpa using h2⟩
  | n :: ns, false :: ms, q => by
    have ih := marked_mem (ns := ns) (ms := ms) (q := q)
    simp only [markedL, ih]
    constructor
    · rintro ⟨l, h1, h2⟩
      exact ⟨l + 1, by simpa using h1, by simpa using h2⟩
    · rintro ⟨l, h1, h2⟩
      cases l with
      | zero => cases h2
      | succ l => exact ⟨l, by simpa using h1, by simpa using h2⟩
theorem marked_next : ∀ {ns : List Nat} {ms : List Bool} {i n : Nat} {b : Bool}, ns[i]? = some n → ms[i]? = some b → markedL (ns.take (i + 1)) (ms.take (i + 1)) = markedL (ns.take i) (ms.take i) ++ (if b = true then [n] else [])
  | [], _, _, _, _, h, _ => by simp at h
  | _ :: _, [], _, _, _, _, h => by simp at h
  | n :: ns, m :: ms, 0, _, b, h1, h2 => by
    cases h1
    cases h2
    cases m <;> simp [markedL]
  | n :: ns, m :: ms, i + 1, n', b, h1, h2 => by
    have ih := marked_next (ns := ns) (ms := ms) (i := i) (n := n') (b := b) (by simpa using h1) (by simpa using h2)
    rw [List.take_succ_cons, List.take_succ_cons, List.take_succ_cons, List.take_succ_cons]
    cases m <;> simp [markedL, ih]
theorem marked_len : ∀ (ns : List Nat) (ms : List Bool), (markedL ns ms).length ≤ ns.length
  | [], _ => by simp [markedL]
  | n :: ns, [] => by simp [markedL]
  | n :: ns, m :: ms => by
    have := marked_len ns ms
    cases m <;> simp only [markedL, List.length_cons] <;> omega
theorem eqV_int (a b : Int) : eqV (.int a) (.int b) = decide (a = b) := by
  by_cases h : a = b
  · subst h
    rw [decide_eq_true rfl]
    show (a == a) = true
    simp
  · rw [decide_eq_false h]
    show (a == b) = false
    simpa using h
def spFirst (K : PySem.W.Frag) : Sp := fun vs H Q _ => ∃ (a p : Addr) (ns : List Nat) (ms : List Bool), vs = [.ref a, .ref p] ∧ IntsAt H a (natL ns) ∧ H p = some (.lst (ms.map V.bl)) ∧ ns.length = ms.length ∧ ns.length ≤ 1000 ∧ ns.Nodup ∧
  ((∀ l q : Nat, ns[l]? = some q → ms[l]? ≠ some true) → ∀ H', Same H H' → Q .non H') ∧
  ∀ (j f : Nat), ns[j]? = some f → ms[j]? = some true → (∀ l q : Nat, ns[l]? = some q → ms[l]? = some true → f ≤ q) → ∀ H', Same H H' → Q (.int (j : Nat)) H'
abbrev NFp : List Str := ["numbers", "marks", "marked", "number", "mark"]
theorem scFp : FnScope NFp ["numbers", "marks"] (defScope sFirstPlace) := ⟨rfl, rfl, rfl, by decide +kernel, rfl, by decide +kernel, by decide +kernel⟩
theorem ok_firstPlace {f : Addr} {fd : FuncData} (F : FnT K "first_place" sFirstPlace f fd) (mzip : mg "zip" = none) (mmin : mg "min" = none) : FnOk P w K mg base CX0 1 f fd ["numbers", "marks"] (spFirst K) := by
  refine F.ok scFp (fun vs H Q E h => ?_) (fun cdv A outer s H vs Q E hr h => ?_)
  · obtain ⟨a, p, ns, ms, rfl, _⟩ := h
    rfl
  · obtain ⟨a, p, ns, ms, rfl, ha, hp, hl, h1000, nodup, q0, q1⟩ := h
    have nd := scFp.nd
    refine ⟨_, PSs.nox (pss_cons (ps_cut (ps_setLc (i := 2) (own := [("number", 3), ("mark", 4)]) (g := gTup K 2 (gCons (gName 3) (gCons (gName 4) gNil))) rfl nd rfl rfl (sw_true rfl rfl rfl (by decide +kernel)) (RZ.pi_zipA (by rfl) mzip (pa_cons (pv 0) (pa_cons (pv 1) pa_nil)))
        (blkOk_by (own := [("number", 3), ("mark", 4)]) (N := NFp) (sc := defScope sFirstPlace) (by decide +kernel)) (fun _ _ _ _ _ => pgTt K rfl (pgs_cons (pg_name (i := 3) nd rfl (Or.inl rfl)) (pgs_cons (pg_name (i := 4) nd rfl (Or.inl rfl)) pgs_nil))) (fun _ _ _ _ _ => pts_one (pt_val (pv 4)))
        (fun _ _ _ _ _ => pv 3)))
      (pss_one (ps_ret (pe_ifExp (pt_truth (pv 2) (fun _ => rfl)) (pe_bm PySem.F.plainAttrs_list PySem.F.slot_list_index PySem.F.type_list_index mt_index (pv 0) (pa_cons (pe_callB (cr_min rfl) (by rfl) mmin PyProof.Rows.boot_min (pa_cons (pv 2) pa_nil)) pa_nil)) pe_non)))), ?_⟩
    have hp' : SqL K H p (ms.map V.bl) := SqL.of hp
    refine ⟨fun σ' H' => ∃ y, σ' = [some (.ref a), some (.ref p), some (.ref y), none, none] ∧ Same H H' ∧ IntsAt H' y (natL (markedL ns ms)), ?_, ?_⟩
    · refine ⟨_, rfl, _, rfl, a, p, _, _, rfl, .inl ⟨ha.sq, hp', fun D hD => ?_⟩⟩
      refine lc_it (walk_zip (K := K) (a := a) (b := p) (xs := (natL ns).map V.int) (ys := ms.map V.bl) (n := ns.length) (by unfold natL; rw [List.length_map, List.length_map, List.length_map]; omega)) (fun i H' => Same H H' ∧ IntsAt H' D (natL (markedL (ns.take i) (ms.take i)))) ⟨Same.new hD, upd_same⟩ (fun i H' hi p' => ⟨(ha.same p'.1).sq, SqL.of (p'.1 _ _ hp)⟩) ?_ ?_
      · rintro i z H5 _ hi ⟨s5, bD⟩ ⟨T, x1, y1, rfl, hT, rfl, hx, hy⟩
        have s6 := Same.new (o := .tup [x1, y1]) hT
        have s56 := s5.trans s6
        obtain ⟨xi, hxi, rfl⟩ := IntsAt.back hx
        obtain ⟨n, hn, rfl⟩ : ∃ n, ns[i]? = some n ∧ xi = Int.ofNat n := by
          unfold natL at hxi
          rw [List.getElem?_map] at hxi
          cases e : ns[i]? with
          | none => rw [e] at hxi; cases hxi
          | some n => rw [e] at hxi; exact ⟨n, rfl, (Option.some.inj hxi).symm⟩
        obtain ⟨b, hb, rfl⟩ : ∃ b, ms[i]? = some b ∧ y1 = V.bl b := by
          replace hy : (ms.map V.bl)[i]? = some y1 := hy
          rw [List.getElem?_map] at hy
          cases e : ms[i]? with
          | none => rw [e] at hy; cases hy
          | some b => rw [e] at hy; exact ⟨b, rfl, (Option.some.inj hy).symm⟩
        have nx := marked_next hn hb
        refine ⟨T, _, rfl, SqT.of upd_same, rfl, _, _, rfl, _, _, rfl, rfl, rfl, _, rfl, b, rfl, ?_⟩
        cases b with
        | false =>
          refine iteF ⟨s56, ?_⟩
          rw [nx]
          simp only [Bool.false_eq_true, if_false, List.append_nil]
          exact bD.same s6
        | true =>
          have ml := marked_len (ns.take i) (ms.take i)
          rw [List.length_take] at ml
          refine iteT ⟨_, rfl, _, bD.same s6, ?_, fun u o e => ?_, ?_⟩
          · unfold natL
            rw [List.length_map, List.length_map]
            exact Nat.lt_of_le_of_lt (show _ ≤ 1000 by omega) (by decide)
          · rw [upd_ne (ne_of_none e hD)]
            exact s56 _ _ e
          · show upd _ _ _ _ = _
            rw [upd_same, nx]
            unfold natL
            simp
      · rintro H5 ⟨s5, bD⟩
        rw [List.take_length, hl, List.take_length] at bD
        exact ⟨D, rfl, s5, bD⟩
    rintro _ H1 ⟨y, rfl, s1, ey⟩
    have allflat : ((natL ns).map V.int).all flatV = true := by
      rw [List.all_eq_true]
      intro v hv
      obtain ⟨i, _, rfl⟩ := List.mem_map.mp hv
      rfl
    refine ⟨_, rfl, _, .inl ⟨_, ey.sq, rfl⟩, ?_⟩
    cases hm : markedL ns ms with
    | nil =>
      refine iteF (q0 (fun l q h1 h2 => ?_) H1 s1)
      have : q ∈ markedL ns ms := marked_mem.mpr ⟨l, h1, h2⟩
      rw [hm] at this
      cases this
    | cons n0 rest =>
      rw [hm] at ey
      refine iteT ⟨_, rfl, .inl ⟨rfl, _, (ha.same s1).sq⟩, _, rfl, y, natL (n0 :: rest), rfl, ey.sq, Nat.succ_pos _, fun m hmem least => ?_⟩
      obtain ⟨n, hn, rfl⟩ := List.mem_map.mp hmem
      rw [← hm] at hn
      obtain ⟨l, h1, h2⟩ := marked_mem.mp hn
      have ll := (List.getElem?_eq_some_iff.mp h1).1
      refine ⟨a, _, .int (Int.ofNat n), l, .int (Int.ofNat n), rfl, rfl, (ha.same s1).sq, rfl, allflat, IntsAt.get (by unfold natL; rw [List.getElem?_map, h1]; rfl), by rw [eqV_int]; exact decide_eq_true rfl, fun k z' hk hz => ?_, q1 l n h1 h2 (fun k q g1 g2 => ?_) H1 s1⟩
      · obtain ⟨x, hx, rfl⟩ := IntsAt.back hz
        unfold natL at hx
        rw [List.getElem?_map] at hx
        cases e : ns[k]? with
        | none => rw [e] at hx; cases hx
        | some q =>
          rw [e] at hx
          obtain rfl := (Option.some.inj hx).symm
          rw [eqV_int]
          refine decide_eq_false fun z => ?_
          have : q = n := Int.ofNat.inj z
          rw [this, ← h1] at e
          have := (List.getElem?_inj (by omega) nodup).mp e
          omega
      · have : q ∈ markedL ns ms := marked_mem.mpr ⟨k, g1, g2⟩
        rw [hm] at this
        have := least (Int.ofNat q) (List.mem_map_of_mem this)
        exact Int.ofNat_le.mp this
end
end Ca
set_option Elab.async false
set_option linter.all false
set_option maxRecDepth 100000
set_option maxHeartbeats 4000000
namespace Ca
open PySem PySem.Spec PyProof.Rows L2
/-! ### what the laws of purses lean on besides -/
def memT (m q : Str) (st : Stmt) : He.DefD := ⟨("Table", some m), m, q, defArgs st, defBody st, defScope st, [], []⟩
def oneA (K : PySem.W.Frag) : Addr := He.ga K "ONE"
def oneB (K : PySem.W.Frag) : Bool := match K.lookup (oneA K) with
  | some ⟨.type c, _, .seq its _, _⟩ => decide (c = "tuple") && (decide (its.size ≤ sizeLine) && He.relAll [.int 1, .int 1] its.toList)
  | _ => false
theorem one_ok {K : PySem.W.Frag} (h : oneB K = true) (H : Hp) : SqT K H (oneA K) [.int 1, .int 1] := by
  unfold oneB at h
  cases q : K.lookup (oneA K) with
  | none => rw [q] at h; cases h
  | some o =>
    obtain ⟨oc, od, dt, osl⟩ := o
    rw [q] at h
    cases oc with
    | type c =>
      cases dt with
      | seq its n =>
        obtain ⟨h1, h2⟩ := an (show (decide (c = "tuple") && (decide (its.size ≤ sizeLine) && He.relAll [.int 1, .int 1] its.toList)) = true from h)
        obtain ⟨h3, h4⟩ := an h2
        exact .inr ⟨_, its, n, q, congrArg Value.type (of_decide_eq_true h1), rfl, of_decide_eq_true h3, He.relAll_ok h4⟩
      | _ => cases h
    | _ => cases dt <;> cases h
/-- a def's keywords alone, the other way round -/
theorem kb_all {K : PySem.W.Frag} {x q : Str} {params : Arguments} {body : List Stmt} {scope : Scope} {f : Addr} {fd : FuncData} {ps ks : List Str} (F : FunD K x q params body scope [] [] f fd)
    (h : ∀ (kV doc pm : Value) (an : Option Addr) (cdv ct : Value) (us ws : List Value), us.length = 0 → ws.length = ks.length → bindArgs (PySem.W.fnOf x q params body scope .none kV doc pm an cdv ct) ⟨us, ks.zip ws⟩ = pure (ps.zip ws.reverse)) :
    KBn K fd ps 0 ks (fun _ ws => ws.reverse) (fun _ zs => zs.reverse) := by
  obtain ⟨oc, od, dV, kV, doc, pm, an, cdv, ct, osl, rfl, lk, hcd, hD, hK⟩ := F.ex
  rcases hD with ⟨_, rfl⟩ | ⟨e, _⟩
  · exact ⟨fun s us ws _ l1 l2 => .of_eq (h kV doc pm an cdv ct us ws l1 l2), fun r1 r2 => r2.reverse⟩
  · exact absurd rfl e
end Ca
set_option Elab.async false
set_option linter.all false
set_option maxRecDepth 100000
set_option maxHeartbeats 4000000
namespace Ca
open PySem PySem.Spec PyProof.Rows L2
/-! ### laws of purses whose program takes gcd alone -/
def sysO (K : PySem.W.Frag) : Bool := gcdB K && (zeB K && (oneB K && sysB K))
end Ca
set_option Elab.async false
set_option linter.all false
set_option maxRecDepth 100000
set_option maxHeartbeats 0
namespace Ca
open PySem PySem.Spec PyProof.Rows L2
def fnsk250 : List He.DefD := [topD "is_integer" sIsInteger,
  topD "is_tuple_of" sIsTupleOf,
  topD "is_name" sIsName,
  topD "is_unknown" sIsUnknown,
  topD "is_stretch" sIsStretch,
  topD "is_row" sIsRow,
  topD "check_unknowns" sCheckUnknowns,
  topD "check_rows" sCheckRows,
  topD "line_of" sLineOf,
  topD "_law_purse" sLawPurse,
  topD "_law_draw" sLawDraw,
  topD "_law_pick" sLawPick]
def fnsk251 : List He.DefD := [topD "_law_right" sLawRight,
  topD "law" sLaw,
  topD "fraction" sFraction,
  topD "plus" sPlus,
  topD "first_table" sFirstTable,
  topD "line_behind" sLineBehind,
  topD "exchanged" sExchanged,
  topD "first_place" sFirstPlace,
  topD "first_wrong" sFirstWrong,
  topD "next_exchange" sNextExchange,
  topD "settled" sSettled,
  topD "amounts_in" sAmountsIn]
def fnsk252 : List He.DefD := [topD "weights_in" sWeightsIn,
  topD "cheapest_amounts" sCheapestAmounts,
  topD "opposite" sOpposite,
  topD "minus" sMinus,
  topD "check_system" sCheckSystem,
  topD "sign_rows" sSignRows,
  topD "possible_limit" sPossibleLimit,
  topD "cheapest_possible" sCheapestPossible,
  topD "any_possible" sAnyPossible,
  topD "possible" sPossible,
  topD "sure_limit" sSureLimit,
  topD "cheapest_sure" sCheapestSure]
def fnsk253 : List He.DefD := [topD "common" sCommon,
  topD "_law_low" sLawLow,
  topD "_law_plus" sLawPlus,
  topD "_law_times" sLawTimes,
  topD "_law_is_less" sLawIsLess,
  topD "_law_stretch" sLawStretch,
  topD "_law_card" sLawCard,
  topD "_law_made" sLawMade,
  topD "_law_signs" sLawSigns,
  topD "_law_case" sLawCase,
  topD "_law_without_last" sLawWithoutLast,
  topD "_law_has_values" sLawHasValues]
def fnsk254 : List He.DefD := [topD "_law_has" sLawHas,
  topD "_law_is_fraction" sLawIsFraction,
  topD "_law_are_fractions" sLawAreFractions,
  topD "_law_sum" sLawSum,
  topD "_law_keeps" sLawKeeps,
  topD "_law_hard" sLawHard,
  memD "__init__" "System.__init__" mSystemInit [.adr e0A],
  memD "__len__" "System.__len__" mSystemLen [],
  memD "__bool__" "System.__bool__" mSystemBool [],
  memD "__str__" "System.__str__" mSystemStr [],
  memD "__eq__" "System.__eq__" mSystemEq [],
  memT "__init__" "Table.__init__" mTableInit]
def fnsk25 : List He.DefD := fnsk250 ++ fnsk251 ++ fnsk252 ++ fnsk253 ++ fnsk254
def fask250 : List He.Fa := [.glo "is_integer", .glo "is_tuple_of", .glo "is_name", .glo "is_unknown", .glo "is_stretch", .glo "is_row", .glo "check_unknowns", .glo "check_rows", .glo "line_of", .glo "_law_purse", .glo "_law_draw", .glo "_law_pick", .glo "_law_right", .glo "law", .glo "fraction", .glo "plus"]
def fask251 : List He.Fa := [.glo "first_table", .glo "line_behind", .glo "exchanged", .glo "first_place", .glo "first_wrong", .glo "next_exchange", .glo "settled", .glo "amounts_in", .glo "weights_in", .glo "cheapest_amounts", .glo "opposite", .glo "minus", .glo "check_system", .glo "sign_rows", .glo "possible_limit", .glo "cheapest_possible"]
def fask252 : List He.Fa := [.glo "any_possible", .glo "possible", .glo "sure_limit", .glo "cheapest_sure", .glo "common", .glo "_law_low", .glo "_law_plus", .glo "_law_times", .glo "_law_is_less", .glo "_law_stretch", .glo "_law_card", .glo "_law_made", .glo "_law_signs", .glo "_law_case", .glo "_law_without_last", .glo "_law_has_values"]
def fask253 : List He.Fa := [.glo "_law_has", .glo "_law_is_fraction", .glo "_law_are_fractions", .glo "_law_sum", .glo "_law_keeps", .glo "_law_hard", .glo "System", .glo "ZERO", .glo "ONE", .int "MOST_UNKNOWNS" 3, .int "MOST_ROWS" 6, .int "MOST_NUMBER" 10000, .int "MOST_CHARACTERS" 8, .str "LETTERS" LET, .str "DIGITS" DIG, .str "BOUND" "bound"]
def fask254 : List He.Fa := [.free "isinstance", .free "int", .free "bool", .free "str", .free "tuple", .free "len", .free "all", .free "enumerate", .free "range", .free "zip", .free "repr", .free "list", .free "max", .free "min", .free "abs", .free "divmod"]
def fask255 : List He.Fa := [.free "ValueError", .free "sum", .free "set", .free "sorted", .cls "System", .noat "System" "_unknowns", .noat "System" "_rows", .mkr "System", .meth "System" "__len__", .meth "System" "__bool__", .meth "System" "__str__", .meth "System" "__eq__", .glo "Table", .cls "Table", .noat "Table" "lines", .noat "Table" "bottom"]
def fask256 : List He.Fa := [.noat "Table" "basic", .noat "Table" "free", .mkr "Table"]
def fask25 : List He.Fa := fask250 ++ fask251 ++ fask252 ++ fask253 ++ fask254 ++ fask255 ++ fask256
def ask250 : List Addr := [3, 6, 4, 49, 59, 79, 98, 117, 136, 145, 152, 157, 164, 171, 176, 183, 190, 195, 202, 207, 303, 308, 309, 316, 323, 330, 337, 344, 361, 370, 375, 380, 385, 390, 395, 402, 407, 412, 419, 424, 429, 434, 441, 448, 453, 458, 463, 470, 477, 484, 491, 498, 505, 512, 519, 526, 531, 538, 543, 548, 553, 558, 563, 568, 573, 580, 587, 592, 597, 602, 609, 616, 0, 48, 58, 78, 97, 116, 135, 144, 151, 156, 163, 170, 175, 182, 189, 194, 201, 206, 302, 315, 322, 329, 336, 343, 360, 369, 374, 379]
def ask251 : List Addr := [384, 389, 394, 401, 406, 411, 418, 423, 428, 433, 440, 447, 452, 457, 462, 469, 476, 483, 490, 497, 504, 511, 518, 525, 530, 537, 542, 547, 552, 557, 562, 567, 572, 579, 586, 591, 596, 601, 608, 615, 43, 44, 45, 46, 47, 57, 60, 76, 77, 95, 96, 114, 115, 133, 134, 139, 140, 141, 142, 143, 146, 147, 148, 149, 150, 153, 154, 155, 158, 159, 160, 161, 162, 165, 166, 167, 168, 169, 172, 173, 174, 177, 178, 179, 180, 181, 184, 185, 186, 187, 188, 191, 192, 193, 196, 197, 198, 199, 200, 203]
def ask252 : List Addr := [204, 205, 223, 230, 239, 247, 253, 260, 267, 272, 279, 286, 293, 300, 301, 304, 305, 310, 311, 312, 313, 314, 317, 318, 319, 320, 321, 324, 325, 326, 327, 328, 331, 332, 333, 334, 335, 338, 339, 340, 341, 342, 358, 359, 362, 363, 366, 367, 368, 371, 372, 373, 376, 377, 378, 381, 382, 383, 386, 387, 388, 391, 392, 393, 396, 397, 398, 399, 400, 403, 404, 405, 408, 409, 410, 413, 414, 415, 416, 417, 420, 421, 422, 425, 426, 427, 430, 431, 432, 435, 436, 437, 438, 439, 442, 443, 444, 445, 446, 449]
def ask253 : List Addr := [450, 451, 454, 455, 456, 459, 460, 461, 464, 465, 466, 467, 468, 471, 472, 473, 474, 475, 478, 479, 480, 481, 482, 485, 486, 487, 488, 489, 492, 493, 494, 495, 496, 499, 500, 501, 502, 503, 506, 507, 508, 509, 510, 513, 514, 515, 516, 517, 520, 521, 522, 523, 524, 527, 528, 529, 532, 533, 534, 535, 536, 539, 540, 541, 544, 545, 546, 549, 550, 551, 554, 555, 556, 559, 560, 561, 564, 565, 566, 569, 570, 571, 574, 575, 576, 577, 578, 581, 582, 583, 584, 585, 588, 589, 590, 593, 594, 595, 598, 599]
def ask254 : List Addr := [600, 603, 604, 605, 606, 607, 610, 611, 612, 613, 614, 75, 94, 113, 132, 222, 216, 228, 229, 238, 246, 252, 259, 266, 271, 278, 285, 292, 299, 357, 70, 71, 72, 73, 74, 89, 90, 91, 92, 93, 108, 109, 110, 111, 112, 127, 128, 129, 130, 131, 217, 218, 219, 220, 221, 215, 227, 231, 237, 245, 251, 254, 255, 256, 257, 258, 261, 262, 263, 264, 265, 268, 269, 270, 273, 274, 275, 276, 277, 280, 281, 282, 283, 284, 287, 288, 289, 290, 291, 294, 295, 296, 297, 298, 352, 353, 354, 355, 356, 224]
def ask255 : List Addr := [225, 226, 232, 233, 234, 235, 236, 240, 241, 242, 243, 244, 248, 249, 250]
def ask25 : List Addr := ask250 ++ ask251 ++ ask252 ++ ask253 ++ ask254 ++ ask255
abbrev Alk25 : Type := Bool × He.FnW × He.FnW × He.FnW × He.AlD × Bool
def tfk25 : List He.Defn := []
def exk25 (K : PySem.W.Frag) : Bool := true
def obsk25 (g : Addr → Option Obj) : Alk25 := (sysO (He.frT g ask25) && exk25 (He.frT g ask25), fnA (He.frT g ask25) (getA (He.frT g ask25) "unknowns"), fnA (He.frT g ask25) (getA (He.frT g ask25) "rows"), fnA (He.frT g ask25) (getA (He.frT g ask25) "names"), He.obsD fask25 fnsk25 (He.frT g ask25), He.tabsB g tfk25 (He.frT g ask25))
structure Saysk25 (h : Heap) (K : PySem.W.Frag) : Prop where
  b : sysO K = true
  e : exk25 K = true
  u : fnA K (getA K "unknowns") = getV "unknowns" "System.unknowns" mSystemUnknowns
  r : fnA K (getA K "rows") = getV "rows" "System.rows" mSystemRows
  n : fnA K (getA K "names") = getV "names" "System.names" mSystemNames
  d : He.SaysD fask25 fnsk25 K
  t : TabsOut tfk25 h K
theorem saysk25_of {h : Heap} (e : obsk25 h.get? = (true, getV "unknowns" "System.unknowns" mSystemUnknowns, getV "rows" "System.rows" mSystemRows, getV "names" "System.names" mSystemNames, He.valD fnsk25, true)) : Saysk25 h (He.frT h.get? ask25) := by
  unfold obsk25 at e
  simp only [Prod.mk.injEq] at e
  obtain ⟨e1, e2, e3, e4, e5, e6⟩ := e
  obtain ⟨e1, e0⟩ := an e1
  exact ⟨e1, e0, e2, e3, e4, e5, tabs_out e6⟩
def hkk25 : PySem.W.Hook where
  α := Alk25
  obs s := obsk25 s.heap.get?
  val _ := (true, getV "unknowns" "System.unknowns" mSystemUnknowns, getV "rows" "System.rows" mSystemRows, getV "names" "System.names" mSystemNames, He.valD fnsk25, true)
  says _ h := ∃ K : PySem.W.Frag, K.In h ∧ Saysk25 h K
  of _ _ e := ⟨_, He.frT_in, saysk25_of e⟩
  keeps _ _ _ c k := c.elim fun K z => ⟨K, z.1.keeps k, { z.2 with t := ⟨z.2.t.hd, z.2.t.out, fun p hp => k _ _ (z.2.t.empty p hp)⟩ }⟩
def obk25 (s : PySem.W.SharedT) : Alk25 := obsk25 (HandSHeadRun.getT s)
theorem obk25_eq (s : PySem.W.SharedT) : obk25 s = hkk25.obs s.abs := by
  have e : HandSHeadRun.getT s = s.abs.heap.get? := funext (HandSHeadRun.getT_eq s)
  unfold obk25
  rw [e]
  rfl
abbrev rowk25 : PySem.W.OpenRow := PySem.W.OpenLaw.row PySem.Challenge.rw_commonanswer_k25_whole_possible_by_signs
def namesk250 : List Str := ["_wall", "BadValue", "InvalidText", "NotASystem", "InvalidUnknowns", "InvalidRows", "MOST_UNKNOWNS", "MOST_ROWS", "MOST_NUMBER", "LETTERS", "DIGITS", "MOST_CHARACTERS", "BOUND", "is_integer", "is_tuple_of", "is_name"]
def namesk251 : List Str := ["is_unknown", "is_stretch", "is_row", "check_unknowns", "check_rows", "line_of", "integer_in", "row_in", "System", "ZERO", "ONE", "fraction", "plus", "opposite", "minus", "check_system"]
def namesk252 : List Str := ["Table", "first_table", "line_behind", "exchanged", "first_place", "first_wrong", "next_exchange", "settled", "amounts_in", "weights_in", "cheapest_amounts", "sign_rows", "possible_limit", "cheapest_possible", "any_possible", "possible"]
def namesk253 : List Str := ["sure_limit", "cheapest_sure", "common", "_law_purse", "_law_draw", "_law_pick", "_law_low", "_law_plus", "_law_times", "_law_is_less", "_law_minus", "_law_stretch", "_law_card", "_law_made", "_law_signs", "_law_case"]
def namesk254 : List Str := ["_law_without_last", "_law_has_values", "_law_has", "_law_is_fraction", "_law_are_fractions", "_law_sum", "_law_lies", "_law_is_member", "_law_keeps", "_law_hard", "_law_right", "gcd"]
def namesk25 : List Str := namesk250 ++ namesk251 ++ namesk252 ++ namesk253 ++ namesk254
end Ca
set_option Elab.async false
set_option linter.all false
set_option maxRecDepth 100000
set_option maxHeartbeats 0
namespace Ca
open PySem PySem.Spec PyProof.Rows L2
theorem map3 {α β γ δ : Type} {o : Option α} {f : α → β} {g : α → γ} {k : α → δ} {a : β} {b : γ} {c : δ} (h1 : o.map (fun x => (f x, g x)) = some (a, b)) (h3 : o.map k = some c) :
    o.map (fun x => (f x, g x, k x)) = some (a, b, c) := by
  cases o with
  | none => cases h1
  | some x =>
    have e1 := Prod.mk.inj (Option.some.inj h1)
    have e3 := Option.some.inj h3
    show some (f x, g x, k x) = _
    rw [e1.1, e1.2, e3]
noncomputable abbrev wholek25 (w : World) := HandSHeadRun.wholeF (fun p => HandSHeadRun.stepQ (HandSHeadRun.denQ HandSHeadRun.tabQ) p w) HandSHeadRun.fenceQ 20000 rowk25.prog
theorem runlk25 (w : World) : (wholek25 w).map (fun x => (HandSHeadRun.looksF rowk25.prog x.1.heap x.2.abs, HandSHeadRun.seenQ (PySem.W.view rowk25.prog [0, 86]) namesk25 (importedModules rowk25.prog.main.body) (fun s => PySem.W.xlAt (PySem.W.view rowk25.prog [0, 86]) [] s && PySem.W.recOk rowk25.toRowW.records s) x.2.abs)) = some (true, PySem.W.openGood (PySem.W.view rowk25.prog [0, 86]) namesk25) := by kernel_rfl
theorem runok25 (w : World) : (wholek25 w).map (fun x => obk25 x.2) = some (hkk25.val w) := by kernel_rfl
theorem runk25 (w : World) : HandSHeadRun.RunEqI rowk25 (PySem.W.view rowk25.prog [0, 86]) hkk25 obk25 20000 namesk25 w := map3 (runlk25 w) (runok25 w)
end Ca
set_option Elab.async false
set_option linter.all false
set_option maxRecDepth 100000
set_option maxHeartbeats 8000000
namespace Ca
open PySem L2
/-! ### the first quantity that is wrong -/
def tT (t : Tb) (i j : Nat) : Int := (t.rows.getD i []).getD j 0
structure Shp (m n : Nat) (t : Tb) : Prop where
  rl : t.rows.length = m + 1
  re : ∀ r ∈ t.rows, r.length = n + 1
  bl : t.bs.length = m
  fl : t.fs.length = n
  ms : m ≤ 100
  ns : n ≤ 100
def WrongT (m n : Nat) (t : Tb) (q : Nat) : Prop := (∃ i : Nat, t.bs[i]? = some q ∧ tT t i n < 0) ∨ ∃ j : Nat, t.fs[j]? = some q ∧ tT t m j < 0
def rowMarks (m n : Nat) (t : Tb) : List Bool := (List.range m).map fun i => decide (tT t i n < 0)
def colMarks (m n : Nat) (t : Tb) : List Bool := (List.range n).map fun j => decide (tT t m j < 0)
theorem mark_at {k i : Nat} (f : Nat → Bool) (h : i < k) : ((List.range k).map f)[i]? = some (f i) := by
  rw [List.getElem?_map, List.getElem?_range h]
  rfl
theorem wrong_iff {m n : Nat} {t : Tb} (h : Shp m n t) {q : Nat} : WrongT m n t q ↔ q ∈ markedL t.bs (rowMarks m n t) ++ markedL t.fs (colMarks m n t) := by
  rw [List.mem_append, marked_mem, marked_mem]
  refine or_congr ⟨fun ⟨i, h1, h2⟩ => ⟨i, h1, ?_⟩, fun ⟨i, h1, h2⟩ => ⟨i, h1, ?_⟩⟩ ⟨fun ⟨j, h1, h2⟩ => ⟨j, h1, ?_⟩, fun ⟨j, h1, h2⟩ => ⟨j, h1, ?_⟩⟩
  · have l := (List.getElem?_eq_some_iff.mp h1).1
    have := h.bl
    rw [rowMarks, mark_at _ (by omega), decide_eq_true h2]
  · have l := (List.getElem?_eq_some_iff.mp h1).1
    have := h.bl
    rw [rowMarks, mark_at _ (by omega)] at h2
    exact of_decide_eq_true (Option.some.inj h2)
  · have l := (List.getElem?_eq_some_iff.mp h1).1
    have := h.fl
    rw [colMarks, mark_at _ (by omega), decide_eq_true h2]
  · have l := (List.getElem?_eq_some_iff.mp h1).1
    have := h.fl
    rw [colMarks, mark_at _ (by omega)] at h2
    exact of_decide_eq_true (Option.some.inj h2)
theorem row_at_T {m n : Nat} {t : Tb} (h : Shp m n t) {i : Nat} (hi : i < m + 1) : ∃ r, t.rows[i]? = some r ∧ r.length = n + 1 ∧ ∀ j, r.getD j 0 = tT t i j := by
  have hl : i < t.rows.length := by rw [h.rl]; exact hi
  refine ⟨t.rows[i], List.getElem?_eq_getElem hl, h.re _ (List.getElem_mem hl), fun j => ?_⟩
  unfold tT
  rw [List.getD_eq_getElem?_getD (l := t.rows), List.getElem?_eq_getElem hl]
  rfl
theorem atI_neg {α : Type} {xs : List α} {n : Nat} {v : α} (h : xs.length = n + 1) (hv : xs[n]? = some v) : atI xs (-1) = some v := by
  have e : ixN xs.length (-1) = some n := by
    unfold ixN
    rw [if_neg (by omega), if_pos (by omega), h]
    exact congrArg some (by omega)
  unfold atI
  rw [e]
  exact hv
theorem nat_back {ns : List Nat} {i : Nat} {y : V} (h : ((natL ns).map V.int)[i]? = some y) : ∃ n : Nat, ns[i]? = some n ∧ y = V.int (Int.ofNat n) := by
  obtain ⟨x, hx, rfl⟩ := IntsAt.back h
  unfold natL at hx
  rw [List.getElem?_map] at hx
  cases e : ns[i]? with
  | none => rw [e] at hx; cases hx
  | some n => rw [e] at hx; exact ⟨n, rfl, by rw [← Option.some.inj hx]⟩
/-- one number more, if it is marked -/
theorem mark_step {H H5 H6 : Hp} {D : Addr} {ns : List Nat} {ms : List Bool} {i n : Nat} {b : Bool} (hn : ns[i]? = some n) (hb : ms[i]? = some b) (h1000 : ns.length ≤ 1000) (hD : H D = none) (s : Same H H6) (e : IntsAt H6 D (natL (markedL (ns.take i) (ms.take i)))) :
    if b = true then (∃ acc, H6 D = some (.lst acc) ∧ acc.length < sizeLine ∧ Same H (upd H6 D (.lst (acc ++ [V.int (Int.ofNat n)]))) ∧ IntsAt (upd H6 D (.lst (acc ++ [V.int (Int.ofNat n)]))) D (natL (markedL (ns.take (i + 1)) (ms.take (i + 1)))))
    else (Same H H6 ∧ IntsAt H6 D (natL (markedL (ns.take (i + 1)) (ms.take (i + 1))))) := by
  have nx := marked_next hn hb
  cases b with
  | false =>
    refine iteF ⟨s, ?_⟩
    rw [nx]
    simp only [Bool.false_eq_true, if_false, List.append_nil]
    exact e
  | true =>
    have ml := marked_len (ns.take i) (ms.take i)
    rw [List.length_take] at ml
    refine iteT ⟨_, e, ?_, fun u o g => ?_, ?_⟩
    · unfold natL
      rw [List.length_map, List.length_map]
      exact Nat.lt_of_le_of_lt (show _ ≤ 1000 by omega) (by decide)
    · rw [upd_ne (ne_of_none g hD)]
      exact s _ _ g
    · show upd _ _ _ _ = _
      rw [upd_same, nx]
      unfold natL
      simp
def spWrong (C : Addr) : Sp := fun vs H Q _ => ∃ (x : Addr) (t : Tb) (m n : Nat), vs = [.ref x] ∧ TbAt C H x t ∧ Shp m n t ∧ ((∀ q, ¬ WrongT m n t q) → ∀ H', Same H H' → Q .non H') ∧
  ∀ q : Nat, WrongT m n t q → (∀ k, WrongT m n t k → q ≤ k) → ∀ H', Same H H' → Q (.int (q : Nat)) H'
abbrev NFw : List Str := ["table", "below", "cheaper", "number", "line", "cost"]
section
variable {P : Program} {w : World} {K : PySem.W.Frag} {mg : Str → Option Value} {base : Heap} {C : Addr}
theorem scFw : FnScope NFw ["table"] (defScope sFirstWrong) := ⟨rfl, rfl, rfl, by decide +kernel, rfl, by decide +kernel, by decide +kernel⟩
theorem ok_firstWrong {f : Addr} {fd : FuncData} (F : FnT K "first_wrong" sFirstWrong f fd) (T : TabK K C) (mzip : mg "zip" = none) (mmin : mg "min" = none) : FnOk P w K mg base CX0 1 f fd ["table"] (spWrong C) := by
  refine F.ok scFw (fun vs H Q E h => ?_) (fun cdv A outer s H vs Q E hr h => ?_)
  · obtain ⟨x, t, m, n, rfl, _⟩ := h
    rfl
  · obtain ⟨x, t, m, n, rfl, ht, hs, q0, q1⟩ := h
    have nd := scFw.nd
    refine ⟨_, PSs.nox (pss_cons (ps_cut (ps_setLc (i := 1) (own := [("number", 3), ("line", 4)]) (g := gTup K 2 (gCons (gName 3) (gCons (gName 4) gNil))) rfl nd rfl rfl (sw_true rfl rfl rfl (by decide +kernel)) (RZ.pi_zipA (by rfl) mzip (pa_cons (pe_fld (pv 0) rfl) (pa_cons (pe_fld (pv 0) rfl) pa_nil)))
        (blkOk_by (own := [("number", 3), ("line", 4)]) (N := NFw) (sc := defScope sFirstWrong) (by decide +kernel)) (fun _ _ _ _ _ => pgTt K rfl (pgs_cons (pg_name (i := 3) nd rfl (Or.inl rfl)) (pgs_cons (pg_name (i := 4) nd rfl (Or.inl rfl)) pgs_nil))) (fun _ _ _ _ _ => pts_one (pt_cmpR op_lt (pe_ix (ixLt K) (pv 4) (pe_un un_neg pe_int) (fun _ _ => rfl)) pe_int (nomark _)))
        (fun _ _ _ _ _ => pv 3)))
      (pss_cons (ps_cut (ps_setLc (i := 2) (own := [("number", 3), ("cost", 5)]) (g := gTup K 2 (gCons (gName 3) (gCons (gName 5) gNil))) rfl nd rfl rfl (sw_true rfl rfl rfl (by decide +kernel)) (RZ.pi_zipA (by rfl) mzip (pa_cons (pe_fld (pv 0) rfl) (pa_cons (pe_ix (ixLt K) (pe_fld (pv 0) rfl) (pe_un un_neg pe_int) (fun _ _ => rfl)) pa_nil)))
        (blkOk_by (own := [("number", 3), ("cost", 5)]) (N := NFw) (sc := defScope sFirstWrong) (by decide +kernel)) (fun _ _ _ _ _ => pgTt K rfl (pgs_cons (pg_name (i := 3) nd rfl (Or.inl rfl)) (pgs_cons (pg_name (i := 5) nd rfl (Or.inl rfl)) pgs_nil))) (fun _ _ _ _ _ => pts_one (pt_cmpR op_lt (pv 5) pe_int (nomark _)))
        (fun _ _ _ _ _ => pv 3)))
      (pss_one (ps_ret (pe_callBK (cr_minD rfl) (by rfl) mmin PyProof.Rows.boot_min (pa_cons (pe_op op_cat (pv 1) (pv 2)) pa_nil) (pk_cons pe_non pk_nil)))))), ?_⟩
    obtain ⟨dx, L, b, f', hx, ⟨ps, hL, hpl, hrow⟩, hb, hf⟩ := id ht
    have bl := hs.bl
    have fl := hs.fl
    have rl := hs.rl
    have m100 := hs.ms
    have n100 := hs.ns
    refine ⟨fun σ' H' => ∃ y, σ' = [some (.ref x), some (.ref y), none, none, none, none] ∧ Same H H' ∧ IntsAt H' y (natL (markedL t.bs (rowMarks m n t))), ?_, ?_⟩
    · refine ⟨_, rfl, x, C, dx, _, .ref b, rfl, hx, T.cl, T.n3, rfl, _, rfl, x, C, dx, _, .ref L, rfl, hx, T.cl, T.n1, rfl, b, L, _, _, rfl, .inl ⟨hb.sq, SqL.of hL, fun D hD => ?_⟩⟩
      refine lc_it (walk_zip (K := K) (a := b) (b := L) (xs := (natL t.bs).map V.int) (ys := ps.map V.ref) (n := m) (by unfold natL; rw [List.length_map, List.length_map, List.length_map]; omega)) (fun i H' => Same H H' ∧ IntsAt H' D (natL (markedL (t.bs.take i) ((rowMarks m n t).take i)))) ⟨Same.new hD, upd_same⟩ (fun i H' hi p' => ⟨(hb.same p'.1).sq, SqL.of (p'.1 _ _ hL)⟩) ?_ ?_
      · rintro i z H5 _ hi ⟨s5, bD⟩ ⟨T1, x1, y1, rfl, hT, rfl, hx1, hy⟩
        have s6 := Same.new (o := .tup [x1, y1]) hT
        have s56 := s5.trans s6
        obtain ⟨k, hk, rfl⟩ := nat_back hx1
        obtain ⟨r, hr1, hr2, hr3⟩ := row_at_T hs (i := i) (by omega)
        have him : i < m := hi
        obtain ⟨p, hp, rfl⟩ : ∃ p, ps[i]? = some p ∧ y1 = V.ref p := by
          replace hy : (ps.map V.ref)[i]? = some y1 := hy
          rw [List.getElem?_map] at hy
          cases e : ps[i]? with
          | none => rw [e] at hy; cases hy
          | some p => rw [e] at hy; exact ⟨p, rfl, (Option.some.inj hy).symm⟩
        have ip := (hrow i p r hp hr1).same s56
        have last : ((r.map V.int))[n]? = some (V.int (tT t i n)) := by
          rw [← hr3 n]
          exact IntsAt.get (getD_at (by omega))
        refine ⟨T1, _, rfl, SqT.of upd_same, rfl, _, _, rfl, _, _, rfl, rfl, rfl, _, rfl, _, rfl, p, _, _, .int (tT t i n), rfl, rfl, ip.sq, atI_neg (by rw [List.length_map]; exact hr2) last, _, _, rfl, rfl, _, rfl, ?_⟩
        have mk : (rowMarks m n t)[i]? = some (decide (tT t i n < 0)) := mark_at _ him
        have := mark_step (H5 := H5) hk mk (by omega) hD s56 (bD.same s6)
        refine ite2 (fun c => ?_) (fun c => ?_)
        · rw [if_pos c] at this
          exact ⟨_, rfl, this⟩
        · rw [if_neg c] at this
          exact this
      · rintro H5 ⟨s5, bD⟩
        rw [show t.bs.take m = t.bs by rw [← bl, List.take_length], show (rowMarks m n t).take m = rowMarks m n t by rw [List.take_of_length_le]; unfold rowMarks; rw [List.length_map, List.length_range]; exact Nat.le_refl _] at bD
        exact ⟨D, rfl, s5, bD⟩
    rintro _ H1 ⟨y1, rfl, s1, ey1⟩
    have hx1 := s1 _ _ hx
    have hL1 := s1 _ _ hL
    have hf1 := hf.same s1
    obtain ⟨rc, hc1, hc2, hc3⟩ := row_at_T hs (i := m) (by omega)
    obtain ⟨pc, hpc⟩ : ∃ p, ps[m]? = some p := ⟨_, List.getElem?_eq_getElem (by omega)⟩
    have ic := (hrow m pc rc hpc hc1).same s1
    refine ⟨fun σ' H' => ∃ y, σ' = [some (.ref x), some (.ref y1), some (.ref y), none, none, none] ∧ Same H1 H' ∧ IntsAt H' y (natL (markedL t.fs (colMarks m n t))), ?_, ?_⟩
    · refine ⟨_, rfl, x, C, dx, _, .ref f', rfl, hx1, T.cl, T.n4, rfl, _, rfl, x, C, dx, _, .ref L, rfl, hx1, T.cl, T.n1, rfl, _, rfl, L, _, _, .ref pc, rfl, rfl, SqL.of hL1, atI_neg (n := m) (by rw [List.length_map]; omega) (by rw [List.getElem?_map, hpc]; rfl), f', pc, _, _, rfl, .inl ⟨hf1.sq, ic.sq, fun D hD => ?_⟩⟩
      refine lc_it (walk_zip (K := K) (a := f') (b := pc) (xs := (natL t.fs).map V.int) (ys := rc.map V.int) (n := n) (by unfold natL; rw [List.length_map, List.length_map, List.length_map]; omega)) (fun i H' => Same H1 H' ∧ IntsAt H' D (natL (markedL (t.fs.take i) ((colMarks m n t).take i)))) ⟨Same.new hD, upd_same⟩ (fun i H' hi p' => ⟨(hf1.same p'.1).sq, (ic.same p'.1).sq⟩) ?_ ?_
      · rintro i z H5 _ hi ⟨s5, bD⟩ ⟨T1, x1, z1, rfl, hT, rfl, hx2, hy⟩
        have s6 := Same.new (o := .tup [x1, z1]) hT
        have s56 := s5.trans s6
        obtain ⟨k, hk, rfl⟩ := nat_back hx2
        obtain ⟨c, hc, rfl⟩ := IntsAt.back hy
        have hin : i < n := hi
        have ce : c = tT t m i := by
          rw [← hc3 i]
          have := getD_at (xs := rc) (i := i) (by omega)
          rw [hc] at this
          exact Option.some.inj this
        subst ce
        refine ⟨T1, _, rfl, SqT.of upd_same, rfl, _, _, rfl, _, _, rfl, rfl, rfl, _, rfl, _, _, rfl, rfl, _, rfl, ?_⟩
        have mk : (colMarks m n t)[i]? = some (decide (tT t m i < 0)) := mark_at _ hin
        have := mark_step (H5 := H5) hk mk (by omega) hD s56 (bD.same s6)
        refine ite2 (fun c => ?_) (fun c => ?_)
        · rw [if_pos c] at this
          exact ⟨_, rfl, this⟩
        · rw [if_neg c] at this
          exact this
      · rintro H5 ⟨s5, bD⟩
        rw [show t.fs.take n = t.fs by rw [← fl, List.take_length], show (colMarks m n t).take n = colMarks m n t by rw [List.take_of_length_le]; unfold colMarks; rw [List.length_map, List.length_range]; exact Nat.le_refl _] at bD
        exact ⟨D, rfl, s5, bD⟩
    rintro _ H2 ⟨y2, rfl, s2, ey2⟩
    have e1 := ey1.same s2
    have w1 := marked_len t.bs (rowMarks m n t)
    have w2 := marked_len t.fs (colMarks m n t)
    refine ⟨_, rfl, _, rfl, y1, y2, _, _, rfl, rfl, e1, ey2, ?_, fun y3 h3 => ?_⟩
    · unfold natL
      rw [List.length_map, List.length_map, List.length_map, List.length_map]
      exact Nat.le_trans (show _ ≤ 200 by omega) (by decide)
    have s3 := Same.new (o := .lst ((natL (markedL t.bs (rowMarks m n t))).map V.int ++ (natL (markedL t.fs (colMarks m n t))).map V.int)) h3
    have all := s1.trans (s2.trans s3)
    refine ⟨y3, natL (markedL t.bs (rowMarks m n t) ++ markedL t.fs (colMarks m n t)), rfl, rfl, SqL.of (by rw [upd_same]; unfold natL; simp), fun z => q0 (fun q hq => ?_) _ all, fun k hk least => ?_⟩
    · have := (wrong_iff hs).mp hq
      unfold natL at z
      rw [List.map_eq_nil_iff.mp z] at this
      cases this
    · obtain ⟨q, hq, rfl⟩ := List.mem_map.mp hk
      exact q1 q ((wrong_iff hs).mpr hq) (fun k hk' => Int.ofNat_le.mp (least (Int.ofNat k) (List.mem_map_of_mem ((wrong_iff hs).mp hk')))) _ all
end
end Ca
set_option Elab.async false
set_option linter.all false
set_option maxRecDepth 100000
set_option maxHeartbeats 8000000
namespace Ca
open PySem L2
/-! ### the next exchange -/
def ByRowT (m n : Nat) (t : Tb) (i j b f : Nat) : Prop := tT t i n < 0 ∧ tT t i j < 0 ∧ (∀ q, WrongT m n t q → b ≤ q) ∧ ∀ l q : Nat, t.fs[l]? = some q → tT t i l < 0 → f ≤ q
def ByColT (m n : Nat) (t : Tb) (i j b f : Nat) : Prop := tT t m j < 0 ∧ 0 < tT t i j ∧ (∀ q, WrongT m n t q → f ≤ q) ∧ ∀ l q : Nat, t.bs[l]? = some q → 0 < tT t l j → b ≤ q
/-- what is told as the next exchange -/
def NextT (m n : Nat) (t : Tb) (a c : V) : Prop :=
  (a = .non ∧ c = .non ∧ ∀ q, ¬ WrongT m n t q) ∨ (∃ i : Nat, a = .int i ∧ c = .non ∧ i < m ∧ tT t i n < 0 ∧ ∀ j, j < n → 0 ≤ tT t i j) ∨ (∃ j : Nat, a = .non ∧ c = .int j ∧ j < n ∧ tT t m j < 0 ∧ ∀ i, i < m → tT t i j ≤ 0) ∨
  (∃ i j b f : Nat, a = .int i ∧ c = .int j ∧ t.bs[i]? = some b ∧ t.fs[j]? = some f ∧ (ByRowT m n t i j b f ∨ ByColT m n t i j b f))
theorem inV_ints (q : Nat) : ∀ ns : List Nat, inV (.int (Int.ofNat q)) ((natL ns).map V.int) = decide (q ∈ ns)
  | [] => by simp [inV, natL]
  | n :: ns => by
    have ih := inV_ints q ns
    unfold inV natL at ih ⊢
    rw [List.map_cons, List.map_cons, List.any_cons, ih, eqV_int]
    by_cases h : n = q
    · subst h
      simp
    · have h' : ¬ (Int.ofNat n = Int.ofNat q) := fun z => h (Int.ofNat.inj z)
      rw [decide_eq_false h']
      simp [Ne.symm h]
theorem flat_ints (ns : List Nat) : ((natL ns).map V.int).all flatV = true := by
  rw [List.all_eq_true]
  intro v hv
  obtain ⟨i, _, rfl⟩ := List.mem_map.mp hv
  rfl
/-- where a number stands -/
theorem idx_parts {ns : List Nat} {i q : Nat} (nd : ns.Nodup) (hq : ns[i]? = some q) : ((natL ns).map V.int)[i]? = some (V.int (Int.ofNat q)) ∧ eqV (V.int (Int.ofNat q)) (V.int (Int.ofNat q)) = true ∧ ∀ (m : Nat) (z' : V), m < i → ((natL ns).map V.int)[m]? = some z' → eqV z' (V.int (Int.ofNat q)) = false := by
  have li := (List.getElem?_eq_some_iff.mp hq).1
  refine ⟨IntsAt.get (by unfold natL; rw [List.getElem?_map, hq]; rfl), by rw [eqV_int]; exact decide_eq_true rfl, fun k z' hk hz => ?_⟩
  obtain ⟨p, hp, rfl⟩ := nat_back hz
  rw [eqV_int]
  refine decide_eq_false fun z => ?_
  rw [Int.ofNat.inj z, ← hq] at hp
  have := (List.getElem?_inj (by omega) nd).mp hp
  omega
theorem cut_lastT (xs : List V) (n : Nat) (h : xs.length = n + 1) : cutV xs none (some (-1)) = xs.take n := by
  unfold cutV
  have e : HT.sIx xs.length xs.length (some (-1)) = n := by
    show (if (-1 : Int) < 0 then ((-1 : Int) + (xs.length : Int)).toNat else min (-1 : Int).toNat xs.length) = n
    rw [if_pos (by decide), h]
    omega
  rw [e, HT.sIx_none, List.drop_zero, Nat.sub_zero]
def spNext (K : PySem.W.Frag) (C : Addr) : Sp := fun vs H Q _ => ∃ (x : Addr) (t : Tb) (m n : Nat), vs = [.ref x] ∧ TbAt C H x t ∧ Shp m n t ∧ (t.bs ++ t.fs).Nodup ∧ ∀ H' y a c, Same H H' → SqT K H' y [a, c] → NextT m n t a c → Q (.ref y) H'
abbrev NNx : List Str := ["table", "number", "row", "column", "entry", "line"]
section
variable {P : Program} {w : World} {K : PySem.W.Frag} {mg : Str → Option Value} {base : Heap} {C : Addr}
theorem scNx : FnScope NNx ["table"] (defScope sNextExchange) := ⟨rfl, rfl, rfl, by decide +kernel, rfl, by decide +kernel, by decide +kernel⟩
theorem ok_next {f fW fP : Addr} {fd fdW fdP : FuncData} (F : FnT K "next_exchange" sNextExchange f fd) (T : TabK K C)
    (gW : mg "first_wrong" = some (.ref fW)) (GW : FnOk P w K mg base CX0 1 fW fdW ["table"] (spWrong C)) (kW : PySem.W.keepIn K (.ref fW) = true) (bW : Binds K fdW ["table"] [])
    (gP : mg "first_place" = some (.ref fP)) (GP : FnOk P w K mg base CX0 1 fP fdP ["numbers", "marks"] (spFirst K)) (kP : PySem.W.keepIn K (.ref fP) = true) (bP : Binds K fdP ["numbers", "marks"] []) :
    FnOk P w K mg base CX0 2 f fd ["table"] (spNext K C) := by
  refine F.ok scNx (fun vs H Q E h => ?_) (fun cdv A outer s H vs Q E hr h => ?_)
  · obtain ⟨x, t, m, n, rfl, _⟩ := h
    rfl
  · obtain ⟨x, t, m, n, rfl, ht, hs, hnd, q⟩ := h
    have nd := scNx.nd
    refine ⟨_, PSs.nox (pss_cons (ps_cut (ps_set (i := 1) nd rfl (.inl rfl) (pe_call GW hr rfl gW kW bW .nil pass0 (pa_cons (pv 0) pa_nil))))
      (pss_cons (ps_cut (ps_if (pt_cmpR op_isN (pv 1) pe_non (nomark _)) (pss_one (ps_ret (pe_tup (pa_cons pe_non (pa_cons pe_non pa_nil))))) pss_nil))
      (pss_cons (ps_cut (ps_if (pt_cmpR op_in_seq (pv 1) (pe_fld (pv 0) rfl) rfl)
          (pss_cons (ps_cut (ps_set (i := 2) nd rfl (.inl rfl) (pe_bm PySem.F.plainAttrs_list PySem.F.slot_list_index PySem.F.type_list_index mt_index (pe_fld (pv 0) rfl) (pa_cons (pv 1) pa_nil))))
          (pss_one (ps_ret (pe_tup (pa_cons (pv 2) (pa_cons (pe_call GP hr rfl gP kP bP .nil pass0 (pa_cons (pe_fld (pv 0) rfl) (pa_cons (pe_lc (own := [("entry", 4)]) (g := gName 4) (tt := tYes) rfl nd (pi_list (pe_slice sl_list (pe_ix (ixLt K) (pe_fld (pv 0) rfl) (pv 2) (fun _ _ => rfl)) po_none (po_some (pe_un un_neg pe_int))))
              (blkOk_by (own := [("entry", 4)]) (N := NNx) (sc := defScope sNextExchange) (by decide +kernel)) (fun _ _ _ _ _ => pg_name (i := 4) nd rfl (Or.inl rfl)) (fun _ _ _ _ _ => pts_nil)
              (fun _ _ _ _ _ => pe_cmpR op_lt (pv 4) pe_int (nomark _))) pa_nil))) pa_nil)))))) pss_nil))
      (pss_cons (ps_cut (ps_set (i := 3) nd rfl (.inr rfl) (pe_bm PySem.F.plainAttrs_list PySem.F.slot_list_index PySem.F.type_list_index mt_index (pe_fld (pv 0) rfl) (pa_cons (pv 1) pa_nil))))
      (pss_one (ps_ret (pe_tup (pa_cons (pe_call GP hr rfl gP kP bP .nil pass0 (pa_cons (pe_fld (pv 0) rfl) (pa_cons (pe_lc (own := [("line", 5)]) (g := gName 5) (tt := tYes) rfl nd (pi_list (pe_slice sl_list (pe_fld (pv 0) rfl) po_none (po_some (pe_un un_neg pe_int))))
              (blkOk_by (own := [("line", 5)]) (N := NNx) (sc := defScope sNextExchange) (by decide +kernel)) (fun _ _ _ _ _ => pg_name (i := 5) nd rfl (Or.inl rfl)) (fun _ _ _ _ _ => pts_nil)
              (fun _ _ _ _ _ => pe_cmpR op_gt (pe_ix (ixLt K) (pv 5) (pv 3) (fun _ _ => rfl)) pe_int (nomark _))) pa_nil))) (pa_cons (pv 3) pa_nil))))))))), ?_⟩
    obtain ⟨dx, L, b, f', hx, ⟨ps, hL, hpl, hrow⟩, hb, hf⟩ := id ht
    have bl := hs.bl
    have fl := hs.fl
    have rl := hs.rl
    have m100 := hs.ms
    have n100 := hs.ns
    obtain ⟨nb, nf, ndis⟩ := List.nodup_append.mp hnd
    have two : 2 ≤ sizeLine := by decide
    refine ⟨fun σ' H' => ∃ v, σ' = [some (.ref x), some v, none, none, none, none] ∧ Same H H' ∧ ((v = .non ∧ ∀ q, ¬ WrongT m n t q) ∨ ∃ q : Nat, v = .int (Int.ofNat q) ∧ WrongT m n t q ∧ ∀ k, WrongT m n t k → q ≤ k), ?_, ?_⟩
    · exact ⟨_, rfl, x, t, m, n, rfl, ht, hs, fun no H' s' => ⟨_, rfl, s', .inl ⟨rfl, no⟩⟩, fun q w least H' s' => ⟨_, rfl, s', .inr ⟨q, rfl, w, least⟩⟩⟩
    rintro _ H1 ⟨v, rfl, s1, hv⟩
    have hx1 := s1 _ _ hx
    have hL1 := s1 _ _ hL
    have hb1 := hb.same s1
    have hf1 := hf.same s1
    refine ⟨fun σ' H' => σ' = [some (.ref x), some v, none, none, none, none] ∧ H' = H1 ∧ ∃ q : Nat, v = .int (Int.ofNat q) ∧ WrongT m n t q ∧ ∀ k, WrongT m n t k → q ≤ k, ?_, ?_⟩
    · refine ⟨_, rfl, rfl, _, rfl, ?_⟩
      rcases hv with ⟨rfl, no⟩ | ⟨q', rfl, w, least⟩
      · rw [decide_eq_true rfl]
        refine iteT ⟨two, fun y hy => q _ y .non .non (s1.trans (Same.new hy)) (SqT.of upd_same) (.inl ⟨rfl, rfl, no⟩)⟩
      · rw [decide_eq_false (fun z => nomatch z)]
        exact iteF ⟨rfl, rfl, q', rfl, w, least⟩
    rintro _ H2 ⟨rfl, rfl, q', rfl, w, least'⟩
    -- a basic one
    refine ⟨fun σ' H' => σ' = [some (.ref x), some (.int (Int.ofNat q')), none, none, none, none] ∧ H' = H2 ∧ q' ∉ t.bs, ?_, ?_⟩
    · refine ⟨_, rfl, _, rfl, x, C, dx, _, .ref b, rfl, hx1, T.cl, T.n3, rfl, b, _, rfl, .inl hb1.sq, rfl, flat_ints _, _, rfl, ?_⟩
      rw [inV_ints]
      by_cases hin : q' ∈ t.bs
      · rw [show (if false = true then !decide (q' ∈ t.bs) else decide (q' ∈ t.bs)) = true by simp [hin]]
        refine iteT ?_
        obtain ⟨i, hi⟩ := List.mem_iff_getElem?.mp hin
        have il := (List.getElem?_eq_some_iff.mp hi).1
        have low : tT t i n < 0 := by
          rcases w with ⟨k, hk, hw⟩ | ⟨k, hk, _⟩
          · have : i = k := (List.getElem?_inj il nb).mp (by rw [hi, hk])
            rw [this]
            exact hw
          · exact absurd rfl (ndis q' hin q' (List.mem_of_getElem? hk))
        obtain ⟨r, hr1, hr2, hr3⟩ := row_at_T hs (i := i) (by omega)
        obtain ⟨p, hp⟩ : ∃ p, ps[i]? = some p := ⟨_, List.getElem?_eq_getElem (by omega)⟩
        have ip := (hrow i p r hp hr1).same s1
        refine ⟨fun σ' H' => σ' = [some (.ref x), some (.int (Int.ofNat q')), some (.int (i : Nat)), none, none, none] ∧ H' = H2, ?_, ?_⟩
        · refine ⟨_, rfl, x, C, dx, _, .ref b, rfl, hx1, T.cl, T.n3, rfl, .inl ⟨rfl, _, hb1.sq⟩, _, rfl, b, _, .int (Int.ofNat q'), i, .int (Int.ofNat q'), rfl, rfl, hb1.sq, rfl, flat_ints _, (idx_parts nb hi).1, (idx_parts nb hi).2.1, (idx_parts nb hi).2.2, rfl, rfl⟩
        rintro _ H3 ⟨rfl, rfl⟩
        refine ⟨_, rfl, _, rfl, x, C, dx, _, .ref f', rfl, hx1, T.cl, T.n4, rfl, ?_⟩
        refine ⟨_, rfl, x, C, dx, _, .ref L, rfl, hx1, T.cl, T.n1, rfl, _, rfl, L, _, _, .ref p, rfl, rfl, SqL.of hL1, atI_nat (by rw [List.getElem?_map, hp]; rfl), _, rfl, _, rfl, p, _, rfl, ip.sq, fun y4 h4 => ?_⟩
        rw [cut_lastT _ n (by rw [List.length_map]; exact hr2)]
        have s4 := Same.new (o := .lst ((r.map V.int).take n)) h4
        refine ⟨y4, rfl, ⟨_, SqL.of upd_same⟩, fun D hD => ?_⟩
        refine lc_it (walk_list (K := K) (a := y4) (xs := (r.map V.int).take n)) (fun k H' => Same (upd H3 y4 (.lst ((r.map V.int).take n))) H' ∧ H' D = some (.lst (((List.range k).map fun j => decide (tT t i j < 0)).map V.bl))) ⟨Same.new hD, upd_same⟩ (fun k H' hk p' => SqL.of (p'.1 _ _ upd_same)) ?_ ?_
        · rintro k z H5 _ hk ⟨s5, bD⟩ ⟨rfl, hz⟩
          have kn : k < n := by
            have : k < ((r.map V.int).take n).length := hk
            rw [List.length_take, List.length_map] at this
            omega
          have ez : z = .int (tT t i k) := by
            replace hz : ((r.map V.int).take n)[k]? = some z := hz
            rw [List.getElem?_take_of_lt kn, IntsAt.get (getD_at (xs := r) (i := k) (by omega))] at hz
            rw [← hr3 k]
            exact (Option.some.inj hz).symm
          subst ez
          refine ⟨rfl, rdYes ⟨_, rfl, _, _, rfl, rfl, ?_⟩⟩
          refine ⟨_, bD, ?_, fun u o e => ?_, ?_⟩
          · rw [List.length_map, List.length_map, List.length_range]
            exact Nat.lt_of_le_of_lt (show k ≤ 100 by omega) (by decide)
          · rw [upd_ne (ne_of_none e hD)]
            exact s5 _ _ e
          · rw [upd_same, List.range_succ, List.map_append, List.map_append]
            rfl
        · rintro H5 ⟨s5, bD⟩
          have ln : ((r.map V.int).take n).length = n := by
            rw [List.length_take, List.length_map]
            omega
          rw [ln] at bD
          have s25 := s4.trans s5
          refine ⟨f', D, t.fs, (List.range n).map fun j => decide (tT t i j < 0), rfl, hf1.same s25, bD, by rw [List.length_map, List.length_range]; exact fl, by omega, nf, fun no H6 s6 => ⟨two, fun y hy => ?_⟩, fun j g hj hm least H6 s6 => ⟨two, fun y hy => ?_⟩⟩
          · refine q _ y _ _ (s1.trans (s25.trans (s6.trans (Same.new hy)))) (SqT.of upd_same) (.inr (.inl ⟨i, rfl, rfl, by omega, low, fun j hj => ?_⟩))
            have := no j (t.fs[j]'(by omega)) (List.getElem?_eq_getElem (by omega))
            rw [mark_at _ hj] at this
            by_cases z : tT t i j < 0
            · exact absurd (by rw [decide_eq_true z]) this
            · omega
          · have jl := (List.getElem?_eq_some_iff.mp hj).1
            rw [mark_at _ (by omega)] at hm
            refine q _ y _ _ (s1.trans (s25.trans (s6.trans (Same.new hy)))) (SqT.of upd_same) (.inr (.inr (.inr ⟨i, j, q', g, rfl, rfl, hi, hj, .inl ⟨low, of_decide_eq_true (Option.some.inj hm), least', fun l k hl hlt => ?_⟩⟩)))
            have ll := (List.getElem?_eq_some_iff.mp hl).1
            exact least l k hl (by rw [mark_at _ (by omega), decide_eq_true hlt])
      · rw [show (if false = true then !decide (q' ∈ t.bs) else decide (q' ∈ t.bs)) = false by simp [hin]]
        exact iteF ⟨rfl, rfl, hin⟩
    rintro _ H3 ⟨rfl, rfl, nin⟩
    -- a free one
    obtain ⟨j, hj, low⟩ : ∃ j : Nat, t.fs[j]? = some q' ∧ tT t m j < 0 := by
      rcases w with ⟨k, hk, _⟩ | ⟨k, hk, hw⟩
      · exact absurd (List.mem_of_getElem? hk) nin
      · exact ⟨k, hk, hw⟩
    have jl := (List.getElem?_eq_some_iff.mp hj).1
    refine ⟨fun σ' H' => σ' = [some (.ref x), some (.int (Int.ofNat q')), none, some (.int (j : Nat)), none, none] ∧ H' = H3, ?_, ?_⟩
    · exact ⟨_, rfl, x, C, dx, _, .ref f', rfl, hx1, T.cl, T.n4, rfl, .inl ⟨rfl, _, hf1.sq⟩, _, rfl, f', _, .int (Int.ofNat q'), j, .int (Int.ofNat q'), rfl, rfl, hf1.sq, rfl, flat_ints _, (idx_parts nf hj).1, (idx_parts nf hj).2.1, (idx_parts nf hj).2.2, rfl, rfl⟩
    rintro _ H4 ⟨rfl, rfl⟩
    refine ⟨_, rfl, x, C, dx, _, .ref b, rfl, hx1, T.cl, T.n3, rfl, _, rfl, x, C, dx, _, .ref L, rfl, hx1, T.cl, T.n1, rfl, _, rfl, _, rfl, L, _, rfl, SqL.of hL1, fun y4 h4 => ?_⟩
    rw [cut_lastT _ m (by rw [List.length_map]; omega)]
    have s4 := Same.new (o := .lst ((ps.map V.ref).take m)) h4
    refine ⟨y4, rfl, ⟨_, SqL.of upd_same⟩, fun D hD => ?_⟩
    refine lc_it (walk_list (K := K) (a := y4) (xs := (ps.map V.ref).take m)) (fun k H' => Same (upd H4 y4 (.lst ((ps.map V.ref).take m))) H' ∧ H' D = some (.lst (((List.range k).map fun i => decide (0 < tT t i j)).map V.bl))) ⟨Same.new hD, upd_same⟩ (fun k H' hk p' => SqL.of (p'.1 _ _ upd_same)) ?_ ?_
    · rintro k z H5 _ hk ⟨s5, bD⟩ ⟨rfl, hz⟩
      have km : k < m := by
        have : k < ((ps.map V.ref).take m).length := hk
        rw [List.length_take, List.length_map] at this
        omega
      obtain ⟨p, hp⟩ : ∃ p, ps[k]? = some p := ⟨_, List.getElem?_eq_getElem (by omega)⟩
      have ez : z = .ref p := by
        replace hz : ((ps.map V.ref).take m)[k]? = some z := hz
        rw [List.getElem?_take_of_lt km, List.getElem?_map, hp] at hz
        exact (Option.some.inj hz).symm
      subst ez
      obtain ⟨r, hr1, hr2, hr3⟩ := row_at_T hs (i := k) (by omega)
      have ip := (hrow k p r hp hr1).same (s1.trans (s4.trans s5))
      have at_j : (r.map V.int)[j]? = some (V.int (tT t k j)) := by
        rw [← hr3 j]
        exact IntsAt.get (getD_at (by omega))
      refine ⟨rfl, rdYes ⟨_, rfl, _, rfl, p, _, _, .int (tT t k j), rfl, rfl, ip.sq, atI_nat at_j, _, _, rfl, rfl, ?_⟩⟩
      refine ⟨_, bD, ?_, fun u o e => ?_, ?_⟩
      · rw [List.length_map, List.length_map, List.length_range]
        exact Nat.lt_of_le_of_lt (show k ≤ 100 by omega) (by decide)
      · rw [upd_ne (ne_of_none e hD)]
        exact s5 _ _ e
      · rw [upd_same, List.range_succ, List.map_append, List.map_append]
        rfl
    · rintro H5 ⟨s5, bD⟩
      have lm : ((ps.map V.ref).take m).length = m := by
        rw [List.length_take, List.length_map]
        omega
      rw [lm] at bD
      have s25 := s4.trans s5
      refine ⟨b, D, t.bs, (List.range m).map fun i => decide (0 < tT t i j), rfl, hb1.same s25, bD, by rw [List.length_map, List.length_range]; exact bl, by omega, nb, fun no H6 s6 => ⟨_, rfl, two, fun y hy => ?_⟩, fun i g hi hm least H6 s6 => ⟨_, rfl, two, fun y hy => ?_⟩⟩
      · refine q _ y _ _ (s1.trans (s25.trans (s6.trans (Same.new hy)))) (SqT.of upd_same) (.inr (.inr (.inl ⟨j, rfl, rfl, by omega, low, fun i hi => ?_⟩)))
        have := no i (t.bs[i]'(by omega)) (List.getElem?_eq_getElem (by omega))
        rw [mark_at _ hi] at this
        by_cases z : 0 < tT t i j
        · exact absurd (by rw [decide_eq_true z]) this
        · omega
      · have il := (List.getElem?_eq_some_iff.mp hi).1
        rw [mark_at _ (by omega)] at hm
        refine q _ y _ _ (s1.trans (s25.trans (s6.trans (Same.new hy)))) (SqT.of upd_same) (.inr (.inr (.inr ⟨i, j, g, q', rfl, rfl, hi, hj, .inr ⟨low, of_decide_eq_true (Option.some.inj hm), least', fun l k hl hlt => ?_⟩⟩)))
        have ll := (List.getElem?_eq_some_iff.mp hl).1
        exact least l k hl (by rw [mark_at _ (by omega), decide_eq_true hlt])
end
end Ca
set_option Elab.async false
set_option linter.all false
set_option maxRecDepth 100000
set_option maxHeartbeats 8000000
namespace Ca
open PySem L2
section
variable {X : Cx} {o : Expr} {f : Str} {apos : Pos} {ta : TE}
theorem piListT (K : PySem.W.Frag) {tg e : Expr} {te : TE} (he : PE X e te) (h : X.K = K := by rfl) : PI X tg e (iList K te) := h ▸ pi_list he
theorem pe_fldT (K : PySem.W.Frag) (ha : PE X o ta) (hb : attributeBase o f X.env (eval o X.env) = eval o X.env) (h : X.K = K := by rfl) : PE X (.Attribute o f apos) (tFld K ta f) := h ▸ pe_fld ha hb
end
theorem cut_takeT (xs : List V) (k : Nat) (h : k ≤ xs.length) : cutV xs none (some (k : Int)) = xs.take k := by
  unfold cutV
  rw [HT.sIx_none, HT.sIx_nat, List.drop_zero, Nat.sub_zero, Nat.min_eq_left h]
theorem cut_dropT (xs : List V) (k : Nat) (h : k ≤ xs.length) : cutV xs (some (k : Int)) none = xs.drop k := by
  unfold cutV
  rw [HT.sIx_none, HT.sIx_nat, Nat.min_eq_left h]
  exact List.take_of_length_le (by rw [List.length_drop]; omega)
theorem rd_noT {σ : L2.St} {H : Hp} {Q : Option Int → Hp → Prop} (h : Q none H) : tNoPart σ H Q := h
theorem rd_slI {K : PySem.W.Frag} {H : Hp} {a : Addr} {xs ys : List Int} {lo hi : Option Int} {Q : VK} (h : IntsAt H a xs) (e : cutV (xs.map V.int) lo hi = ys.map V.int) (q : ∀ H' b, Same H H' → IntsAt H' b ys → Q (.ref b) H') : rSlL K (.ref a) lo hi H Q :=
  ⟨a, _, rfl, h.sq, fun p hp => by rw [e]; exact q _ p (Same.new hp) upd_same⟩
theorem rd_catI {H : Hp} {a b : Addr} {xs ys : List Int} {Q : VK} (h1 : IntsAt H a xs) (h2 : IntsAt H b ys) (hl : xs.length + ys.length ≤ 100000) (q : ∀ H' c, Same H H' → IntsAt H' c (xs ++ ys) → Q (.ref c) H') : rCat (.ref a) (.ref b) H Q :=
  ⟨a, b, _, _, rfl, rfl, h1, h2, by rw [List.length_map, List.length_map]; exact Nat.le_trans hl (by decide), fun p hp => by rw [← List.map_append]; exact q _ p (Same.new hp) upd_same⟩
theorem ixNt {n k : Nat} (h : k < n) : ixN n (k : Int) = some k := by
  unfold ixN
  rw [if_pos (by omega), if_pos (by omega)]
  simp
theorem apartT {H : Hp} {D q : Addr} {qs : List Addr} {r : List Int} (hD : H D = some (.lst (qs.map V.ref))) (ne : qs ≠ []) (h : IntsAt H q r) : q ≠ D := fun z => by
  unfold IntsAt at h
  rw [z, hD] at h
  injection h with h
  injection h with h
  cases qs with
  | nil => exact ne rfl
  | cons a qs =>
    cases r with
    | nil => cases h
    | cons i r =>
      have := (List.cons.inj h).1
      cases this
theorem made_sameT {H H' : Hp} {x dx C : Addr} (hx : H x = none) (hdx : H dx = none) (k : Kept x (upd (upd H dx (.own x)) x (.ins C dx [])) H') : Same H H' := fun b o e => by
  have n1 := ne_of_none e hx
  exact k b o n1 (by rw [upd_ne n1, upd_ne (ne_of_none e hdx)]; exact e)
def rowOf (t : Tb) (l : Nat) : List Int := t.rows.getD l []
def exRow (t : Tb) (i j l : Nat) : List Int := if l = i then (rowOf t i).take j ++ [t.D] ++ (rowOf t i).drop (j + 1) else behindL (rowOf t l) (rowOf t i) j t.D
/-- lists behind a list of references -/
def RefsAt (H : Hp) (D : Addr) (k : Nat) (row : Nat → List Int) : Prop := ∃ qs : List Addr, H D = some (.lst (qs.map V.ref)) ∧ qs.length = k ∧ ∀ (l : Nat) (q : Addr), qs[l]? = some q → IntsAt H q (row l)
theorem RefsAt.same {H H' : Hp} {D : Addr} {k : Nat} {row : Nat → List Int} (h : RefsAt H D k row) (s : Same H H') : RefsAt H' D k row := by
  obtain ⟨qs, h1, h2, h3⟩ := h
  exact ⟨qs, s _ _ h1, h2, fun l q hl => (h3 l q hl).same s⟩
theorem rowOf_get {t : Tb} {k l : Nat} (h : l < (rowOf t k).length) : (rowOf t k)[l]? = some (tT t k l) := getD_at h
theorem exRow_get {m n : Nat} {t : Tb} {i j : Nat} (row : ∀ k, k < m + 1 → (rowOf t k).length = n + 1) (hi : i < m) (hj : j < n) {k l : Nat} (hk : k ≤ m) (hl : l ≤ n) : (exRow t i j k)[l]? = some (Det.exch (tT t) t.D i j k l) := by
  have ri := row i (by omega)
  have rk := row k (by omega)
  unfold exRow Det.exch
  by_cases g : k = i
  · rw [if_pos g, if_pos g]
    have lt : ((rowOf t i).take j).length = j := by rw [List.length_take]; omega
    by_cases e : l = j
    · rw [if_pos e, e, List.append_assoc, List.getElem?_append_right (by omega), lt, Nat.sub_self]
      rfl
    · rw [if_neg e]
      by_cases e2 : l < j
      · rw [List.append_assoc, List.getElem?_append_left (by omega), List.getElem?_take_of_lt e2, rowOf_get (by omega)]
      · rw [List.getElem?_append_right (by rw [List.length_append, lt]; show j + 1 ≤ l; omega), List.length_append, lt, List.getElem?_drop]
        show (rowOf t i)[j + 1 + (l - (j + 1))]? = _
        rw [show j + 1 + (l - (j + 1)) = l by omega, rowOf_get (by omega)]
  · rw [if_neg g, if_neg g]
    unfold behindL
    by_cases e : l = j
    · rw [if_pos e, e, List.getElem?_set_self (by rw [List.length_map, List.length_range]; omega)]
      rfl
    · rw [if_neg e, List.getElem?_set_ne (Ne.symm e), List.getElem?_map, List.getElem?_range (by omega)]
      rfl
theorem exRow_len {m n : Nat} {t : Tb} {i j : Nat} (row : ∀ k, k < m + 1 → (rowOf t k).length = n + 1) (hi : i < m) (hj : j < n) {k : Nat} (hk : k ≤ m) : (exRow t i j k).length = n + 1 := by
  have ri := row i (by omega)
  have rk := row k (by omega)
  unfold exRow
  by_cases g : k = i
  · rw [if_pos g, List.length_append, List.length_append, List.length_take, List.length_drop]
    show _ + 1 + _ = _
    omega
  · rw [if_neg g]
    unfold behindL
    rw [List.length_set, List.length_map, List.length_range]
    exact rk
/-! ### an exchange -/
def spExch (C : Addr) : Sp := fun vs H Q _ => ∃ (x : Addr) (t : Tb) (m n i j b f : Nat), vs = [.ref x, .int (i : Nat), .int (j : Nat)] ∧ TbAt C H x t ∧ Shp m n t ∧ i < m ∧ j < n ∧ t.bs[i]? = some b ∧ t.fs[j]? = some f ∧ (∀ r ∈ t.rows, LitS r) ∧ 0 < t.D ∧ t.D.natAbs < 2 ^ 1000 ∧ tT t i j ≠ 0 ∧
  ∀ H' y t', Same H H' → TbAt C H' y t' → Shp m n t' → t'.bs = t.bs.set i f → t'.fs = t.fs.set j b → t'.D = Det.sgn (tT t i j) * tT t i j → (∀ k l, k ≤ m → l ≤ n → tT t' k l = Det.sgn (tT t i j) * Det.exch (tT t) t.D i j k l) → Q (.ref y) H'
abbrev NEx : List Str := ["table", "row", "column", "pivots", "lines", "sign", "basic", "free", "line", "entry"]
section
variable {P : Program} {w : World} {K : PySem.W.Frag} {mg : Str → Option Value} {base : Heap} {C : Addr}
theorem scEx : FnScope NEx ["table", "row", "column"] (defScope sExchanged) := ⟨rfl, rfl, rfl, by decide +kernel, rfl, by decide +kernel, by decide +kernel⟩
theorem ok_exchanged {f fB fI : Addr} {fd fdB fdI : FuncData} (F : FnT K "exchanged" sExchanged f fd) (T : TabK K C) (mlst : mg "list" = none) (gT : mg "Table" = some (.ref C)) (mk : Mk K C fI)
    (gB : mg "line_behind" = some (.ref fB)) (GB : FnOk P w K mg base CX0 1 fB fdB ["line", "pivots", "column", "bottom"] (spBehind K)) (kB : PySem.W.keepIn K (.ref fB) = true) (bB : Binds K fdB ["line", "pivots", "column", "bottom"] [])
    (GI : FnOk P w K mg base CX0 1 fI fdI ["self", "lines", "bottom", "basic", "free"] (spTabInit C)) (bI : Binds K fdI ["self", "lines", "bottom", "basic", "free"] []) :
    FnOk P w K mg base CX0 3 f fd ["table", "row", "column"] (spExch C) := by
  refine F.ok scEx (fun vs H Q E h => ?_) (fun cdv A outer s H vs Q E hr h => ?_)
  · obtain ⟨x, t, m, n, i, j, b, f, rfl, _⟩ := h
    rfl
  · obtain ⟨x, t, m, n, i, j, b0, f0, rfl, ht, hs, hi, hj, hbi, hfj, lit, hD, hDs, hp, q⟩ := h
    have nd := scEx.nd
    have hr1 : Room 1 _ := hr.mono (by decide)
    have hr2 : Room 2 _ := hr.mono (by decide)
    refine ⟨_, PSs.nox (pss_cons (ps_cut (ps_set (i := 3) nd rfl (.inr rfl) (pe_ix (ixLt K) (pe_fld (pv 0) rfl) (pv 1) (fun _ _ => rfl))))
      (pss_cons (ps_cut (ps_setLc (i := 4) (own := [("line", 8)]) (g := gName 8) (tt := tYes) rfl nd rfl rfl (sw_true rfl rfl rfl (by decide +kernel)) (pi_list (pe_fld (pv 0) rfl))
        (blkOk_by (own := [("line", 8)]) (N := NEx) (sc := defScope sExchanged) (by decide +kernel)) (fun _ _ _ _ _ => pg_name (i := 8) nd rfl (Or.inl rfl)) (fun _ _ _ _ _ => pts_nil)
        (fun _ _ _ _ _ => pe_call GB hr1 rfl gB kB bB .nil pass0 (pa_cons (pv 8) (pa_cons (pv 3) (pa_cons (pv 2) (pa_cons (pe_fldT K (pv 0) rfl) pa_nil)))))))
      (pss_cons (ps_cut (ps_asg (pe_op op_cat (pe_op op_cat (pe_slice sl_list (pv 3) po_none (po_some (pv 2))) (pe_lst (pa_cons (pe_fld (pv 0) rfl) pa_nil))) (pe_slice sl_list (pv 3) (po_some (pe_op op_add (pv 2) pe_int)) po_none)) (pg_sub (pv 4) (pv 1) set_list)))
      (pss_cons (ps_cut (ps_set (i := 5) nd rfl (.inr rfl) (pe_ifExp (pt_cmpR op_gt (pe_ix (ixLt K) (pv 3) (pv 2) (fun _ _ => rfl)) pe_int (nomark _)) pe_int (pe_un un_neg pe_int))))
      (pss_cons (ps_cut (ps_set (i := 6) nd rfl (.inl rfl) (pe_callTy call_list_of (by rfl) mlst (by decide +kernel) (pa_cons (pe_fld (pv 0) rfl) pa_nil))))
      (pss_cons (ps_cut (ps_set (i := 7) nd rfl (.inl rfl) (pe_callTy call_list_of (by rfl) mlst (by decide +kernel) (pa_cons (pe_fld (pv 0) rfl) pa_nil))))
      (pss_cons (ps_cut (ps_asg (pe_ix (ixLt K) (pe_fld (pv 0) rfl) (pv 2) (fun _ _ => rfl)) (pg_sub (pv 6) (pv 1) set_list)))
      (pss_cons (ps_cut (ps_asg (pe_ix (ixLt K) (pe_fld (pv 0) rfl) (pv 1) (fun _ _ => rfl)) (pg_sub (pv 7) (pv 2) set_list)))
      (pss_one (ps_ret (pe_make mk GI hr2 rfl gT bI .nil pass0 (pa_cons (pe_lc (own := [("line", 8)]) (g := gName 8) (tt := tYes) rfl nd (pi_list (pv 4))
          (blkOk_by (own := [("line", 8)]) (N := NEx) (sc := defScope sExchanged) (by decide +kernel)) (fun _ _ _ _ _ => pg_name (i := 8) nd rfl (Or.inl rfl)) (fun _ _ _ _ _ => pts_nil)
          (fun _ _ _ _ _ => pe_lc (own := [("entry", 9)]) (g := gName 9) (tt := tYes) rfl nd (piListT K (pv 8))
            (blkOk_by (own := [("entry", 9)]) (N := NEx) (sc := { kind := ScopeKind.function, names := [(".0", NameKind.local), ("line", NameKind.local), ("sign", NameKind.cell)], isGenerator := false, isCoroutine := false }) (by decide +kernel)) (fun _ _ _ _ _ => pg_name (i := 9) nd rfl (Or.inl rfl)) (fun _ _ _ _ _ => pts_nil)
            (fun _ _ _ _ _ => pe_op op_mul (pv 5) (pv 9))))
        (pa_cons (pe_op op_mul (pv 5) (pe_ix (ixLt K) (pv 3) (pv 2) (fun _ _ => rfl))) (pa_cons (pv 6) (pa_cons (pv 7) pa_nil))))))))))))))), ?_⟩
    obtain ⟨dx, L, b, f', hx, ⟨ps, hL, hpl, hrow⟩, hb, hf⟩ := id ht
    have bl := hs.bl
    have fl := hs.fl
    have rl := hs.rl
    have m100 := hs.ms
    have n100 := hs.ns
    have one : 1 ≤ sizeLine := by decide
    have row : ∀ k, k < m + 1 → t.rows[k]? = some (rowOf t k) ∧ (rowOf t k).length = n + 1 := fun k hk => by
      obtain ⟨r, h1, h2, h3⟩ := row_at_T hs hk
      have : rowOf t k = r := by
        unfold rowOf
        rw [List.getD_eq_getElem?_getD, h1]
        rfl
      rw [this]
      exact ⟨h1, h2⟩
    have lits : ∀ k, k < m + 1 → LitS (rowOf t k) := fun k hk => lit _ (List.mem_of_getElem? (row k hk).1)
    have addr : ∀ k, k < m + 1 → ∃ p, ps[k]? = some p ∧ IntsAt H p (rowOf t k) := fun k hk => by
      obtain ⟨p, hp⟩ : ∃ p, ps[k]? = some p := ⟨_, List.getElem?_eq_getElem (by omega)⟩
      exact ⟨p, hp, hrow k p _ hp (row k hk).1⟩
    obtain ⟨pp, hpp, ipp⟩ := addr i (by omega)
    have pl := (row i (by omega)).2
    -- the pivots
    refine ⟨fun σ' H' => σ' = [some (.ref x), some (.int (i : Nat)), some (.int (j : Nat)), some (.ref pp), none, none, none, none, none, none] ∧ H' = H, ?_, ?_⟩
    · exact ⟨_, rfl, x, C, dx, _, .ref L, rfl, hx, T.cl, T.n1, rfl, _, rfl, L, _, _, .ref pp, rfl, rfl, SqL.of hL, atI_nat (by rw [List.getElem?_map, hpp]; rfl), rfl, rfl⟩
    rintro _ H1 ⟨rfl, rfl⟩
    -- the lines behind
    refine ⟨fun σ' H' => ∃ D, σ' = [some (.ref x), some (.int (i : Nat)), some (.int (j : Nat)), some (.ref pp), some (.ref D), none, none, none, none, none] ∧ Same H1 H' ∧ H1 D = none ∧ RefsAt H' D (m + 1) fun l => behindL (rowOf t l) (rowOf t i) j t.D, ?_, ?_⟩
    · refine ⟨_, rfl, x, C, dx, _, .ref L, rfl, hx, T.cl, T.n1, rfl, L, rfl, ⟨_, SqL.of hL⟩, fun D hD' => ?_⟩
      refine lc_it (walk_list (K := K) (a := L) (xs := ps.map V.ref)) (fun k H' => Same H1 H' ∧ ∃ qs : List Addr, H' D = some (.lst (qs.map V.ref)) ∧ qs.length = k ∧ ∀ (l : Nat) (q : Addr), qs[l]? = some q → q ≠ D ∧ IntsAt H' q (behindL (rowOf t l) (rowOf t i) j t.D)) ⟨Same.new hD', [], upd_same, rfl, fun l q h => by simp at h⟩ (fun k H' hk p => SqL.of (p.1 _ _ hL)) ?_ ?_
      · rintro k z H5 _ hk ⟨s5, qs, bD, lq, hq⟩ ⟨rfl, hz⟩
        have km : k < m + 1 := by
          have : k < (ps.map V.ref).length := hk
          rw [List.length_map] at this
          omega
        obtain ⟨p, hp, ip⟩ := addr k km
        have ez : z = .ref p := by
          replace hz : (ps.map V.ref)[k]? = some z := hz
          rw [List.getElem?_map, hp] at hz
          exact (Option.some.inj hz).symm
        subst ez
        have kl := (row k km).2
        refine ⟨rfl, rdYes ⟨_, rfl, _, rfl, _, rfl, _, rfl, x, C, dx, _, .int t.D, rfl, s5 _ _ hx, T.cl, T.n2, rfl, p, pp, j, t.D, rowOf t k, rowOf t i, rfl, ip.same s5, ipp.same s5, by omega, by omega, by omega, hD, hDs, lits k km, lits i (by omega), fun H6 y s6 ey ny => ?_⟩⟩
        have ne : y ≠ D := fun z => by rw [z, bD] at ny; cases ny
        refine ⟨_, s6 _ _ bD, ?_, fun u o e => ?_, qs ++ [y], ?_, by rw [List.length_append, lq]; rfl, fun l q hl => ?_⟩
        · rw [List.length_map, lq]
          exact Nat.lt_of_le_of_lt (show k ≤ 101 by omega) (by decide)
        · rw [upd_ne (ne_of_none e hD')]
          exact s6 _ _ (s5 _ _ e)
        · rw [upd_same, List.map_append]
          rfl
        · by_cases g : l < qs.length
          · rw [List.getElem?_append_left g] at hl
            obtain ⟨n1, n2⟩ := hq l q hl
            exact ⟨n1, by show upd _ _ _ _ = _; rw [upd_ne n1]; exact s6 _ _ n2⟩
          · rw [List.getElem?_append_right (by omega)] at hl
            have l0 : l = k := by
              have := (List.getElem?_eq_some_iff.mp hl).1
              simp only [List.length_singleton] at this
              omega
            subst l0
            rw [lq, Nat.sub_self] at hl
            cases hl
            exact ⟨ne, by show upd _ _ _ _ = _; rw [upd_ne ne]; exact ey⟩
      · rintro H5 ⟨s5, qs, bD, lq, hq⟩
        rw [List.length_map] at lq
        exact ⟨D, rfl, s5, hD', qs, bD, by omega, fun l q hl => (hq l q hl).2⟩
    rintro _ H2 ⟨D, rfl, s2, hD0, ⟨qs, bD, lq, hq⟩⟩
    -- the pivots' own line
    refine ⟨fun σ' H' => σ' = [some (.ref x), some (.int (i : Nat)), some (.int (j : Nat)), some (.ref pp), some (.ref D), none, none, none, none, none] ∧ Same H1 H' ∧ RefsAt H' D (m + 1) (exRow t i j), ?_, ?_⟩
    · have ip2 := ipp.same s2
      refine ⟨_, rfl, _, rfl, _, rfl, rd_slI ip2 (ys := (rowOf t i).take j) (by rw [cut_takeT _ _ (by rw [List.length_map]; omega), List.map_take]) fun H3 a1 s3 e1 => ?_⟩
      refine ⟨_, rfl, x, C, dx, _, .int t.D, rfl, s3 _ _ (s2 _ _ hx), T.cl, T.n2, rfl, one, fun a2 h2 => ?_⟩
      have s4 := Same.new (o := .lst [.int t.D]) h2
      refine rd_catI (ys := [t.D]) (e1.same s4) upd_same (by rw [List.length_take]; show _ + 1 ≤ 100000; omega) fun H5 a3 s5 e3 => ?_
      have s25 := s3.trans (s4.trans s5)
      refine ⟨_, rfl, _, rfl, _, _, rfl, rfl, _, rfl, rd_noT (rd_slI (ip2.same s25) (ys := (rowOf t i).drop (j + 1)) (by rw [show ((j : Nat) : Int) + 1 = ((j + 1 : Nat) : Int) from rfl, cut_dropT _ _ (by rw [List.length_map]; omega), List.map_drop]) fun H6 a4 s6 e4 => ?_)⟩
      refine rd_catI (e3.same s6) e4 (by rw [List.length_append, List.length_take, List.length_drop]; show _ + 1 + _ ≤ 100000; omega) fun H7 a5 s7 e5 => ?_
      have s27 := s25.trans (s6.trans s7)
      have bD7 := s27 _ _ bD
      have qne : qs ≠ [] := fun z => by rw [z] at lq; cases lq
      have n5 := apartT bD7 qne e5
      refine ⟨_, rfl, _, rfl, D, _, _, i, rfl, rfl, bD7, ixNt (by rw [List.length_map]; omega), rfl, fun u o e => ?_, qs.set i a5, by rw [upd_same, List.map_set], by rw [List.length_set]; exact lq, fun l q hl => ?_⟩
      · rw [upd_ne (ne_of_none e hD0)]
        exact s27 _ _ (s2 _ _ e)
      · by_cases g : l = i
        · subst g
          rw [List.getElem?_set_self (by omega)] at hl
          obtain rfl := Option.some.inj hl
          show upd _ _ _ _ = _
          rw [upd_ne n5]
          unfold exRow
          rw [if_pos rfl]
          exact e5
        · rw [List.getElem?_set_ne (Ne.symm g)] at hl
          have iq := (hq l q hl).same s27
          have nq := apartT bD7 qne iq
          show upd _ _ _ _ = _
          rw [upd_ne nq]
          unfold exRow
          rw [if_neg g]
          exact iq
    rintro _ H3 ⟨rfl, s3, r3⟩
    clear hq bD lq s2
    have pe : (rowOf t i)[j]? = some (tT t i j) := getD_at (by omega)
    have sg1 := Det.sgn_one (tT t i j)
    -- the sign
    refine ⟨fun σ' H' => σ' = [some (.ref x), some (.int (i : Nat)), some (.int (j : Nat)), some (.ref pp), some (.ref D), some (.int (Det.sgn (tT t i j))), none, none, none, none] ∧ H' = H3, ?_, ?_⟩
    · refine ⟨_, rfl, _, rfl, pp, _, _, .int (tT t i j), rfl, rfl, (ipp.same s3).sq, atI_nat (IntsAt.get pe), _, _, rfl, rfl, _, rfl, ?_⟩
      unfold Det.sgn
      refine ite2 (fun c => ?_) (fun c => ?_)
      · have c' : tT t i j > 0 := of_decide_eq_true c
        rw [if_pos c']
        exact ⟨rfl, rfl⟩
      · have c' : ¬ tT t i j > 0 := fun z => c (decide_eq_true z)
        rw [if_neg c']
        exact ⟨_, rfl, rfl, rfl⟩
    rintro _ H4 ⟨rfl, rfl⟩
    -- the numbers of quantities
    refine ⟨fun σ' H' => ∃ a6, σ' = [some (.ref x), some (.int (i : Nat)), some (.int (j : Nat)), some (.ref pp), some (.ref D), some (.int (Det.sgn (tT t i j))), some (.ref a6), none, none, none] ∧ Same H4 H' ∧ H4 a6 = none ∧ IntsAt H' a6 (natL t.bs), ?_, ?_⟩
    · exact ⟨_, rfl, x, C, dx, _, .ref b, rfl, s3 _ _ hx, T.cl, T.n3, rfl, b, _, rfl, .inl (hb.same s3).sq, fun a6 h6 => ⟨a6, rfl, Same.new h6, h6, upd_same⟩⟩
    rintro _ H5 ⟨a6, rfl, s5, n6, e6⟩
    have s35 := s3.trans s5
    refine ⟨fun σ' H' => ∃ a7, σ' = [some (.ref x), some (.int (i : Nat)), some (.int (j : Nat)), some (.ref pp), some (.ref D), some (.int (Det.sgn (tT t i j))), some (.ref a6), some (.ref a7), none, none] ∧ Same H5 H' ∧ H5 a7 = none ∧ IntsAt H' a7 (natL t.fs), ?_, ?_⟩
    · exact ⟨_, rfl, x, C, dx, _, .ref f', rfl, s35 _ _ hx, T.cl, T.n4, rfl, f', _, rfl, .inl (hf.same s35).sq, fun a7 h7 => ⟨a7, rfl, Same.new h7, h7, upd_same⟩⟩
    rintro _ H6 ⟨a7, rfl, s6, n7, e7⟩
    have s36 := s35.trans s6
    have n67 : a6 ≠ a7 := fun z => by
      rw [← z] at n7
      rw [show H5 a6 = _ from e6] at n7
      cases n7
    have gf : ((natL t.fs).map V.int)[j]? = some (.int (f0 : Nat)) := IntsAt.get (by unfold natL; rw [List.getElem?_map, hfj]; rfl)
    have gb : ((natL t.bs).map V.int)[i]? = some (.int (b0 : Nat)) := IntsAt.get (by unfold natL; rw [List.getElem?_map, hbi]; rfl)
    have lenN : ∀ ns : List Nat, ((natL ns).map V.int).length = ns.length := fun ns => by unfold natL; rw [List.length_map, List.length_map]
    have setN : ∀ (ns : List Nat) (k q : Nat), ((natL ns).map V.int).set k (V.int (q : Nat)) = (natL (ns.set k q)).map V.int := fun ns k q => by
      unfold natL
      rw [List.map_set, List.map_set]
      rfl
    refine ⟨fun σ' H' => σ' = [some (.ref x), some (.int (i : Nat)), some (.int (j : Nat)), some (.ref pp), some (.ref D), some (.int (Det.sgn (tT t i j))), some (.ref a6), some (.ref a7), none, none] ∧ Same H4 H' ∧ IntsAt H' a6 (natL (t.bs.set i f0)) ∧ IntsAt H' a7 (natL t.fs), ?_, ?_⟩
    · refine ⟨_, rfl, x, C, dx, _, .ref f', rfl, s36 _ _ hx, T.cl, T.n4, rfl, _, rfl, f', _, _, .int (f0 : Nat), rfl, rfl, (hf.same s36).sq, atI_nat gf, _, rfl, _, rfl, a6, _, _, i, rfl, rfl, s6 _ _ e6, ixNt (by rw [lenN]; omega), rfl, fun u o e => ?_, ?_, ?_⟩
      · rw [upd_ne (ne_of_none e n6)]
        exact s6 _ _ (s5 _ _ e)
      · show upd _ _ _ _ = _
        rw [upd_same, setN]
      · show upd _ _ _ _ = _
        rw [upd_ne (Ne.symm n67)]
        exact e7
    rintro _ H7 ⟨rfl, s7, e67, e77⟩
    have s37 := s3.trans s7
    have n47 : H4 a7 = none := by
      cases z : H4 a7 with
      | none => rfl
      | some o => rw [s5 _ _ z] at n7; cases n7
    refine ⟨fun σ' H' => σ' = [some (.ref x), some (.int (i : Nat)), some (.int (j : Nat)), some (.ref pp), some (.ref D), some (.int (Det.sgn (tT t i j))), some (.ref a6), some (.ref a7), none, none] ∧ Same H4 H' ∧ IntsAt H' a6 (natL (t.bs.set i f0)) ∧ IntsAt H' a7 (natL (t.fs.set j b0)), ?_, ?_⟩
    · refine ⟨_, rfl, x, C, dx, _, .ref b, rfl, s37 _ _ hx, T.cl, T.n3, rfl, _, rfl, b, _, _, .int (b0 : Nat), rfl, rfl, (hb.same s37).sq, atI_nat gb, _, rfl, _, rfl, a7, _, _, j, rfl, rfl, e77, ixNt (by rw [lenN]; omega), rfl, fun u o e => ?_, ?_, ?_⟩
      · rw [upd_ne (ne_of_none e n47)]
        exact s7 _ _ e
      · show upd _ _ _ _ = _
        rw [upd_ne n67]
        exact e67
      · show upd _ _ _ _ = _
        rw [upd_same, setN]
    rintro _ H8 ⟨rfl, s8, e68, e78⟩
    clear e6 e7 e67 e77 s5 s6 s7 n7
    obtain ⟨qs, bD, lq, hq⟩ := r3.same s8
    have s18 := s3.trans s8
    -- the lines with the sign
    generalize hsg : Det.sgn (tT t i j) = sg at *
    have sgs : CMul sg (0 : Int) → True := fun _ => trivial
    have small : ∀ z : Int, CMul sg z := fun z => .inl (by rcases sg1 with g | g <;> rw [g] <;> decide)
    have rows1 : ∀ k, k < m + 1 → (rowOf t k).length = n + 1 := fun k hk => (row k hk).2
    refine ⟨_, rfl, D, rfl, ⟨_, SqL.of bD⟩, fun D2 hD2 => ?_⟩
    refine lc_it (walk_list (K := K) (a := D) (xs := qs.map V.ref)) (fun k H' => Same H8 H' ∧ ∃ us : List Addr, H' D2 = some (.lst (us.map V.ref)) ∧ us.length = k ∧ ∀ (l : Nat) (u : Addr), us[l]? = some u → u ≠ D2 ∧ IntsAt H' u ((exRow t i j l).map (sg * ·))) ⟨Same.new hD2, [], upd_same, rfl, fun l q h => by simp at h⟩ (fun k H' hk p => SqL.of (p.1 _ _ bD)) ?_ ?_
    · rintro k z _ H9 hk ⟨s9, us, bD2, lu, hu⟩ ⟨rfl, hz⟩
      have km : k < m + 1 := by
        have : k < (qs.map V.ref).length := hk
        rw [List.length_map] at this
        omega
      obtain ⟨p, hp⟩ : ∃ p, qs[k]? = some p := ⟨_, List.getElem?_eq_getElem (by omega)⟩
      have ez : z = .ref p := by
        replace hz : (qs.map V.ref)[k]? = some z := hz
        rw [List.getElem?_map, hp] at hz
        exact (Option.some.inj hz).symm
      subst ez
      have ip := (hq k p hp).same s9
      have el := exRow_len rows1 hi hj (k := k) (by omega)
      refine ⟨rfl, rdYes ⟨_, rfl, p, rfl, ⟨_, ip.sq⟩, fun D3 hD3 => ?_⟩⟩
      refine lc_it (walk_list (K := K) (a := p) (xs := (exRow t i j k).map V.int)) (fun l H' => Same H9 H' ∧ IntsAt H' D3 (((exRow t i j k).take l).map (sg * ·))) ⟨Same.new hD3, upd_same⟩ (fun l H' hl p' => (ip.same p'.1).sq) ?_ ?_
      · rintro l z _ H10 hl ⟨s10, bD3⟩ ⟨rfl, hz⟩
        obtain ⟨e, he, rfl⟩ := IntsAt.back hz
        have ln : l < n + 1 := by
          have : l < ((exRow t i j k).map V.int).length := hl
          rw [List.length_map] at this
          omega
        refine ⟨rfl, rdYes ⟨_, rfl, _, rfl, sg, e, rfl, rfl, small e, ?_⟩⟩
        refine ⟨_, bD3, ?_, fun u o g => ?_, ?_⟩
        · rw [List.length_map, List.length_map, List.length_take]
          exact Nat.lt_of_le_of_lt (show _ ≤ 101 by omega) (by decide)
        · rw [upd_ne (ne_of_none g hD3)]
          exact s10 _ _ g
        · show upd _ _ _ _ = _
          rw [upd_same, List.take_succ, he, List.map_append, List.map_append]
          rfl
      · rintro H10 ⟨s10, bD3⟩
        rw [List.length_map, List.take_length] at bD3
        have n3 : D3 ≠ D2 := fun z => by rw [z, bD2] at hD3; cases hD3
        refine ⟨_, s10 _ _ bD2, ?_, fun u o g => ?_, us ++ [D3], ?_, by rw [List.length_append, lu]; rfl, fun l u hl => ?_⟩
        · rw [List.length_map, lu]
          exact Nat.lt_of_le_of_lt (show k ≤ 101 by omega) (by decide)
        · rw [upd_ne (ne_of_none g hD2)]
          exact s10 _ _ (s9 _ _ g)
        · rw [upd_same, List.map_append]
          rfl
        · by_cases g : l < us.length
          · rw [List.getElem?_append_left g] at hl
            obtain ⟨n1, n2⟩ := hu l u hl
            exact ⟨n1, by show upd _ _ _ _ = _; rw [upd_ne n1]; exact s10 _ _ n2⟩
          · rw [List.getElem?_append_right (by omega)] at hl
            have l0 : l = k := by
              have := (List.getElem?_eq_some_iff.mp hl).1
              simp only [List.length_singleton] at this
              omega
            subst l0
            rw [lu, Nat.sub_self] at hl
            cases hl
            exact ⟨n3, by show upd _ _ _ _ = _; rw [upd_ne n3]; exact bD3⟩
    · rintro H9 ⟨s9, us, bD2, lu, hu⟩
      rw [List.length_map, lq] at lu
      refine ⟨_, rfl, _, rfl, _, rfl, pp, _, _, .int (tT t i j), rfl, rfl, ((ipp.same s18).same s9).sq, atI_nat (IntsAt.get pe), sg, tT t i j, rfl, rfl, small _, _, rfl, _, rfl, fun y dy hy hdy ne => ?_⟩
      refine ⟨y, dy, .ref D2, .int (sg * tT t i j), .ref a6, .ref a7, rfl, upd_same, fun H10 k10 e10 => ⟨rfl, ?_⟩⟩
      have s10 := made_sameT hy hdy k10
      have all := s18.trans (s9.trans s10)
      let t' : Tb := ⟨(List.range (m + 1)).map fun l => (exRow t i j l).map (sg * ·), sg * tT t i j, t.bs.set i f0, t.fs.set j b0⟩
      have rowT : ∀ k, k ≤ m → t'.rows[k]? = some ((exRow t i j k).map (sg * ·)) := fun k hk => by
        show ((List.range (m + 1)).map _)[k]? = _
        rw [List.getElem?_map, List.getElem?_range (by omega)]
        rfl
      refine q H10 y t' all ⟨dy, D2, a6, a7, e10, ⟨us, s10 _ _ bD2, ?_, fun k u r hk hr => ?_⟩, (e68.same s9).same s10, (e78.same s9).same s10⟩ ⟨?_, fun r hr => ?_, ?_, ?_, m100, n100⟩ rfl rfl rfl fun k l hk hl => ?_
      · show us.length = ((List.range (m + 1)).map _).length
        rw [List.length_map, List.length_range, lu]
      · have kl := (List.getElem?_eq_some_iff.mp hk).1
        rw [rowT k (by omega)] at hr
        obtain rfl := Option.some.inj hr
        exact ((hu k u hk).2).same s10
      · show ((List.range (m + 1)).map _).length = m + 1
        rw [List.length_map, List.length_range]
      · obtain ⟨k, hk, rfl⟩ := List.mem_map.mp hr
        rw [List.length_map]
        exact exRow_len rows1 hi hj (by have := List.mem_range.mp hk; omega)
      · show (t.bs.set i f0).length = m
        rw [List.length_set, bl]
      · show (t.fs.set j b0).length = n
        rw [List.length_set, fl]
      · show (t'.rows.getD k []).getD l 0 = _
        rw [List.getD_eq_getElem?_getD (l := t'.rows), rowT k hk, Option.getD_some, List.getD_eq_getElem?_getD, List.getElem?_map, exRow_get rows1 hi hj hk hl]
        rfl
end
end Ca
set_option Elab.async false
set_option linter.all false
set_option maxRecDepth 100000
set_option maxHeartbeats 8000000
namespace Ca
open PySem L2
/-! ### all exchanges -/
structure Rep (m n : Nat) (t : Tb) (S : Det.Sta) : Prop where
  bs : t.bs = S.bs
  fs : t.fs = S.fs
  D : t.D = S.D
  T : ∀ k l, k ≤ m → l ≤ n → tT t k l = S.T k l
section
variable {m n : Nat} {t t' : Tb} {S : Det.Sta} {V : Nat → Det.Col} {i j b f : Nat}
theorem Rep.wrong (h : Rep m n t S) (s : Shp m n t) {q : Nat} : WrongT m n t q ↔ Det.Wrong m n S q := by
  unfold WrongT Det.Wrong
  rw [← h.bs, ← h.fs]
  refine or_congr ⟨fun ⟨k, h1, h2⟩ => ⟨k, h1, ?_⟩, fun ⟨k, h1, h2⟩ => ⟨k, h1, ?_⟩⟩ ⟨fun ⟨k, h1, h2⟩ => ⟨k, h1, ?_⟩, fun ⟨k, h1, h2⟩ => ⟨k, h1, ?_⟩⟩
  · have := (List.getElem?_eq_some_iff.mp h1).1
    have := s.bl
    rw [← h.T k n (by omega) (Nat.le_refl _)]
    exact h2
  · have := (List.getElem?_eq_some_iff.mp h1).1
    have := s.bl
    rw [h.T k n (by omega) (Nat.le_refl _)]
    exact h2
  · have := (List.getElem?_eq_some_iff.mp h1).1
    have := s.fl
    rw [← h.T m k (Nat.le_refl _) (by omega)]
    exact h2
  · have := (List.getElem?_eq_some_iff.mp h1).1
    have := s.fl
    rw [h.T m k (Nat.le_refl _) (by omega)]
    exact h2
theorem Rep.step (h : Rep m n t S) (s : Shp m n t) (hb : t.bs[i]? = some b) (hf : t.fs[j]? = some f) (w : ByRowT m n t i j b f ∨ ByColT m n t i j b f) : Det.Step m n S (Det.exSta S i j b f) i j b f := by
  have il := (List.getElem?_eq_some_iff.mp hb).1
  have jl := (List.getElem?_eq_some_iff.mp hf).1
  have bl := s.bl
  have fl := s.fl
  refine ⟨by rw [← h.bs]; exact hb, by rw [← h.fs]; exact hf, ?_, rfl⟩
  rcases w with ⟨w1, w2, w3, w4⟩ | ⟨w1, w2, w3, w4⟩
  · refine .inl ⟨by rw [← h.T i n (by omega) (Nat.le_refl _)]; exact w1, by rw [← h.T i j (by omega) (by omega)]; exact w2, fun q hq => w3 q ((h.wrong s).mpr hq), fun l q hl hlt => ?_⟩
    rw [← h.fs] at hl
    have := (List.getElem?_eq_some_iff.mp hl).1
    exact w4 l q hl (by rw [h.T i l (by omega) (by omega)]; exact hlt)
  · refine .inr ⟨by rw [← h.T m j (Nat.le_refl _) (by omega)]; exact w1, by rw [← h.T i j (by omega) (by omega)]; exact w2, fun q hq => w3 q ((h.wrong s).mpr hq), fun l q hl hlt => ?_⟩
    rw [← h.bs] at hl
    have := (List.getElem?_eq_some_iff.mp hl).1
    exact w4 l q hl (by rw [h.T l j (by omega) (by omega)]; exact hlt)
theorem Rep.next (h : Rep m n t S) (hi : i < m) (hj : j < n) (e1 : t'.bs = t.bs.set i f) (e2 : t'.fs = t.fs.set j b) (e3 : t'.D = Det.sgn (tT t i j) * tT t i j) (e4 : ∀ k l, k ≤ m → l ≤ n → tT t' k l = Det.sgn (tT t i j) * Det.exch (tT t) t.D i j k l) : Rep m n t' (Det.exSta S i j b f) := by
  have p := h.T i j (by omega) (by omega)
  refine ⟨by rw [e1, h.bs]; rfl, by rw [e2, h.fs]; rfl, by rw [e3, p]; rfl, fun k l hk hl => ?_⟩
  rw [e4 k l hk hl, p]
  show _ = Det.sgn (S.T i j) * Det.exch S.T S.D i j k l
  congr 1
  unfold Det.exch
  rw [p, h.D, h.T i l (by omega) hl, h.T k j hk (by omega), h.T k l hk hl]
end
/-- entries that are not too great, in all states that can be reached -/
def Low (m n : Nat) (V : Nat → Det.Col) : Prop := ∀ S, Det.Ok V m n S → S.D.natAbs < 2 ^ 1000 ∧ ∀ i j, i ≤ m → j ≤ n → (S.T i j).natAbs < 2 ^ 1000
def spSettled (K : PySem.W.Frag) (C : Addr) : Sp := fun vs H Q _ => ∃ (x : Addr) (t : Tb) (m n : Nat) (V : Nat → Det.Col) (S : Det.Sta), vs = [.ref x] ∧ TbAt C H x t ∧ Shp m n t ∧ Rep m n t S ∧ Det.Ok V m n S ∧ Low m n V ∧
  ∀ H' y x' t' S' a c, Same H H' → SqT K H' y [.ref x', a, c] → TbAt C H' x' t' → Shp m n t' → Rep m n t' S' → Det.Ok V m n S' → NextT m n t' a c → (a = .non ∨ c = .non) → (∃ τ, Det.Reach V m n S τ S') → Q (.ref y) H'
section
variable {P : Program} {w : World} {K : PySem.W.Frag} {mg : Str → Option Value} {base : Heap} {C : Addr}
theorem scSe : FnScope ["table", "row", "column"] ["table"] (defScope sSettled) := ⟨rfl, rfl, rfl, by decide +kernel, rfl, by decide +kernel, by decide +kernel⟩
theorem ok_settled {f fN fE : Addr} {fd fdN fdE : FuncData} (F : FnT K "settled" sSettled f fd)
    (gN : mg "next_exchange" = some (.ref fN)) (GN : FnOk P w K mg base CX0 2 fN fdN ["table"] (spNext K C)) (kN : PySem.W.keepIn K (.ref fN) = true) (bN : Binds K fdN ["table"] [])
    (gE : mg "exchanged" = some (.ref fE)) (GE : FnOk P w K mg base CX0 3 fE fdE ["table", "row", "column"] (spExch C)) (kE : PySem.W.keepIn K (.ref fE) = true) (bE : Binds K fdE ["table", "row", "column"] []) :
    FnOk P w K mg base CX0 4 f fd ["table"] (spSettled K C) := by
  refine F.ok scSe (fun vs H Q E h => ?_) (fun cdv A outer s H vs Q E hr h => ?_)
  · obtain ⟨x, t, m, n, V, S, rfl, _⟩ := h
    rfl
  · obtain ⟨x, t, m, n, V, S, rfl, ht, hs, hR, hO, low, q⟩ := h
    have nd := scSe.nd
    have hr2 : Room 2 _ := hr.mono (by decide)
    refine ⟨_, PSs.nox (pss_cons (ps_cut (ps_asg (pe_call GN hr2 rfl gN kN bN .nil pass0 (pa_cons (pv 0) pa_nil)) (pgTt K rfl (pgs_cons (pg_name (i := 1) nd rfl (.inl rfl)) (pgs_cons (pg_name (i := 2) nd rfl (.inl rfl)) pgs_nil)))))
      (pss_cons (ps_cut (ps_while PassesOwn.never (PW.pt (pw_and (pt_cmpR op_notN (pv 1) pe_non (nomark _)) (pw_and1 (pt_cmpR op_notN (pv 2) pe_non (nomark _)))))
          (pss_cons (ps_cut (ps_set (i := 0) nd rfl (.inl rfl) (pe_call GE hr rfl gE kE bE .nil pass0 (pa_cons (pv 0) (pa_cons (pv 1) (pa_cons (pv 2) pa_nil))))))
          (pss_one (ps_asg (pe_call GN hr2 rfl gN kN bN .nil pass0 (pa_cons (pv 0) pa_nil)) (pgTt K rfl (pgs_cons (pg_name (i := 1) nd rfl (.inl rfl)) (pgs_cons (pg_name (i := 2) nd rfl (.inl rfl)) pgs_nil))))))))
      (pss_one (ps_ret (pe_tup (pa_cons (pv 0) (pa_cons (pv 1) (pa_cons (pv 2) pa_nil)))))))), ?_⟩
    let W : Nat → L2.St → Hp → Prop := fun k σ' H' => ∃ τ S' x' t' a c, k + τ = 2 ^ (m + n) ∧ Det.Reach V m n S τ S' ∧ σ' = [some (.ref x'), some a, some c] ∧ Same H H' ∧ TbAt C H' x' t' ∧ Shp m n t' ∧ Rep m n t' S' ∧ NextT m n t' a c
    have nds : ∀ {t' S'}, Rep m n t' S' → Det.Ok V m n S' → (t'.bs ++ t'.fs).Nodup := fun {t' S'} r o => by rw [r.bs, r.fs]; exact o.nd
    refine ⟨W (2 ^ (m + n)), ?_, ?_⟩
    · exact ⟨_, rfl, x, t, m, n, rfl, ht, hs, nds hR hO, fun H1 y a c s1 e1 nx => ⟨y, _, rfl, e1, rfl, _, _, rfl, _, _, rfl, rfl, ⟨0, S, x, t, a, c, rfl, Det.Reach.start hO, rfl, s1, ht.same s1, hs, hR, nx⟩⟩⟩
    rintro σ1 H1 hW0
    refine ⟨fun σ' H' => ∃ S' x' t' a c, σ' = [some (.ref x'), some a, some c] ∧ Same H H' ∧ TbAt C H' x' t' ∧ Shp m n t' ∧ Rep m n t' S' ∧ Det.Ok V m n S' ∧ NextT m n t' a c ∧ (a = .non ∨ c = .non) ∧ ∃ τ, Det.Reach V m n S τ S', ⟨W, ⟨_, hW0⟩, ?_⟩, ?_⟩
    · rintro k σ' H' ⟨τ, S', x', t', a, c, hk, hr', rfl, s', ht', hs', hR', nx⟩
      have hO' := hr'.ok
      have bound := hr'.bound
      have fin : a = .non ∨ c = .non → ∃ S' x'' t'' a' c', ([some (.ref x'), some a, some c] : L2.St) = [some (.ref x''), some a', some c'] ∧ Same H H' ∧ TbAt C H' x'' t'' ∧ Shp m n t'' ∧ Rep m n t'' S' ∧ Det.Ok V m n S' ∧ NextT m n t'' a' c' ∧ (a' = .non ∨ c' = .non) ∧ ∃ τ, Det.Reach V m n S τ S' := fun z => ⟨S', x', t', a, c, rfl, s', ht', hs', hR', hO', nx, z, τ, hr'⟩
      refine ⟨_, rfl, rfl, _, rfl, ?_⟩
      rcases id nx with ⟨rfl, rfl, _⟩ | ⟨i, rfl, rfl, _⟩ | ⟨j, rfl, rfl, _⟩ | ⟨i, j, b, f, rfl, rfl, hb, hf, w⟩
      · rw [decide_eq_true rfl]
        exact iteF (fin (.inl rfl))
      · rw [decide_eq_false (fun z => nomatch z)]
        refine iteT ⟨_, rfl, rfl, _, rfl, ?_⟩
        rw [decide_eq_true rfl]
        exact iteF (fin (.inr rfl))
      · rw [decide_eq_true rfl]
        exact iteF (fin (.inl rfl))
      · rw [decide_eq_false (fun z => nomatch z)]
        refine iteT ⟨_, rfl, rfl, _, rfl, ?_⟩
        rw [decide_eq_false (fun z => nomatch z)]
        have il := (List.getElem?_eq_some_iff.mp hb).1
        have jl := (List.getElem?_eq_some_iff.mp hf).1
        have bl := hs'.bl
        have fl := hs'.fl
        have st := hR'.step hs' hb hf w
        have nz : tT t' i j ≠ 0 := by rcases w with ⟨_, g, _⟩ | ⟨_, g, _⟩ <;> omega
        obtain ⟨lowD, lowT⟩ := low S' hO'
        have lits : ∀ r ∈ t'.rows, LitS r := fun r hr z hz => by
          obtain ⟨k, hk⟩ := List.mem_iff_getElem?.mp hr
          obtain ⟨l, hl⟩ := List.mem_iff_getElem?.mp hz
          have k1 := (List.getElem?_eq_some_iff.mp hk).1
          have l1 := (List.getElem?_eq_some_iff.mp hl).1
          have := hs'.rl
          have rn := hs'.re r hr
          obtain ⟨r', h1, _, h3⟩ := row_at_T hs' (i := k) (by omega)
          rw [hk] at h1
          obtain rfl := Option.some.inj h1
          have ez : z = tT t' k l := by
            rw [← h3 l]
            have := getD_at l1
            rw [hl] at this
            exact Option.some.inj this
          rw [ez, hR'.T k l (by omega) (by omega)]
          exact lowT k l (by omega) (by omega)
        refine iteT ⟨fun σ'' H'' => ∃ k', k' < k ∧ W k' σ'' H'', fun _ _ h => h, ?_⟩
        refine ⟨fun σ'' H'' => ∃ x'' t'', σ'' = [some (.ref x''), some (.int (i : Nat)), some (.int (j : Nat))] ∧ Same H H'' ∧ TbAt C H'' x'' t'' ∧ Shp m n t'' ∧ Rep m n t'' (Det.exSta S' i j b f), ?_, ?_⟩
        · exact ⟨_, rfl, _, rfl, _, rfl, x', t', m, n, i, j, b, f, rfl, ht', hs', by omega, by omega, hb, hf, lits, by rw [hR'.D]; exact hO'.dic.pos, by rw [hR'.D]; exact lowD, nz, fun H2 y t2 s2 e2 sh2 b2 f2 d2 T2 => ⟨y, t2, rfl, s'.trans s2, e2, sh2, hR'.next (by omega) (by omega) b2 f2 d2 T2⟩⟩
        rintro _ H2 ⟨x2, t2, rfl, s2, e2, sh2, R2⟩
        have r2 := hr'.step st
        exact ⟨_, rfl, x2, t2, m, n, rfl, e2, sh2, nds R2 r2.ok, fun H3 y a3 c3 s3 e3 nx3 => ⟨y, _, rfl, e3, rfl, _, _, rfl, _, _, rfl, rfl, ⟨k - 1, by omega, τ + 1, _, x2, t2, a3, c3, by omega, r2, rfl, s2.trans s3, e2.same s3, sh2, R2, nx3⟩⟩⟩
    rintro _ H2 ⟨S', x', t', a, c, rfl, s2, e2, sh2, R2, O2, nx2, stop, rea⟩
    exact ⟨_, rfl, _, rfl, _, rfl, (show 3 ≤ sizeLine by decide), fun y hy => q _ y x' t' S' a c (s2.trans (Same.new hy)) (SqT.of upd_same) (e2.same (Same.new hy)) sh2 R2 O2 nx2 stop rea⟩
end
end Ca
set_option Elab.async false
set_option linter.all false
set_option maxRecDepth 100000
set_option maxHeartbeats 8000000
namespace Ca
open PySem L2
/-! ### the first table -/
def LimsAt (K : PySem.W.Frag) (H : Hp) (a : Addr) (ls : List (List Int × Int)) : Prop := ∃ ps : List Addr, H a = some (.lst (ps.map V.ref)) ∧ ps.length = ls.length ∧ ∀ (i : Nat) (p : Addr) (l : List Int × Int), ps[i]? = some p → ls[i]? = some l → ∃ q, SqT K H p [.ref q, .int l.2] ∧ IntsAt H q l.1
theorem LimsAt.same {K : PySem.W.Frag} {H H' : Hp} {a : Addr} {ls : List (List Int × Int)} (h : LimsAt K H a ls) (s : Same H H') : LimsAt K H' a ls := by
  obtain ⟨ps, h1, h2, h3⟩ := h
  exact ⟨ps, s _ _ h1, h2, fun i p l e1 e2 => by
    obtain ⟨q, g1, g2⟩ := h3 i p l e1 e2
    exact ⟨q, same_sqt s g1, g2.same s⟩⟩
def firstTb (ls : List (List Int × Int)) (cs : List Int) : Tb := ⟨ls.map (fun l => l.1 ++ [l.2]) ++ [cs ++ [0]], 1, (List.range ls.length).map (cs.length + ·), List.range cs.length⟩
section
variable {X : Cx} {e : Expr} {es : List Expr} {p : Pos} {te : TE} {t : TA}
theorem pa_starT (K : PySem.W.Frag) (he : PE X e te) (hr : PA X es t) (h : X.K = K := by rfl) (hs : starEach (.Starred e p :: es) X.env = (true, eval e X.env) :: starEach es X.env := by rfl) : PA X (.Starred e p :: es) (StX.tStar K te t) := h ▸ StX.pa_star he hr hs
end
theorem rgV_nat (a k : Nat) : rgV (a : Int) ((a : Int) + (k : Int)) = (natL ((List.range k).map (a + ·))).map V.int := by
  unfold rgV natL
  rw [show ((a : Int) + (k : Int) - (a : Int)).toNat = k by omega, List.map_map, List.map_map]
  exact List.map_congr_left fun i _ => rfl
theorem rgV_zero (k : Nat) : rgV 0 (k : Int) = (natL (List.range k)).map V.int := by
  have := rgV_nat 0 k
  simp only [Int.natCast_zero, Int.zero_add, Nat.zero_add] at this
  rw [this]
  congr 1
  congr 1
  exact List.map_id _
def spFirstT (K : PySem.W.Frag) (C : Addr) : Sp := fun vs H Q _ => ∃ (a c : Addr) (ls : List (List Int × Int)) (cs : List Int), vs = [.ref a, .ref c] ∧ LimsAt K H a ls ∧ IntsAt H c cs ∧ (∀ l ∈ ls, l.1.length = cs.length) ∧ ls.length ≤ 100 ∧ cs.length ≤ 100 ∧
  ∀ H' y, Same H H' → TbAt C H' y (firstTb ls cs) → Q (.ref y) H'
abbrev NFt : List Str := ["limits", "costs", "lines", "last", "many", "numbers", "bound"]
section
variable {P : Program} {w : World} {K : PySem.W.Frag} {mg : Str → Option Value} {base : Heap} {C : Addr}
theorem scFt : FnScope NFt ["limits", "costs"] (defScope sFirstTable) := ⟨rfl, rfl, rfl, by decide +kernel, rfl, by decide +kernel, by decide +kernel⟩
theorem ok_firstTable {f fI : Addr} {fd fdI : FuncData} (F : FnT K "first_table" sFirstTable f fd) (mlst : mg "list" = none) (mrng : mg "range" = none) (mlen : mg "len" = none) (gT : mg "Table" = some (.ref C)) (mk : Mk K C fI)
    (GI : FnOk P w K mg base CX0 1 fI fdI ["self", "lines", "bottom", "basic", "free"] (spTabInit C)) (bI : Binds K fdI ["self", "lines", "bottom", "basic", "free"] []) :
    FnOk P w K mg base CX0 3 f fd ["limits", "costs"] (spFirstT K C) := by
  refine F.ok scFt (fun vs H Q E h => ?_) (fun cdv A outer s H vs Q E hr h => ?_)
  · obtain ⟨a, c, ls, cs, rfl, _⟩ := h
    rfl
  · obtain ⟨a, c, ls, cs, rfl, hl, hc, hn, m100, n100, q⟩ := h
    have nd := scFt.nd
    have hr2 : Room 2 _ := hr.mono (by decide)
    refine ⟨_, PSs.nox (pss_cons (ps_cut (ps_setLc (i := 2) (own := [("numbers", 5), ("bound", 6)]) (g := gTup K 2 (gCons (gName 5) (gCons (gName 6) gNil))) (tt := tYes) rfl nd rfl rfl (sw_true rfl rfl rfl (by decide +kernel)) (pi_list (pv 0))
        (blkOk_by (own := [("numbers", 5), ("bound", 6)]) (N := NFt) (sc := defScope sFirstTable) (by decide +kernel)) (fun _ _ _ _ _ => pgTt K rfl (pgs_cons (pg_name (i := 5) nd rfl (Or.inl rfl)) (pgs_cons (pg_name (i := 6) nd rfl (Or.inl rfl)) pgs_nil))) (fun _ _ _ _ _ => pts_nil)
        (fun _ _ _ _ _ => pe_lst (pa_starT K (pv 5) (pa_cons (pv 6) pa_nil)))))
      (pss_cons (ps_cut (ps_set (i := 3) nd rfl (.inl rfl) (pe_lst (StX.pa_star (pv 1) (pa_cons pe_int pa_nil)))))
      (pss_cons (ps_cut (ps_set (i := 4) nd rfl (.inl rfl) (pe_callB call_len (by rfl) mlen boot_len (pa_cons (pv 1) pa_nil))))
      (pss_one (ps_ret (pe_make mk GI hr2 rfl gT bI .nil pass0 (pa_cons (pe_lst (StX.pa_star (pv 2) (pa_cons (pv 3) pa_nil))) (pa_cons pe_int
        (pa_cons (pe_listRg rfl (by rfl) mlst (prg_2 (by rfl) mrng (pv 4) (pe_op op_add (pv 4) (pe_callB call_len (by rfl) mlen boot_len (pa_cons (pv 0) pa_nil)))))
        (pa_cons (pe_listRg rfl (by rfl) mlst (prg_1 (by rfl) mrng (pv 4))) pa_nil)))))))))), ?_⟩
    obtain ⟨ps, hL, hpl, hrow⟩ := hl
    refine ⟨fun σ' H' => ∃ D, σ' = [some (.ref a), some (.ref c), some (.ref D), none, none, none, none] ∧ Same H H' ∧ ∃ qs : List Addr, H' D = some (.lst (qs.map V.ref)) ∧ qs.length = ls.length ∧ ∀ (k : Nat) (q : Addr) (l : List Int × Int), qs[k]? = some q → ls[k]? = some l → IntsAt H' q (l.1 ++ [l.2]), ?_, ?_⟩
    · refine ⟨_, rfl, a, rfl, ⟨_, SqL.of hL⟩, fun D hD => ?_⟩
      refine lc_it (walk_list (K := K) (a := a) (xs := ps.map V.ref)) (fun k H' => Same H H' ∧ ∃ qs : List Addr, H' D = some (.lst (qs.map V.ref)) ∧ qs.length = k ∧ ∀ (r : Nat) (q : Addr) (l : List Int × Int), qs[r]? = some q → ls[r]? = some l → q ≠ D ∧ IntsAt H' q (l.1 ++ [l.2])) ⟨Same.new hD, [], upd_same, rfl, fun r q l h => by simp at h⟩ (fun k H' hk p' => SqL.of (p'.1 _ _ hL)) ?_ ?_
      · rintro k z _ H5 hk ⟨s5, qs, bD, lq, hq⟩ ⟨rfl, hz⟩
        have km : k < ls.length := by
          have : k < (ps.map V.ref).length := hk
          rw [List.length_map] at this
          omega
        obtain ⟨p, hp⟩ : ∃ p, ps[k]? = some p := ⟨_, List.getElem?_eq_getElem (by omega)⟩
        obtain ⟨l, hll⟩ : ∃ l, ls[k]? = some l := ⟨_, List.getElem?_eq_getElem km⟩
        have ez : z = .ref p := by
          replace hz : (ps.map V.ref)[k]? = some z := hz
          rw [List.getElem?_map, hp] at hz
          exact (Option.some.inj hz).symm
        subst ez
        obtain ⟨nl, g1, g2⟩ := hrow k p l hp hll
        have ln := hn l (List.mem_of_getElem? hll)
        refine ⟨p, _, rfl, same_sqt s5 g1, rfl, _, _, rfl, _, _, rfl, rfl, rfl, rdYes ⟨_, rfl, nl, _, rfl, .inr (g2.same s5).sq, _, rfl, ?_, fun D3 h3 => ?_⟩⟩
        · rw [List.length_append, List.length_map, ln]
          exact Nat.le_trans (show cs.length + 1 ≤ 101 by omega) (by decide)
        have n3 : D3 ≠ D := fun z => by rw [z, bD] at h3; cases h3
        have s6 := Same.new (o := .lst (l.1.map V.int ++ [V.int l.2])) h3
        refine ⟨_, s6 _ _ bD, ?_, fun u o g => ?_, qs ++ [D3], ?_, by rw [List.length_append, lq]; rfl, fun r q l' hr hl' => ?_⟩
        · rw [List.length_map, lq]
          exact Nat.lt_of_le_of_lt (show k ≤ 100 by omega) (by decide)
        · rw [upd_ne (ne_of_none g hD)]
          exact s6 _ _ (s5 _ _ g)
        · rw [upd_same, List.map_append]
          rfl
        · by_cases g : r < qs.length
          · rw [List.getElem?_append_left g] at hr
            obtain ⟨n1, n2⟩ := hq r q l' hr hl'
            exact ⟨n1, by show upd _ _ _ _ = _; rw [upd_ne n1]; exact s6 _ _ n2⟩
          · rw [List.getElem?_append_right (by omega)] at hr
            have l0 : r = k := by
              have := (List.getElem?_eq_some_iff.mp hr).1
              simp only [List.length_singleton] at this
              omega
            subst l0
            rw [lq, Nat.sub_self] at hr
            cases hr
            rw [hll] at hl'
            obtain rfl := Option.some.inj hl'
            refine ⟨n3, ?_⟩
            show upd _ _ _ _ = _
            rw [upd_ne n3, upd_same, List.map_append]
            rfl
      · rintro H5 ⟨s5, qs, bD, lq, hq⟩
        rw [List.length_map, hpl] at lq
        exact ⟨D, rfl, s5, qs, bD, lq, fun k q l e1 e2 => (hq k q l e1 e2).2⟩
    rintro _ H1 ⟨D, rfl, s1, qs, bD, lq, hq⟩
    refine ⟨fun σ' H' => ∃ y, σ' = [some (.ref a), some (.ref c), some (.ref D), some (.ref y), none, none, none] ∧ Same H1 H' ∧ IntsAt H' y (cs ++ [0]), ?_, ?_⟩
    · refine ⟨_, rfl, c, _, rfl, .inr (hc.same s1).sq, ?_, fun y hy => ⟨y, rfl, Same.new hy, ?_⟩⟩
      · rw [List.length_append, List.length_map]
        exact Nat.le_trans (show cs.length + 1 ≤ 101 by omega) (by decide)
      · show upd _ _ _ _ = _
        rw [upd_same, List.map_append]
        rfl
    rintro _ H2 ⟨y, rfl, s2, ey⟩
    have s12 := s1.trans s2
    refine ⟨fun σ' H' => σ' = [some (.ref a), some (.ref c), some (.ref D), some (.ref y), some (.int (cs.length : Nat)), none, none] ∧ H' = H2, ?_, ?_⟩
    · exact ⟨_, rfl, _, cs.length, rfl, (hc.same s12).len, rfl, rfl⟩
    rintro _ H3 ⟨rfl, rfl⟩
    have bD3 := s2 _ _ bD
    refine ⟨_, rfl, D, _, rfl, .inr (SqL.of bD3), _, rfl, ?_, fun L' hL' => ?_⟩
    · rw [List.length_append, List.length_map, lq]
      exact Nat.le_trans (show ls.length + 1 ≤ 101 by omega) (by decide)
    have s4 := Same.new (o := .lst (qs.map V.ref ++ [V.ref y])) hL'
    have eL : upd H3 L' (.lst (qs.map V.ref ++ [V.ref y])) L' = some (.lst ((qs ++ [y]).map V.ref)) := by rw [upd_same, List.map_append]; rfl
    generalize upd H3 L' (.lst (qs.map V.ref ++ [V.ref y])) = H4 at s4 eL ⊢
    have s14 := s12.trans s4
    have lenL : LenV K (.ref a) H4 ls.length := .inl ⟨_, SqL.of (s14 _ _ hL), by rw [List.length_map]; exact hpl.symm⟩
    refine ⟨_, rfl, _, rfl, _, rfl, _, ls.length, rfl, lenL, _, _, rfl, rfl, _, _, rfl, rfl, RgOk.of_le (by omega) (by omega) (by omega) (by omega), fun b5 h5 => ?_⟩
    rw [rgV_nat]
    have s5 := Same.new (o := .lst ((natL ((List.range ls.length).map (cs.length + ·))).map V.int)) h5
    have e5 : IntsAt (upd H4 b5 (.lst ((natL ((List.range ls.length).map (cs.length + ·))).map V.int))) b5 (natL ((List.range ls.length).map (cs.length + ·))) := upd_same
    generalize upd H4 b5 (.lst ((natL ((List.range ls.length).map (cs.length + ·))).map V.int)) = H5 at s5 e5 ⊢
    refine ⟨_, rfl, _, rfl, RgOk.of_le (by omega) (by omega) (by omega) (by omega), fun b6 h6 => ?_⟩
    rw [rgV_zero]
    have s6 := Same.new (o := .lst ((natL (List.range cs.length)).map V.int)) h6
    have e6 : IntsAt (upd H5 b6 (.lst ((natL (List.range cs.length)).map V.int))) b6 (natL (List.range cs.length)) := upd_same
    generalize upd H5 b6 (.lst ((natL (List.range cs.length)).map V.int)) = H6 at s6 e6 ⊢
    intro x dx hx hdx ne
    refine ⟨x, dx, .ref L', .int 1, .ref b5, .ref b6, rfl, upd_same, fun H7 k7 e7 => ⟨rfl, ?_⟩⟩
    have s7 := made_sameT hx hdx k7
    have s47 := s5.trans (s6.trans s7)
    refine q H7 x (s14.trans s47) ⟨dx, L', b5, b6, e7, ⟨qs ++ [y], s47 _ _ eL, ?_, fun k p r hk hr => ?_⟩, e5.same (s6.trans s7), e6.same s7⟩
    · show _ = (ls.map (fun l : List Int × Int => l.1 ++ [l.2]) ++ [cs ++ [0]]).length
      rw [List.length_append, List.length_append, List.length_map, lq]
      rfl
    · replace hr : (ls.map (fun l : List Int × Int => l.1 ++ [l.2]) ++ [cs ++ [0]])[k]? = some r := hr
      by_cases g : k < qs.length
      · rw [List.getElem?_append_left g] at hk
        rw [List.getElem?_append_left (by rw [List.length_map]; omega), List.getElem?_map] at hr
        cases e : ls[k]? with
        | none => rw [e] at hr; cases hr
        | some l =>
          rw [e] at hr
          obtain rfl := (Option.some.inj hr).symm
          exact (hq k p l hk e).same (s2.trans (s4.trans s47))
      · rw [List.getElem?_append_right (by omega)] at hk
        have l0 : k = qs.length := by
          have := (List.getElem?_eq_some_iff.mp hk).1
          simp only [List.length_singleton] at this
          omega
        rw [l0, Nat.sub_self] at hk
        cases hk
        rw [List.getElem?_append_right (by rw [List.length_map]; omega), List.length_map, show k - ls.length = 0 by omega] at hr
        cases hr
        exact ey.same (s4.trans s47)
end
end Ca
set_option Elab.async false
set_option linter.all false
set_option maxRecDepth 100000
set_option maxHeartbeats 4000000
/-! zip(a list, a tuple): one proof over kinds of what is walked -/
namespace CaZ
open PySem PySem.Spec PyProof.Rows L2 RZ
/-- a kind of things that are walked by an iterator of their own -/
structure Kd where
  It : Heap → Addr → Addr → Nat → Prop
  Sq : Heap → Addr → Array Value → Prop
  it_to : ∀ {h h' : Heap} {c l : Addr} {k : Nat}, It h c l k → (∀ o, h.get? c = some o → h'.get? c = some o) → It h' c l k
  sq_to : ∀ {h h' : Heap} {c : Addr} {xs : Array Value}, Sq h c xs → (∀ o, h.get? c = some o → h'.get? c = some o) → Sq h' c xs
  it_obj : ∀ {h : Heap} {c l : Addr} {k : Nat}, It h c l k → ∃ o, h.get? c = some o ∧ ∀ v, o.data ≠ .cell v
  next : ∀ {prog : Program} {w : World} {A : Around} {E : Value → Shared → Prop} {s : Shared} {c l : Addr} {k : Nat} {xs : Array Value} {x : Value} {Q : Value → Shared → Prop}, It s.heap c l k → Sq s.heap l xs → xs[k]? = some x →
    (∀ h', It h' c l (k + 1) → Heap.SameBut c s.heap h' → Q x { s with heap := h' }) → wpAny (model prog w) A (Builtin.SmallTypes.nextOf (.ref c)) Q E s
  stop : ∀ {prog : Program} {w : World} {A : Around} {E : Value → Shared → Prop} {s : Shared} {c l : Addr} {k : Nat} {xs : Array Value} {Q : Value → Shared → Prop}, A.handled = none → It s.heap c l k → Sq s.heap l xs → xs[k]? = none →
    (∀ h' e, Heap.ExtBut c s.heap h' → (∃ o, h'.get? e = some o ∧ o.cls = .type "StopIteration") → E (.ref e) { s with heap := h' }) → wpAny (model prog w) A (Builtin.SmallTypes.nextOf (.ref c)) Q E s
def kL : Kd where
  It := Heap.IsListIter
  Sq := Heap.IsList
  it_to := fun h f => h.at f
  sq_to := fun ⟨o, e, r⟩ f => ⟨o, f o e, r⟩
  it_obj := fun ⟨o, e, _, d⟩ => ⟨o, e, fun v z => by rw [d] at z; cases z⟩
  next := wpAny_nextOf_list_item
  stop := wpAny_nextOf_list_end
def kT : Kd where
  It := Heap.IsTupleIter
  Sq := Heap.IsTuple
  it_to := fun h f => h.at f
  sq_to := fun ⟨o, e, r⟩ f => ⟨o, f o e, r⟩
  it_obj := fun ⟨o, e, _, d⟩ => ⟨o, e, fun v z => by rw [d] at z; cases z⟩
  next := nextOf_tuple_item
  stop := nextOf_tuple_end
/-- a zip whose two iterators stand at a turn -/
structure Zp (M N : Kd) (h : Heap) (z TI TO c d l m : Addr) (k : Nat) : Prop where
  z : IsZip h z TI TO .none
  i : IsPair h TI (.ref c) (.ref d)
  o : ∃ x y, IsPair h TO x y
  a : M.It h c l k
  b : N.It h d m k
/-- all that stood stands, the zip's own four apart -/
def Apt (z TO c d : Addr) (h h' : Heap) : Prop := ∀ e o, e ≠ z → e ≠ TO → e ≠ c → e ≠ d → h.get? e = some o → h'.get? e = some o
section
variable {M N : Kd} {prog : Program} {w : World} {A : Around} {E : Value → Shared → Prop} {s : Shared} {z TI TO c d l m : Addr} {k : Nat} {xs ys : Array Value}
theorem Kd.it_same (M : Kd) {h h' : Heap} {e f l : Addr} {k : Nat} (i : M.It h e l k) (b : Heap.SameBut f h h') (n : e ≠ f) : M.It h' e l k := M.it_to i fun o q => b.extBut e o n q
theorem Kd.sq_same (M : Kd) {h h' : Heap} {e f : Addr} {xs : Array Value} (i : M.Sq h e xs) (b : Heap.SameBut f h h') (n : e ≠ f) : M.Sq h' e xs := M.sq_to i fun o q => b.extBut e o n q
/-- a turn with an item on both sides -/
theorem turn_item {x y : Value} {Q : Value → Shared → Prop} (D : ZipApart z TI TO c d l m) (W : Zp M N s.heap z TI TO c d l m k) (hl : M.Sq s.heap l xs) (hm : N.Sq s.heap m ys) (hx : xs[k]? = some x) (hy : ys[k]? = some y)
    (q : ∀ h', IsZip h' z TI TO (rawInt s.heap.objs.size) → IsPair h' TO x y → M.It h' c l (k + 1) → N.It h' d m (k + 1) → IsPair h' s.heap.objs.size x y → h'.objs.size = s.heap.objs.size + 1 → Apt z TO c d s.heap h' → Q (.ref s.heap.objs.size) { s with heap := h' }) :
    wpAny (model prog w) A (Builtin.«zip.__next__» ⟨[.ref z], []⟩) (fun fin s' => ∃ v, fin = .done (.ret v) ∧ Q v s') E s := by
  obtain ⟨g1, g2, ⟨u, v, g3⟩, g4, g5⟩ := W
  (show wpAny _ _ (field (.ref z) 2 >>= _) _ _ _); refine wpAny_bind (wpAny_field g1 rfl (x := .bool false) rfl ?_)
  (show wpAny _ _ (field (.ref z) 3 >>= _) _ _ _); refine wpAny_bind (wpAny_field g1 rfl (x := .ref TI) rfl (wpAny_bind (wpAny_seqItems g2 rfl ?_)))
  (show wpAny _ _ (Builtin.SmallTypes.ownedTupleIsFree (.ref z) >>= _) _ _ _); refine wpAny_bind ?_; unfold Builtin.SmallTypes.ownedTupleIsFree
  refine wpAny_bind (wpAny_field g1 rfl (x := .none) rfl (wpAny_pure ?_)); simp only [if_true]; refine wpAny_bind (wpAny_rule (wpAny_bind (wpAny_field g1 rfl (x := .ref TO) rfl ?_)))
  refine wpAny_bind (wpAny_setField_rec g1 (by simp) fun p1 z1 b1 => wpAny_bind ?_); simp only [List.zipIdx_cons, List.zipIdx_nil, List.forIn_cons, List.forIn_nil]
  refine wpAny_bind (wpAny_bind (wpAny_onRaise ?_)); (show wpAny _ _ (Builtin.SmallTypes.nextOf (.ref c) >>= _) _ _ _)
  refine wpAny_bind (M.next (M.it_same g4 b1 D.i1z) (M.sq_same hl b1 D.l1z) hx fun p2 i2 b2 => wpAny_pure ?_)
  have o2 : IsPair p2 TO u v := b2.extBut _ _ D.TOi1 (b1.extBut _ _ D.TOz g3)
  refine wpAny_bind (wpAny_seqItems o2 rfl (wpAny_bind (wpAny_updateSeq_pair o2 fun p3 o3' b3 => wpAny_bind (wpAny_letGo (wpAny_pure ?_)))))
  have o3 : IsPair p3 TO x v := o3'
  refine wpAny_bind (wpAny_bind (wpAny_onRaise ?_)); (show wpAny _ _ (Builtin.SmallTypes.nextOf (.ref d) >>= _) _ _ _)
  refine wpAny_bind (N.next (N.it_same (N.it_same (N.it_same g5 b1 D.i2z) b2 D.i12.symm) b3 D.TOi2.symm) (N.sq_same (N.sq_same (N.sq_same hm b1 D.l2z) b2 D.l2i1) b3 D.l2TO) hy fun p4 i4 b4 => wpAny_pure ?_)
  have o4 : IsPair p4 TO x v := b4.extBut _ _ D.TOi2 o3
  refine wpAny_bind (wpAny_seqItems o4 rfl (wpAny_bind (wpAny_updateSeq_pair o4 fun p5 o5' b5 => wpAny_bind (wpAny_letGo (wpAny_pure (wpAny_pure ?_))))))
  have o5 : IsPair p5 TO x y := o5'
  have z5 : IsZip p5 z TI TO .ellipsis := b5.extBut _ _ D.TOz.symm (b4.extBut _ _ D.i2z.symm (b3.extBut _ _ D.TOz.symm (b2.extBut _ _ D.i1z.symm z1)))
  have a5 : Apt z TO c d s.heap p5 := fun e o e1 e2 e3 e4 r => b5.extBut _ _ e2 (b4.extBut _ _ e4 (b3.extBut _ _ e2 (b2.extBut _ _ e3 (b1.extBut _ _ e1 r))))
  have c5 : M.It p5 c l (k + 1) := M.it_same (M.it_same (M.it_same i2 b3 D.TOi1.symm) b4 D.i12) b5 D.TOi1.symm
  have d5 : N.It p5 d m (k + 1) := N.it_same i4 b5 D.TOi2.symm
  have size5 : p5.objs.size = s.heap.objs.size := b5.1.trans (b4.1.trans (b3.1.trans (b2.1.trans b1.1)))
  have zl : z < p5.objs.size := Heap.lt_size z5
  refine wpAny_bind (wpAny_seqItems o5 rfl (wpAny_bind (wpAny_newTuple ?_)))
  (show wpAny _ _ (Builtin.SmallTypes.ownedTupleHandOut (.ref z) (.ref p5.objs.size) >>= _) _ _ _); refine wpAny_bind ?_; unfold Builtin.SmallTypes.ownedTupleHandOut
  have z6 : IsZip (p5.push { cls := .type "tuple", data := .seq #[x, y] }) z TI TO .ellipsis := Heap.get?_push_of_some _ z5
  refine wpAny_bind (wpAny_setField_rec z6 (by simp) fun p7 z7' b7 => ?_)
  have z7 : IsZip p7 z TI TO (rawInt p5.objs.size) := z7'
  refine wpAny_setField_rec z7 (by simp) fun p8 z8' b8 => wpAny_pure ⟨_, rfl, ?_⟩
  have z8 : IsZip p8 z TI TO (rawInt p5.objs.size) := z8'
  have new : IsPair p8 p5.objs.size x y := b8.extBut _ _ (Nat.ne_of_gt zl) (b7.extBut _ _ (Nat.ne_of_gt zl) (Heap.get?_push_size _ rfl))
  have size8 : p8.objs.size = p5.objs.size + 1 := b8.1.trans (b7.1.trans (Heap.size_push ..))
  have rest : ∀ e o, e ≠ z → p5.get? e = some o → p8.get? e = some o := fun e o n r => b8.extBut _ _ n (b7.extBut _ _ n (Heap.get?_push_of_some _ r))
  rw [size5] at z8 new size8
  (show Q (.ref p5.objs.size) _); rw [size5]
  exact q p8 z8 (rest _ _ D.TOz o5) (M.it_to c5 fun o r => rest _ o D.i1z r) (N.it_to d5 fun o r => rest _ o D.i2z r) new size8 fun e o e1 e2 e3 e4 r => rest e o e1 (a5 e o e1 e2 e3 e4 r)
/-- a turn at which one side has come to its end -/
theorem turn_end {Q : Fin → Shared → Prop} (hh : A.handled = none) (D : ZipApart z TI TO c d l m) (W : Zp M N s.heap z TI TO c d l m k) (hl : M.Sq s.heap l xs) (hm : N.Sq s.heap m ys) (hend : xs[k]? = none ∨ ys[k]? = none)
    (q : ∀ h' e, Apt z TO c d s.heap h' → (∃ o, h'.get? e = some o ∧ o.cls = .type "StopIteration") → E (.ref e) { s with heap := h' }) : wpAny (model prog w) A (Builtin.«zip.__next__» ⟨[.ref z], []⟩) Q E s := by
  obtain ⟨g1, g2, ⟨u, v, g3⟩, g4, g5⟩ := W
  (show wpAny _ _ (field (.ref z) 2 >>= _) _ _ _); refine wpAny_bind (wpAny_field g1 rfl (x := .bool false) rfl ?_)
  (show wpAny _ _ (field (.ref z) 3 >>= _) _ _ _); refine wpAny_bind (wpAny_field g1 rfl (x := .ref TI) rfl (wpAny_bind (wpAny_seqItems g2 rfl ?_)))
  (show wpAny _ _ (Builtin.SmallTypes.ownedTupleIsFree (.ref z) >>= _) _ _ _); refine wpAny_bind ?_; unfold Builtin.SmallTypes.ownedTupleIsFree
  refine wpAny_bind (wpAny_field g1 rfl (x := .none) rfl (wpAny_pure ?_)); simp only [if_true]; refine wpAny_bind (wpAny_rule (wpAny_bind (wpAny_field g1 rfl (x := .ref TO) rfl ?_)))
  refine wpAny_bind (wpAny_setField_rec g1 (by simp) fun p1 z1' b1 => wpAny_bind ?_); simp only [List.zipIdx_cons, List.zipIdx_nil, List.forIn_cons, List.forIn_nil]
  have z1 : IsZip p1 z TI TO .ellipsis := z1'
  refine wpAny_bind (wpAny_bind (wpAny_onRaise ?_)); (show wpAny _ _ (Builtin.SmallTypes.nextOf (.ref c) >>= _) _ _ _)
  have apart : ∀ {h : Heap} {e : Addr} {o : Obj}, IsZip h z TI TO .ellipsis → h.get? e = some o → o.cls = .type "StopIteration" → e ≠ z := fun r1 r2 r3 r4 => by
    rw [r4, r1] at r2
    cases r2
    simp at r3
  cases hx : xs[k]? with
  | none =>
    refine wpAny_bind (M.stop hh (M.it_same g4 b1 D.i1z) (M.sq_same hl b1 D.l1z) hx fun p2 e b2 he => ?_)
    obtain ⟨o, ho, hc⟩ := he
    have z2 : IsZip p2 z TI TO .ellipsis := b2 _ _ D.i1z.symm z1
    exact wpAny_setField_rec z2 (by simp) fun p3 _ b3 => q p3 e (fun f r e1 _ e3 _ g => b3.extBut _ _ e1 (b2 _ _ e3 (b1.extBut _ _ e1 g))) ⟨o, b3.extBut _ _ (apart z2 ho hc) ho, hc⟩
  | some x =>
    have hy : ys[k]? = none := hend.elim (fun r => by rw [hx] at r; cases r) id
    refine wpAny_bind (M.next (M.it_same g4 b1 D.i1z) (M.sq_same hl b1 D.l1z) hx fun p2 i2 b2 => wpAny_pure ?_)
    have o2 : IsPair p2 TO u v := b2.extBut _ _ D.TOi1 (b1.extBut _ _ D.TOz g3)
    refine wpAny_bind (wpAny_seqItems o2 rfl (wpAny_bind (wpAny_updateSeq_pair o2 fun p3 _ b3 => wpAny_bind (wpAny_letGo (wpAny_pure ?_)))))
    refine wpAny_bind (wpAny_bind (wpAny_onRaise ?_)); (show wpAny _ _ (Builtin.SmallTypes.nextOf (.ref d) >>= _) _ _ _)
    refine wpAny_bind (N.stop hh (N.it_same (N.it_same (N.it_same g5 b1 D.i2z) b2 D.i12.symm) b3 D.TOi2.symm) (N.sq_same (N.sq_same (N.sq_same hm b1 D.l2z) b2 D.l2i1) b3 D.l2TO) hy fun p4 e b4 he => ?_)
    obtain ⟨o, ho, hc⟩ := he
    have z4 : IsZip p4 z TI TO .ellipsis := b4 _ _ D.i2z.symm (b3.extBut _ _ D.TOz.symm (b2.extBut _ _ D.i1z.symm z1))
    exact wpAny_setField_rec z4 (by simp) fun p5 _ b5 => q p5 e (fun f r e1 e2 e3 e4 g => b5.extBut _ _ e1 (b4 _ _ e4 (b3.extBut _ _ e2 (b2.extBut _ _ e3 (b1.extBut _ _ e1 g))))) ⟨o, b5.extBut _ _ (apart z4 ho hc) ho, hc⟩
theorem next_item {x y : Value} {Q : Option Value → Shared → Prop} (D : ZipApart z TI TO c d l m) (W : Zp M N s.heap z TI TO c d l m k) (hl : M.Sq s.heap l xs) (hm : N.Sq s.heap m ys) (hx : xs[k]? = some x) (hy : ys[k]? = some y)
    (q : ∀ h', IsZip h' z TI TO (rawInt s.heap.objs.size) → IsPair h' TO x y → M.It h' c l (k + 1) → N.It h' d m (k + 1) → IsPair h' s.heap.objs.size x y → h'.objs.size = s.heap.objs.size + 1 → Apt z TO c d s.heap h' → Q (some (.ref s.heap.objs.size)) { s with heap := h' }) :
    wpAny (model prog w) A (pyNext (.ref z)) Q E s := by
  have ty : s.TypeIs (.ref z) "zip" := ⟨_, W.z, rfl⟩
  unfold pyNext
  exact wpAny_bind (wpAny_attempt (wpAny_callSpecial?_slot (name := Str.ofString "__next__") ty F.slot_zip_next (wpAny_call_entry F.slot_zip_next ty F.entry_zip_next (turn_item D W hl hm hx hy fun h' a1 a2 a3 a4 a5 a6 a7 => wpAny_pure (q h' a1 a2 a3 a4 a5 a6 a7)) (F.args_zip_next_1 _))))
theorem next_end {Q : Option Value → Shared → Prop} (hh : A.handled = none) (D : ZipApart z TI TO c d l m) (W : Zp M N s.heap z TI TO c d l m k) (hl : M.Sq s.heap l xs) (hm : N.Sq s.heap m ys) (hend : xs[k]? = none ∨ ys[k]? = none)
    (q : ∀ h', Apt z TO c d s.heap h' → Q none { s with heap := h' }) : wpAny (model prog w) A (pyNext (.ref z)) Q E s := by
  have ty : s.TypeIs (.ref z) "zip" := ⟨_, W.z, rfl⟩
  unfold pyNext
  refine wpAny_bind (wpAny_attempt (wpAny_callSpecial?_slot (name := Str.ofString "__next__") ty F.slot_zip_next (wpAny_call_entry F.slot_zip_next ty F.entry_zip_next (turn_end hh D W hl hm hend fun h' e a he => ?_) (F.args_zip_next_1 _))))
  obtain ⟨o, ho, hc⟩ := he
  exact wpAny_bind (wpAny_isInstance (T := "StopIteration") (b := true) ⟨o, ho, hc⟩ isSubtype_stop (wpAny_pure (q _ a)))
end
/-- the heap behind zip(l, m): two iterators, two pairs, the zip -/
abbrev zm1 (h : Heap) (l : Addr) : Heap := h.push { cls := .type "list_iterator", data := .fields #[.ref l, .int 0 0] }
abbrev zm2 (h : Heap) (l m : Addr) : Heap := (zm1 h l).push { cls := .type "tuple_iterator", data := .fields #[.ref m, .int 0 0] }
abbrev zm3 (h : Heap) (l m : Addr) : Heap := (zm2 h l m).push { cls := .type "tuple", data := .seq #[.ref h.objs.size, .ref (zm1 h l).objs.size] }
abbrev zm4 (h : Heap) (l m : Addr) : Heap := (zm3 h l m).push { cls := .type "tuple", data := .seq #[.none, .none] }
abbrev zm5 (h : Heap) (l m : Addr) : Heap := (zm4 h l m).push { cls := .type "zip", data := .fields #[.none, .bool false, .bool false, .ref (zm2 h l m).objs.size, .ref (zm3 h l m).objs.size] }
theorem zm_new (l m : Addr) (xs ys : Array Value) : Meets (Builtin.«zip.__new__» ⟨[.type "zip", .ref l, .ref m], []⟩) (fun _ R s => s.heap.IsList l xs ∧ s.heap.IsTuple m ys ∧ R (.ok (.ret (.ref (zm4 s.heap l m).objs.size))) { s with heap := zm5 s.heap l m }) :=
  .of_wp fun prog w A R s h => by
    obtain ⟨hp, g, d, tk, os⟩ := s
    obtain ⟨a, b, q⟩ := h
    have sub := sub_zip
    have a' : Heap.IsList (Shared.heap ⟨hp, g, d, tk, os⟩) l xs := a
    have b' : Heap.IsTuple (Shared.heap ⟨hp.push { cls := .type "list_iterator", data := .fields #[.ref l, .int 0 0] }, g, d, tk, os⟩) m ys := Heap.IsTuple.push b _
    wp_walk using wpAny_pyIter_list a', wpAny_pyIter_tuple b'
    exact ⟨_, rfl, q⟩
section
variable {prog : Program} {w : World} {A : Around} {E : Value → Shared → Prop} {s : Shared}
theorem call_zm {l m : Addr} {xs ys : Array Value} {Q : Value → Shared → Prop} (a : s.heap.IsList l xs) (b : s.heap.IsTuple m ys)
    (q : ∀ h', Zp kL kT h' (s.heap.objs.size + 4) (s.heap.objs.size + 2) (s.heap.objs.size + 3) s.heap.objs.size (s.heap.objs.size + 1) l m 0 → (∀ e o, s.heap.get? e = some o → h'.get? e = some o) → Q (.ref (s.heap.objs.size + 4)) { s with heap := h' }) : wpAny (model prog w) A (call (.type "zip") [.ref l, .ref m]) Q E s := by
  refine callType_new F.called_zip (by decide) (F.typeCall_zip_2 _ _) (F.newCall_zip_2 _ _) (fun obj => F.args_object_init_3 obj _ _) F.entry_zip_new (zm_new l m xs ys) ⟨a, b, ?_⟩
  generalize hn : s.heap.objs.size = n at q
  have e1 : (zm1 s.heap l).objs.size = n + 1 := by rw [Heap.size_push, hn]
  have e2 : (zm2 s.heap l m).objs.size = n + 2 := by rw [Heap.size_push, e1]
  have e3 : (zm3 s.heap l m).objs.size = n + 3 := by rw [Heap.size_push, e2]
  have e4 : (zm4 s.heap l m).objs.size = n + 4 := by rw [Heap.size_push, e3]
  have up : ∀ {h : Heap} {c : Addr} {o u : Obj}, h.get? c = some o → (h.push u).get? c = some o := fun r => Heap.get?_push_of_some _ r
  have o5 : (zm5 s.heap l m).get? (zm4 s.heap l m).objs.size = some { cls := .type "zip", data := .fields #[.none, .bool false, .bool false, .ref (zm2 s.heap l m).objs.size, .ref (zm3 s.heap l m).objs.size] } := Heap.get?_push_size _ rfl
  have o4 : (zm5 s.heap l m).get? (zm3 s.heap l m).objs.size = some { cls := .type "tuple", data := .seq #[.none, .none] } := up (Heap.get?_push_size _ rfl)
  have o3 : (zm5 s.heap l m).get? (zm2 s.heap l m).objs.size = some { cls := .type "tuple", data := .seq #[.ref s.heap.objs.size, .ref (zm1 s.heap l).objs.size] } := up (up (Heap.get?_push_size _ rfl))
  have o2 : (zm5 s.heap l m).get? (zm1 s.heap l).objs.size = some { cls := .type "tuple_iterator", data := .fields #[.ref m, .int 0 0] } := up (up (up (Heap.get?_push_size _ rfl)))
  have o1 : (zm5 s.heap l m).get? s.heap.objs.size = some { cls := .type "list_iterator", data := .fields #[.ref l, .int 0 0] } := up (up (up (up (Heap.get?_push_size _ rfl))))
  rw [e2, e3, e4] at o5
  rw [e3] at o4
  rw [e1, e2, hn] at o3
  rw [e1] at o2
  rw [hn] at o1
  show _ ∧ _
  rw [e4]
  exact ⟨⟨_, o5, rfl⟩, q _ ⟨o5, o3, ⟨_, _, o4⟩, ⟨_, o1, rfl, rfl⟩, ⟨_, o2, rfl, rfl⟩⟩ fun e o r => up (up (up (up (up r))))⟩
end
/-- a list at a and a tuple at b, walked together -/
def ItzM (K : PySem.W.Frag) (a b : Addr) : It :=
  ⟨fun i H => ∃ (xs ys : List V) (x y : V), SqL K H a xs ∧ SqT K H b ys ∧ xs[i]? = some x ∧ ys[i]? = some y,
    fun i H v H' => ∃ T x y, v = .ref T ∧ H T = none ∧ H' = upd H T (.tup [x, y]) ∧ (∀ xs, SqL K H a xs → xs[i]? = some x) ∧ ∀ ys, SqT K H b ys → ys[i]? = some y,
    fun i H => ∃ xs ys : List V, SqL K H a xs ∧ SqT K H b ys ∧ (xs.length ≤ i ∨ ys.length ≤ i)⟩
theorem turn_zm {P : Program} {w : World} {K : PySem.W.Frag} {elts : List Expr} {kk : Nat} {tpos : Pos} {a b z TI TO c d : Addr} (D : ZipApart z TI TO c d a b) :
    Turn P w K (.Tuple elts kk tpos) (ItzM K a b) [z, TI, TO, c, d] z (fun i h => Zp kL kT h z TI TO c d a b i) where
  mem := List.mem_cons_self ..
  obj := fun i h W e he => by
    have cases5 : e = z ∨ e = TI ∨ e = TO ∨ e = c ∨ e = d := by simpa using he
    obtain ⟨g1, g2, ⟨u, v, g3⟩, g4, g5⟩ := W
    rcases cases5 with rfl | rfl | rfl | rfl | rfl
    · exact ⟨_, g1, fun v q => nomatch q⟩
    · exact ⟨_, g2, fun v q => nomatch q⟩
    · exact ⟨_, g3, fun v q => nomatch q⟩
    · exact kL.it_obj g4
    · exact kT.it_obj g5
  keep := fun i h h' W f => by
    obtain ⟨g1, g2, ⟨u, v, g3⟩, g4, g5⟩ := W
    exact ⟨f z (by simp) _ g1, f TI (by simp) _ g2, ⟨u, v, f TO (by simp) _ g3⟩, kL.it_to g4 (f c (by simp)), kT.it_to g5 (f d (by simp))⟩
  item := by
    rintro X rfl rfl rfl hc i pins s σ H E I hf W ⟨xs, ys, x, y, hqx, hqy, hx, hy⟩
    obtain ⟨its, rv, p, _⟩ := I.list hqx
    obtain ⟨its2, rv2, p2, _⟩ := I.tuple hqy
    obtain ⟨u, hu, ru⟩ := rv.get hx
    obtain ⟨u2, hu2, ru2⟩ := rv2.get hy
    have zl : z < s.heap.objs.size := Heap.lt_size W.z
    have lts : ∀ e ∈ [z, TI, TO, c, d], e < s.heap.objs.size := fun e he => by
      have cases5 : e = z ∨ e = TI ∨ e = TO ∨ e = c ∨ e = d := by simpa using he
      obtain ⟨g1, g2, ⟨u, v, g3⟩, ⟨_, g4, _⟩, ⟨_, g5, _⟩⟩ := W
      rcases cases5 with rfl | rfl | rfl | rfl | rfl
      · exact zl
      · exact Heap.lt_size g2
      · exact Heap.lt_size g3
      · exact Heap.lt_size g4
      · exact Heap.lt_size g5
    refine next_item (M := kL) (N := kT) D W p.isList p2 (x := u) (y := u2) (by simpa using hu) (by simpa using hu2) fun h' z' o' c' d' new size ap => ⟨_, rfl, wpAny_letOwnedTupleGo_zip (s := { s with heap := h' }) z' fun h'' z'' sb => ?_⟩
    have new2 : h''.get? s.heap.objs.size = some { cls := .type "tuple", data := .seq #[u, u2] } := (sb.2 _ (Nat.ne_of_gt zl)).trans new
    have obj : ObjOk X.prog X.w (upd H s.heap.objs.size (.tup [x, y])) h'' s.heap.objs.size (.tup [x, y]) := ⟨by show 2 ≤ sizeLine; decide, [u, u2], .cons ru (.cons ru2 .nil), ⟨_, new2, rfl, _, rfl⟩⟩
    have stays : ∀ e o, e ∉ [z, TI, TO, c, d] → s.heap.get? e = some o → h''.get? e = some o := fun e o n r => (sb.2 e (fun q => n (by simp [q]))).trans (ap e o (fun q => n (by simp [q])) (fun q => n (by simp [q])) (fun q => n (by simp [q])) (fun q => n (by simp [q])) r)
    have I1 : Inv X pins σ (upd H s.heap.objs.size (.tup [x, y])) { s with heap := h'' } := I.turnedNew (t' := s.toks) (ch := [z, TI, TO, c, d]) stays hf (Nat.le_refl _) obj
    refine ⟨.ref s.heap.objs.size, _, I1, rfl, ⟨_, x, y, rfl, I.hok.fresh (Nat.le_refl _), rfl, fun l hl => by rw [I.list_inj hl hqx]; exact hx, fun l hl => by rw [I.tuple_inj hl hqy]; exact hy⟩, ⟨z'', ?_, ⟨u, u2, (sb.2 _ D.TOz).trans o'⟩, kL.it_to c' fun o q => (sb.2 _ D.i1z).trans q, kT.it_to d' fun o q => (sb.2 _ D.i2z).trans q⟩, fun e he => ?_⟩
    · exact (sb.2 _ D.TIz).trans (ap _ _ D.TIz D.TITO D.TIi1 D.TIi2 W.i)
    · rw [upd_ne (Nat.ne_of_lt (lts e he))]
      exact (hf e he).1
  done := by
    rintro X rfl rfl rfl hc i pins s σ H E I hf W ⟨xs, ys, hqx, hqy, hend⟩
    obtain ⟨its, rv, p, _⟩ := I.list hqx
    obtain ⟨its2, rv2, p2, _⟩ := I.tuple hqy
    have l1 := rv.length
    have l2 := rv2.length
    have ends : its.toArray[i]? = none ∨ its2.toArray[i]? = none := hend.imp (fun q => by simp; omega) fun q => by simp; omega
    exact next_end (M := kL) (N := kT) (I.ok.hd hc) D W p.isList p2 ends fun h' ap => ⟨rfl, I.turnedL (t' := s.toks) (ch := [z, TI, TO, c, d]) (fun e o n r => ap e o (fun q => n (by simp [q])) (fun q => n (by simp [q])) (fun q => n (by simp [q])) (fun q => n (by simp [q])) r) hf⟩
  self := fun A i s Q E W q => wpAny_pyIter_zip W.z q
def iZipM (K : PySem.W.Frag) (ta : TA) : TI := fun σ H R => ta σ H fun vs H1 => ∃ a b xs ys, vs = [.ref a, .ref b] ∧ SqL K H1 a xs ∧ SqT K H1 b ys ∧ R (ItzM K a b) H1
theorem pi_zipM {X : Cx} {e e2 : Expr} {ta : TA} {p pos tpos : Pos} {elts : List Expr} {kk : Nat} (hg : Gl X "zip") (hm : X.mg "zip" = none) (ha : PA X [e, e2] ta)
    (h1 : starEach [e, e2] X.env = (false, eval e X.env) :: starEach [e2] X.env := by rfl) (h2 : (backTo pos (starEach [e2] X.env)).any (·.1) = false := by rfl) : PI X (.Tuple elts kk tpos) (.Call (.Name "zip" p) [e, e2] [] pos) (iZipM X.K ta) := by
  constructor
  intro pins s σ H R I h
  refine Call_ (ld_blt I hg hm PyProof.Rows.boot_zip (PyProof.Rows.callWith_type1 (thn (ha.run pos pins s σ H _ I h) ?_) h1 h2))
  rintro us s1 ⟨vs, H1, I1, r1, a, b, xs, ys, rfl, hqx, hqy, q⟩
  obtain ⟨ua, t1, rfl, ra, r1⟩ : ∃ u t, us = u :: t ∧ RelV (.ref a) u ∧ Vals [.ref b] t := by cases r1 with | cons x y => exact ⟨_, _, rfl, x, y⟩
  obtain rfl := Vals.ref1 r1
  cases ra
  obtain ⟨its, rv, p1, _⟩ := I1.list hqx
  obtain ⟨its2, rv2, p2, _⟩ := I1.tuple hqy
  obtain ⟨o2, ho2, _⟩ := id p2
  refine call_zm p1.isList p2 fun h' W keep => wpAny_pyIter_zip W.z ?_
  have I2 : Inv X pins σ H1 { s1 with heap := h' } := I1.kept (t' := s1.toks) keep
  refine ⟨s1.heap.objs.size + 4, [s1.heap.objs.size + 4, s1.heap.objs.size + 2, s1.heap.objs.size + 3, s1.heap.objs.size, s1.heap.objs.size + 1], _, _, H1, rfl, I2, turn_zm (PySem.W.ktu_apart s1.heap.objs.size a b p1.lt (Heap.lt_size ho2)), W, fun e he => ?_, q⟩
  have le : s1.heap.objs.size ≤ e := by
    have cases5 : e = s1.heap.objs.size + 4 ∨ e = s1.heap.objs.size + 2 ∨ e = s1.heap.objs.size + 3 ∨ e = s1.heap.objs.size ∨ e = s1.heap.objs.size + 1 := by simpa using he
    rcases cases5 with r | r | r | r | r <;> rw [r] <;> first | exact Nat.le_add_right _ _ | exact Nat.le_refl _
  exact I1.fpOk le (I1.hok.fresh le)
theorem walk_zm {K : PySem.W.Frag} {a b : Addr} {xs ys : List V} {n : Nat} (h1 : xs.length = n) (h2 : ys.length = n) : Walk (ItzM K a b) n (fun H => SqL K H a xs ∧ SqT K H b ys) (YPair (fun i => xs[i]?) (fun i => ys[i]?)) where
  goes := fun i H hi q => ⟨xs, ys, xs[i], ys[i], q.1, q.2, List.getElem?_eq_getElem (by omega), List.getElem?_eq_getElem (by omega)⟩
  stops := fun H q => ⟨xs, ys, q.1, q.2, .inl (by omega)⟩
  yields := fun i H v H' _ q y => let ⟨T, x, z, e1, e2, e3, e4, e5⟩ := y; ⟨T, x, z, e1, e2, e3, e4 xs q.1, e5 ys q.2⟩
theorem walk_zt {K : PySem.W.Frag} {a b : Addr} {xs ys : List V} {n : Nat} (h1 : xs.length = n) (h2 : ys.length = n) : Walk (RZ.ItzT K a b) n (fun H => SqT K H a xs ∧ SqT K H b ys) (YPair (fun i => xs[i]?) (fun i => ys[i]?)) where
  goes := fun i H hi q => ⟨xs, ys, xs[i], ys[i], q.1, q.2, List.getElem?_eq_getElem (by omega), List.getElem?_eq_getElem (by omega)⟩
  stops := fun H q => ⟨xs, ys, q.1, q.2, .inl (by omega)⟩
  yields := fun i H v H' _ q y => let ⟨T, x, z, e1, e2, e3, e4, e5⟩ := y; ⟨T, x, z, e1, e2, e3, e4 xs q.1, e5 ys q.2⟩
end CaZ
set_option Elab.async false
set_option linter.all false
set_option maxRecDepth 100000
set_option maxHeartbeats 4000000
namespace Ca
open PySem L2
/-! ### fractions -/
def frD (f : Int × Int) : PyData := .tuple [.int f.1, .int f.2]
def frsD (fs : List (Int × Int)) : PyData := .tuple (fs.map frD)
def isFracD : PyData → Bool
  | .tuple [.int a, .int b] => decide (0 < b) && decide (Nat.gcd a.natAbs b.natAbs = 1)
  | _ => false
def isAnsD (d : PyData) (m : Nat) : Bool := isTupN d m && (partsOf d).all isFracD
/-- p / q is a / b, in smaller terms -/
structure Red (a b p q : Int) : Prop where
  pos : 0 < q
  ex : ∃ g : Int, 0 < g ∧ p * g = a ∧ q * g = b
  cop : Nat.gcd p.natAbs q.natAbs = 1
theorem Red.le {a b p q : Int} (h : Red a b p q) : p.natAbs ≤ a.natAbs ∧ q.natAbs ≤ b.natAbs := by
  obtain ⟨g, hg, e1, e2⟩ := h.ex
  have : 1 ≤ g.natAbs := by omega
  constructor
  · rw [← e1, Int.natAbs_mul]
    exact Nat.le_mul_of_pos_right _ this
  · rw [← e2, Int.natAbs_mul]
    exact Nat.le_mul_of_pos_right _ this
theorem Red.cross {a b p q : Int} (h : Red a b p q) : p * b = a * q := by
  obtain ⟨g, hg, e1, e2⟩ := h.ex
  rw [← e1, ← e2, Int.mul_comm q g, ← Int.mul_assoc, Int.mul_right_comm]
theorem red_of {a b : Int} (hb : 0 < b) : Red a b (a / ((Nat.gcd a.natAbs b.natAbs : Nat) : Int)) (b / ((Nat.gcd a.natAbs b.natAbs : Nat) : Int)) := by
  have g0 : 0 < Nat.gcd a.natAbs b.natAbs := Nat.gcd_pos_of_pos_right _ (by omega)
  have d1 : ((Nat.gcd a.natAbs b.natAbs : Nat) : Int) ∣ a := Int.ofNat_dvd_left.mpr (Nat.gcd_dvd_left _ _)
  have d2 : ((Nat.gcd a.natAbs b.natAbs : Nat) : Int) ∣ b := Int.ofNat_dvd_left.mpr (Nat.gcd_dvd_right _ _)
  have gp : (0 : Int) < ((Nat.gcd a.natAbs b.natAbs : Nat) : Int) := by omega
  refine ⟨Int.ediv_pos_of_pos_of_dvd hb (by omega) d2, ⟨_, gp, Int.ediv_mul_cancel d1, Int.ediv_mul_cancel d2⟩, ?_⟩
  rw [Int.natAbs_ediv_of_dvd d1, Int.natAbs_ediv_of_dvd d2, Int.natAbs_natCast]
  rw [Nat.gcd_div (Nat.gcd_dvd_left _ _) (Nat.gcd_dvd_right _ _)]
  exact Nat.div_self g0
theorem fr_at {K : PySem.W.Frag} {H : Hp} {v : V} {f : Int × Int} (h : Dq K H v (frD f)) : ∃ a, v = .ref a ∧ SqT K H a [.int f.1, .int f.2] := by
  obtain ⟨a, xs, rfl, h1, h2, _⟩ := tup_len h
  cases h2 with
  | cons e1 r1 =>
  cases r1 with
  | cons e2 r2 =>
  cases r2
  cases e1
  cases e2
  exact ⟨a, rfl, h1⟩
theorem fr_of {K : PySem.W.Frag} {H : Hp} {a : Addr} {p q : Int} (h : H a = some (.tup [.int p, .int q])) : Dq K H (.ref a) (frD (p, q)) := .tup (SqT.of h) (.cons (.int _) (.cons (.int _) .nil))
def spFraction (K : PySem.W.Frag) : Sp := fun vs H Q _ => ∃ a b : Int, vs = [.int a, .int b] ∧ 0 < b ∧ b.natAbs < 2 ^ 8000 ∧ ∀ H' y p q, Same H H' → Dq K H' y (frD (p, q)) → Red a b p q → Q y H'
/-- a fraction of not too many digits -/
structure FrOk (n : Nat) (f : Int × Int) : Prop where
  pos : 0 < f.2
  t : f.1.natAbs < 2 ^ n
  b : f.2.natAbs < 2 ^ n
def spPlus (K : PySem.W.Frag) : Sp := fun vs H Q _ => ∃ x y f g, vs = [x, y] ∧ Dq K H x (frD f) ∧ Dq K H y (frD g) ∧ FrOk 2000 f ∧ FrOk 2000 g ∧ ∀ H' z p q, Same H H' → Dq K H' z (frD (p, q)) → Red (f.1 * g.2 + g.1 * f.2) (f.2 * g.2) p q → Q z H'
def spOpp (K : PySem.W.Frag) : Sp := fun vs H Q _ => ∃ x f, vs = [x] ∧ Dq K H x (frD f) ∧ ∀ H' z, Same H H' → Dq K H' z (frD (-f.1, f.2)) → Q z H'
def spMinus (K : PySem.W.Frag) : Sp := fun vs H Q _ => ∃ x y f g, vs = [x, y] ∧ Dq K H x (frD f) ∧ Dq K H y (frD g) ∧ FrOk 2000 f ∧ FrOk 2000 g ∧ ∀ H' z p q, Same H H' → Dq K H' z (frD (p, q)) → Red (f.1 * g.2 + -g.1 * f.2) (f.2 * g.2) p q → Q z H'
theorem FrOk.wide {f g : Int × Int} (hf : FrOk 2000 f) (hg : FrOk 2000 g) : 0 < f.2 * g.2 ∧ (f.2 * g.2).natAbs < 2 ^ 8000 := by
  refine ⟨Int.mul_pos hf.pos hg.pos, Nat.lt_of_lt_of_le (wide_lt hf.b hg.b) (Nat.pow_le_pow_right (by decide) (by decide))⟩
section
variable {P : Program} {w : World} {K : PySem.W.Frag} {mg : Str → Option Value} {base : Heap}
theorem scFraction : FnScope ["top", "bottom", "shared"] ["top", "bottom"] (defScope sFraction) := ⟨rfl, rfl, rfl, by decide +kernel, rfl, by decide +kernel, by decide +kernel⟩
theorem ok_fraction {f : Addr} {fd : FuncData} (F : FnT K "fraction" sFraction f fd) (mgcd : mg "gcd" = some (.builtin "math.gcd")) : FnOk P w K mg base CX0 1 f fd ["top", "bottom"] (spFraction K) := by
  refine F.ok scFraction (fun vs H Q E h => ?_) (fun cdv A outer s H vs Q E hr h => ?_)
  · obtain ⟨a, b, rfl, _⟩ := h
    rfl
  · obtain ⟨a, b, rfl, hb, hs, q⟩ := h
    have nd := scFraction.nd
    refine ⟨_, PSs.nox (pss_cons (ps_set (i := 2) nd rfl (.inl rfl) (pe_callBfun cr_gcd rfl mgcd (pa_cons (pv 0) (pa_cons (pv 1) pa_nil))))
      (pss_one (ps_ret (pe_tup (pa_cons (pe_op op_fdivW (pv 0) (pv 2)) (pa_cons (pe_op op_fdivW (pv 1) (pv 2)) pa_nil)))))), ?_⟩
    have g0 : 0 < Nat.gcd a.natAbs b.natAbs := Nat.gcd_pos_of_pos_right _ (by omega)
    have g1 : Nat.gcd a.natAbs b.natAbs ≤ b.natAbs := Nat.gcd_le_right _ (by omega)
    have cd : ∀ i : Int, CDivW i ((Nat.gcd a.natAbs b.natAbs : Nat) : Int) := fun i => wide_div (b := 8000) (by omega) (by rw [Int.natAbs_natCast]; exact Nat.lt_of_le_of_lt g1 hs) (by decide) (by decide)
    refine ⟨_, rfl, _, rfl, a, b, rfl, _, rfl, _, rfl, _, _, rfl, rfl, cd _, _, rfl, _, rfl, _, _, rfl, rfl, cd _, by show 2 ≤ sizeLine; decide, fun p hp => ?_⟩
    exact q _ _ _ _ (Same.new hp) (fr_of upd_same) (red_of hb)
theorem scPlus : FnScope ["one", "other"] ["one", "other"] (defScope sPlus) := ⟨rfl, rfl, rfl, by decide +kernel, rfl, by decide +kernel, by decide +kernel⟩
theorem ok_plus {f fF : Addr} {fd fdF : FuncData} (F : FnT K "plus" sPlus f fd) (gF : mg "fraction" = some (.ref fF)) (GF : FnOk P w K mg base CX0 1 fF fdF ["top", "bottom"] (spFraction K)) (kF : PySem.W.keepIn K (.ref fF) = true) (bF : Binds K fdF ["top", "bottom"] []) :
    FnOk P w K mg base CX0 2 f fd ["one", "other"] (spPlus K) := by
  refine F.ok scPlus (fun vs H Q E h => ?_) (fun cdv A outer s H vs Q E hr h => ?_)
  · obtain ⟨x, y, f, g, rfl, _⟩ := h
    rfl
  · obtain ⟨x, y, f, g, rfl, dx, dy, hf, hg, q⟩ := h
    obtain ⟨a, rfl, ha⟩ := fr_at dx
    obtain ⟨b, rfl, hb⟩ := fr_at dy
    refine ⟨_, PSs.nox (pss_one (ps_ret (pe_call GF hr rfl gF kF bF .nil pass0 (pa_cons (pe_op op_add (pe_op op_mulW (pe_ix ix_tup (pv 0) pe_int (fun _ _ => rfl)) (pe_ix ix_tup (pv 1) pe_int (fun _ _ => rfl))) (pe_op op_mulW (pe_ix ix_tup (pv 1) pe_int (fun _ _ => rfl)) (pe_ix ix_tup (pv 0) pe_int (fun _ _ => rfl))))
      (pa_cons (pe_op op_mulW (pe_ix ix_tup (pv 0) pe_int (fun _ _ => rfl)) (pe_ix ix_tup (pv 1) pe_int (fun _ _ => rfl))) pa_nil))))), ?_⟩
    have m : ∀ {i j : Int}, i.natAbs < 2 ^ 2000 → j.natAbs < 2 ^ 2000 → CMulW i j := fun h1 h2 => wide_mul h1 h2 (by decide) (by decide) (by decide)
    obtain ⟨w1, w2⟩ := hf.wide hg
    refine ⟨_, rfl, a, _, 0, _, rfl, rfl, ha, atI_nat (j := 0) rfl, _, rfl, b, _, 1, _, rfl, rfl, hb, atI_nat (j := 1) rfl, _, _, rfl, rfl, m hf.t hg.b, ?_⟩
    refine ⟨_, rfl, b, _, 0, _, rfl, rfl, hb, atI_nat (j := 0) rfl, _, rfl, a, _, 1, _, rfl, rfl, ha, atI_nat (j := 1) rfl, _, _, rfl, rfl, m hg.t hf.b, _, _, rfl, rfl, ?_⟩
    refine ⟨_, rfl, a, _, 1, _, rfl, rfl, ha, atI_nat (j := 1) rfl, _, rfl, b, _, 1, _, rfl, rfl, hb, atI_nat (j := 1) rfl, _, _, rfl, rfl, m hf.b hg.b, _, _, rfl, w1, w2, q⟩
end
end Ca
set_option Elab.async false
set_option linter.all false
set_option maxRecDepth 100000
set_option maxHeartbeats 8000000
namespace Ca
open PySem L2
/-! ### the amounts of a table -/
theorem sqt_updT {K : PySem.W.Frag} {H : Hp} {a y : Addr} {xs ys : List V} {o : HO} (hy : H y = some (.lst ys)) (h : SqT K H a xs) : SqT K (upd H y o) a xs := by
  rcases h with (e | ⟨o', e⟩) | e
  · exact .inl (.inl (by rw [upd_ne (fun z => by rw [z, hy] at e; cases e)]; exact e))
  · exact .inl (.inr ⟨o', by rw [upd_ne (fun z => by rw [z, hy] at e; cases e)]; exact e⟩)
  · exact .inr e
theorem fr_updT {K : PySem.W.Frag} {H : Hp} {y : Addr} {v : V} {ys : List V} {o : HO} {p : Int × Int} (hy : H y = some (.lst ys)) (h : Dq K H v (frD p)) : Dq K (upd H y o) v (frD p) := by
  obtain ⟨a, rfl, s⟩ := fr_at h
  exact .tup (sqt_updT hy s) (.cons (.int _) (.cons (.int _) .nil))
/-- what is told of the quantity q by the first k lines -/
def AmtOf (n : Nat) (t : Tb) (k q : Nat) (p : Int × Int) : Prop := (∃ l : Nat, l < k ∧ t.bs[l]? = some q ∧ Red (tT t l n) t.D p.1 p.2) ∨ ((∀ l : Nat, l < k → t.bs[l]? ≠ some q) ∧ p = (0, 1))
def AmtsAt (K : PySem.W.Frag) (H : Hp) (y : Addr) (n : Nat) (t : Tb) (k : Nat) : Prop := ∃ vs : List V, H y = some (.lst vs) ∧ vs.length = n ∧ ∀ (q : Nat) (v : V), vs[q]? = some v → ∃ p, Dq K H v (frD p) ∧ AmtOf n t k q p
def spAmts (K : PySem.W.Frag) (C : Addr) : Sp := fun vs H Q _ => ∃ (x : Addr) (t : Tb) (m n : Nat), vs = [.ref x, .int (n : Nat)] ∧ TbAt C H x t ∧ Shp m n t ∧ t.bs.Nodup ∧ 0 < t.D ∧ t.D.natAbs < 2 ^ 1000 ∧ ∀ H' y, Same H H' → AmtsAt K H' y n t m → Q (.ref y) H'
abbrev NAm : List Str := ["table", "many", "amounts", "number", "line", "_"]
section
variable {P : Program} {w : World} {K : PySem.W.Frag} {mg : Str → Option Value} {base : Heap} {C : Addr}
theorem scAm : FnScope ["table", "many", "amounts", "number", "line", "_"] ["table", "many"] (defScope sAmountsIn) := ⟨rfl, rfl, rfl, by decide +kernel, rfl, by decide +kernel, by decide +kernel⟩
theorem ok_amounts {f fF zA : Addr} {fd fdF : FuncData} (F : FnT K "amounts_in" sAmountsIn f fd) (T : TabK K C) (mzip : mg "zip" = none) (mrng : mg "range" = none) (gZ : mg "ZERO" = some (.ref zA)) (hZ : ∀ H : Hp, SqT K H zA [.int 0, .int 1])
    (gF : mg "fraction" = some (.ref fF)) (GF : FnOk P w K mg base CX0 1 fF fdF ["top", "bottom"] (spFraction K)) (kF : PySem.W.keepIn K (.ref fF) = true) (bF : Binds K fdF ["top", "bottom"] []) :
    FnOk P w K mg base CX0 2 f fd ["table", "many"] (spAmts K C) := by
  refine F.ok scAm (fun vs H Q E h => ?_) (fun cdv A outer s H vs Q E hr h => ?_)
  · obtain ⟨x, t, m, n, rfl, _⟩ := h
    rfl
  · obtain ⟨x, t, m, n, rfl, ht, hs, hnd, hD, hDs, q⟩ := h
    have nd := scAm.nd
    have hr1 : Room 1 _ := hr.mono (by decide)
    refine ⟨_, PSs.nox (pss_cons (ps_cut (ps_setLc (i := 2) (own := [("_", 5)]) (g := gName 5) (tt := tYes) rfl nd rfl rfl (sw_true rfl rfl rfl (by decide +kernel)) (pi_range1 rfl mrng (pa_cons (pv 1) pa_nil))
        (blkOk_by (own := [("_", 5)]) (N := NAm) (sc := defScope sAmountsIn) (by decide +kernel)) (fun _ _ _ _ _ => pg_name (i := 5) nd rfl (Or.inl rfl)) (fun _ _ _ _ _ => pts_nil)
        (fun _ _ _ _ _ => pe_glob (v := .ref zA) rfl gZ rfl)))
      (pss_cons (ps_cut (ps_for PassesOwn.never rfl (RZ.pi_zipA (by rfl) mzip (pa_cons (pe_fld (pv 0) rfl) (pa_cons (pe_fld (pv 0) rfl) pa_nil))) (pgTt K rfl (pgs_cons (pg_name (i := 3) nd rfl (.inl rfl)) (pgs_cons (pg_name (i := 4) nd rfl (.inl rfl)) pgs_nil)))
        (pss_one (ps_if (pt_cmpR op_lt (pv 3) (pv 1) (nomark _)) (pss_one (ps_asg (pe_call GF hr1 rfl gF kF bF .nil pass0 (pa_cons (pe_ix (ixLt K) (pv 4) (pe_un un_neg pe_int) (fun _ _ => rfl)) (pa_cons (pe_fld (pv 0) rfl) pa_nil))) (pg_sub (pv 2) (pv 3) set_list))) pss_nil))))
      (pss_one (ps_ret (pv 2))))), ?_⟩
    obtain ⟨dx, L, b, f', hx, ⟨ps, hL, hpl, hrow⟩, hb, hf⟩ := id ht
    have bl := hs.bl
    have fl := hs.fl
    have rl := hs.rl
    have m100 := hs.ms
    have n100 := hs.ns
    refine ⟨fun σ' H' => ∃ y, σ' = [some (.ref x), some (.int (n : Nat)), some (.ref y), none, none, none] ∧ Same H H' ∧ H y = none ∧ AmtsAt K H' y n t 0, ?_, ?_⟩
    · refine ⟨_, rfl, _, rfl, by omega, by omega, fun D hD' => ?_⟩
      refine lc_it (walk_range (lo := 0) (n := n)) (fun k H' => Same H H' ∧ H' D = some (.lst (List.replicate k (V.ref zA)))) ⟨Same.new hD', upd_same⟩ (fun _ _ _ _ => trivial) ?_ ?_
      · rintro k z _ H5 hk ⟨s5, bD⟩ ⟨rfl, hz⟩
        refine ⟨rfl, rdYes ?_⟩
        refine ⟨_, bD, ?_, fun u o g => ?_, ?_⟩
        · rw [List.length_replicate]
          exact Nat.lt_of_lt_of_le (show k < 101 by have : k < n := hk; omega) (by decide)
        · rw [upd_ne (ne_of_none g hD')]
          exact s5 _ _ g
        · rw [upd_same, List.replicate_succ']
      · rintro H5 ⟨s5, bD⟩
        refine ⟨D, rfl, s5, hD', _, bD, List.length_replicate .., fun q' v hv => ⟨(0, 1), ?_, .inr ⟨fun l hl => absurd hl (Nat.not_lt_zero _), rfl⟩⟩⟩
        have := List.eq_of_mem_replicate (List.mem_of_getElem? hv)
        rw [this]
        exact .tup (hZ _) (.cons (.int _) (.cons (.int _) .nil))
    rintro _ H1 ⟨y, rfl, s1, hy, am⟩
    refine ⟨fun σ' H' => ∃ o3 o4, σ' = [some (.ref x), some (.int (n : Nat)), some (.ref y), o3, o4, none] ∧ Same H H' ∧ AmtsAt K H' y n t m, ?_, ?_⟩
    · refine ⟨_, rfl, x, C, dx, _, .ref b, rfl, s1 _ _ hx, T.cl, T.n3, rfl, _, rfl, x, C, dx, _, .ref L, rfl, s1 _ _ hx, T.cl, T.n1, rfl, b, L, _, _, rfl, .inl ⟨(hb.same s1).sq, SqL.of (s1 _ _ hL), ?_⟩⟩
      refine for_it (walk_zip (K := K) (a := b) (b := L) (xs := (natL t.bs).map V.int) (ys := ps.map V.ref) (n := m) (by unfold natL; rw [List.length_map, List.length_map, List.length_map]; omega)) (fun i σ' H' => ∃ o3 o4, σ' = [some (.ref x), some (.int (n : Nat)), some (.ref y), o3, o4, none] ∧ Same H H' ∧ AmtsAt K H' y n t i) ⟨_, _, rfl, s1, am⟩ (fun i σ' H' hi p' => by
        obtain ⟨_, _, _, s', _⟩ := p'
        exact ⟨(hb.same s').sq, SqL.of (s' _ _ hL)⟩) ?_ (fun σ' H' p' => p')
      rintro i z _ H4 H5 hi ⟨o3, o4, rfl, s5, vs, bD, lv, hv⟩ ⟨T1, x1, y1, rfl, hT, rfl, hx2, hyy⟩
      have s6 := Same.new (o := .tup [x1, y1]) hT
      have s56 := s5.trans s6
      obtain ⟨k, hk, rfl⟩ := nat_back hx2
      have him : i < m := hi
      obtain ⟨r, hr1, hr2, hr3⟩ := row_at_T hs (i := i) (by omega)
      obtain ⟨p, hp, rfl⟩ : ∃ p, ps[i]? = some p ∧ y1 = V.ref p := by
        replace hyy : (ps.map V.ref)[i]? = some y1 := hyy
        rw [List.getElem?_map] at hyy
        cases e : ps[i]? with
        | none => rw [e] at hyy; cases hyy
        | some p => rw [e] at hyy; exact ⟨p, rfl, (Option.some.inj hyy).symm⟩
      have ip := (hrow i p r hp hr1).same s56
      have last : ((r.map V.int))[n]? = some (V.int (tT t i n)) := by
        rw [← hr3 n]
        exact IntsAt.get (getD_at (by omega))
      -- a line more
      have more : ∀ q' p', q' ≠ k → AmtOf n t i q' p' → AmtOf n t (i + 1) q' p' := fun q' p' ne h => by
        rcases h with ⟨l, h1, h2, h3⟩ | ⟨h1, h2⟩
        · exact .inl ⟨l, by omega, h2, h3⟩
        · refine .inr ⟨fun l hl => ?_, h2⟩
          by_cases g : l = i
          · rw [g, hk]
            exact fun z => ne (Option.some.inj z).symm
          · exact h1 l (by omega)
      have bD6 := s6 _ _ bD
      have hv6 : ∀ (q' : Nat) (v : V), vs[q']? = some v → ∃ g, Dq K (upd H4 T1 (.tup [.int (Int.ofNat k), .ref p])) v (frD g) ∧ AmtOf n t i q' g := fun q' v e => by
        obtain ⟨g, h1, h2⟩ := hv q' v e
        exact ⟨g, h1.same s6, h2⟩
      refine ⟨T1, _, rfl, SqT.of upd_same, rfl, _, _, rfl, _, _, rfl, rfl, ?_⟩
      refine ⟨_, rfl, _, rfl, _, _, rfl, rfl, _, rfl, ?_⟩
      refine ite2 (fun c => ?_) (fun c => ?_)
      · have kn : k < n := Int.ofNat_lt.mp (of_decide_eq_true c)
        refine ⟨_, rfl, _, rfl, p, _, _, .int (tT t i n), rfl, rfl, ip.sq, atI_neg (by rw [List.length_map]; exact hr2) last, _, rfl, x, C, dx, _, .int t.D, rfl, s56 _ _ hx, T.cl, T.n2, rfl, tT t i n, t.D, rfl, hD, Nat.lt_trans hDs (Nat.pow_lt_pow_right (by decide) (by decide)), fun H7 z p1 q1 s7 dz rd => ?_⟩
        have bD7 := s7 _ _ bD6
        refine ⟨_, rfl, _, rfl, y, vs, _, k, rfl, rfl, bD7, ixNt (by omega), ?_⟩
        refine ⟨_, _, rfl, fun u o g => ?_, vs.set k z, upd_same, by rw [List.length_set]; exact lv, fun q' v e => ?_⟩
        · rw [upd_ne (ne_of_none g hy)]
          exact s7 _ _ (s56 _ _ g)
        · by_cases g : q' = k
          · rw [g, List.getElem?_set_self (by omega)] at e
            obtain rfl := Option.some.inj e
            exact ⟨(p1, q1), fr_updT bD7 dz, .inl ⟨i, Nat.lt_succ_self _, by rw [g]; exact hk, rd⟩⟩
          · rw [List.getElem?_set_ne (Ne.symm g)] at e
            obtain ⟨w1, h1, h2⟩ := hv6 q' v e
            exact ⟨w1, fr_updT bD7 (h1.same s7), more q' w1 g h2⟩
      · have kn : ¬ k < n := fun z => c (decide_eq_true (Int.ofNat_lt.mpr z))
        refine ⟨_, _, rfl, s56, vs, bD6, lv, fun q' v e => ?_⟩
        obtain ⟨w1, h1, h2⟩ := hv6 q' v e
        have ql := (List.getElem?_eq_some_iff.mp e).1
        exact ⟨w1, h1, more q' w1 (by omega) h2⟩
    rintro _ H2 ⟨o3, o4, rfl, s2, am2⟩
    exact ⟨_, rfl, q H2 y s2 am2⟩
end
end Ca
set_option Elab.async false
set_option linter.all false
set_option maxRecDepth 100000
set_option maxHeartbeats 8000000
namespace Ca
open PySem L2
/-! ### the weights of a line of a table -/
/-- what is told of the quantity q by the first k free ones -/
def WgtF (t : Tb) (row k q : Nat) (p : Int × Int) : Prop := (∃ l : Nat, l < k ∧ t.fs[l]? = some q ∧ Red (tT t row l) t.D p.1 p.2) ∨ ((∀ l : Nat, l < k → t.fs[l]? ≠ some q) ∧ p = (0, 1))
def WgtOf (n : Nat) (t : Tb) (row q : Nat) (p : Int × Int) : Prop := (t.bs[row]? = some q ∧ p = (1, 1)) ∨ (t.bs[row]? ≠ some q ∧ WgtF t row n q p)
def FrsAt (K : PySem.W.Frag) (H : Hp) (y : Addr) (n : Nat) (R : Nat → Int × Int → Prop) : Prop := ∃ vs : List V, H y = some (.lst vs) ∧ vs.length = n ∧ ∀ (q : Nat) (v : V), vs[q]? = some v → ∃ p, Dq K H v (frD p) ∧ R q p
theorem FrsAt.same {K : PySem.W.Frag} {H H' : Hp} {y : Addr} {n : Nat} {R : Nat → Int × Int → Prop} (h : FrsAt K H y n R) (s : Same H H') : FrsAt K H' y n R := by
  obtain ⟨vs, h1, h2, h3⟩ := h
  exact ⟨vs, s _ _ h1, h2, fun q v e => by
    obtain ⟨p, g1, g2⟩ := h3 q v e
    exact ⟨p, g1.same s, g2⟩⟩
theorem FrsAt.imp {K : PySem.W.Frag} {H : Hp} {y : Addr} {n : Nat} {R R' : Nat → Int × Int → Prop} (h : FrsAt K H y n R) (i : ∀ q p, q < n → R q p → R' q p) : FrsAt K H y n R' := by
  obtain ⟨vs, h1, h2, h3⟩ := h
  exact ⟨vs, h1, h2, fun q v e => by
    obtain ⟨p, g1, g2⟩ := h3 q v e
    exact ⟨p, g1, i q p (by rw [← h2]; exact (List.getElem?_eq_some_iff.mp e).1) g2⟩⟩
/-- one of them written -/
theorem FrsAt.set {K : PySem.W.Frag} {H : Hp} {y : Addr} {n k : Nat} {R R' : Nat → Int × Int → Prop} {z : V} {p : Int × Int} {vs : List V} (hy : H y = some (.lst vs)) (hv : ∀ (q : Nat) (v : V), vs[q]? = some v → ∃ p, Dq K H v (frD p) ∧ R q p) (lv : vs.length = n) (dz : Dq K H z (frD p)) (r : R' k p) (i : ∀ q p, q < n → q ≠ k → R q p → R' q p) : FrsAt K (upd H y (.lst (vs.set k z))) y n R' := by
  refine ⟨vs.set k z, upd_same, by rw [List.length_set]; exact lv, fun q v e => ?_⟩
  by_cases g : q = k
  · subst g
    have ql := (List.getElem?_eq_some_iff.mp e).1
    rw [List.length_set] at ql
    rw [List.getElem?_set_self ql] at e
    obtain rfl := Option.some.inj e
    exact ⟨p, fr_updT hy dz, r⟩
  · rw [List.getElem?_set_ne (Ne.symm g)] at e
    obtain ⟨w1, h1, h2⟩ := hv q v e
    exact ⟨w1, fr_updT hy h1, i q w1 (by rw [← lv]; exact (List.getElem?_eq_some_iff.mp e).1) g h2⟩
def spWgts (K : PySem.W.Frag) (C : Addr) : Sp := fun vs H Q _ => ∃ (x : Addr) (t : Tb) (m n row : Nat), vs = [.ref x, .int (row : Nat), .int (n : Nat)] ∧ TbAt C H x t ∧ Shp m n t ∧ (t.bs ++ t.fs).Perm (List.range (m + n)) ∧ row ≤ m ∧ 0 < t.D ∧ t.D.natAbs < 2 ^ 1000 ∧ ∀ H' y, Same H H' → FrsAt K H' y m (fun i p => WgtOf n t row (n + i) p) → Q (.ref y) H'
abbrev NWg : List Str := ["table", "row", "many", "weights", "number", "entry", "_"]
section
variable {P : Program} {w : World} {K : PySem.W.Frag} {mg : Str → Option Value} {base : Heap} {C : Addr}
theorem scWg : FnScope ["table", "row", "many", "weights", "number", "entry", "_"] ["table", "row", "many"] (defScope sWeightsIn) := ⟨rfl, rfl, rfl, by decide +kernel, rfl, by decide +kernel, by decide +kernel⟩
theorem ok_weights {f fF zA oA : Addr} {fd fdF : FuncData} (F : FnT K "weights_in" sWeightsIn f fd) (T : TabK K C) (mzip : mg "zip" = none) (mrng : mg "range" = none) (mlen : mg "len" = none) (gZ : mg "ZERO" = some (.ref zA)) (hZ : ∀ H : Hp, SqT K H zA [.int 0, .int 1])
    (gO : mg "ONE" = some (.ref oA)) (hO : ∀ H : Hp, SqT K H oA [.int 1, .int 1])
    (gF : mg "fraction" = some (.ref fF)) (GF : FnOk P w K mg base CX0 1 fF fdF ["top", "bottom"] (spFraction K)) (kF : PySem.W.keepIn K (.ref fF) = true) (bF : Binds K fdF ["top", "bottom"] []) :
    FnOk P w K mg base CX0 2 f fd ["table", "row", "many"] (spWgts K C) := by
  refine F.ok scWg (fun vs H Q E h => ?_) (fun cdv A outer s H vs Q E hr h => ?_)
  · obtain ⟨x, t, m, n, row, rfl, _⟩ := h
    rfl
  · obtain ⟨x, t, m, n, row, rfl, ht, hs, hpm, hrow0, hD, hDs, q⟩ := h
    have nd := scWg.nd
    have hr1 : Room 1 _ := hr.mono (by decide)
    refine ⟨_, PSs.nox (pss_cons (ps_cut (ps_setLc (i := 3) (own := [("_", 6)]) (g := gName 6) (tt := tYes) rfl nd rfl rfl (sw_true rfl rfl rfl (by decide +kernel)) (pi_range1 rfl mrng (pa_cons (pe_op op_add (pe_callB call_len (by rfl) mlen boot_len (pa_cons (pe_fld (pv 0) rfl) pa_nil)) (pe_callB call_len (by rfl) mlen boot_len (pa_cons (pe_fld (pv 0) rfl) pa_nil))) pa_nil))
        (blkOk_by (own := [("_", 6)]) (N := NWg) (sc := defScope sWeightsIn) (by decide +kernel)) (fun _ _ _ _ _ => pg_name (i := 6) nd rfl (Or.inl rfl)) (fun _ _ _ _ _ => pts_nil)
        (fun _ _ _ _ _ => pe_glob (v := .ref zA) rfl gZ rfl)))
      (pss_cons (ps_cut (ps_for PassesOwn.never rfl (RZ.pi_zipA (by rfl) mzip (pa_cons (pe_fld (pv 0) rfl) (pa_cons (pe_ix (ixLt K) (pe_fld (pv 0) rfl) (pv 1) (fun _ _ => rfl)) pa_nil))) (pgTt K rfl (pgs_cons (pg_name (i := 4) nd rfl (.inl rfl)) (pgs_cons (pg_name (i := 5) nd rfl (.inl rfl)) pgs_nil)))
        (pss_one (ps_asg (pe_call GF hr1 rfl gF kF bF .nil pass0 (pa_cons (pv 5) (pa_cons (pe_fld (pv 0) rfl) pa_nil))) (pg_sub (pv 3) (pv 4) set_list)))))
      (pss_cons (ps_cut (ps_if (pt_cmpR op_lt (pv 1) (pe_callB call_len (by rfl) mlen boot_len (pa_cons (pe_fld (pv 0) rfl) pa_nil)) (nomark _)) (pss_one (ps_asg (pe_glob (v := .ref oA) rfl gO rfl) (pg_sub (pv 3) (pe_ix (ixLt K) (pe_fld (pv 0) rfl) (pv 1) (fun _ _ => rfl)) set_list))) pss_nil))
      (pss_one (ps_ret (pe_slice sl_list (pv 3) (po_some (pv 2)) po_none)))))), ?_⟩
    obtain ⟨dx, L, b, f', hx, ⟨ps, hL, hpl, hrow⟩, hb, hf⟩ := id ht
    have bl := hs.bl
    have fl := hs.fl
    have rl := hs.rl
    have m100 := hs.ms
    have n100 := hs.ns
    have below : ∀ q' ∈ t.bs ++ t.fs, q' < m + n := fun q' h => List.mem_range.mp (hpm.mem_iff.mp h)
    have nodup : (t.bs ++ t.fs).Nodup := hpm.nodup_iff.mpr List.nodup_range
    refine ⟨fun σ' H' => ∃ y, σ' = [some (.ref x), some (.int (row : Nat)), some (.int (n : Nat)), some (.ref y), none, none, none] ∧ Same H H' ∧ H y = none ∧ FrsAt K H' y (m + n) (fun q p => WgtF t row 0 q p), ?_, ?_⟩
    · refine ⟨_, rfl, x, C, dx, _, .ref b, rfl, hx, T.cl, T.n3, rfl, _, t.bs.length, rfl, .inl ⟨_, hb.sq, by unfold natL; rw [List.length_map, List.length_map]⟩, _, rfl, x, C, dx, _, .ref f', rfl, hx, T.cl, T.n4, rfl, _, t.fs.length, rfl, .inl ⟨_, hf.sq, by unfold natL; rw [List.length_map, List.length_map]⟩, _, _, rfl, rfl, ?_⟩
      refine ⟨((t.bs.length + t.fs.length : Nat) : Int), rfl, by omega, by omega, fun D hD' => ?_⟩
      refine lc_it (walk_range (lo := 0) (n := t.bs.length + t.fs.length)) (fun k H' => Same H H' ∧ H' D = some (.lst (List.replicate k (V.ref zA)))) ⟨Same.new hD', upd_same⟩ (fun _ _ _ _ => trivial) ?_ ?_
      · rintro k z _ H5 hk ⟨s5, bD⟩ ⟨rfl, hz⟩
        refine ⟨rfl, rdYes ?_⟩
        refine ⟨_, bD, ?_, fun u o g => ?_, ?_⟩
        · rw [List.length_replicate]
          exact Nat.lt_of_lt_of_le (show k < 201 by have : k < t.bs.length + t.fs.length := hk; omega) (by decide)
        · rw [upd_ne (ne_of_none g hD')]
          exact s5 _ _ g
        · rw [upd_same, List.replicate_succ']
      · rintro H5 ⟨s5, bD⟩
        refine ⟨D, rfl, s5, hD', _, bD, by rw [List.length_replicate]; omega, fun q' v hv => ⟨(0, 1), ?_, .inr ⟨fun l hl => absurd hl (Nat.not_lt_zero _), rfl⟩⟩⟩
        have := List.eq_of_mem_replicate (List.mem_of_getElem? hv)
        rw [this]
        exact .tup (hZ _) (.cons (.int _) (.cons (.int _) .nil))
    rintro _ H1 ⟨y, rfl, s1, hy, am⟩
    obtain ⟨r, hr1, hr2, hr3⟩ := row_at_T hs (i := row) (by omega)
    obtain ⟨p, hp⟩ : ∃ p, ps[row]? = some p := ⟨_, List.getElem?_eq_getElem (by omega)⟩
    have ip := hrow row p r hp hr1
    refine ⟨fun σ' H' => ∃ o4 o5, σ' = [some (.ref x), some (.int (row : Nat)), some (.int (n : Nat)), some (.ref y), o4, o5, none] ∧ Same H H' ∧ FrsAt K H' y (m + n) (fun q p => WgtF t row n q p), ?_, ?_⟩
    · refine ⟨_, rfl, x, C, dx, _, .ref f', rfl, s1 _ _ hx, T.cl, T.n4, rfl, _, rfl, x, C, dx, _, .ref L, rfl, s1 _ _ hx, T.cl, T.n1, rfl, _, rfl, L, _, _, .ref p, rfl, rfl, SqL.of (s1 _ _ hL), atI_nat (by rw [List.getElem?_map, hp]; rfl), f', p, _, _, rfl, .inl ⟨(hf.same s1).sq, (ip.same s1).sq, ?_⟩⟩
      refine for_it (walk_zip (K := K) (a := f') (b := p) (xs := (natL t.fs).map V.int) (ys := r.map V.int) (n := n) (by unfold natL; rw [List.length_map, List.length_map, List.length_map]; omega)) (fun i σ' H' => ∃ o4 o5, σ' = [some (.ref x), some (.int (row : Nat)), some (.int (n : Nat)), some (.ref y), o4, o5, none] ∧ Same H H' ∧ FrsAt K H' y (m + n) (fun q p => WgtF t row i q p)) ⟨_, _, rfl, s1, am⟩ (fun i σ' H' hi p' => by
        obtain ⟨_, _, _, s', _⟩ := p'
        exact ⟨(hf.same s').sq, (ip.same s').sq⟩) ?_ (fun σ' H' p' => p')
      rintro i z _ H4 H5 hi ⟨o4, o5, rfl, s5, vs, bD, lv, hv⟩ ⟨T1, x1, y1, rfl, hT, rfl, hx2, hyy⟩
      have s6 := Same.new (o := .tup [x1, y1]) hT
      have s56 := s5.trans s6
      obtain ⟨k, hk, rfl⟩ := nat_back hx2
      obtain ⟨e, he, rfl⟩ := IntsAt.back hyy
      have hin : i < n := hi
      have ee : e = tT t row i := by
        rw [← hr3 i]
        have := getD_at (xs := r) (i := i) (by omega)
        rw [he] at this
        exact Option.some.inj this
      subst ee
      have kmn := below k (List.mem_append_right _ (List.mem_of_getElem? hk))
      refine ⟨T1, _, rfl, SqT.of upd_same, rfl, _, _, rfl, _, _, rfl, rfl, ?_⟩
      refine ⟨_, rfl, _, rfl, x, C, dx, _, .int t.D, rfl, s56 _ _ hx, T.cl, T.n2, rfl, tT t row i, t.D, rfl, hD, Nat.lt_trans hDs (Nat.pow_lt_pow_right (by decide) (by decide)), fun H7 z p1 q1 s7 dz rd => ?_⟩
      have bD7 := s7 _ _ (s6 _ _ bD)
      refine ⟨_, rfl, _, rfl, y, vs, _, k, rfl, rfl, bD7, ixNt (by omega), ?_⟩
      refine ⟨_, _, rfl, fun u o g => ?_, FrsAt.set (R := fun q p => WgtF t row i q p) (p := (p1, q1)) bD7 (fun q' v e => ?_) lv dz (.inl ⟨i, Nat.lt_succ_self _, hk, rd⟩) fun q' p' _ ne h => ?_⟩
      · rw [upd_ne (ne_of_none g hy)]
        exact s7 _ _ (s56 _ _ g)
      · obtain ⟨g, h1, h2⟩ := hv q' v e
        exact ⟨g, (h1.same s6).same s7, h2⟩
      · rcases h with ⟨l, h1, h2, h3⟩ | ⟨h1, h2⟩
        · exact .inl ⟨l, by omega, h2, h3⟩
        · refine .inr ⟨fun l hl => ?_, h2⟩
          by_cases g : l = i
          · rw [g, hk]
            exact fun z => ne (Option.some.inj z).symm
          · exact h1 l (by omega)
    rintro _ H2 ⟨o4, o5, rfl, s2, am2⟩
    refine ⟨fun σ' H' => σ' = [some (.ref x), some (.int (row : Nat)), some (.int (n : Nat)), some (.ref y), o4, o5, none] ∧ Same H H' ∧ FrsAt K H' y (m + n) (fun q p => WgtOf n t row q p), ?_, ?_⟩
    · refine ⟨_, rfl, _, rfl, x, C, dx, _, .ref b, rfl, s2 _ _ hx, T.cl, T.n3, rfl, _, t.bs.length, rfl, .inl ⟨_, (hb.same s2).sq, by unfold natL; rw [List.length_map, List.length_map]⟩, _, _, rfl, rfl, _, rfl, ?_⟩
      refine ite2 (fun c => ?_) (fun c => ?_)
      · have rm : row < t.bs.length := Int.ofNat_lt.mp (of_decide_eq_true c)
        obtain ⟨k, hk⟩ : ∃ k, t.bs[row]? = some k := ⟨_, List.getElem?_eq_getElem rm⟩
        have kmn := below k (List.mem_append_left _ (List.mem_of_getElem? hk))
        obtain ⟨vs, bD, lv, hv⟩ := am2
        refine ⟨_, rfl, _, rfl, x, C, dx, _, .ref b, rfl, s2 _ _ hx, T.cl, T.n3, rfl, _, rfl, b, _, _, .int (k : Nat), rfl, rfl, (hb.same s2).sq, atI_nat (IntsAt.get (by unfold natL; rw [List.getElem?_map, hk]; rfl)), y, vs, _, k, rfl, rfl, bD, ixNt (by omega), rfl, fun u o g => ?_, FrsAt.set (p := (1, 1)) bD hv lv (.tup (hO _) (.cons (.int _) (.cons (.int _) .nil))) (.inl ⟨hk, rfl⟩) fun q' p' _ ne h => .inr ⟨fun z => ne ?_, h⟩⟩
        · rw [upd_ne (ne_of_none g hy)]
          exact s2 _ _ g
        · rw [hk] at z
          exact (Option.some.inj z).symm
      · have rm : ¬ row < t.bs.length := fun z => c (decide_eq_true (Int.ofNat_lt.mpr z))
        exact ⟨rfl, s2, am2.imp fun q' p' _ h => .inr ⟨(by rw [List.getElem?_eq_none (by omega)]; exact (fun z => nomatch z)), h⟩⟩
    rintro _ H3 ⟨rfl, s3, vs, bD, lv, hv⟩
    refine ⟨_, rfl, _, rfl, _, rfl, rd_noT ?_⟩
    refine ⟨y, vs, rfl, SqL.of bD, fun y2 h2 => ?_⟩
    rw [cut_dropT _ _ (by omega)]
    have s4 := Same.new (o := .lst (vs.drop n)) h2
    refine q _ y2 (s3.trans s4) ⟨vs.drop n, upd_same, by rw [List.length_drop]; omega, fun i v e => ?_⟩
    rw [List.getElem?_drop] at e
    obtain ⟨g, h1, h2⟩ := hv (n + i) v e
    exact ⟨g, h1.same s4, h2⟩
end
end Ca
set_option Elab.async false
set_option linter.all false
set_option maxRecDepth 100000
set_option maxHeartbeats 8000000
namespace Ca
open PySem L2
/-! ### limits and costs as a program -/
def limA (ls : List (List Int × Int)) (i j : Nat) : Int := (ls.getD i ([], 0)).1.getD j 0
def limB (ls : List (List Int × Int)) (i : Nat) : Int := (ls.getD i ([], 0)).2
def cosC (cs : List Int) (j : Nat) : Int := cs.getD j 0
abbrev VOf (ls : List (List Int × Int)) (cs : List Int) : Nat → Det.Col := Det.colV ls.length cs.length (limA ls) (limB ls) (cosC cs)
abbrev S0Of (ls : List (List Int × Int)) (cs : List Int) : Det.Sta := Det.S0 ls.length cs.length (limA ls) (limB ls) (cosC cs)
section
variable {ls : List (List Int × Int)} {cs : List Int}
theorem shp0 (hn : ∀ l ∈ ls, l.1.length = cs.length) (m100 : ls.length ≤ 100) (n100 : cs.length ≤ 100) : Shp ls.length cs.length (firstTb ls cs) := by
  refine ⟨?_, fun r hr => ?_, ?_, ?_, m100, n100⟩
  · show (ls.map _ ++ [cs ++ [0]]).length = _
    rw [List.length_append, List.length_map]
    rfl
  · replace hr : r ∈ ls.map (fun l : List Int × Int => l.1 ++ [l.2]) ++ [cs ++ [0]] := hr
    rcases List.mem_append.mp hr with h | h
    · obtain ⟨l, hl, rfl⟩ := List.mem_map.mp h
      rw [List.length_append, hn l hl]
      rfl
    · rw [List.mem_singleton.mp h, List.length_append]
      rfl
  · show ((List.range ls.length).map _).length = _
    rw [List.length_map, List.length_range]
  · show (List.range cs.length).length = _
    rw [List.length_range]
theorem rep0 (hn : ∀ l ∈ ls, l.1.length = cs.length) : Rep ls.length cs.length (firstTb ls cs) (S0Of ls cs) := by
  refine ⟨rfl, rfl, rfl, fun k l hk hl => ?_⟩
  show ((ls.map (fun l : List Int × Int => l.1 ++ [l.2]) ++ [cs ++ [0]]).getD k []).getD l 0 = Det.T0 ls.length cs.length (limA ls) (limB ls) (cosC cs) k l
  unfold Det.T0
  have last : ∀ (r : List Int) (z : Int), r.length = cs.length → (r ++ [z]).getD l 0 = if l < cs.length then r.getD l 0 else z := fun r z hr => by
    rw [List.getD_eq_getElem?_getD]
    by_cases g : l < cs.length
    · rw [if_pos g, List.getElem?_append_left (by omega), List.getD_eq_getElem?_getD]
    · rw [if_neg g, List.getElem?_append_right (by omega), show l - r.length = 0 by omega]
      rfl
  by_cases g : k < ls.length
  · have e : (ls.map (fun l : List Int × Int => l.1 ++ [l.2]) ++ [cs ++ [0]]).getD k [] = ls[k].1 ++ [ls[k].2] := by
      rw [List.getD_eq_getElem?_getD, List.getElem?_append_left (by rw [List.length_map]; exact g), List.getElem?_map, List.getElem?_eq_getElem g]
      rfl
    rw [if_pos g, e, last _ _ (hn _ (List.getElem_mem g))]
    unfold limA limB
    rw [List.getD_eq_getElem?_getD (l := ls), List.getElem?_eq_getElem g]
    rfl
  · have e : (ls.map (fun l : List Int × Int => l.1 ++ [l.2]) ++ [cs ++ [0]]).getD k [] = cs ++ [0] := by
      rw [List.getD_eq_getElem?_getD, List.getElem?_append_right (by rw [List.length_map]; omega), List.length_map, show k - ls.length = 0 by omega]
      rfl
    rw [if_neg g, e, last _ _ rfl]
    rfl
theorem ok0Of : Det.Ok (VOf ls cs) ls.length cs.length (S0Of ls cs) := Det.ok0
end
end Ca
set_option Elab.async false
set_option linter.all false
set_option maxRecDepth 100000
set_option maxHeartbeats 8000000
namespace Ca
open PySem L2
/-! ### the least costs of amounts -/
def zerosOf (cs : List Int) : List Int := List.replicate cs.length 0
/-- a state of these limits, for these costs or for none -/
def StOf (ls : List (List Int × Int)) (cs : List Int) (t : Tb) : Prop := ∃ S, Rep ls.length cs.length t S ∧ Det.Ok (VOf ls cs) ls.length cs.length S ∧ ∃ τ, Det.Reach (VOf ls cs) ls.length cs.length (S0Of ls cs) τ S
def Told (K : PySem.W.Frag) (H : Hp) (ls : List (List Int × Int)) (cs : List Int) (a w : V) : Prop :=
  (∃ (y : Addr) (t : Tb) (i : Nat), a = .non ∧ w = .ref y ∧ Shp ls.length cs.length t ∧ (StOf ls cs t ∨ StOf ls (zerosOf cs) t) ∧ i < ls.length ∧ tT t i cs.length < 0 ∧ (∀ j, j < cs.length → 0 ≤ tT t i j) ∧ FrsAt K H y ls.length fun k p => WgtOf cs.length t i (cs.length + k) p) ∨
  (∃ (y y2 : Addr) (t : Tb), a = .ref y ∧ w = .ref y2 ∧ Shp ls.length cs.length t ∧ StOf ls cs t ∧ (∀ q, ¬ WrongT ls.length cs.length t q) ∧ AmtsAt K H y cs.length t ls.length ∧ FrsAt K H y2 ls.length fun k p => WgtOf cs.length t ls.length (cs.length + k) p) ∨
  (∃ (y : Addr) (t t' : Tb) (j : Nat), a = .ref y ∧ w = .non ∧ Shp ls.length cs.length t ∧ StOf ls (zerosOf cs) t ∧ (∀ q, ¬ WrongT ls.length cs.length t q) ∧ AmtsAt K H y cs.length t ls.length ∧ Shp ls.length cs.length t' ∧ StOf ls cs t' ∧ j < cs.length ∧ tT t' ls.length j < 0 ∧ ∀ i, i < ls.length → tT t' i j ≤ 0)
def spCheap (K : PySem.W.Frag) (d : Nat) : Sp := fun vs H Q _ => ∃ (a c : Addr) (ls : List (List Int × Int)) (cs : List Int), vs = [.ref a, .ref c] ∧ LimsAt K H a ls ∧ IntsAt H c cs ∧ (∀ l ∈ ls, l.1.length = cs.length) ∧ ls.length ≤ 100 ∧ cs.length ≤ 100 ∧
  Low ls.length cs.length (VOf ls cs) ∧ Low ls.length cs.length (VOf ls (zerosOf cs)) ∧ d ≠ 0 ∧ (d = 1 → cs = zerosOf cs) ∧ ∀ H' y a' w', Same H H' → SqT K H' y [a', w'] → Told K H' ls cs a' w' → Q (.ref y) H'
abbrev NCh : List Str := ["limits", "costs", "many", "table", "row", "column", "amounts", "weights"]
theorem zeros_len (cs : List Int) : (zerosOf cs).length = cs.length := List.length_replicate ..
theorem zeros_idem (cs : List Int) : zerosOf (zerosOf cs) = zerosOf cs := by
  unfold zerosOf
  rw [List.length_replicate]
theorem zeros_cos (cs : List Int) : cosC (zerosOf cs) = fun _ => 0 := by
  funext j
  unfold cosC zerosOf
  rw [List.getD_eq_getElem?_getD, List.getElem?_replicate]
  split <;> rfl
/-- no column is stuck where costs are 0 -/
theorem zero_free {ls : List (List Int × Int)} {cs : List Int} {t : Tb} (h : StOf ls (zerosOf cs) t) {j : Nat} (hj : j < (zerosOf cs).length) : tT t ls.length j = 0 := by
  obtain ⟨S, rp, ok, _⟩ := h
  rw [rp.T _ _ (Nat.le_refl _) (Nat.le_of_lt hj)]
  have ok' : Det.Ok (Det.colV ls.length (zerosOf cs).length (limA ls) (limB ls) fun _ => 0) ls.length (zerosOf cs).length S := by
    rw [← zeros_cos cs]
    exact ok
  exact ok'.free j hj
section
variable {P : Program} {w : World} {K : PySem.W.Frag} {mg : Str → Option Value} {base : Heap} {C : Addr}
theorem scCh : FnScope NCh ["limits", "costs"] (defScope sCheapestAmounts) := ⟨rfl, rfl, rfl, by decide +kernel, rfl, by decide +kernel, by decide +kernel⟩
theorem ok_cheap {f fS fT fA fW : Addr} {fd fdS fdT fdA fdW : FuncData} (F : FnT K "cheapest_amounts" sCheapestAmounts f fd) (mlen : mg "len" = none)
    (gC : mg "cheapest_amounts" = some (.ref f)) (bC : Binds K fd ["limits", "costs"] [])
    (gS : mg "settled" = some (.ref fS)) (GS : FnOk P w K mg base CX0 4 fS fdS ["table"] (spSettled K C)) (kS : PySem.W.keepIn K (.ref fS) = true) (bS : Binds K fdS ["table"] [])
    (gT : mg "first_table" = some (.ref fT)) (GT : FnOk P w K mg base CX0 3 fT fdT ["limits", "costs"] (spFirstT K C)) (kT : PySem.W.keepIn K (.ref fT) = true) (bT : Binds K fdT ["limits", "costs"] [])
    (gA : mg "amounts_in" = some (.ref fA)) (GA : FnOk P w K mg base CX0 2 fA fdA ["table", "many"] (spAmts K C)) (kA : PySem.W.keepIn K (.ref fA) = true) (bA : Binds K fdA ["table", "many"] [])
    (gW : mg "weights_in" = some (.ref fW)) (GW : FnOk P w K mg base CX0 2 fW fdW ["table", "row", "many"] (spWgts K C)) (kW : PySem.W.keepIn K (.ref fW) = true) (bW : Binds K fdW ["table", "row", "many"] []) :
    ∀ d : Nat, FnOk P w K mg base CX0 (d + 4) f fd ["limits", "costs"] (spCheap K d) := by
  intro d
  induction d with
  | zero =>
    refine F.ok scCh (fun vs H Q E h => ?_) (fun cdv A outer s H vs Q E hr h => ?_)
    · obtain ⟨a, c, ls, cs, rfl, _⟩ := h
      rfl
    · obtain ⟨a, c, ls, cs, _, _, _, _, _, _, _, _, h0, _⟩ := h
      exact absurd rfl h0
  | succ d GC =>
    have kC := F.kp
    refine F.ok scCh (fun vs H Q E h => ?_) (fun cdv A outer s H vs Q E hr h => ?_)
    · obtain ⟨a, c, ls, cs, rfl, _⟩ := h
      rfl
    · obtain ⟨a, c, ls, cs, rfl, hl, hc, hn, m100, n100, low, low0, _, hz, q⟩ := h
      have nd := scCh.nd
      have hr4 : Room 4 _ := hr.mono (by omega)
      have hr3 : Room 3 _ := hr.mono (by omega)
      have hr2 : Room 2 _ := hr.mono (by omega)
      refine ⟨_, PSs.nox (pss_cons (ps_cut (ps_set (i := 2) nd rfl (.inl rfl) (pe_callB call_len (by rfl) mlen boot_len (pa_cons (pv 1) pa_nil))))
        (pss_cons (ps_cut (ps_asg (pe_call GS hr4 rfl gS kS bS .nil pass0 (pa_cons (pe_call GT hr3 rfl gT kT bT .nil pass0 (pa_cons (pv 0) (pa_cons (pv 1) pa_nil))) pa_nil)) (pgTt K rfl (pgs_cons (pg_name (i := 3) nd rfl (.inl rfl)) (pgs_cons (pg_name (i := 4) nd rfl (.inl rfl)) (pgs_cons (pg_name (i := 5) nd rfl (.inl rfl)) pgs_nil))))))
        (pss_cons (ps_cut (ps_if (pt_cmpR op_notN (pv 4) pe_non (nomark _)) (pss_one (ps_ret (pe_tup (pa_cons pe_non (pa_cons (pe_call GW hr2 rfl gW kW bW .nil pass0 (pa_cons (pv 3) (pa_cons (pv 4) (pa_cons (pv 2) pa_nil)))) pa_nil))))) pss_nil))
        (pss_cons (ps_cut (ps_if (pt_cmpR op_isN (pv 5) pe_non (nomark _)) (pss_one (ps_ret (pe_tup (pa_cons (pe_call GA hr2 rfl gA kA bA .nil pass0 (pa_cons (pv 3) (pa_cons (pv 2) pa_nil))) (pa_cons (pe_call GW hr2 rfl gW kW bW .nil pass0 (pa_cons (pv 3) (pa_cons (pe_callB call_len (by rfl) mlen boot_len (pa_cons (pv 0) pa_nil)) (pa_cons (pv 2) pa_nil)))) pa_nil))))) pss_nil))
        (pss_cons (ps_cut (ps_asg (pe_call GC hr rfl gC kC bC .nil pass0 (pa_cons (pv 0) (pa_cons (pe_op op_rep (pe_lst (pa_cons pe_int pa_nil)) (pv 2)) pa_nil))) (pgTt K rfl (pgs_cons (pg_name (i := 6) nd rfl (.inl rfl)) (pgs_cons (pg_name (i := 7) nd rfl (.inl rfl)) pgs_nil)))))
        (pss_one (ps_ret (pe_tup (pa_cons (pv 6) (pa_cons (pe_ifExp (pt_cmpR op_isN (pv 6) pe_non (nomark _)) (pv 7) pe_non) pa_nil)))))))))), ?_⟩
      have two : 2 ≤ sizeLine := by decide
      have sh0 := shp0 hn m100 n100
      have rp0 := rep0 (cs := cs) hn
      refine ⟨fun σ' H' => σ' = [some (.ref a), some (.ref c), some (.int (cs.length : Nat)), none, none, none, none, none] ∧ H' = H, ?_, ?_⟩
      · exact ⟨_, rfl, _, cs.length, rfl, hc.len, rfl, rfl⟩
      rintro _ H1 ⟨rfl, rfl⟩
      refine ⟨fun σ' H' => ∃ x t S r k, σ' = [some (.ref a), some (.ref c), some (.int (cs.length : Nat)), some (.ref x), some r, some k, none, none] ∧ Same H1 H' ∧ TbAt C H' x t ∧ Shp ls.length cs.length t ∧ Rep ls.length cs.length t S ∧ Det.Ok (VOf ls cs) ls.length cs.length S ∧ NextT ls.length cs.length t r k ∧ (r = .non ∨ k = .non) ∧ ∃ τ, Det.Reach (VOf ls cs) ls.length cs.length (S0Of ls cs) τ S, ?_, ?_⟩
      · exact ⟨_, rfl, _, rfl, a, c, ls, cs, rfl, hl, hc, hn, m100, n100, fun H2 y s2 e2 => ⟨y, _, _, _, _, _, rfl, e2, sh0, rp0, ok0Of, low, fun H3 y3 x t S r k s3 e3 tb sh rp ok nx st re => ⟨y3, _, rfl, e3, rfl, _, _, rfl, _, _, rfl, _, _, rfl, rfl, ⟨x, t, S, r, k, rfl, s2.trans s3, tb, sh, rp, ok, nx, st, re⟩⟩⟩⟩
      rintro _ H2 ⟨x, t, S, r, k, rfl, s2, tb, sh, rp, ok, nx, st, re⟩
      have hD : 0 < t.D := by rw [rp.D]; exact ok.dic.pos
      have hDs : t.D.natAbs < 2 ^ 1000 := by rw [rp.D]; exact (low S ok).1
      have hpm : (t.bs ++ t.fs).Perm (List.range (ls.length + cs.length)) := by rw [rp.bs, rp.fs]; exact ok.pm
      have hnb : t.bs.Nodup := by rw [rp.bs]; exact ok.bsnd
      have so : StOf ls cs t := ⟨S, rp, ok, re⟩
      -- a row that is stuck
      refine ⟨fun σ' H' => σ' = [some (.ref a), some (.ref c), some (.int (cs.length : Nat)), some (.ref x), some r, some k, none, none] ∧ H' = H2 ∧ r = .non, ?_, ?_⟩
      · refine ⟨_, rfl, rfl, _, rfl, ?_⟩
        rcases id nx with ⟨rfl, rfl, _⟩ | ⟨i, rfl, rfl, g1, g2, g3⟩ | ⟨j, rfl, rfl, _⟩ | ⟨i, j, b, f, rfl, rfl, _⟩
        · rw [decide_eq_true rfl]
          exact iteF ⟨rfl, rfl, rfl⟩
        · rw [decide_eq_false (fun z => nomatch z)]
          refine iteT ⟨_, rfl, _, rfl, _, rfl, x, t, ls.length, cs.length, i, rfl, tb, sh, hpm, by omega, hD, hDs, fun H3 y s3 fr => ⟨two, fun y2 h2 => ?_⟩⟩
          have s4 := Same.new (o := .tup [.non, .ref y]) h2
          exact q _ y2 .non (.ref y) (s2.trans (s3.trans s4)) (SqT.of upd_same) (.inl ⟨y, t, i, rfl, rfl, sh, .inl so, g1, g2, g3, fr.same s4⟩)
        · rw [decide_eq_true rfl]
          exact iteF ⟨rfl, rfl, rfl⟩
        · rcases st with z | z <;> cases z
      rintro _ H3 ⟨rfl, rfl, rfl⟩
      -- nothing is wrong
      refine ⟨fun σ' H' => ∃ j : Nat, σ' = [some (.ref a), some (.ref c), some (.int (cs.length : Nat)), some (.ref x), some .non, some (.int (j : Nat)), none, none] ∧ H' = H3 ∧ j < cs.length ∧ tT t ls.length j < 0 ∧ ∀ i, i < ls.length → tT t i j ≤ 0, ?_, ?_⟩
      · refine ⟨_, rfl, rfl, _, rfl, ?_⟩
        rcases id nx with ⟨_, rfl, no⟩ | ⟨i, z, _⟩ | ⟨j, _, rfl, g1, g2, g3⟩ | ⟨i, j, b, f, z, _⟩
        · rw [decide_eq_true rfl]
          refine iteT ⟨_, rfl, _, rfl, x, t, ls.length, cs.length, rfl, tb, sh, hnb, hD, hDs, fun H4 y s4 am => ?_⟩
          refine ⟨_, rfl, _, rfl, _, ls.length, rfl, ?_, _, rfl, x, t, ls.length, cs.length, ls.length, rfl, tb.same s4, sh, hpm, Nat.le_refl _, hD, hDs, fun H5 y5 s5 fr => ⟨two, fun y2 h2 => ?_⟩⟩
          · obtain ⟨ps, h1, h2, _⟩ := hl.same (s2.trans s4)
            exact .inl ⟨_, SqL.of h1, by rw [List.length_map]; exact h2.symm⟩
          have s6 := Same.new (o := .tup [.ref y, .ref y5]) h2
          obtain ⟨vs, v1, v2, v3⟩ := am
          have am' : AmtsAt K (upd H5 y2 (.tup [.ref y, .ref y5])) y cs.length t ls.length := ⟨vs, s6 _ _ (s5 _ _ v1), v2, fun q' v e => by
            obtain ⟨g, h1, h2⟩ := v3 q' v e
            exact ⟨g, (h1.same s5).same s6, h2⟩⟩
          exact q _ y2 (.ref y) (.ref y5) (s2.trans (s4.trans (s5.trans s6))) (SqT.of upd_same) (.inr (.inl ⟨y, y5, t, rfl, rfl, sh, so, no, am', fr.same s6⟩))
        · cases z
        · rw [decide_eq_false (fun z => nomatch z)]
          exact iteF ⟨j, rfl, rfl, g1, g2, g3⟩
        · cases z
      rintro _ H4 ⟨j, rfl, rfl, j1, j2, j3⟩
      -- costs of 0
      have hzl := zeros_len cs
      have d1 : d ≠ 0 := fun z => by
        have e := hz (by omega)
        have so' : StOf ls (zerosOf cs) t := by rw [← e]; exact so
        have := zero_free so' (j := j) (by rw [hzl]; exact j1)
        omega
      refine ⟨fun σ' H' => ∃ v u, σ' = [some (.ref a), some (.ref c), some (.int (cs.length : Nat)), some (.ref x), some .non, some (.int (j : Nat)), some v, some u] ∧ Same H1 H' ∧ Told K H' ls (zerosOf cs) v u, ?_, ?_⟩
      · refine ⟨_, rfl, (show 1 ≤ sizeLine by decide), fun p1 h1 => ⟨_, rfl, p1, (cs.length : Nat), _, rfl, rfl, upd_same, by omega, by omega, ?_, fun p2 h2 => ?_⟩⟩
        · show 1 * ((cs.length : Nat) : Int).toNat ≤ sizeLine
          rw [Int.toNat_natCast]
          exact Nat.le_trans (show 1 * cs.length ≤ 100 by omega) (by decide)
        have s5 := Same.new (o := .lst [.int 0]) h1
        have s6 := Same.new (o := .lst (List.replicate ((cs.length : Nat) : Int).toNat [V.int 0]).flatten) h2
        have s56 := s2.trans (s5.trans s6)
        have ez : IntsAt (upd (upd H4 p1 (.lst [.int 0])) p2 (.lst (List.replicate ((cs.length : Nat) : Int).toNat [V.int 0]).flatten)) p2 (zerosOf cs) := by
          show upd _ _ _ _ = _
          rw [upd_same, Int.toNat_natCast]
          unfold zerosOf
          rw [List.map_replicate, List.flatten_replicate_singleton]
        refine ⟨a, p2, ls, zerosOf cs, rfl, hl.same s56, ez, fun l h => by rw [hzl]; exact hn l h, m100, by rw [hzl]; exact n100, by rw [hzl]; exact low0, by rw [hzl, zeros_idem]; exact low0, d1, fun _ => (zeros_idem cs).symm, fun H7 y v u s7 e7 td => ⟨y, _, rfl, e7, rfl, _, _, rfl, _, _, rfl, rfl, ⟨v, u, rfl, s56.trans s7, td⟩⟩⟩
      rintro _ H7 ⟨v, u, rfl, s7, td⟩
      rcases td with ⟨y, t2, i, rfl, rfl, sh2, st2, i1, i2, i3, fr⟩ | ⟨y, y2, t2, rfl, rfl, sh2, st2, no, am, fr⟩ | ⟨y, t2, t3, j', rfl, rfl, sh2, st2, no, am, sh3, st3, k1, k2, k3⟩
      · rw [hzl] at sh2 i2 i3 fr
        refine ⟨_, rfl, _, rfl, rfl, _, rfl, ?_⟩
        rw [decide_eq_true rfl]
        refine iteT ⟨_, rfl, two, fun z hz' => ?_⟩
        have s8 := Same.new (o := .tup [.non, .ref y]) hz'
        have st2' : StOf ls cs t2 ∨ StOf ls (zerosOf cs) t2 := by
          rcases st2 with g | g
          · exact .inr g
          · rw [zeros_idem] at g
            exact .inr g
        exact q _ z .non (.ref y) (s7.trans s8) (SqT.of upd_same) (.inl ⟨y, t2, i, rfl, rfl, sh2, st2', i1, i2, i3, fr.same s8⟩)
      · rw [hzl] at sh2 no am
        refine ⟨_, rfl, _, rfl, rfl, _, rfl, ?_⟩
        rw [decide_eq_false (fun z => nomatch z)]
        refine iteF ⟨two, fun z hz' => ?_⟩
        have s8 := Same.new (o := .tup [.ref y, .non]) hz'
        obtain ⟨vs, v1, v2, v3⟩ := am
        have am' : AmtsAt K (upd H7 z (.tup [.ref y, .non])) y cs.length t2 ls.length := ⟨vs, s8 _ _ v1, v2, fun q' v e => by
          obtain ⟨g, h1, h2⟩ := v3 q' v e
          exact ⟨g, h1.same s8, h2⟩⟩
        exact q _ z (.ref y) .non (s7.trans s8) (SqT.of upd_same) (.inr (.inr ⟨y, t2, t, j, rfl, rfl, sh2, st2, no, am', sh, so, j1, j2, j3⟩))
      · have := zero_free st3 (j := j') k1
        omega
end
end Ca
set_option Elab.async false
set_option linter.all false
set_option maxRecDepth 100000
set_option maxHeartbeats 8000000
namespace Ca
open PySem L2
/-! ### a row as a limit for sure answers -/
def sureA (ps : List (Int × Int)) : List Int := ps.map (·.2) ++ ps.map fun p => -p.1
def sureL (r : Rw) : List Int × Int := (sureA r.parts, r.bd.1)
def spSureLim (K : PySem.W.Frag) : Sp := fun vs H Q _ => ∃ x r m, vs = [x] ∧ Dq K H x (rowD r) ∧ isRowD (rowD r) m = true ∧ m ≤ 3 ∧ ∀ H' y p, Same H H' → SqT K H' y [.ref p, .int (sureL r).2] → IntsAt H' p (sureL r).1 → Q (.ref y) H'
abbrev NSuL : List Str := ["row", "highs", "lows", "low", "high"]
section
variable {P : Program} {w : World} {K : PySem.W.Frag} {mg : Str → Option Value} {base : Heap}
theorem scSuL : FnScope NSuL ["row"] (defScope sSureLimit) := ⟨rfl, rfl, rfl, by decide +kernel, rfl, by decide +kernel, by decide +kernel⟩
theorem ok_sureLim {f : Addr} {fd : FuncData} (F : FnT K "sure_limit" sSureLimit f fd) : FnOk P w K mg base CX0 1 f fd ["row"] (spSureLim K) := by
  refine F.ok scSuL (fun vs H Q E h => ?_) (fun cdv A outer s H vs Q E hr h => ?_)
  · obtain ⟨x, r, m, rfl, _⟩ := h
    rfl
  · obtain ⟨x, r, m, rfl, dx, hR, m3, q⟩ := h
    have nd := scSuL.nd
    refine ⟨_, PSs.nox (pss_cons (ps_cut (ps_setLc (i := 1) (own := [("low", 3), ("high", 4)]) (g := gTup K 2 (gCons (gName 3) (gCons (gName 4) gNil))) (tt := tYes) rfl nd rfl rfl (sw_true rfl rfl rfl (by decide +kernel)) (pi_tup (pe_ix ix_tup (pv 0) pe_int (fun _ _ => rfl)))
          (blkOk_by (own := [("low", 3), ("high", 4)]) (N := NSuL) (sc := defScope sSureLimit) (by decide +kernel))
          (fun _ _ _ _ _ => pgTt K rfl (pgs_cons (pg_name (i := 3) nd rfl (Or.inl rfl)) (pgs_cons (pg_name (i := 4) nd rfl (Or.inl rfl)) pgs_nil))) (fun _ _ _ _ _ => pts_nil) (fun _ _ _ _ _ => pv 4)))
      (pss_cons (ps_cut (ps_setLc (i := 2) (own := [("low", 3), ("high", 4)]) (g := gTup K 2 (gCons (gName 3) (gCons (gName 4) gNil))) (tt := tYes) rfl nd rfl rfl (sw_true rfl rfl rfl (by decide +kernel)) (pi_tup (pe_ix ix_tup (pv 0) pe_int (fun _ _ => rfl)))
          (blkOk_by (own := [("low", 3), ("high", 4)]) (N := NSuL) (sc := defScope sSureLimit) (by decide +kernel))
          (fun _ _ _ _ _ => pgTt K rfl (pgs_cons (pg_name (i := 3) nd rfl (Or.inl rfl)) (pgs_cons (pg_name (i := 4) nd rfl (Or.inl rfl)) pgs_nil))) (fun _ _ _ _ _ => pts_nil) (fun _ _ _ _ _ => pe_un un_neg (pv 3))))
      (pss_one (ps_ret (pe_tup (pa_cons (pe_op op_cat (pv 1) (pv 2)) (pa_cons (pe_ix ix_tup (pe_ix ix_tup (pv 0) pe_int (fun _ _ => rfl)) pe_int (fun _ _ => rfl)) pa_nil))))))), ?_⟩
    have hl := (row_name hR).2
    obtain ⟨ra, v2, v3, rfl, hra, dv2, dv3, _⟩ := row_at dx
    obtain ⟨na, nvs, rfl, hna, dna, nl⟩ := tup_len dv2
    obtain ⟨ba, rfl, hba⟩ := fr_at (f := r.bd) dv3
    rw [List.length_map] at nl
    refine ⟨fun σ' H' => ∃ p, σ' = [some (.ref ra), some (.ref p), none, none, none] ∧ Same H H' ∧ H' p = some (.lst ((r.parts.map fun z => z.2).map V.int)), ?_, ?_⟩
    · refine ⟨_, rfl, ra, _, 1, _, rfl, rfl, hra, atI_nat (j := 1) rfl, na, rfl, ⟨_, hna⟩, fun D hD => ?_⟩
      refine lc_it (walk_tup (K := K) (a := na) (xs := nvs)) (fun k H' => Same H H' ∧ H' D = some (.lst (((r.parts.take k).map fun z => z.2).map V.int))) ⟨Same.new hD, upd_same⟩ (fun k H' hk p => same_sqt p.1 hna) ?_ ?_
      · rintro k z H2 H2x hk ⟨s2, bD⟩ ⟨e2, hz⟩
        subst e2
        have hkp : k < r.parts.length := by omega
        obtain ⟨d, hd, dq⟩ := (dna.same s2).get hz
        rw [List.getElem?_map, List.getElem?_eq_getElem hkp] at hd
        cases hd
        obtain ⟨pa, rfl, hpa⟩ := fr_at (f := r.parts[k]) dq
        refine ⟨pa, _, rfl, hpa, rfl, _, _, rfl, _, _, rfl, rfl, rfl, rdYes ⟨_, rfl, _, bD, ?_, fun b' o e => ?_, ?_⟩⟩
        · rw [List.length_map, List.length_map, List.length_take]
          exact Nat.lt_of_le_of_lt (Nat.le_trans (Nat.min_le_left ..) (show k ≤ 10 by omega)) (by decide)
        · rw [upd_ne (ne_of_none e hD)]
          exact s2 _ _ e
        · rw [upd_same, List.take_succ, List.getElem?_eq_getElem hkp, List.map_append, List.map_append]
          rfl
      · rintro H2 ⟨s2, bD⟩
        rw [nl, List.take_length] at bD
        exact ⟨D, rfl, s2, bD⟩
    rintro _ H1 ⟨p, rfl, s1, hp⟩
    refine ⟨fun σ' H' => ∃ p2, σ' = [some (.ref ra), some (.ref p), some (.ref p2), none, none] ∧ Same H1 H' ∧ H' p2 = some (.lst ((r.parts.map fun z => -z.1).map V.int)), ?_, ?_⟩
    · refine ⟨_, rfl, ra, _, 1, _, rfl, rfl, same_sqt s1 hra, atI_nat (j := 1) rfl, na, rfl, ⟨_, same_sqt s1 hna⟩, fun D hD => ?_⟩
      refine lc_it (walk_tup (K := K) (a := na) (xs := nvs)) (fun k H' => Same H1 H' ∧ H' D = some (.lst (((r.parts.take k).map fun z => -z.1).map V.int))) ⟨Same.new hD, upd_same⟩ (fun k H' hk p => same_sqt (s1.trans p.1) hna) ?_ ?_
      · rintro k z H2 H2x hk ⟨s2, bD⟩ ⟨e2, hz⟩
        subst e2
        have hkp : k < r.parts.length := by omega
        obtain ⟨d, hd, dq⟩ := ((dna.same s1).same s2).get hz
        rw [List.getElem?_map, List.getElem?_eq_getElem hkp] at hd
        cases hd
        obtain ⟨pa, rfl, hpa⟩ := fr_at (f := r.parts[k]) dq
        refine ⟨pa, _, rfl, hpa, rfl, _, _, rfl, _, _, rfl, rfl, rfl, rdYes ⟨_, rfl, _, rfl, _, bD, ?_, fun b' o e => ?_, ?_⟩⟩
        · rw [List.length_map, List.length_map, List.length_take]
          exact Nat.lt_of_le_of_lt (Nat.le_trans (Nat.min_le_left ..) (show k ≤ 10 by omega)) (by decide)
        · rw [upd_ne (ne_of_none e hD)]
          exact s2 _ _ e
        · rw [upd_same, List.take_succ, List.getElem?_eq_getElem hkp, List.map_append, List.map_append]
          rfl
      · rintro H2 ⟨s2, bD⟩
        rw [nl, List.take_length] at bD
        exact ⟨D, rfl, s2, bD⟩
    rintro _ H2 ⟨p2, rfl, s2, hp2⟩
    have s12 := s1.trans s2
    refine ⟨_, rfl, _, rfl, p, p2, _, _, rfl, rfl, s2 _ _ hp, hp2, ?_, fun p3 h3 => ?_⟩
    · rw [List.length_map, List.length_map, List.length_map, List.length_map]
      exact Nat.le_trans (show r.parts.length + r.parts.length ≤ 10 by omega) (by decide)
    have s3 := Same.new (o := .lst ((r.parts.map fun z => z.2).map V.int ++ (r.parts.map fun z => -z.1).map V.int)) h3
    refine ⟨_, rfl, ra, _, 2, _, rfl, rfl, same_sqt (s12.trans s3) hra, atI_nat (j := 2) rfl, ba, _, 0, _, rfl, rfl, same_sqt (s12.trans s3) hba, atI_nat (j := 0) rfl, by show 2 ≤ sizeLine; decide, fun y hy => ?_⟩
    have s4 := Same.new (o := .tup [.ref p3, .int r.bd.1]) hy
    refine q _ y p3 (s12.trans (s3.trans s4)) (SqT.of upd_same) ?_
    show _ = some (HO.lst ((r.parts.map (·.2) ++ r.parts.map fun p => -p.1).map V.int))
    rw [List.map_append]
    exact s4 _ _ upd_same
end
end Ca
set_option Elab.async false
set_option linter.all false
set_option maxRecDepth 100000
set_option maxHeartbeats 4000000
namespace Ca
open PySem L2
/-! ### how great the entries of all tables of these limits are -/
theorem nrm_le {E : Nat} {x : Det.Col} (h : ∀ r, (x r).natAbs ≤ E) : ∀ k r, Det.nrm r k x ≤ k * E
  | 0, _ => Nat.zero_le _
  | k + 1, r => by
    have := nrm_le h k (r + 1)
    have := h r
    simp only [Det.nrm]
    rw [Nat.succ_mul]
    omega
structure Mild (ls : List (List Int × Int)) (cs : List Int) (E : Nat) : Prop where
  one : 1 ≤ E
  l1 : ∀ l ∈ ls, ∀ x ∈ l.1, x.natAbs ≤ E
  l2 : ∀ l ∈ ls, l.2.natAbs ≤ E
  c : ∀ x ∈ cs, x.natAbs ≤ E
theorem getD_le {xs : List Int} {E : Nat} (h : ∀ x ∈ xs, x.natAbs ≤ E) (i : Nat) : (xs.getD i 0).natAbs ≤ E := by
  by_cases g : i < xs.length
  · exact h _ (List.mem_of_getElem? (getD_at g))
  · rw [List.getD_eq_getElem?_getD, List.getElem?_eq_none (by omega)]
    exact Nat.zero_le _
theorem Mild.col {ls : List (List Int × Int)} {cs : List Int} {E : Nat} (h : Mild ls cs E) (q r : Nat) : (VOf ls cs q r).natAbs ≤ E := by
  have one := h.one
  have row : ∀ k, k < ls.length → (∀ x ∈ (ls.getD k ([], 0)).1, x.natAbs ≤ E) ∧ (ls.getD k ([], 0)).2.natAbs ≤ E := fun k hk => by
    have e : ls.getD k ([], 0) = ls[k] := by rw [List.getD_eq_getElem?_getD, List.getElem?_eq_getElem hk]; rfl
    rw [e]
    exact ⟨h.l1 _ (List.getElem_mem hk), h.l2 _ (List.getElem_mem hk)⟩
  show (Det.colV ls.length cs.length (limA ls) (limB ls) (cosC cs) q r).natAbs ≤ E
  unfold Det.colV limA limB cosC
  split
  · split
    · rename_i g
      exact getD_le (row r g).1 q
    · split
      · exact getD_le h.c q
      · exact Nat.zero_le _
  · split
    · split
      · exact one
      · exact Nat.zero_le _
    · split
      · rename_i g
        exact (row r g).2
      · exact Nat.zero_le _
theorem Mild.low {ls : List (List Int × Int)} {cs : List Int} {E : Nat} (h : Mild ls cs E) (hk : ((ls.length + 1) * E) ^ (cs.length + 1) < 2 ^ 1000) : Low ls.length cs.length (VOf ls cs) := by
  intro S ok
  have k1 : 1 ≤ (ls.length + 1) * E := Nat.mul_pos (Nat.succ_pos _) h.one
  obtain ⟨d, t⟩ := Det.Ok.small ok k1 fun q => nrm_le (fun r => h.col q r) _ _
  exact ⟨Nat.lt_of_le_of_lt (Nat.le_trans d (Nat.pow_le_pow_right k1 (Nat.le_succ _))) hk, fun i j hi hj => Nat.lt_of_le_of_lt (t i j hi hj) hk⟩
end Ca
set_option Elab.async false
set_option linter.all false
set_option maxRecDepth 100000
set_option maxHeartbeats 4000000
namespace Ca
open PySem L2
section
variable {P : Program} {w : World} {K : PySem.W.Frag} {mg : Str → Option Value} {base : Heap}
theorem scOpp : FnScope ["one"] ["one"] (defScope sOpposite) := ⟨rfl, rfl, rfl, by decide +kernel, rfl, by decide +kernel, by decide +kernel⟩
theorem ok_opp {f : Addr} {fd : FuncData} (F : FnT K "opposite" sOpposite f fd) : FnOk P w K mg base CX0 1 f fd ["one"] (spOpp K) := by
  refine F.ok scOpp (fun vs H Q E h => ?_) (fun cdv A outer s H vs Q E hr h => ?_)
  · obtain ⟨x, f, rfl, _⟩ := h
    rfl
  · obtain ⟨x, f, rfl, dx, q⟩ := h
    obtain ⟨a, rfl, ha⟩ := fr_at dx
    refine ⟨_, PSs.nox (pss_one (ps_ret (pe_tup (pa_cons (pe_un un_neg (pe_ix ix_tup (pv 0) pe_int (fun _ _ => rfl))) (pa_cons (pe_ix ix_tup (pv 0) pe_int (fun _ _ => rfl)) pa_nil))))), ?_⟩
    exact ⟨_, rfl, a, _, 0, _, rfl, rfl, ha, atI_nat (j := 0) rfl, _, rfl, _, rfl, a, _, 1, _, rfl, rfl, ha, atI_nat (j := 1) rfl, by show 2 ≤ sizeLine; decide, fun p hp => q _ _ (Same.new hp) (fr_of upd_same)⟩
theorem scMinus : FnScope ["one", "other"] ["one", "other"] (defScope sMinus) := ⟨rfl, rfl, rfl, by decide +kernel, rfl, by decide +kernel, by decide +kernel⟩
theorem ok_minus {f fP fO : Addr} {fd fdP fdO : FuncData} (F : FnT K "minus" sMinus f fd)
    (gP : mg "plus" = some (.ref fP)) (GP : FnOk P w K mg base CX0 2 fP fdP ["one", "other"] (spPlus K)) (kP : PySem.W.keepIn K (.ref fP) = true) (bP : Binds K fdP ["one", "other"] [])
    (gO : mg "opposite" = some (.ref fO)) (GO : FnOk P w K mg base CX0 1 fO fdO ["one"] (spOpp K)) (kO : PySem.W.keepIn K (.ref fO) = true) (bO : Binds K fdO ["one"] []) :
    FnOk P w K mg base CX0 3 f fd ["one", "other"] (spMinus K) := by
  refine F.ok scMinus (fun vs H Q E h => ?_) (fun cdv A outer s H vs Q E hr h => ?_)
  · obtain ⟨x, y, f, g, rfl, _⟩ := h
    rfl
  · obtain ⟨x, y, f, g, rfl, dx, dy, hf, hg, q⟩ := h
    have hr1 : Room 1 _ := hr.mono (by decide)
    refine ⟨_, PSs.nox (pss_one (ps_ret (pe_call GP hr rfl gP kP bP .nil pass0 (pa_cons (pv 0) (pa_cons (pe_call GO hr1 rfl gO kO bO .nil pass0 (pa_cons (pv 1) pa_nil)) pa_nil))))), ?_⟩
    exact ⟨_, rfl, _, rfl, y, g, rfl, dy, fun H1 z s1 dz => ⟨x, z, f, (-g.1, g.2), rfl, dx.same s1, dz, hf, ⟨hg.pos, by rw [Int.natAbs_neg]; exact hg.t, hg.b⟩, fun H2 u p r s2 du hR => q H2 u p r (s1.trans s2) du hR⟩⟩
end
/-! ### sums -/
end Ca
set_option Elab.async false
set_option linter.all false
set_option maxRecDepth 100000
set_option maxHeartbeats 8000000
namespace Ca
open PySem L2
/-! ### a sure answer of least cost -/
def cs2 (cs : List Int) : List Int := cs ++ cs.map fun c => -c
theorem cs2_len (cs : List Int) : (cs2 cs).length = cs.length + cs.length := by
  unfold cs2
  rw [List.length_append, List.length_map]
theorem cs2_zeros (cs : List Int) (h : cs = zerosOf cs) : cs2 cs = zerosOf (cs2 cs) := by
  rw [h]
  unfold cs2 zerosOf
  rw [List.map_replicate, List.length_append, List.length_replicate, List.length_replicate, show ((-0 : Int)) = 0 from rfl, List.replicate_append_replicate]
theorem rowS_pairs {r : Rw} {m : Nat} (h : isRowD (rowD r) m = true) : ∀ p ∈ r.parts ++ [r.bd], -10000 ≤ p.1 ∧ p.1 ≤ p.2 ∧ p.2 ≤ 10000 := by
  obtain ⟨_, h2⟩ := Bool.and_eq_true_iff.mp (show (nameS r.name && (isTupN (.tuple (r.parts.map strD)) m && ((partsOf (.tuple (r.parts.map strD)) ++ [strD r.bd]).all isStretchD))) = true from h)
  obtain ⟨_, h4⟩ := Bool.and_eq_true_iff.mp h2
  intro p hp
  refine str_ok (List.all_eq_true.mp h4 (strD p) ?_)
  show strD p ∈ r.parts.map strD ++ [strD r.bd]
  rw [show r.parts.map strD ++ [strD r.bd] = (r.parts ++ [r.bd]).map strD by rw [List.map_append]; rfl]
  exact List.mem_map_of_mem hp
theorem sure_mild {rs : List Rw} {cs : List Int} {m : Nat} (hR : ∀ r ∈ rs, isRowD (rowD r) m = true) (hc : ∀ c ∈ cs, c.natAbs ≤ 2 ^ 21) : Mild (rs.map sureL) (cs2 cs) (2 ^ 21) := by
  refine ⟨Nat.one_le_two_pow, fun l hl x hx => ?_, fun l hl => ?_, fun x hx => ?_⟩
  · obtain ⟨r, hr, rfl⟩ := List.mem_map.mp hl
    have RP := rowS_pairs (hR r hr)
    show x.natAbs ≤ 2097152
    rcases List.mem_append.mp (show x ∈ r.parts.map (·.2) ++ r.parts.map fun p => -p.1 from hx) with h | h
    · obtain ⟨p, hp, rfl⟩ := List.mem_map.mp h
      have := RP p (List.mem_append_left _ hp)
      omega
    · obtain ⟨p, hp, rfl⟩ := List.mem_map.mp h
      have := RP p (List.mem_append_left _ hp)
      omega
  · obtain ⟨r, hr, rfl⟩ := List.mem_map.mp hl
    have := rowS_pairs (hR r hr) r.bd (List.mem_append_right _ (List.mem_singleton.mpr rfl))
    show (r.bd.1).natAbs ≤ 2097152
    omega
  · rcases List.mem_append.mp (show x ∈ cs ++ cs.map fun c => -c from hx) with h | h
    · exact hc x h
    · obtain ⟨c, hc', rfl⟩ := List.mem_map.mp h
      rw [Int.natAbs_neg]
      exact hc c hc'
theorem sure_low {rs : List Rw} {cs : List Int} {m : Nat} (hR : ∀ r ∈ rs, isRowD (rowD r) m = true) (h8 : rs.length ≤ 8) (m3 : cs.length ≤ 3) (hc : ∀ c ∈ cs, c.natAbs ≤ 2 ^ 21) : Low (rs.map sureL).length (cs2 cs).length (VOf (rs.map sureL) (cs2 cs)) := by
  refine (sure_mild hR hc).low ?_
  have a : ((rs.map sureL).length + 1) * 2 ^ 21 ≤ 2 ^ 25 := by
    rw [List.length_map]
    exact Nat.le_trans (Nat.mul_le_mul_right _ (show rs.length + 1 ≤ 16 by omega)) (by decide)
  refine Nat.lt_of_le_of_lt (Nat.pow_le_pow_left a _) ?_
  rw [← Nat.pow_mul]
  refine Nat.pow_lt_pow_right (by decide) ?_
  rw [cs2_len]
  have : 25 * (cs.length + cs.length + 1) ≤ 25 * 7 := Nat.mul_le_mul_left _ (by omega)
  omega
def SureA (t : Tb) (k m : Nat) (fs : List (Int × Int)) : Prop := fs.length = m ∧ ∀ (q : Nat) (f : Int × Int), fs[q]? = some f → ∃ p1 p2, AmtOf (m + m) t k q p1 ∧ AmtOf (m + m) t k (q + m) p2 ∧ Red (p1.1 * p2.2 + -p2.1 * p1.2) (p1.2 * p2.2) f.1 f.2
def WgtsA (t : Tb) (row n k : Nat) (ws : List (Int × Int)) : Prop := ws.length = k ∧ ∀ (i : Nat) (p : Int × Int), ws[i]? = some p → WgtOf n t row (n + i) p
/-- what is told of rows and costs: no sure answer and weights; an answer and weights; an answer, no least cost -/
def SureT (K : PySem.W.Frag) (H : Hp) (rs : List Rw) (cs : List Int) (a w : V) : Prop :=
  (∃ (ws : List (Int × Int)) (t : Tb) (i : Nat), a = .non ∧ Dq K H w (frsD ws) ∧ Shp (rs.map sureL).length (cs2 cs).length t ∧ (StOf (rs.map sureL) (cs2 cs) t ∨ StOf (rs.map sureL) (zerosOf (cs2 cs)) t) ∧ i < (rs.map sureL).length ∧ tT t i (cs2 cs).length < 0 ∧ (∀ j, j < (cs2 cs).length → 0 ≤ tT t i j) ∧ WgtsA t i (cs2 cs).length (rs.map sureL).length ws) ∨
  (∃ (fs ws : List (Int × Int)) (t : Tb), Dq K H a (frsD fs) ∧ Dq K H w (frsD ws) ∧ Shp (rs.map sureL).length (cs2 cs).length t ∧ StOf (rs.map sureL) (cs2 cs) t ∧ (∀ q, ¬ WrongT (rs.map sureL).length (cs2 cs).length t q) ∧ SureA t (rs.map sureL).length cs.length fs ∧ WgtsA t (rs.map sureL).length (cs2 cs).length (rs.map sureL).length ws) ∨
  (∃ (fs : List (Int × Int)) (t t' : Tb) (j : Nat), Dq K H a (frsD fs) ∧ w = .non ∧ Shp (rs.map sureL).length (cs2 cs).length t ∧ StOf (rs.map sureL) (zerosOf (cs2 cs)) t ∧ (∀ q, ¬ WrongT (rs.map sureL).length (cs2 cs).length t q) ∧ SureA t (rs.map sureL).length cs.length fs ∧ Shp (rs.map sureL).length (cs2 cs).length t' ∧ StOf (rs.map sureL) (cs2 cs) t' ∧ j < (cs2 cs).length ∧ tT t' (rs.map sureL).length j < 0 ∧ ∀ i, i < (rs.map sureL).length → tT t' i j ≤ 0)
theorem frs_build {K : PySem.W.Frag} {H : Hp} {R : Nat → Int × Int → Prop} : ∀ (vs : List V) (o : Nat), (∀ (q : Nat) (v : V), vs[q]? = some v → ∃ p, Dq K H v (frD p) ∧ R (o + q) p) →
    ∃ ws : List (Int × Int), ws.length = vs.length ∧ DqAll K H vs (ws.map frD) ∧ ∀ (i : Nat) (p : Int × Int), ws[i]? = some p → R (o + i) p
  | [], _, _ => ⟨[], rfl, .nil, fun i p h => nomatch (List.getElem?_nil.symm.trans h : (none : Option (Int × Int)) = some p)⟩
  | v :: vs, o, h => by
    obtain ⟨p, d, r⟩ := h 0 v rfl
    obtain ⟨ws, l, ds, k⟩ := frs_build vs (o + 1) fun q u hq => by
      rw [Nat.add_assoc, Nat.add_comm 1 q]
      exact h (q + 1) u hq
    refine ⟨p :: ws, congrArg Nat.succ l, .cons d ds, fun i p' hi => ?_⟩
    cases i with
    | zero =>
      cases hi
      exact r
    | succ i =>
      have := k i p' hi
      rwa [Nat.add_assoc, Nat.add_comm 1 i] at this
end Ca
set_option Elab.async false
set_option linter.all false
set_option maxRecDepth 100000
set_option maxHeartbeats 4000000
/-! zip(a tuple, a list) -/
namespace CaZ
open PySem PySem.Spec PyProof.Rows L2 RZ
/-- the heap behind zip(l, m): two iterators, two pairs, the zip -/
abbrev zq1 (h : Heap) (l : Addr) : Heap := h.push { cls := .type "tuple_iterator", data := .fields #[.ref l, .int 0 0] }
abbrev zq2 (h : Heap) (l m : Addr) : Heap := (zq1 h l).push { cls := .type "list_iterator", data := .fields #[.ref m, .int 0 0] }
abbrev zq3 (h : Heap) (l m : Addr) : Heap := (zq2 h l m).push { cls := .type "tuple", data := .seq #[.ref h.objs.size, .ref (zq1 h l).objs.size] }
abbrev zq4 (h : Heap) (l m : Addr) : Heap := (zq3 h l m).push { cls := .type "tuple", data := .seq #[.none, .none] }
abbrev zq5 (h : Heap) (l m : Addr) : Heap := (zq4 h l m).push { cls := .type "zip", data := .fields #[.none, .bool false, .bool false, .ref (zq2 h l m).objs.size, .ref (zq3 h l m).objs.size] }
theorem zq_new (l m : Addr) (xs ys : Array Value) : Meets (Builtin.«zip.__new__» ⟨[.type "zip", .ref l, .ref m], []⟩) (fun _ R s => s.heap.IsTuple l xs ∧ s.heap.IsList m ys ∧ R (.ok (.ret (.ref (zq4 s.heap l m).objs.size))) { s with heap := zq5 s.heap l m }) :=
  .of_wp fun prog w A R s h => by
    obtain ⟨hp, g, d, tk, os⟩ := s
    obtain ⟨a, b, q⟩ := h
    have sub := sub_zip
    have a' : Heap.IsTuple (Shared.heap ⟨hp, g, d, tk, os⟩) l xs := a
    have b' : Heap.IsList (Shared.heap ⟨hp.push { cls := .type "tuple_iterator", data := .fields #[.ref l, .int 0 0] }, g, d, tk, os⟩) m ys := Heap.IsList.push b _
    wp_walk using wpAny_pyIter_tuple a', wpAny_pyIter_list b'
    exact ⟨_, rfl, q⟩
section
variable {prog : Program} {w : World} {A : Around} {E : Value → Shared → Prop} {s : Shared}
theorem call_zq {l m : Addr} {xs ys : Array Value} {Q : Value → Shared → Prop} (a : s.heap.IsTuple l xs) (b : s.heap.IsList m ys)
    (q : ∀ h', Zp kT kL h' (s.heap.objs.size + 4) (s.heap.objs.size + 2) (s.heap.objs.size + 3) s.heap.objs.size (s.heap.objs.size + 1) l m 0 → (∀ e o, s.heap.get? e = some o → h'.get? e = some o) → Q (.ref (s.heap.objs.size + 4)) { s with heap := h' }) : wpAny (model prog w) A (call (.type "zip") [.ref l, .ref m]) Q E s := by
  refine callType_new F.called_zip (by decide) (F.typeCall_zip_2 _ _) (F.newCall_zip_2 _ _) (fun obj => F.args_object_init_3 obj _ _) F.entry_zip_new (zq_new l m xs ys) ⟨a, b, ?_⟩
  generalize hn : s.heap.objs.size = n at q
  have e1 : (zq1 s.heap l).objs.size = n + 1 := by rw [Heap.size_push, hn]
  have e2 : (zq2 s.heap l m).objs.size = n + 2 := by rw [Heap.size_push, e1]
  have e3 : (zq3 s.heap l m).objs.size = n + 3 := by rw [Heap.size_push, e2]
  have e4 : (zq4 s.heap l m).objs.size = n + 4 := by rw [Heap.size_push, e3]
  have up : ∀ {h : Heap} {c : Addr} {o u : Obj}, h.get? c = some o → (h.push u).get? c = some o := fun r => Heap.get?_push_of_some _ r
  have o5 : (zq5 s.heap l m).get? (zq4 s.heap l m).objs.size = some { cls := .type "zip", data := .fields #[.none, .bool false, .bool false, .ref (zq2 s.heap l m).objs.size, .ref (zq3 s.heap l m).objs.size] } := Heap.get?_push_size _ rfl
  have o4 : (zq5 s.heap l m).get? (zq3 s.heap l m).objs.size = some { cls := .type "tuple", data := .seq #[.none, .none] } := up (Heap.get?_push_size _ rfl)
  have o3 : (zq5 s.heap l m).get? (zq2 s.heap l m).objs.size = some { cls := .type "tuple", data := .seq #[.ref s.heap.objs.size, .ref (zq1 s.heap l).objs.size] } := up (up (Heap.get?_push_size _ rfl))
  have o2 : (zq5 s.heap l m).get? (zq1 s.heap l).objs.size = some { cls := .type "list_iterator", data := .fields #[.ref m, .int 0 0] } := up (up (up (Heap.get?_push_size _ rfl)))
  have o1 : (zq5 s.heap l m).get? s.heap.objs.size = some { cls := .type "tuple_iterator", data := .fields #[.ref l, .int 0 0] } := up (up (up (up (Heap.get?_push_size _ rfl))))
  rw [e2, e3, e4] at o5
  rw [e3] at o4
  rw [e1, e2, hn] at o3
  rw [e1] at o2
  rw [hn] at o1
  show _ ∧ _
  rw [e4]
  exact ⟨⟨_, o5, rfl⟩, q _ ⟨o5, o3, ⟨_, _, o4⟩, ⟨_, o1, rfl, rfl⟩, ⟨_, o2, rfl, rfl⟩⟩ fun e o r => up (up (up (up (up r))))⟩
end
/-- a tuple at a and a list at b, walked together -/
def ItzQ (K : PySem.W.Frag) (a b : Addr) : It :=
  ⟨fun i H => ∃ (xs ys : List V) (x y : V), SqT K H a xs ∧ SqL K H b ys ∧ xs[i]? = some x ∧ ys[i]? = some y,
    fun i H v H' => ∃ T x y, v = .ref T ∧ H T = none ∧ H' = upd H T (.tup [x, y]) ∧ (∀ xs, SqT K H a xs → xs[i]? = some x) ∧ ∀ ys, SqL K H b ys → ys[i]? = some y,
    fun i H => ∃ xs ys : List V, SqT K H a xs ∧ SqL K H b ys ∧ (xs.length ≤ i ∨ ys.length ≤ i)⟩
theorem turn_zq {P : Program} {w : World} {K : PySem.W.Frag} {elts : List Expr} {kk : Nat} {tpos : Pos} {a b z TI TO c d : Addr} (D : ZipApart z TI TO c d a b) :
    Turn P w K (.Tuple elts kk tpos) (ItzQ K a b) [z, TI, TO, c, d] z (fun i h => Zp kT kL h z TI TO c d a b i) where
  mem := List.mem_cons_self ..
  obj := fun i h W e he => by
    have cases5 : e = z ∨ e = TI ∨ e = TO ∨ e = c ∨ e = d := by simpa using he
    obtain ⟨g1, g2, ⟨u, v, g3⟩, g4, g5⟩ := W
    rcases cases5 with rfl | rfl | rfl | rfl | rfl
    · exact ⟨_, g1, fun v q => nomatch q⟩
    · exact ⟨_, g2, fun v q => nomatch q⟩
    · exact ⟨_, g3, fun v q => nomatch q⟩
    · exact kT.it_obj g4
    · exact kL.it_obj g5
  keep := fun i h h' W f => by
    obtain ⟨g1, g2, ⟨u, v, g3⟩, g4, g5⟩ := W
    exact ⟨f z (by simp) _ g1, f TI (by simp) _ g2, ⟨u, v, f TO (by simp) _ g3⟩, kT.it_to g4 (f c (by simp)), kL.it_to g5 (f d (by simp))⟩
  item := by
    rintro X rfl rfl rfl hc i pins s σ H E I hf W ⟨xs, ys, x, y, hqx, hqy, hx, hy⟩
    obtain ⟨its, rv, p, _⟩ := I.tuple hqx
    obtain ⟨its2, rv2, p2, _⟩ := I.list hqy
    obtain ⟨u, hu, ru⟩ := rv.get hx
    obtain ⟨u2, hu2, ru2⟩ := rv2.get hy
    have zl : z < s.heap.objs.size := Heap.lt_size W.z
    have lts : ∀ e ∈ [z, TI, TO, c, d], e < s.heap.objs.size := fun e he => by
      have cases5 : e = z ∨ e = TI ∨ e = TO ∨ e = c ∨ e = d := by simpa using he
      obtain ⟨g1, g2, ⟨u, v, g3⟩, ⟨_, g4, _⟩, ⟨_, g5, _⟩⟩ := W
      rcases cases5 with rfl | rfl | rfl | rfl | rfl
      · exact zl
      · exact Heap.lt_size g2
      · exact Heap.lt_size g3
      · exact Heap.lt_size g4
      · exact Heap.lt_size g5
    refine next_item (M := kT) (N := kL) D W p p2.isList (x := u) (y := u2) (by simpa using hu) (by simpa using hu2) fun h' z' o' c' d' new size ap => ⟨_, rfl, wpAny_letOwnedTupleGo_zip (s := { s with heap := h' }) z' fun h'' z'' sb => ?_⟩
    have new2 : h''.get? s.heap.objs.size = some { cls := .type "tuple", data := .seq #[u, u2] } := (sb.2 _ (Nat.ne_of_gt zl)).trans new
    have obj : ObjOk X.prog X.w (upd H s.heap.objs.size (.tup [x, y])) h'' s.heap.objs.size (.tup [x, y]) := ⟨by show 2 ≤ sizeLine; decide, [u, u2], .cons ru (.cons ru2 .nil), ⟨_, new2, rfl, _, rfl⟩⟩
    have stays : ∀ e o, e ∉ [z, TI, TO, c, d] → s.heap.get? e = some o → h''.get? e = some o := fun e o n r => (sb.2 e (fun q => n (by simp [q]))).trans (ap e o (fun q => n (by simp [q])) (fun q => n (by simp [q])) (fun q => n (by simp [q])) (fun q => n (by simp [q])) r)
    have I1 : Inv X pins σ (upd H s.heap.objs.size (.tup [x, y])) { s with heap := h'' } := I.turnedNew (t' := s.toks) (ch := [z, TI, TO, c, d]) stays hf (Nat.le_refl _) obj
    refine ⟨.ref s.heap.objs.size, _, I1, rfl, ⟨_, x, y, rfl, I.hok.fresh (Nat.le_refl _), rfl, fun l hl => by rw [I.tuple_inj hl hqx]; exact hx, fun l hl => by rw [I.list_inj hl hqy]; exact hy⟩, ⟨z'', ?_, ⟨u, u2, (sb.2 _ D.TOz).trans o'⟩, kT.it_to c' fun o q => (sb.2 _ D.i1z).trans q, kL.it_to d' fun o q => (sb.2 _ D.i2z).trans q⟩, fun e he => ?_⟩
    · exact (sb.2 _ D.TIz).trans (ap _ _ D.TIz D.TITO D.TIi1 D.TIi2 W.i)
    · rw [upd_ne (Nat.ne_of_lt (lts e he))]
      exact (hf e he).1
  done := by
    rintro X rfl rfl rfl hc i pins s σ H E I hf W ⟨xs, ys, hqx, hqy, hend⟩
    obtain ⟨its, rv, p, _⟩ := I.tuple hqx
    obtain ⟨its2, rv2, p2, _⟩ := I.list hqy
    have l1 := rv.length
    have l2 := rv2.length
    have ends : its.toArray[i]? = none ∨ its2.toArray[i]? = none := hend.imp (fun q => by simp; omega) fun q => by simp; omega
    exact next_end (M := kT) (N := kL) (I.ok.hd hc) D W p p2.isList ends fun h' ap => ⟨rfl, I.turnedL (t' := s.toks) (ch := [z, TI, TO, c, d]) (fun e o n r => ap e o (fun q => n (by simp [q])) (fun q => n (by simp [q])) (fun q => n (by simp [q])) (fun q => n (by simp [q])) r) hf⟩
  self := fun A i s Q E W q => wpAny_pyIter_zip W.z q
def iZipQ (K : PySem.W.Frag) (ta : TA) : TI := fun σ H R => ta σ H fun vs H1 => ∃ a b xs ys, vs = [.ref a, .ref b] ∧ SqT K H1 a xs ∧ SqL K H1 b ys ∧ R (ItzQ K a b) H1
theorem pi_zipQ {X : Cx} {e e2 : Expr} {ta : TA} {p pos tpos : Pos} {elts : List Expr} {kk : Nat} (hg : Gl X "zip") (hm : X.mg "zip" = none) (ha : PA X [e, e2] ta)
    (h1 : starEach [e, e2] X.env = (false, eval e X.env) :: starEach [e2] X.env := by rfl) (h2 : (backTo pos (starEach [e2] X.env)).any (·.1) = false := by rfl) : PI X (.Tuple elts kk tpos) (.Call (.Name "zip" p) [e, e2] [] pos) (iZipQ X.K ta) := by
  constructor
  intro pins s σ H R I h
  refine Call_ (ld_blt I hg hm PyProof.Rows.boot_zip (PyProof.Rows.callWith_type1 (thn (ha.run pos pins s σ H _ I h) ?_) h1 h2))
  rintro us s1 ⟨vs, H1, I1, r1, a, b, xs, ys, rfl, hqx, hqy, q⟩
  obtain ⟨ua, t1, rfl, ra, r1⟩ : ∃ u t, us = u :: t ∧ RelV (.ref a) u ∧ Vals [.ref b] t := by cases r1 with | cons x y => exact ⟨_, _, rfl, x, y⟩
  obtain rfl := Vals.ref1 r1
  cases ra
  obtain ⟨its, rv, p1, _⟩ := I1.tuple hqx
  obtain ⟨its2, rv2, p2, _⟩ := I1.list hqy
  obtain ⟨o2, ho2, _⟩ := id p1
  refine call_zq p1 p2.isList fun h' W keep => wpAny_pyIter_zip W.z ?_
  have I2 : Inv X pins σ H1 { s1 with heap := h' } := I1.kept (t' := s1.toks) keep
  refine ⟨s1.heap.objs.size + 4, [s1.heap.objs.size + 4, s1.heap.objs.size + 2, s1.heap.objs.size + 3, s1.heap.objs.size, s1.heap.objs.size + 1], _, _, H1, rfl, I2, turn_zq (PySem.W.ktu_apart s1.heap.objs.size a b (Heap.lt_size ho2) p2.lt), W, fun e he => ?_, q⟩
  have le : s1.heap.objs.size ≤ e := by
    have cases5 : e = s1.heap.objs.size + 4 ∨ e = s1.heap.objs.size + 2 ∨ e = s1.heap.objs.size + 3 ∨ e = s1.heap.objs.size ∨ e = s1.heap.objs.size + 1 := by simpa using he
    rcases cases5 with r | r | r | r | r <;> rw [r] <;> first | exact Nat.le_add_right _ _ | exact Nat.le_refl _
  exact I1.fpOk le (I1.hok.fresh le)
theorem walk_zq {K : PySem.W.Frag} {a b : Addr} {xs ys : List V} {n : Nat} (h1 : xs.length = n) (h2 : ys.length = n) : Walk (ItzQ K a b) n (fun H => SqT K H a xs ∧ SqL K H b ys) (YPair (fun i => xs[i]?) (fun i => ys[i]?)) where
  goes := fun i H hi q => ⟨xs, ys, xs[i], ys[i], q.1, q.2, List.getElem?_eq_getElem (by omega), List.getElem?_eq_getElem (by omega)⟩
  stops := fun H q => ⟨xs, ys, q.1, q.2, .inl (by omega)⟩
  yields := fun i H v H' _ q y => let ⟨T, x, z, e1, e2, e3, e4, e5⟩ := y; ⟨T, x, z, e1, e2, e3, e4 xs q.1, e5 ys q.2⟩
end CaZ
set_option Elab.async false
set_option linter.all false
set_option maxRecDepth 100000
set_option maxHeartbeats 4000000
namespace Ca
open PySem L2 LamX
/-! ### what stays, but for tables of code objects and a list at l -/
def KeptN (l : Addr) (H H' : Hp) : Prop := ∀ b o, b ≠ l → H b = some o → (∀ ps, o ≠ .tbl ps) → H' b = some o
theorem KeptN.refl (l : Addr) (H : Hp) : KeptN l H H := fun _ _ _ h _ => h
theorem KeptN.trans {l : Addr} {H H1 H2 : Hp} (a : KeptN l H H1) (b : KeptN l H1 H2) : KeptN l H H2 := fun c o n h t => b c o n (a c o n h t) t
theorem Kept.n {l : Addr} {H H' : Hp} (k : Kept l H H') : KeptN l H H' := fun b o n h _ => k b o n h
theorem same_extN {H H' : Hp} (s : Same H H') : ExtN H H' := fun b o h _ => s b o h
theorem sameN {l : Addr} {H H' : Hp} (s : Same H H') : KeptN l H H' := fun b o _ h _ => s b o h
theorem Urn.extN {H H' : Hp} {l : Addr} (u : Urn H l) (k : ExtN H H') : Urn H' l := by
  obtain ⟨g, x, n, h1, h2, h3, h⟩ := u
  exact ⟨g, x, n, h1, h2, h3, k _ _ h fun _ z => nomatch z⟩
theorem seqL_ext {K : PySem.W.Frag} {H H' : Hp} {a : Addr} {xs : List V} (k : ExtN H H') (h : SqL K H a xs) : SqL K H' a xs := by
  rcases h with (e | ⟨o, e⟩) | e
  · exact .inl (.inl (k _ _ e fun _ z => nomatch z))
  · exact .inl (.inr ⟨o, k _ _ e fun _ z => nomatch z⟩)
  · exact .inr e
theorem seqT_ext {K : PySem.W.Frag} {H H' : Hp} {a : Addr} {xs : List V} (k : ExtN H H') (h : SqT K H a xs) : SqT K H' a xs := by
  rcases h with (e | ⟨o, e⟩) | e
  · exact .inl (.inl (k _ _ e fun _ z => nomatch z))
  · exact .inl (.inr ⟨o, k _ _ e fun _ z => nomatch z⟩)
  · exact .inr e
mutual
theorem Dq.extN {K : PySem.W.Frag} {H H' : Hp} (k : ExtN H H') : ∀ {d : PyData} {v : V}, Dq K H v d → Dq K H' v d
  | .none, _, h => by cases h; exact .non
  | .bool b, _, h => by cases h; exact .bl b
  | .int i, _, h => by cases h; exact .int i
  | .str x, _, h => by cases h with | str _ a => exact .str x a
  | .list ds, _, h => by
    cases h with
    | lst a b => exact .lst (seqL_ext k a) (DqAll.extN k b)
  | .tuple ds, _, h => by
    cases h with
    | tup a b => exact .tup (seqT_ext k a) (DqAll.extN k b)
  | .dict ds, _, h => by
    cases h with
    | dic a => exact .dic (k _ _ a fun _ z => nomatch z)
theorem DqAll.extN {K : PySem.W.Frag} {H H' : Hp} (k : ExtN H H') : ∀ {ds : List PyData} {vs : List V}, DqAll K H vs ds → DqAll K H' vs ds
  | [], _, h => by cases h; exact .nil
  | d :: ds, _, h => by
    cases h with
    | cons a b => exact .cons (Dq.extN k a) (DqAll.extN k b)
end
mutual
theorem dpExt {K : PySem.W.Frag} {H H' : Hp} (k : ExtN H H') : ∀ {d : PyData} {v : V}, Dp K H v d → Dp K H' v d
  | .none, _, h => by cases h; exact .non
  | .bool b, _, h => by cases h; exact .bl b
  | .int i, _, h => by cases h; exact .int i
  | .str x, _, h => by cases h; exact .str x
  | .list ds, _, h => by
    cases h with
    | lst a b => exact .lst (seqL_ext k a) (dpAllExt k b)
  | .tuple ds, _, h => by
    cases h with
    | tup a b => exact .tup (seqT_ext k a) (dpAllExt k b)
  | .dict ds, _, h => by cases h
theorem dpAllExt {K : PySem.W.Frag} {H H' : Hp} (k : ExtN H H') : ∀ {ds : List PyData} {vs : List V}, DpAll K H vs ds → DpAll K H' vs ds
  | [], _, h => by cases h; exact .nil
  | d :: ds, _, h => by
    cases h with
    | cons a b => exact .cons (dpExt k a) (dpAllExt k b)
end
theorem Good.extN {K : PySem.W.Frag} {H H' : Hp} {v : V} {d : PyData} (g : Good K H v d) (k : ExtN H H') : Good K H' v d := by
  obtain ⟨r, g⟩ := g
  refine ⟨?_, g⟩
  cases r with
  | dat D sd => exact .dat (dpExt k D) sd
  | dic h D nd => exact .dic (k _ _ h fun _ z => nomatch z) (dpAllExt k D) nd
  | dee SM D => exact .dee SM (De.mono k D)
theorem SysAt.extN {K : PySem.W.Frag} {C : Addr} {H H' : Hp} {x : Addr} {ns : List Str} {rs : List Rw} (h : SysAt K C H x ns rs) (k : ExtN H H') : SysAt K C H' x ns rs := by
  obtain ⟨h1, h2, dx, u, r, e, du, dr⟩ := h
  exact ⟨h1, h2, dx, u, r, k _ _ e (fun _ z => (nomatch z)), du.extN k, dr.extN k⟩
/-! ### data whose lists stand apart from l -/
mutual
inductive Dr (K : PySem.W.Frag) (l : Addr) (H : Hp) : V → PyData → Prop
  | non : Dr K l H .non .none
  | bl (b : Bool) : Dr K l H (.bl b) (.bool b)
  | int (i : Int) : Dr K l H (.int i) (.int i)
  | str (x : Str) (h : x.length ≤ 1000) : Dr K l H (.str x) (.str x)
  | lst {a : Addr} {xs : List V} {ds : List PyData} : a ≠ l → SqL K H a xs → DrAll K l H xs ds → Dr K l H (.ref a) (.list ds)
  | tup {a : Addr} {xs : List V} {ds : List PyData} : SqT K H a xs → DrAll K l H xs ds → Dr K l H (.ref a) (.tuple ds)
  | dic {a : Addr} : H a = some (.dK []) → Dr K l H (.ref a) (.dict [])
inductive DrAll (K : PySem.W.Frag) (l : Addr) (H : Hp) : List V → List PyData → Prop
  | nil : DrAll K l H [] []
  | cons {v : V} {vs : List V} {d : PyData} {ds : List PyData} : Dr K l H v d → DrAll K l H vs ds → DrAll K l H (v :: vs) (d :: ds)
end
theorem sql_butN {K : PySem.W.Frag} {H H' : Hp} {l a : Addr} {xs : List V} (n : a ≠ l) (k : KeptN l H H') (h : SqL K H a xs) : SqL K H' a xs := by
  rcases h with (e | ⟨o, e⟩) | e
  · exact .inl (.inl (k _ _ n e fun _ z => nomatch z))
  · exact .inl (.inr ⟨o, k _ _ n e fun _ z => nomatch z⟩)
  · exact .inr e
theorem sqt_butN {K : PySem.W.Frag} {H H' : Hp} {l a : Addr} {ys xs : List V} (hl : H l = some (.lst ys)) (k : KeptN l H H') (h : SqT K H a xs) : SqT K H' a xs := by
  have n : ∀ o, H a = some o → (∀ zs, o ≠ .lst zs) → a ≠ l := fun o e z y => by
    rw [y, hl] at e
    cases e
    exact z _ rfl
  rcases h with (e | ⟨o, e⟩) | e
  · exact .inl (.inl (k _ _ (n _ e fun _ z => nomatch z) e fun _ z => nomatch z))
  · exact .inl (.inr ⟨o, k _ _ (n _ e fun _ z => nomatch z) e fun _ z => nomatch z⟩)
  · exact .inr e
mutual
theorem Dr.but {K : PySem.W.Frag} {H H' : Hp} {l : Addr} {ys : List V} (hl : H l = some (.lst ys)) (k : KeptN l H H') : ∀ {d : PyData} {v : V}, Dr K l H v d → Dr K l H' v d
  | .none, _, h => by cases h; exact .non
  | .bool b, _, h => by cases h; exact .bl b
  | .int i, _, h => by cases h; exact .int i
  | .str x, _, h => by cases h with | str _ a => exact .str x a
  | .list ds, _, h => by
    cases h with
    | lst n a b => exact .lst n (sql_butN n k a) (DrAll.but hl k b)
  | .tuple ds, _, h => by
    cases h with
    | tup a b => exact .tup (sqt_butN hl k a) (DrAll.but hl k b)
  | .dict ds, _, h => by
    cases h with
    | dic a => exact .dic (k _ _ (fun z => by rw [z, hl] at a; cases a) a fun _ z => nomatch z)
theorem DrAll.but {K : PySem.W.Frag} {H H' : Hp} {l : Addr} {ys : List V} (hl : H l = some (.lst ys)) (k : KeptN l H H') : ∀ {ds : List PyData} {vs : List V}, DrAll K l H vs ds → DrAll K l H' vs ds
  | [], _, h => by cases h; exact .nil
  | d :: ds, _, h => by
    cases h with
    | cons a b => exact .cons (Dr.but hl k a) (DrAll.but hl k b)
end
mutual
theorem Dr.dq {K : PySem.W.Frag} {H : Hp} {l : Addr} : ∀ {d : PyData} {v : V}, Dr K l H v d → Dq K H v d
  | .none, _, h => by cases h; exact .non
  | .bool b, _, h => by cases h; exact .bl b
  | .int i, _, h => by cases h; exact .int i
  | .str x, _, h => by cases h with | str _ a => exact .str x a
  | .list ds, _, h => by
    cases h with
    | lst n a b => exact .lst a (DrAll.dq b)
  | .tuple ds, _, h => by
    cases h with
    | tup a b => exact .tup a (DrAll.dq b)
  | .dict ds, _, h => by
    cases h with
    | dic a => exact .dic a
theorem DrAll.dq {K : PySem.W.Frag} {H : Hp} {l : Addr} : ∀ {ds : List PyData} {vs : List V}, DrAll K l H vs ds → DqAll K H vs ds
  | [], _, h => by cases h; exact .nil
  | d :: ds, _, h => by
    cases h with
    | cons a b => exact .cons (Dr.dq a) (DrAll.dq b)
end
mutual
theorem dr_of {K : PySem.W.Frag} {H : Hp} {l : Addr} : ∀ {d : PyData} {v : V}, noL d = true → Dq K H v d → Dr K l H v d
  | .none, _, _, h => by cases h; exact .non
  | .bool b, _, _, h => by cases h; exact .bl b
  | .int i, _, _, h => by cases h; exact .int i
  | .str x, _, _, h => by cases h with | str _ a => exact .str x a
  | .list ds, _, n, _ => by simp [noL] at n
  | .tuple ds, _, n, h => by
    cases h with
    | tup a b => exact .tup a (drAll_of (by simpa only [noL] using n) b)
  | .dict ds, _, n, _ => by simp [noL] at n
theorem drAll_of {K : PySem.W.Frag} {H : Hp} {l : Addr} : ∀ {ds : List PyData} {vs : List V}, noLs ds = true → DqAll K H vs ds → DrAll K l H vs ds
  | [], _, _, h => by cases h; exact .nil
  | d :: ds, _, n, h => by
    obtain ⟨n1, n2⟩ := Bool.and_eq_true_iff.mp (show (noL d && noLs ds) = true by simpa only [noLs] using n)
    cases h with
    | cons a b => exact .cons (dr_of n1 a) (drAll_of n2 b)
end
theorem DrAll.len {K : PySem.W.Frag} {H : Hp} {l : Addr} : ∀ {vs : List V} {ds : List PyData}, DrAll K l H vs ds → vs.length = ds.length
  | _, _, .nil => rfl
  | _, _, .cons _ t => congrArg Nat.succ t.len
theorem DrAll.get {K : PySem.W.Frag} {H : Hp} {l : Addr} : ∀ {vs : List V} {ds : List PyData} {i : Nat} {v : V}, DrAll K l H vs ds → vs[i]? = some v → ∃ d, ds[i]? = some d ∧ Dr K l H v d
  | _, _, 0, _, .cons a _, e => by
    cases e
    exact ⟨_, rfl, a⟩
  | _, _, i + 1, _, .cons _ t, e => t.get (i := i) e
theorem DrAll.app {K : PySem.W.Frag} {H : Hp} {l : Addr} : ∀ {vs ws : List V} {ds es : List PyData}, DrAll K l H vs ds → DrAll K l H ws es → DrAll K l H (vs ++ ws) (ds ++ es)
  | _, _, _, _, .nil, h => h
  | _, _, _, _, .cons a t, h => .cons a (t.app h)
theorem Dr.same {K : PySem.W.Frag} {H H' : Hp} {l : Addr} {ys : List V} (hl : H l = some (.lst ys)) (s : Same H H') {d : PyData} {v : V} (h : Dr K l H v d) : Dr K l H' v d := Dr.but hl (sameN s) h
theorem DrAll.same {K : PySem.W.Frag} {H H' : Hp} {l : Addr} {ys : List V} (hl : H l = some (.lst ys)) (s : Same H H') {ds : List PyData} {vs : List V} (h : DrAll K l H vs ds) : DrAll K l H' vs ds := DrAll.but hl (sameN s) h
/-! ### an error that is told -/
/-! ### o.m(k = v), which may raise -/
section
variable {X : Cx} {CX : CXT} {E : XK} {k : Nat} {f C : Addr} {fd : FuncData} {ps ks : List Str} {sp : Sp} {m : Str} {apos pos : Pos} {kws : List Keyword} {tk : TA} {g : List Value → List Value → List Value} {gV : List V → List V → List V} {o : Expr} {ta : TE}
end
end Ca
set_option Elab.async false
set_option linter.all false
set_option maxRecDepth 100000
set_option maxHeartbeats 8000000
namespace Ca
open PySem L2
/-- a comprehension of two clauses without tests -/
theorem lc2_it {J : It} {n : Nat} {G : Hp → Prop} {Y : Nat → Hp → V → Hp → Prop} (w : Walk J n G Y) {wi1 : TI} {te : TE} {vs vs1 : List Nat} {σ : L2.St} {H1 : Hp} {D : Addr} {Qd : Hp → Prop} {j j1 : Nat} (Pv : Nat → Hp → Prop) (h0 : Pv 0 (upd H1 D (.lst []))) (hG : ∀ i H, i ≤ n → Pv i H → G H)
    (hw : ∀ x, wipe ((wipe σ vs).set j (some x)) vs = wipe σ vs) (hw1 : ∀ x z, wipe ((wipe ((wipe σ vs).set j (some x)) vs1).set j1 (some z)) vs1 = wipe ((wipe σ vs).set j (some x)) vs1)
    (hs : ∀ i x H H' (R : It → Hp → Prop), i < n → Pv i H → Y i H x H' →
      (∀ (mi : Nat) J1 G1 Y1 H4 (P1 : Nat → Hp → Prop), Walk J1 mi G1 Y1 → P1 0 H4 → (∀ k H, k ≤ mi → P1 k H → G1 H) →
        (∀ k z H5 H6, k < mi → P1 k H5 → Y1 k H5 z H6 → te ((wipe ((wipe σ vs).set j (some x)) vs1).set j1 (some z)) H6 fun y H7 => ∃ acc, H7 D = some (.lst acc) ∧ acc.length < sizeLine ∧ P1 (k + 1) (upd H7 D (.lst (acc ++ [y])))) → (∀ H, P1 mi H → Pv (i + 1) H) → R J1 H4) → wi1 ((wipe σ vs).set j (some x)) H' R)
    (hd : ∀ H, Pv n H → Qd H) :
    ∃ W : Nat → Nat → Hp → Prop, (∃ m, W 0 m (upd H1 D (.lst []))) ∧ ∀ i m H, W i m H →
      (J.stop i H ∧ Qd H) ∨ (J.go i H ∧ ∃ Nx : Hp → Prop, (∀ H', Nx H' → ∃ m', m' < m ∧ W (i + 1) m' H') ∧ ∀ x H', J.yld i H x H' → gName j x (wipe σ vs) H' fun σ2 H2 => wipe σ2 vs = wipe σ vs ∧ tYes σ2 H2 fun b H3 =>
        if b = true then wi1 σ2 H3 fun J1 H4 => ∃ W1 : Nat → Nat → Hp → Prop, (∃ m, W1 0 m H4) ∧ ∀ j k H, W1 j k H →
          (J1.stop j H ∧ Nx H) ∨ (J1.go j H ∧ ∃ Nx1 : Hp → Prop, (∀ H', Nx1 H' → ∃ k', k' < k ∧ W1 (j + 1) k' H') ∧ ∀ x H', J1.yld j H x H' → gName j1 x (wipe σ2 vs1) H' fun σ3 H5 => wipe σ3 vs1 = wipe σ2 vs1 ∧ tYes σ3 H5 fun b H6 =>
            if b = true then te σ3 H6 fun y H7 => ∃ acc, H7 D = some (.lst acc) ∧ acc.length < sizeLine ∧ Nx1 (upd H7 D (.lst (acc ++ [y]))) else Nx1 H6)
        else Nx H3) := by
  refine ⟨fun i m' H => m' = n - i ∧ i ≤ n ∧ Pv i H, ⟨n, by simp, Nat.zero_le _, h0⟩, ?_⟩
  rintro i m' H ⟨rfl, hi, p⟩
  have g := hG i H hi p
  by_cases hlt : i < n
  · refine .inr ⟨w.goes i H hlt g, Pv (i + 1), fun H' p => ⟨n - (i + 1), by omega, rfl, hlt, p⟩, fun x H' y => ⟨hw x, rdYes ?_⟩⟩
    have y' := w.yields i H x H' hlt g y
    refine hs i x H H' _ hlt p y' fun mi J1 G1 Y1 H4 P1 w1 p0 hG1 he hn => ?_
    refine ⟨fun k k' H => k' = mi - k ∧ k ≤ mi ∧ P1 k H, ⟨mi, by simp, Nat.zero_le _, p0⟩, ?_⟩
    rintro k k' H5 ⟨rfl, hk, p5⟩
    by_cases klt : k < mi
    · refine .inr ⟨w1.goes k H5 klt (hG1 k H5 hk p5), P1 (k + 1), fun H' p => ⟨mi - (k + 1), by omega, rfl, klt, p⟩, fun z H6 yz => ⟨hw1 x z, rdYes ?_⟩⟩
      exact he k z H5 H6 klt p5 (w1.yields k H5 z H6 klt (hG1 k H5 hk p5) yz)
    · have e : k = mi := by omega
      subst e
      exact .inl ⟨w1.stops H5 (hG1 _ H5 (Nat.le_refl _) p5), hn H5 p5⟩
  · have e : i = n := by omega
    subst e
    exact .inl ⟨w.stops H g, hd H p⟩
/-! ### rows of signs -/
def sgD (s : List Int) : PyData := .tuple (s.map .int)
def signsL : Nat → List (List Int)
  | 0 => [[]]
  | n + 1 => (signsL n).flatMap fun s => [s ++ [-1], s ++ [1]]
theorem signs_len : ∀ m, (signsL m).length = 2 ^ m
  | 0 => rfl
  | m + 1 => by
    have e : ∀ l : List (List Int), (l.flatMap fun s => [s ++ [-1], s ++ [1]]).length = 2 * l.length := fun l => by
      induction l with
      | nil => rfl
      | cons a l ih =>
        rw [List.flatMap_cons, List.length_append, ih, show (a :: l).length = l.length + 1 from rfl, show ([a ++ [-1], a ++ [1]] : List (List Int)).length = 2 from rfl]
        omega
    show ((signsL m).flatMap _).length = _
    rw [e, signs_len m, Nat.pow_succ]
    omega
theorem signs_mem : ∀ (m : Nat) (s : List Int), s ∈ signsL m ↔ s.length = m ∧ ∀ x ∈ s, x = 1 ∨ x = -1
  | 0, s => by
    show s ∈ [[]] ↔ _
    rw [List.mem_singleton]
    constructor
    · rintro rfl
      exact ⟨rfl, fun x h => by cases h⟩
    · rintro ⟨h, _⟩
      exact List.length_eq_zero_iff.mp h
  | m + 1, s => by
    show s ∈ (signsL m).flatMap _ ↔ _
    rw [List.mem_flatMap]
    constructor
    · rintro ⟨r, hr, hs⟩
      obtain ⟨l, ok⟩ := (signs_mem m r).mp hr
      have h2 : s = r ++ [-1] ∨ s = r ++ [1] := by
        rcases List.mem_cons.mp hs with h | h
        · exact .inl h
        · exact .inr (List.mem_singleton.mp h)
      rcases h2 with rfl | rfl
      · refine ⟨by rw [List.length_append, l]; rfl, fun x hx => ?_⟩
        rcases List.mem_append.mp hx with h | h
        · exact ok x h
        · exact .inr (List.mem_singleton.mp h)
      · refine ⟨by rw [List.length_append, l]; rfl, fun x hx => ?_⟩
        rcases List.mem_append.mp hx with h | h
        · exact ok x h
        · exact .inl (List.mem_singleton.mp h)
    · rintro ⟨l, ok⟩
      have ne : s ≠ [] := fun z => by rw [z] at l; cases l
      refine ⟨s.dropLast, (signs_mem m _).mpr ⟨by rw [List.length_dropLast, l]; rfl, fun x hx => ok x (List.dropLast_subset _ hx)⟩, ?_⟩
      have e := List.dropLast_concat_getLast ne
      rcases ok _ (List.getLast_mem ne) with h | h
      · rw [h] at e
        exact List.mem_cons_of_mem _ (List.mem_singleton.mpr e.symm)
      · rw [h] at e
        exact List.mem_cons.mpr (.inl e.symm)
def spSigns (K : PySem.W.Frag) : Sp := fun vs H Q _ => ∃ m : Nat, vs = [.int (m : Nat)] ∧ m ≤ 3 ∧ ∀ H' y us, Same H H' → H' y = some (.lst us) → DqAll K H' us ((signsL m).map sgD) → Q (.ref y) H'
theorem noL_sgD (s : List Int) : noL (sgD s) = true := noLs_map PyData.int (fun _ => rfl) s
abbrev NSg : List Str := ["many", "found", "_", "signs", "sign"]
section
variable {P : Program} {w : World} {K : PySem.W.Frag} {mg : Str → Option Value} {base : Heap}
theorem scSg : FnScope NSg ["many"] (defScope sSignRows) := ⟨rfl, rfl, rfl, by decide +kernel, rfl, by decide +kernel, by decide +kernel⟩
theorem ok_signRows {f : Addr} {fd : FuncData} (F : FnT K "sign_rows" sSignRows f fd) (mrng : mg "range" = none) : FnOk P w K mg base CX0 1 f fd ["many"] (spSigns K) := by
  refine F.ok scSg (fun vs H Q E h => ?_) (fun cdv A outer s H vs Q E hr h => ?_)
  · obtain ⟨m, rfl, _⟩ := h
    rfl
  · obtain ⟨m, rfl, m3, q⟩ := h
    have nd := scSg.nd
    refine ⟨_, PSs.nox (pss_cons (ps_set (i := 1) nd rfl (.inl rfl) (pe_lst (pa_cons (pe_tup pa_nil) pa_nil)))
      (pss_cons (ps_for PassesOwn.never rfl (pi_range1 rfl mrng (pa_cons (pv 0) pa_nil)) (pg_name (i := 2) nd rfl (.inl rfl))
        (pss_one (ps_setLc2 (i := 1) (own := [("signs", 3), ("sign", 4)]) (vs1 := [4]) (g := gName 3) (g1 := gName 4) (tt := tYes) (tt1 := tYes) rfl nd rfl rfl (sw_true rfl rfl rfl (by decide +kernel)) (pi_list (pv 1))
          (blkOk_by (own := [("signs", 3), ("sign", 4)]) (N := NSg) (sc := defScope sSignRows) (by decide +kernel)) (by decide) (fun _ _ _ _ _ => pg_name (i := 3) nd rfl (Or.inl rfl)) (fun _ _ _ _ _ => pts_nil)
          (fun _ _ _ _ _ => piT K (pe_tup (pa_cons (pe_un un_neg pe_int) (pa_cons pe_int pa_nil)))) (fun _ _ _ _ _ => pg_name (i := 4) nd rfl (Or.inl rfl)) (fun _ _ _ _ _ => pts_nil)
          (fun _ _ _ _ _ => pe_tup (pa_starT K (pv 3) (pa_cons (pv 4) pa_nil))))))
      (pss_one (ps_ret (pv 1))))), ?_⟩
    have one : 1 ≤ sizeLine := by decide
    have two : 2 ≤ sizeLine := by decide
    refine ⟨Nat.zero_le _, fun e he => ⟨one, fun l hl => ?_⟩⟩
    have s1 := Same.new (o := .tup []) he
    have s2 := Same.new (o := .lst [.ref e]) hl
    have de : Dq K (upd (upd H e (.tup [])) l (.lst [.ref e])) (.ref e) (sgD []) := .tup (same_sqt s2 (SqT.of upd_same)) .nil
    refine ⟨_, rfl, _, rfl, by omega, by omega, ?_⟩
    refine for_it (walk_range (lo := 0) (n := ((m : Nat) : Int).toNat)) (fun k σ' H' => Same H H' ∧ ∃ (l : Addr) (us : List V) (o : Option V), σ' = [some (.int (m : Nat)), some (.ref l), o, none, none] ∧ H' l = some (.lst us) ∧ DqAll K H' us ((signsL k).map sgD))
      ⟨s1.trans s2, l, _, none, rfl, upd_same, .cons de .nil⟩ (fun _ _ _ _ _ => trivial) ?_ (fun σ' H' p => ?_)
    · rintro k z _ H0 H0x hk ⟨s0, l, us, o, rfl, hl, du⟩ ⟨e0, hz⟩
      subst e0
      clear hz
      have lu : us.length = 2 ^ k := by
        have := du.len
        rw [List.length_map, signs_len] at this
        exact this
      have k3 : k < 3 := by omega
      have p8 : 2 ^ k ≤ 4 := Nat.pow_le_pow_right (n := 2) (by decide) (show k ≤ 2 by omega)
      refine ⟨_, rfl, l, rfl, ⟨_, SqL.of hl⟩, fun D hD => ?_⟩
      have nDl : D ≠ l := ne_of_none hl hD |>.symm
      refine lc2_it (walk_list (K := K) (a := l) (xs := us)) (fun i H' => Same H0x H' ∧ ∃ ws, H' D = some (.lst ws) ∧ DqAll K H' ws ((((signsL k).take i).flatMap fun s => [s ++ [-1], s ++ [1]]).map sgD)) ⟨Same.new hD, [], upd_same, .nil⟩ (fun i H' hi p => SqL.of (p.1 _ _ hl)) (fun _ => rfl) (fun _ _ => rfl) ?_ ?_
      · rintro i x H3 H3x R hi ⟨s3, ws, bD, dw⟩ ⟨e3, hx⟩ kk
        subst e3
        have hik : i < (signsL k).length := by rw [signs_len, ← lu]; exact hi
        obtain ⟨d, hd, dq⟩ := (du.same s3).get hx
        rw [List.getElem?_map, List.getElem?_eq_getElem hik] at hd
        cases hd
        have hdl : ((signsL k)[i]).length = k := ((signs_mem k _).mp (List.getElem_mem hik)).1
        have elt : ((signsL k).take (i + 1)).flatMap (fun s => [s ++ [-1], s ++ [1]]) = ((signsL k).take i).flatMap (fun s => [s ++ [-1], s ++ [1]]) ++ [(signsL k)[i] ++ [-1], (signsL k)[i] ++ [1]] := by
          rw [List.take_succ, List.getElem?_eq_getElem hik, List.flatMap_append]
          rfl
        generalize (signsL k)[i] = sg at dq hdl elt
        have lw : ws.length = 2 * i := by
          have := dw.len
          have e : ∀ l : List (List Int), (l.flatMap fun s => [s ++ [-1], s ++ [1]]).length = 2 * l.length := fun l => by
            induction l with
            | nil => rfl
            | cons a l ih =>
              rw [List.flatMap_cons, List.length_append, ih, show (a :: l).length = l.length + 1 from rfl, show ([a ++ [-1], a ++ [1]] : List (List Int)).length = 2 from rfl]
              omega
          rw [List.length_map, e, List.length_take] at this
          omega
        obtain ⟨xa, xs, rfl, hxa, dxs, lxs⟩ := tup_len dq
        rw [List.length_map, hdl] at lxs
        refine ⟨_, rfl, two, fun tp htp => ?_⟩
        have s4 := Same.new (o := .tup [.int (-1), .int 1]) htp
        have bD4 := s4 _ _ bD
        have nDt : D ≠ tp := ne_of_none bD htp
        refine ⟨tp, rfl, ⟨_, SqT.of upd_same⟩, ?_⟩
        refine kk 2 (Itt K tp) _ _ _ (fun j H' => Same H0x H' ∧ Dq K H' (.ref xa) (sgD sg) ∧ SqT K H' tp [.int (-1), .int 1] ∧ ∃ ws', H' D = some (.lst ws') ∧ DqAll K H' ws' (((((signsL k).take i).flatMap fun s => [s ++ [-1], s ++ [1]]) ++ ([sg ++ [-1], sg ++ [1]].take j)).map sgD) ∧ ws'.length = 2 * i + j) (walk_tup (K := K) (a := tp) (xs := [.int (-1), .int 1]))
          ⟨s3.trans s4, dq.same s4, SqT.of upd_same, ws, bD4, by rw [List.take_zero, List.append_nil]; exact dw.same s4, lw⟩ (fun j H' hj p => p.2.2.1) ?_ ?_
        · rintro j z H5 H5x hj ⟨s5, dx5, ht5, ws', bD5, dw5, lw5⟩ ⟨e5, hz⟩
          subst e5
          obtain ⟨sn, ez, hsn⟩ : ∃ sn : Int, z = .int sn ∧ ([sg ++ [-1], sg ++ [1]] : List (List Int))[j]? = some (sg ++ [sn]) := by
            match j, hj, hz with
            | 0, _, hz => cases hz; exact ⟨-1, rfl, rfl⟩
            | 1, _, hz => cases hz; exact ⟨1, rfl, rfl⟩
          subst ez
          obtain ⟨xa', xs', exa, hxa5, dxs5, lxs5⟩ := tup_len dx5
          cases exa
          rw [List.length_map, hdl] at lxs5
          refine ⟨_, rfl, xa, xs', rfl, .inl hxa5, _, rfl, ?_, fun y hy => ?_⟩
          · rw [List.length_append, lxs5]
            exact Nat.le_trans (show k + 1 ≤ 100 by omega) (by decide)
          have s6 := Same.new (o := .tup (xs' ++ [.int sn])) hy
          have bD6 := s6 _ _ bD5
          have kD : ∀ zs : List V, Kept D (upd H5x y (.tup (xs' ++ [.int sn]))) (upd (upd H5x y (.tup (xs' ++ [.int sn]))) D (.lst zs)) := fun zs b o n e => by rw [upd_ne n]; exact e
          have dy : Dq K (upd H5x y (.tup (xs' ++ [.int sn]))) (.ref y) (sgD (sg ++ [sn])) := .tup (SqT.of upd_same) (by rw [List.map_append]; exact (dxs5.same s6).app (.cons (.int _) .nil))
          refine ⟨ws', bD6, ?_, ?_, ?_, ?_, ws' ++ [.ref y], upd_same, ?_, by rw [List.length_append, lw5]; rfl⟩
          · exact Nat.lt_of_lt_of_le (show ws'.length < 100 by omega) (by decide)
          · intro b' o' e'
            rw [upd_ne (ne_of_none e' hD)]
            exact s6 _ _ (s5 _ _ e')
          · exact Dq.but bD6 (kD _) (noL_sgD _) (dx5.same s6)
          · exact sqt_butN bD6 (fun b o ne e _ => by rw [upd_ne ne]; exact e) (same_sqt s6 ht5)
          · rw [List.take_succ, hsn, ← List.append_assoc, List.map_append]
            exact (DqAll.but bD6 (kD _) (noLs_map sgD noL_sgD _) (dw5.same s6)).app (.cons (Dq.but bD6 (kD _) (noL_sgD _) dy) .nil)
        · rintro H5 ⟨s5, dx5, ht5, ws', bD5, dw5, lw5⟩
          refine ⟨s5, ws', bD5, ?_⟩
          rw [elt]
          exact dw5
      · rintro H3 ⟨s3, ws, bD, dw⟩
        rw [lu, ← signs_len, List.take_length] at dw
        exact ⟨s0.trans s3, D, ws, _, rfl, bD, dw⟩
    · obtain ⟨s0, l, us, o, rfl, hl, du⟩ := p
      rw [Int.toNat_natCast] at du
      exact ⟨_, rfl, q H' l us s0 hl du⟩
end
end Ca
set_option Elab.async false
set_option linter.all false
set_option maxRecDepth 100000
set_option maxHeartbeats 8000000
namespace Ca
open PySem L2
/-! ### a row as a limit for possible answers with signs -/
def possA (sg : List Int) (ps : List (Int × Int)) : List Int := List.zipWith (fun s p => s * (if s = 1 then p.1 else p.2)) sg ps
def pLim (sg : List Int) (r : Rw) : List Int × Int := (possA sg r.parts, r.bd.2)
structure SgOk (sg : List Int) (m : Nat) : Prop where
  len : sg.length = m
  ok : ∀ x ∈ sg, x = 1 ∨ x = -1
theorem sgOk_of {m : Nat} {s : List Int} (h : s ∈ signsL m) : SgOk s m := ⟨((signs_mem m s).mp h).1, ((signs_mem m s).mp h).2⟩
theorem possA_len {sg : List Int} {ps : List (Int × Int)} (h : sg.length = ps.length) : (possA sg ps).length = ps.length := by
  unfold possA
  rw [List.length_zipWith, h, Nat.min_self]
theorem possA_get {sg : List Int} {ps : List (Int × Int)} {i : Nat} (h1 : i < sg.length) (h2 : i < ps.length) : (possA sg ps)[i]? = some (sg[i] * (if sg[i] = 1 then ps[i].1 else ps[i].2)) := by
  unfold possA
  rw [List.getElem?_zipWith, List.getElem?_eq_getElem h1, List.getElem?_eq_getElem h2]
def spPossLim (K : PySem.W.Frag) : Sp := fun vs H Q _ => ∃ x g r sg m, vs = [x, g] ∧ Dq K H x (rowD r) ∧ isRowD (rowD r) m = true ∧ m ≤ 3 ∧ Dq K H g (sgD sg) ∧ SgOk sg m ∧ ∀ H' y p, Same H H' → SqT K H' y [.ref p, .int (pLim sg r).2] → IntsAt H' p (pLim sg r).1 → Q (.ref y) H'
abbrev NPl : List Str := ["row", "signs", "numbers", "sign", "low", "high"]
theorem sg_get {K : PySem.W.Frag} {H : Hp} {ys : List V} {sg : List Int} (h : DqAll K H ys (sg.map .int)) {k : Nat} {y : V} (hk : k < sg.length) (hy : ys[k]? = some y) : y = .int sg[k] := by
  obtain ⟨d, hd, dq⟩ := h.get hy
  rw [List.getElem?_map, List.getElem?_eq_getElem hk] at hd
  cases hd
  cases dq
  rfl
section
variable {P : Program} {w : World} {K : PySem.W.Frag} {mg : Str → Option Value} {base : Heap}
theorem scPl : FnScope NPl ["row", "signs"] (defScope sPossibleLimit) := ⟨rfl, rfl, rfl, by decide +kernel, rfl, by decide +kernel, by decide +kernel⟩
theorem ok_possLim {f : Addr} {fd : FuncData} (F : FnT K "possible_limit" sPossibleLimit f fd) (mzip : mg "zip" = none) : FnOk P w K mg base CX0 1 f fd ["row", "signs"] (spPossLim K) := by
  refine F.ok scPl (fun vs H Q E h => ?_) (fun cdv A outer s H vs Q E hr h => ?_)
  · obtain ⟨x, g, r, sg, m, rfl, _⟩ := h
    rfl
  · obtain ⟨x, g, r, sg, m, rfl, dx, hR, m3, dg, so, q⟩ := h
    have nd := scPl.nd
    refine ⟨_, PSs.nox (pss_cons (ps_cut (ps_setLc (i := 2) (own := [("sign", 3), ("low", 4), ("high", 5)]) (g := gTup K 2 (gCons (gName 3) (gCons (gTup K 2 (gCons (gName 4) (gCons (gName 5) gNil))) gNil))) (tt := tYes) rfl nd rfl rfl (sw_true rfl rfl rfl (by decide +kernel)) (RZ.pi_zipA (by rfl) mzip (pa_cons (pv 1) (pa_cons (pe_ix ix_tup (pv 0) pe_int (fun _ _ => rfl)) pa_nil)))
          (blkOk_by (own := [("sign", 3), ("low", 4), ("high", 5)]) (N := NPl) (sc := defScope sPossibleLimit) (by decide +kernel))
          (fun _ _ _ _ _ => pgT K rfl (pgs_cons (pg_name (i := 3) nd rfl (Or.inl rfl)) (pgs_cons (pgT K rfl (pgs_cons (pg_name (i := 4) nd rfl (Or.inl rfl)) (pgs_cons (pg_name (i := 5) nd rfl (Or.inl rfl)) pgs_nil))) pgs_nil))) (fun _ _ _ _ _ => pts_nil)
          (fun _ _ _ _ _ => pe_op op_mul (pv 3) (pe_ifExp (pt_cmpR op_eq (pv 3) pe_int (nomark _)) (pv 4) (pv 5)))))
      (pss_one (ps_ret (pe_tup (pa_cons (pv 2) (pa_cons (pe_ix ix_tup (pe_ix ix_tup (pv 0) pe_int (fun _ _ => rfl)) pe_int (fun _ _ => rfl)) pa_nil)))))), ?_⟩
    have hl := (row_name hR).2
    have RP := rowS_pairs hR
    obtain ⟨ra, v2, v3, rfl, hra, dv2, dv3, _⟩ := row_at dx
    obtain ⟨na, nvs, rfl, hna, dna, nl⟩ := tup_len dv2
    obtain ⟨ba, rfl, hba⟩ := fr_at (f := r.bd) dv3
    obtain ⟨ga, gvs, rfl, hga, dga, gl⟩ := tup_len dg
    rw [List.length_map] at nl gl
    have sl := so.len
    refine ⟨fun σ' H' => ∃ p, σ' = [some (.ref ra), some (.ref ga), some (.ref p), none, none, none] ∧ Same H H' ∧ H' p = some (.lst ((possA sg r.parts).map V.int)), ?_, ?_⟩
    · refine ⟨_, rfl, _, rfl, ra, _, 1, _, rfl, rfl, hra, atI_nat (j := 1) rfl, ga, na, _, _, rfl, .inr ⟨hga, hna, fun D hD => ?_⟩⟩
      refine lc_it (CaZ.walk_zt (K := K) (a := ga) (b := na) (xs := gvs) (ys := nvs) (n := m) (by omega) (by omega)) (fun k H' => Same H H' ∧ H' D = some (.lst (((possA sg r.parts).take k).map V.int))) ⟨Same.new hD, upd_same⟩ (fun k H' hk p => ⟨same_sqt p.1 hga, same_sqt p.1 hna⟩) ?_ ?_
      · rintro k z H2 H2x hk ⟨s2, bD⟩ ⟨T, x1, y1, rfl, hT, rfl, hx, hy⟩
        have s3 := Same.new (o := .tup [x1, y1]) hT
        have s23 := s2.trans s3
        have hks : k < sg.length := by omega
        have hkp : k < r.parts.length := by omega
        obtain rfl := sg_get (dga.same s23) hks hx
        obtain ⟨d, hd, dq⟩ := (dna.same s23).get hy
        rw [List.getElem?_map, List.getElem?_eq_getElem hkp] at hd
        cases hd
        obtain ⟨pa, rfl, hpa⟩ := fr_at (f := r.parts[k]) dq
        have hin := RP _ (List.mem_append_left _ (List.getElem_mem hkp))
        refine ⟨T, _, rfl, SqT.of upd_same, rfl, _, _, rfl, _, _, rfl, ⟨pa, _, rfl, hpa, rfl, _, _, rfl, _, _, rfl, rfl, ⟨rfl, rfl, rdYes ?_⟩⟩⟩
        have fin : ∀ j : Int, j = (if sg[k] = 1 then r.parts[k].1 else r.parts[k].2) → ∃ acc, upd H2 T (.tup [.int sg[k], .ref pa]) D = some (.lst acc) ∧ acc.length < sizeLine ∧ Same H (upd (upd H2 T (.tup [.int sg[k], .ref pa])) D (.lst (acc ++ [.int (sg[k] * j)]))) ∧ (upd (upd H2 T (.tup [.int sg[k], .ref pa])) D (.lst (acc ++ [.int (sg[k] * j)]))) D = some (.lst (((possA sg r.parts).take (k + 1)).map V.int)) := fun j ej => by
          refine ⟨_, s3 _ _ bD, ?_, fun b' o e => ?_, ?_⟩
          · rw [List.length_map, List.length_take]
            exact Nat.lt_of_le_of_lt (Nat.le_trans (Nat.min_le_left ..) (show k ≤ 10 by omega)) (by decide)
          · rw [upd_ne (ne_of_none e hD)]
            exact s23 _ _ e
          · rw [upd_same, List.take_succ, possA_get hks hkp, List.map_append, ej]
            rfl
        have sb : -(2 ^ 64) < sg[k] ∧ sg[k] < 2 ^ 64 := by
          rcases so.ok _ (List.getElem_mem hks) with e | e <;> rw [e] <;> decide
        refine ⟨_, rfl, _, rfl, rfl, _, rfl, ?_⟩
        by_cases c : sg[k] = 1
        · rw [decide_eq_true (show V.int sg[k] = V.int 1 by rw [c])]
          exact iteT ⟨_, rfl, _, _, rfl, rfl, .inl sb, fin _ (by rw [if_pos c])⟩
        · rw [decide_eq_false (fun z => c (by injection z))]
          exact iteF ⟨_, rfl, _, _, rfl, rfl, .inl sb, fin _ (by rw [if_neg c])⟩
      · rintro H2 ⟨s2, bD⟩
        have pl : (possA sg r.parts).length = m := by rw [possA_len (by omega)]; exact hl
        rw [List.take_of_length_le (by omega)] at bD
        exact ⟨D, rfl, s2, bD⟩
    rintro _ H1 ⟨p, rfl, s1, hp⟩
    refine ⟨_, rfl, _, rfl, ra, _, 2, _, rfl, rfl, same_sqt s1 hra, atI_nat (j := 2) rfl, ba, _, 1, _, rfl, rfl, same_sqt s1 hba, atI_nat (j := 1) rfl, by show 2 ≤ sizeLine; decide, fun y hy => ?_⟩
    have s4 := Same.new (o := .tup [.ref p, .int r.bd.2]) hy
    exact q _ y p (s1.trans s4) (SqT.of upd_same) (s4 _ _ hp)
end
end Ca
set_option Elab.async false
set_option linter.all false
set_option maxRecDepth 100000
set_option maxHeartbeats 4000000
namespace Ca
open PySem L2
/-! ### what tables tell, in rational numbers -/
def qsum (f : Nat → Rat) : Nat → Rat
  | 0 => 0
  | n + 1 => qsum f n + f n
theorem qsum_congr {f g : Nat → Rat} : ∀ n, (∀ i, i < n → f i = g i) → qsum f n = qsum g n
  | 0, _ => rfl
  | n + 1, h => by
    simp only [qsum]
    rw [qsum_congr n fun i hi => h i (by omega), h n (by omega)]
theorem qsum_le {f g : Nat → Rat} : ∀ n, (∀ i, i < n → f i ≤ g i) → qsum f n ≤ qsum g n
  | 0, _ => Rat.le_refl
  | n + 1, h => by
    simp only [qsum]
    have a := qsum_le n fun i hi => h i (by omega)
    have b := h n (by omega)
    grind
theorem qsum_zero : ∀ n, qsum (fun _ => 0) n = 0
  | 0 => rfl
  | n + 1 => by simp only [qsum]; rw [qsum_zero n]; grind
theorem qsum_nonneg {f : Nat → Rat} (n : Nat) (h : ∀ i, i < n → 0 ≤ f i) : 0 ≤ qsum f n := by
  have := qsum_le (f := fun _ => 0) n h
  rwa [qsum_zero] at this
theorem qsum_add (f g : Nat → Rat) : ∀ n, qsum (fun i => f i + g i) n = qsum f n + qsum g n
  | 0 => by simp only [qsum]; grind
  | n + 1 => by simp only [qsum]; rw [qsum_add f g n]; grind
theorem qsum_mul (c : Rat) (f : Nat → Rat) : ∀ n, qsum (fun i => c * f i) n = c * qsum f n
  | 0 => by simp only [qsum]; grind
  | n + 1 => by simp only [qsum]; rw [qsum_mul c f n]; grind
theorem qsum_swap (f : Nat → Nat → Rat) (m : Nat) : ∀ n, qsum (fun j => qsum (fun i => f i j) m) n = qsum (fun i => qsum (fun j => f i j) n) m
  | 0 => by
    simp only [qsum]
    exact (qsum_zero m).symm
  | n + 1 => by
    simp only [qsum]
    rw [qsum_swap f m n, ← qsum_add]
theorem rsum_succ (g : Nat → Int) (n : Nat) : Det.rsum g (n + 1) = Det.rsum g n + g n := by
  unfold Det.rsum
  rw [List.range_succ, Det.msum_app]
  simp only [Det.msum]
  omega
theorem rsum_q (g : Nat → Int) : ∀ n, ((Det.rsum g n : Int) : Rat) = qsum (fun i => ((g i : Int) : Rat)) n
  | 0 => rfl
  | n + 1 => by
    rw [rsum_succ, Rat.intCast_add, rsum_q g n]
    rfl
/-- amounts that keep limits -/
def Feas (ls : List (List Int × Int)) (n : Nat) (x : Nat → Rat) : Prop := (∀ j, j < n → 0 ≤ x j) ∧ ∀ i, i < ls.length → qsum (fun j => ((limA ls i j : Int) : Rat) * x j) n ≤ ((limB ls i : Int) : Rat)
section
variable {ls : List (List Int × Int)} {cs : List Int} {t : Tb}
theorem div_nonneg' {a b : Int} (ha : 0 ≤ a) (hb : 0 < b) : (0 : Rat) ≤ (a : Rat) / (b : Rat) := by
  have h1 : (0 : Rat) ≤ (a : Rat) := by exact_mod_cast ha
  have h2 : (0 : Rat) < (b : Rat) := by exact_mod_cast hb
  rw [Rat.div_def]
  exact Rat.mul_nonneg h1 (Rat.le_of_lt (Rat.inv_pos.mpr h2))
/-- nothing is wrong: amounts that keep all limits, told by the table -/
theorem feas_of (sh : Shp ls.length cs.length t) (so : StOf ls cs t) (no : ∀ q, ¬ WrongT ls.length cs.length t q) : ∃ x : Nat → Rat, Feas ls cs.length x ∧ ∀ q p, q < cs.length → AmtOf cs.length t ls.length q p → x q = (p.1 : Rat) / (p.2 : Rat) := by
  obtain ⟨S, rp, ok, _⟩ := so
  obtain ⟨y, y1, y2, y3, _⟩ := ok.primal
  have D0 : 0 < S.D := ok.dic.pos
  have Dq : (0 : Rat) < (S.D : Rat) := by exact_mod_cast D0
  have pos : ∀ q, q < cs.length + ls.length → 0 ≤ y q := fun q hq => by
    have hp := ok.pm.mem_iff (a := q)
    have hm : q ∈ S.bs ++ S.fs := hp.mpr (List.mem_range.mpr (by omega))
    rcases List.mem_append.mp hm with h | h
    · obtain ⟨l, hl⟩ := List.mem_iff_getElem?.mp h
      rw [y1 l q hl]
      have ll := (List.getElem?_eq_some_iff.mp hl).1
      have bl := ok.bl
      by_cases g : S.T l cs.length < 0
      · exact absurd ((rp.wrong sh).mpr (.inl ⟨l, hl, g⟩)) (no q)
      · omega
    · rw [y2 q h]
      exact Int.le_refl 0
  refine ⟨fun q => (y q : Rat) / (S.D : Rat), ⟨fun j hj => div_nonneg' (pos j (by omega)) D0, fun i hi => ?_⟩, fun q p hq am => ?_⟩
  · have e := y3 i hi
    have p := pos (cs.length + i) (by omega)
    have le : Det.rsum (fun j => limA ls i j * y j) cs.length ≤ S.D * limB ls i := by omega
    have leq : ((Det.rsum (fun j => limA ls i j * y j) cs.length : Int) : Rat) ≤ ((S.D * limB ls i : Int) : Rat) := by exact_mod_cast le
    rw [rsum_q, Rat.intCast_mul] at leq
    have e2 : qsum (fun j => ((limA ls i j * y j : Int) : Rat)) cs.length = (S.D : Rat) * qsum (fun j => (limA ls i j : Rat) * ((y j : Rat) / (S.D : Rat))) cs.length := by
      rw [← qsum_mul]
      refine qsum_congr _ fun j _ => ?_
      rw [Rat.intCast_mul]
      have : (S.D : Rat) ≠ 0 := by grind
      grind
    rw [e2] at leq
    exact Rat.le_of_mul_le_mul_left leq Dq
  · have tD : t.D = S.D := rp.D
    rcases am with ⟨l, l1, l2, rd⟩ | ⟨h, rfl⟩
    · rw [rp.bs] at l2
      rw [rp.T l cs.length (by omega) (Nat.le_refl _), tD] at rd
      show (y q : Rat) / (S.D : Rat) = _
      rw [y1 l q l2]
      have c := rd.cross
      have p2 := rd.pos
      have c' : (p.1 : Rat) * (S.D : Rat) = (S.T l cs.length : Rat) * (p.2 : Rat) := by exact_mod_cast c
      have p2' : (0 : Rat) < (p.2 : Rat) := by exact_mod_cast p2
      have h1 : (S.D : Rat) ≠ 0 := by grind
      have h2 : (p.2 : Rat) ≠ 0 := by grind
      grind
    · have hm : q ∈ S.bs ++ S.fs := (ok.pm.mem_iff (a := q)).mpr (List.mem_range.mpr (by omega))
      rcases List.mem_append.mp hm with hb | hf
      · obtain ⟨l, hl⟩ := List.mem_iff_getElem?.mp hb
        have ll := (List.getElem?_eq_some_iff.mp hl).1
        have bl := ok.bl
        exact absurd (by rw [rp.bs]; exact hl) (h l (by omega))
      · show (y q : Rat) / (S.D : Rat) = _
        rw [y2 q hf]
        have h1 : (S.D : Rat) ≠ 0 := by grind
        show ((0 : Int) : Rat) / (S.D : Rat) = ((0 : Int) : Rat) / ((1 : Int) : Rat)
        grind
/-- a row that is stuck: no amounts keep all limits -/
theorem unfeas_of (sh : Shp ls.length cs.length t) (so : StOf ls cs t) {i : Nat} (hi : i < ls.length) (h1 : tT t i cs.length < 0) (h2 : ∀ j, j < cs.length → 0 ≤ tT t i j) : ∀ x : Nat → Rat, ¬ Feas ls cs.length x := by
  obtain ⟨S, rp, ok, _⟩ := so
  have D0 : 0 < S.D := ok.dic.pos
  have bl := ok.bl
  have fl := ok.fl
  have nd := ok.bsnd
  obtain ⟨b, hb⟩ : ∃ b, S.bs[i]? = some b := ⟨_, List.getElem?_eq_getElem (by omega)⟩
  have bmem : b ∈ S.bs := List.mem_of_getElem? hb
  have blt : b < ls.length + cs.length := by
    have := (ok.pm.mem_iff (a := b)).mp (List.mem_append_left _ bmem)
    exact List.mem_range.mp this
  have fnd : (S.bs ++ S.fs).Nodup := ok.pm.nodup_iff.mpr List.nodup_range
  obtain ⟨_, fnd1, dis⟩ := List.nodup_append.mp fnd
  -- the weights
  let W : Nat → Int := fun q => if q ∈ S.fs then S.T i (S.fs.idxOf q) else if q = b then S.D else 0
  have w1 : ∀ l q, S.fs[l]? = some q → W q = S.T i l := fun l q hq => by
    have qm : q ∈ S.fs := List.mem_of_getElem? hq
    show (if q ∈ S.fs then S.T i (S.fs.idxOf q) else _) = _
    rw [if_pos qm]
    have ll := (List.getElem?_eq_some_iff.mp hq).1
    have e : S.fs.idxOf q = l := by
      have hlt : S.fs.idxOf q < S.fs.length := List.idxOf_lt_length_iff.mpr qm
      have g := List.getElem_idxOf hlt
      refine (List.getElem?_inj hlt fnd1).mp ?_
      rw [List.getElem?_eq_getElem hlt, g, hq]
    rw [e]
  have w2 : ∀ q ∈ S.bs, W q = if q = b then S.D else 0 := fun q hq => by
    show (if q ∈ S.fs then _ else _) = _
    rw [if_neg fun z => dis q hq q z rfl]
  have ht : (S.bs ++ [ls.length + cs.length])[i]? = some b := by rw [List.getElem?_append_left (by omega)]; exact hb
  have he : (0 : Int) = if b = ls.length + cs.length then S.D else 0 := by rw [if_neg (by omega)]
  obtain ⟨d1, d2⟩ := Det.Ok.dual ok ht w1 w2 he
  have wpos : ∀ q, q < ls.length + cs.length → 0 ≤ W q := fun q hq => by
    rcases List.mem_append.mp ((ok.pm.mem_iff (a := q)).mpr (List.mem_range.mpr hq)) with h | h
    · rw [w2 q h]
      split <;> omega
    · obtain ⟨l, hl⟩ := List.mem_iff_getElem?.mp h
      rw [w1 l q hl]
      have ll := (List.getElem?_eq_some_iff.mp hl).1
      rw [← rp.T i l (by omega) (by omega)]
      exact h2 l (by omega)
  have neg : S.T i cs.length < 0 := by
    rw [← rp.T i cs.length (by omega) (Nat.le_refl _)]
    exact h1
  rintro x ⟨x0, xl⟩
  -- both ways round
  have a1 : (0 : Rat) ≤ qsum (fun j => ((W j : Int) : Rat) * x j) cs.length := qsum_nonneg _ fun j hj => by
    have : (0 : Rat) ≤ ((W j : Int) : Rat) := by exact_mod_cast wpos j (by omega)
    exact Rat.mul_nonneg this (x0 j hj)
  have a2 : qsum (fun j => ((W j : Int) : Rat) * x j) cs.length = qsum (fun k => ((W (cs.length + k) : Int) : Rat) * qsum (fun j => ((limA ls k j : Int) : Rat) * x j) cs.length) ls.length := by
    have e : ∀ j, j < cs.length → ((W j : Int) : Rat) * x j = qsum (fun k => ((W (cs.length + k) : Int) : Rat) * (((limA ls k j : Int) : Rat) * x j)) ls.length := fun j hj => by
      have := d1 j hj
      rw [Int.zero_mul, Int.sub_zero] at this
      rw [← this, rsum_q]
      rw [Rat.mul_comm, ← qsum_mul]
      refine qsum_congr _ fun k _ => ?_
      rw [Rat.intCast_mul]
      grind
    rw [qsum_congr _ e, qsum_swap]
    exact qsum_congr _ fun k _ => qsum_mul _ _ _
  have a3 : qsum (fun k => ((W (cs.length + k) : Int) : Rat) * qsum (fun j => ((limA ls k j : Int) : Rat) * x j) cs.length) ls.length ≤ qsum (fun k => ((limB ls k * W (cs.length + k) : Int) : Rat)) ls.length := qsum_le _ fun k hk => by
    have : (0 : Rat) ≤ ((W (cs.length + k) : Int) : Rat) := by exact_mod_cast wpos (cs.length + k) (by omega)
    have := Rat.mul_le_mul_of_nonneg_left (xl k hk) this
    rw [Rat.intCast_mul]
    grind
  rw [← rsum_q, d2] at a3
  have a4 : ((S.T i cs.length : Int) : Rat) < 0 := by exact_mod_cast neg
  grind
end
end Ca
set_option Elab.async false
set_option linter.all false
set_option maxRecDepth 100000
set_option maxHeartbeats 8000000
namespace Ca
/-! ### sure answers as amounts: the parts above 0 and below 0 -/
def maxQ (a b : Rat) : Rat := if a ≤ b then b else a
theorem le_maxQ_left (a b : Rat) : a ≤ maxQ a b := by
  unfold maxQ
  split
  · assumption
  · exact Rat.le_refl
theorem le_maxQ_right (a b : Rat) : b ≤ maxQ a b := by
  unfold maxQ
  split
  · exact Rat.le_refl
  · rename_i h
    exact Rat.le_of_lt (Rat.not_le.mp h)
theorem maxQ_le {a b c : Rat} (h1 : a ≤ c) (h2 : b ≤ c) : maxQ a b ≤ c := by
  unfold maxQ
  split
  · exact h2
  · exact h1
/-- the most that a row can make of values -/
def mostQ (lo hi : Nat → Rat) (x : Nat → Rat) (n : Nat) : Rat := qsum (fun j => maxQ (lo j * x j) (hi j * x j)) n
/-- what a sure limit makes of parts -/
def partQ (lo hi : Nat → Rat) (u v : Nat → Rat) (n : Nat) : Rat := qsum (fun j => hi j * u j - lo j * v j) n
theorem most_le_part {lo hi u v : Nat → Rat} {n : Nat} (hl : ∀ j, j < n → lo j ≤ hi j) (hu : ∀ j, j < n → 0 ≤ u j) (hv : ∀ j, j < n → 0 ≤ v j) : mostQ lo hi (fun j => u j - v j) n ≤ partQ lo hi u v n := by
  refine qsum_le n fun j hj => ?_
  have l := hl j hj
  have a := hu j hj
  have b := hv j hj
  refine maxQ_le ?_ ?_
  · have := Rat.mul_le_mul_of_nonneg_right l a
    show lo j * (u j - v j) ≤ hi j * u j - lo j * v j
    grind
  · have := Rat.mul_le_mul_of_nonneg_right l b
    show hi j * (u j - v j) ≤ hi j * u j - lo j * v j
    grind
def posQ (x : Rat) : Rat := maxQ x 0
def negQ (x : Rat) : Rat := maxQ (-x) 0
theorem pos_neg (x : Rat) : posQ x - negQ x = x ∧ 0 ≤ posQ x ∧ 0 ≤ negQ x ∧ ((0 ≤ x ∧ posQ x = x ∧ negQ x = 0) ∨ (x ≤ 0 ∧ posQ x = 0 ∧ negQ x = -x)) := by
  unfold posQ negQ maxQ
  by_cases c : x ≤ 0
  · rw [if_pos c]
    by_cases d : -x ≤ 0
    · rw [if_pos d]
      have : x = 0 := by grind
      subst this
      exact ⟨by grind, by grind, by grind, .inl ⟨by grind, by grind, by grind⟩⟩
    · rw [if_neg d]
      exact ⟨by grind, by grind, by grind, .inr ⟨c, by grind, by grind⟩⟩
  · rw [if_neg c]
    have : -x ≤ 0 := by grind
    rw [if_pos this]
    exact ⟨by grind, by grind, by grind, .inl ⟨by grind, by grind, by grind⟩⟩
theorem part_of {lo hi x : Nat → Rat} {n : Nat} : partQ lo hi (fun j => posQ (x j)) (fun j => negQ (x j)) n ≤ mostQ lo hi x n := by
  refine qsum_le n fun j _ => ?_
  obtain ⟨_, _, _, h⟩ := pos_neg (x j)
  show hi j * posQ (x j) - lo j * negQ (x j) ≤ maxQ (lo j * x j) (hi j * x j)
  rcases h with ⟨_, e1, e2⟩ | ⟨_, e1, e2⟩
  · rw [e1, e2]
    refine Rat.le_trans ?_ (le_maxQ_right _ _)
    grind
  · rw [e1, e2]
    refine Rat.le_trans ?_ (le_maxQ_left _ _)
    grind
/-- sure answers of rows (lo, hi, bound) and parts that keep their limits: there are both or none -/
structure SRow where
  lo : Nat → Rat
  hi : Nat → Rat
  bd : Rat
def SureQ (S : List SRow) (n : Nat) (x : Nat → Rat) : Prop := ∀ r ∈ S, mostQ r.lo r.hi x n ≤ r.bd
def PartsQ (S : List SRow) (n : Nat) (u v : Nat → Rat) : Prop := (∀ j, j < n → 0 ≤ u j ∧ 0 ≤ v j) ∧ ∀ r ∈ S, partQ r.lo r.hi u v n ≤ r.bd
theorem sure_of_parts {S : List SRow} {n : Nat} {u v : Nat → Rat} (hl : ∀ r ∈ S, ∀ j, j < n → r.lo j ≤ r.hi j) (h : PartsQ S n u v) : SureQ S n fun j => u j - v j := fun r hr =>
  Rat.le_trans (most_le_part (hl r hr) (fun j hj => (h.1 j hj).1) fun j hj => (h.1 j hj).2) (h.2 r hr)
theorem parts_of_sure {S : List SRow} {n : Nat} {x : Nat → Rat} (h : SureQ S n x) : PartsQ S n (fun j => posQ (x j)) fun j => negQ (x j) :=
  ⟨fun j _ => ⟨(pos_neg (x j)).2.1, (pos_neg (x j)).2.2.1⟩, fun r hr => Rat.le_trans part_of (h r hr)⟩
end Ca
set_option Elab.async false
set_option linter.all false
set_option maxRecDepth 100000
set_option maxHeartbeats 8000000
namespace Ca
open PySem L2
/-! ### what cheapest_sure tells, in rational numbers -/
def srow (r : Rw) : SRow := ⟨fun j => ((r.parts.getD j (0, 0)).1 : Rat), fun j => ((r.parts.getD j (0, 0)).2 : Rat), (r.bd.1 : Rat)⟩
/-- sure values of rows -/
def SureV (rs : List Rw) (m : Nat) (x : Nat → Rat) : Prop := SureQ (rs.map srow) m x
theorem qsum_split (f : Nat → Rat) (m : Nat) : ∀ n, qsum f (m + n) = qsum f m + qsum (fun j => f (m + j)) n
  | 0 => by
    show qsum f m = qsum f m + 0
    grind
  | n + 1 => by
    show qsum f (m + n) + f (m + n) = qsum f m + (qsum (fun j => f (m + j)) n + f (m + n))
    rw [qsum_split f m n]
    grind
theorem redS {a b p q : Int} (h : Red a b p q) : (p : Rat) / (q : Rat) = (a : Rat) / (b : Rat) := by
  have c := h.cross
  have c' : (p : Rat) * (b : Rat) = (a : Rat) * (q : Rat) := by exact_mod_cast c
  have b0 : 0 < b := by
    obtain ⟨g, hg, _, e⟩ := h.ex
    rw [← e]
    exact Int.mul_pos h.pos hg
  have h1 : (0 : Rat) < (q : Rat) := by exact_mod_cast h.pos
  have h2 : (0 : Rat) < (b : Rat) := by exact_mod_cast b0
  have h3 : (q : Rat) ≠ 0 := by grind
  have h4 : (b : Rat) ≠ 0 := by grind
  grind
theorem sureA_lo {ps : List (Int × Int)} {j : Nat} (hj : j < ps.length) : (sureA ps).getD j 0 = (ps.getD j (0, 0)).2 := by
  unfold sureA
  rw [List.getD_eq_getElem?_getD, List.getElem?_append_left (by rw [List.length_map]; exact hj), List.getElem?_map, List.getElem?_eq_getElem hj, List.getD_eq_getElem?_getD, List.getElem?_eq_getElem hj]
  rfl
theorem sureA_hi {ps : List (Int × Int)} {j : Nat} (hj : j < ps.length) : (sureA ps).getD (ps.length + j) 0 = -(ps.getD j (0, 0)).1 := by
  unfold sureA
  rw [List.getD_eq_getElem?_getD, List.getElem?_append_right (by rw [List.length_map]; omega), List.length_map, Nat.add_sub_cancel_left, List.getElem?_map, List.getElem?_eq_getElem hj, List.getD_eq_getElem?_getD, List.getElem?_eq_getElem hj]
  rfl
theorem feas_parts {rs : List Rw} {m : Nat} (hm : ∀ r ∈ rs, r.parts.length = m) (x : Nat → Rat) : Feas (rs.map sureL) (m + m) x ↔ PartsQ (rs.map srow) m x fun j => x (m + j) := by
  have key : ∀ i (h : i < rs.length), qsum (fun j => ((limA (rs.map sureL) i j : Int) : Rat) * x j) (m + m) = partQ (srow rs[i]).lo (srow rs[i]).hi x (fun j => x (m + j)) m := fun i h => by
    have lm := hm _ (List.getElem_mem h)
    have e : ∀ j, limA (rs.map sureL) i j = (sureA rs[i].parts).getD j 0 := fun j => by
      unfold limA
      rw [List.getD_eq_getElem?_getD (l := rs.map sureL), List.getElem?_map, List.getElem?_eq_getElem h]
      rfl
    rw [qsum_split, ← qsum_add]
    refine qsum_congr m fun j hj => ?_
    show ((limA (rs.map sureL) i j : Int) : Rat) * x j + ((limA (rs.map sureL) i (m + j) : Int) : Rat) * x (m + j) = ((rs[i].parts.getD j (0, 0)).2 : Rat) * x j - ((rs[i].parts.getD j (0, 0)).1 : Rat) * x (m + j)
    rw [e, e, sureA_lo (by omega)]
    have e2 : (sureA rs[i].parts).getD (m + j) 0 = -(rs[i].parts.getD j (0, 0)).1 := by
      rw [← lm]
      exact sureA_hi (by omega)
    rw [e2, Rat.intCast_neg]
    grind
  have bd : ∀ i (h : i < rs.length), limB (rs.map sureL) i = rs[i].bd.1 := fun i h => by
    unfold limB
    rw [List.getD_eq_getElem?_getD, List.getElem?_map, List.getElem?_eq_getElem h]
    rfl
  constructor
  · rintro ⟨f0, f1⟩
    refine ⟨fun j hj => ⟨f0 j (by omega), f0 (m + j) (by omega)⟩, fun r hr => ?_⟩
    obtain ⟨r', hr', rfl⟩ := List.mem_map.mp hr
    obtain ⟨i, hi, rfl⟩ := List.mem_iff_getElem.mp hr'
    have := f1 i (by rw [List.length_map]; exact hi)
    rw [key i hi, bd i hi] at this
    exact this
  · rintro ⟨g0, g1⟩
    refine ⟨fun j hj => ?_, fun i hi => ?_⟩
    · by_cases h : j < m
      · exact (g0 j h).1
      · have this : 0 ≤ x (m + (j - m)) := (g0 (j - m) (by omega)).2
        rwa [show m + (j - m) = j by omega] at this
    · rw [List.length_map] at hi
      rw [key i hi, bd i hi]
      exact g1 _ (List.mem_map_of_mem (List.getElem_mem hi))
theorem srow_le {rs : List Rw} {m : Nat} (hR : ∀ r ∈ rs, isRowD (rowD r) m = true) : ∀ r ∈ rs.map srow, ∀ j, j < m → r.lo j ≤ r.hi j := by
  intro r hr j hj
  obtain ⟨r', hr', rfl⟩ := List.mem_map.mp hr
  have RP := rowS_pairs (hR r' hr')
  have lm := (row_name (hR r' hr')).2
  have hj' : j < r'.parts.length := by omega
  have := (RP _ (List.mem_append_left _ (List.getElem_mem hj'))).2.1
  show ((r'.parts.getD j (0, 0)).1 : Rat) ≤ ((r'.parts.getD j (0, 0)).2 : Rat)
  rw [List.getD_eq_getElem?_getD, List.getElem?_eq_getElem hj']
  exact_mod_cast this
/-- where no answer is told there is none -/
theorem sure_none {rs : List Rw} {cs : List Int} {t : Tb} {i : Nat} (hm : ∀ r ∈ rs, r.parts.length = cs.length) (sh : Shp (rs.map sureL).length (cs2 cs).length t) (st : StOf (rs.map sureL) (cs2 cs) t ∨ StOf (rs.map sureL) (zerosOf (cs2 cs)) t) (hi : i < (rs.map sureL).length)
    (h1 : tT t i (cs2 cs).length < 0) (h2 : ∀ j, j < (cs2 cs).length → 0 ≤ tT t i j) : ∀ x, ¬ SureV rs cs.length x := fun x hx => by
  have un : ∀ y, ¬ Feas (rs.map sureL) (cs2 cs).length y := by
    rcases st with st | st
    · exact unfeas_of sh st hi h1 h2
    · have lz := zeros_len (cs2 cs)
      have := unfeas_of (cs := zerosOf (cs2 cs)) (by rw [lz]; exact sh) st hi (by rw [lz]; exact h1) (by rw [lz]; exact h2)
      rw [lz] at this
      exact this
  rw [cs2_len] at un
  have hp := parts_of_sure hx
  refine un (fun j => if j < cs.length then posQ (x j) else negQ (x (j - cs.length))) ((feas_parts hm _).mpr ⟨fun j hj => ?_, fun r hr => ?_⟩)
  · show 0 ≤ (if j < cs.length then _ else _) ∧ 0 ≤ (if cs.length + j < cs.length then _ else negQ (x (cs.length + j - cs.length)))
    rw [if_pos hj, if_neg (by omega), Nat.add_sub_cancel_left]
    exact hp.1 j hj
  · have := hp.2 r hr
    refine Rat.le_trans ?_ this
    refine qsum_le _ fun j hj => ?_
    show r.hi j * (if j < cs.length then posQ (x j) else _) - r.lo j * (if cs.length + j < cs.length then _ else negQ (x (cs.length + j - cs.length))) ≤ _
    rw [if_pos hj, if_neg (by omega), Nat.add_sub_cancel_left]
    exact Rat.le_refl
/-- an answer that is told is sure -/
theorem sure_some {rs : List Rw} {m : Nat} {cs : List Int} {t : Tb} {fs : List (Int × Int)} (hc : cs.length = m + m) (hR : ∀ r ∈ rs, isRowD (rowD r) m = true) (sh : Shp (rs.map sureL).length cs.length t) (st : StOf (rs.map sureL) cs t) (no : ∀ q, ¬ WrongT (rs.map sureL).length cs.length t q)
    (sa : SureA t (rs.map sureL).length m fs) : SureV rs m fun j => ((fs.getD j (0, 1)).1 : Rat) / ((fs.getD j (0, 1)).2 : Rat) := by
  obtain ⟨x, fx, hx⟩ := feas_of sh st no
  rw [hc] at fx hx
  have hm : ∀ r ∈ rs, r.parts.length = m := fun r hr => (row_name (hR r hr)).2
  have hs := sure_of_parts (srow_le hR) ((feas_parts hm x).mp fx)
  obtain ⟨lf, ha⟩ := sa
  have e : ∀ j, j < m → ((fs.getD j (0, 1)).1 : Rat) / ((fs.getD j (0, 1)).2 : Rat) = x j - x (m + j) := fun j hj => by
    have hj' : j < fs.length := by omega
    obtain ⟨p1, p2, a1, a2, rd⟩ := ha j fs[j] (List.getElem?_eq_getElem hj')
    rw [List.getD_eq_getElem?_getD, List.getElem?_eq_getElem hj']
    show ((fs[j]).1 : Rat) / ((fs[j]).2 : Rat) = _
    rw [redS rd, hx j p1 (by omega) a1, hx (m + j) p2 (by omega) (by rw [Nat.add_comm m j]; exact a2)]
    have d1 : 0 < p1.2 * p2.2 := by
      obtain ⟨g, hg, _, e⟩ := rd.ex
      rw [← e]
      exact Int.mul_pos rd.pos hg
    have n1 : p1.2 ≠ 0 := fun z => by rw [z, Int.zero_mul] at d1; exact absurd d1 (by decide)
    have n2 : p2.2 ≠ 0 := fun z => by rw [z, Int.mul_zero] at d1; exact absurd d1 (by decide)
    have q1 : (p1.2 : Rat) ≠ 0 := fun z => n1 (by exact_mod_cast z)
    have q2 : (p2.2 : Rat) ≠ 0 := fun z => n2 (by exact_mod_cast z)
    rw [Rat.intCast_add, Rat.intCast_mul, Rat.intCast_mul, Rat.intCast_mul, Rat.intCast_neg]
    grind
  intro r hr
  have := hs r hr
  refine Rat.le_trans ?_ this
  refine qsum_le _ fun j hj => ?_
  show maxQ (r.lo j * (((fs.getD j (0, 1)).1 : Rat) / ((fs.getD j (0, 1)).2 : Rat))) (r.hi j * (((fs.getD j (0, 1)).1 : Rat) / ((fs.getD j (0, 1)).2 : Rat))) ≤ maxQ (r.lo j * (x j - x (m + j))) (r.hi j * (x j - x (m + j)))
  rw [e j hj]
  exact Rat.le_refl
end Ca
set_option Elab.async false
set_option linter.all false
set_option maxRecDepth 100000
set_option maxHeartbeats 8000000
namespace Ca
open PySem L2
/-! ### a possible answer of least cost with signs -/
def sgCost (sg cs : List Int) : List Int := List.zipWith (fun s c => s * c) sg cs
theorem sgCost_len {sg cs : List Int} (h : sg.length = cs.length) : (sgCost sg cs).length = cs.length := by
  unfold sgCost
  rw [List.length_zipWith, h, Nat.min_self]
theorem sgCost_get {sg cs : List Int} {i : Nat} (h1 : i < sg.length) (h2 : i < cs.length) : (sgCost sg cs)[i]? = some (sg[i] * cs[i]) := by
  unfold sgCost
  rw [List.getElem?_zipWith, List.getElem?_eq_getElem h1, List.getElem?_eq_getElem h2]
theorem sgCost_zeros (sg : List Int) : ∀ cs : List Int, sg.length = cs.length → cs = zerosOf cs → sgCost sg cs = zerosOf (sgCost sg cs) := fun cs hl h => by
  have e : ∀ i, i < (sgCost sg cs).length → (sgCost sg cs)[i]? = some 0 := fun i hi => by
    rw [sgCost_len hl] at hi
    rw [sgCost_get (by omega) hi]
    have : cs[i] = 0 := by
      have h2 : cs[i]? = (zerosOf cs)[i]? := by rw [← h]
      unfold zerosOf at h2
      rw [List.getElem?_eq_getElem hi, List.getElem?_replicate, if_pos hi] at h2
      exact Option.some.inj h2
    rw [this, Int.mul_zero]
  refine List.ext_getElem? fun i => ?_
  unfold zerosOf
  rw [List.getElem?_replicate]
  by_cases c : i < (sgCost sg cs).length
  · rw [if_pos c]
    exact e i c
  · rw [if_neg c]
    exact List.getElem?_eq_none (by omega)
theorem sg_mul {sg : List Int} {m : Nat} (so : SgOk sg m) {i : Nat} (h : i < sg.length) (x : Int) : (sg[i] * x).natAbs = x.natAbs := by
  rcases so.ok _ (List.getElem_mem h) with e | e
  · rw [e, Int.one_mul]
  · rw [e, Int.neg_one_mul, Int.natAbs_neg]
theorem poss_mild {rs : List Rw} {cs sg : List Int} {m : Nat} (hR : ∀ r ∈ rs, isRowD (rowD r) m = true) (so : SgOk sg m) (hl : cs.length = m) (hc : ∀ c ∈ cs, c.natAbs ≤ 2 ^ 20) : Mild (rs.map (pLim sg)) (sgCost sg cs) (2 ^ 21) := by
  have sl := so.len
  refine ⟨Nat.one_le_two_pow, fun l hl' x hx => ?_, fun l hl' => ?_, fun x hx => ?_⟩
  · obtain ⟨r, hr, rfl⟩ := List.mem_map.mp hl'
    have RP := rowS_pairs (hR r hr)
    have lm := (row_name (hR r hr)).2
    obtain ⟨i, hi⟩ := List.mem_iff_getElem?.mp (show x ∈ possA sg r.parts from hx)
    have il : i < r.parts.length := by
      have := (List.getElem?_eq_some_iff.mp hi).1
      rwa [possA_len (by omega)] at this
    rw [possA_get (by omega) il] at hi
    cases hi
    have := RP _ (List.mem_append_left _ (List.getElem_mem il))
    show (sg[i] * _).natAbs ≤ 2097152
    rw [sg_mul so (by omega)]
    split <;> omega
  · obtain ⟨r, hr, rfl⟩ := List.mem_map.mp hl'
    have := rowS_pairs (hR r hr) r.bd (List.mem_append_right _ (List.mem_singleton.mpr rfl))
    show (r.bd.2).natAbs ≤ 2097152
    omega
  · obtain ⟨i, hi⟩ := List.mem_iff_getElem?.mp hx
    have il : i < cs.length := by
      have := (List.getElem?_eq_some_iff.mp hi).1
      rwa [sgCost_len (by omega)] at this
    rw [sgCost_get (by omega) il] at hi
    cases hi
    rw [sg_mul so (by omega)]
    exact Nat.le_trans (hc _ (List.getElem_mem il)) (by decide)
theorem low_of {rs : List Rw} {g : Rw → List Int × Int} {cs : List Int} (M : Mild (rs.map g) cs (2 ^ 21)) (h8 : rs.length ≤ 8) (m3 : cs.length ≤ 6) : Low (rs.map g).length cs.length (VOf (rs.map g) cs) := by
  refine M.low ?_
  have a : ((rs.map g).length + 1) * 2 ^ 21 ≤ 2 ^ 25 := by
    rw [List.length_map]
    exact Nat.le_trans (Nat.mul_le_mul_right _ (show rs.length + 1 ≤ 16 by omega)) (by decide)
  refine Nat.lt_of_le_of_lt (Nat.pow_le_pow_left a _) ?_
  rw [← Nat.pow_mul]
  refine Nat.pow_lt_pow_right (by decide) ?_
  have : 25 * (cs.length + 1) ≤ 25 * 7 := Nat.mul_le_mul_left _ (by omega)
  omega
theorem poss_low {rs : List Rw} {cs sg : List Int} {m : Nat} (hR : ∀ r ∈ rs, isRowD (rowD r) m = true) (so : SgOk sg m) (hl : cs.length = m) (hc : ∀ c ∈ cs, c.natAbs ≤ 2 ^ 20) (h8 : rs.length ≤ 8) (m3 : m ≤ 3) : Low (rs.map (pLim sg)).length (sgCost sg cs).length (VOf (rs.map (pLim sg)) (sgCost sg cs)) ∧ Low (rs.map (pLim sg)).length (sgCost sg cs).length (VOf (rs.map (pLim sg)) (zerosOf (sgCost sg cs))) := by
  have M := poss_mild hR so hl hc
  have sl := so.len
  have cl := sgCost_len (sg := sg) (cs := cs) (by omega)
  refine ⟨low_of M h8 (by omega), ?_⟩
  have M0 : Mild (rs.map (pLim sg)) (zerosOf (sgCost sg cs)) (2 ^ 21) := ⟨M.one, M.l1, M.l2, fun x hx => by rw [List.eq_of_mem_replicate hx]; exact Nat.zero_le _⟩
  have := low_of M0 h8 (by rw [zeros_len]; omega)
  rwa [zeros_len] at this
def PossA (t : Tb) (k m : Nat) (sg : List Int) (fs : List (Int × Int)) : Prop := fs.length = m ∧ ∀ (q : Nat) (f : Int × Int), fs[q]? = some f → ∃ (p : Int × Int) (s : Int), sg[q]? = some s ∧ AmtOf m t k q p ∧ f = (s * p.1, p.2)
/-- what is told of rows, signs and costs -/
def PossT (K : PySem.W.Frag) (H : Hp) (rs : List Rw) (sg cs : List Int) (a w : V) : Prop :=
  (∃ (ws : List (Int × Int)) (t : Tb) (i : Nat), a = .non ∧ Dq K H w (frsD ws) ∧ Shp (rs.map (pLim sg)).length (sgCost sg cs).length t ∧ (StOf (rs.map (pLim sg)) (sgCost sg cs) t ∨ StOf (rs.map (pLim sg)) (zerosOf (sgCost sg cs)) t) ∧ i < (rs.map (pLim sg)).length ∧ tT t i (sgCost sg cs).length < 0 ∧ (∀ j, j < (sgCost sg cs).length → 0 ≤ tT t i j) ∧ WgtsA t i (sgCost sg cs).length (rs.map (pLim sg)).length ws) ∨
  (∃ (fs ws : List (Int × Int)) (t : Tb), Dq K H a (frsD fs) ∧ Dq K H w (frsD ws) ∧ Shp (rs.map (pLim sg)).length (sgCost sg cs).length t ∧ StOf (rs.map (pLim sg)) (sgCost sg cs) t ∧ (∀ q, ¬ WrongT (rs.map (pLim sg)).length (sgCost sg cs).length t q) ∧ PossA t (rs.map (pLim sg)).length (sgCost sg cs).length sg fs ∧ WgtsA t (rs.map (pLim sg)).length (sgCost sg cs).length (rs.map (pLim sg)).length ws) ∨
  (∃ (fs : List (Int × Int)) (t t' : Tb) (j : Nat), Dq K H a (frsD fs) ∧ w = .non ∧ Shp (rs.map (pLim sg)).length (sgCost sg cs).length t ∧ StOf (rs.map (pLim sg)) (zerosOf (sgCost sg cs)) t ∧ (∀ q, ¬ WrongT (rs.map (pLim sg)).length (sgCost sg cs).length t q) ∧ PossA t (rs.map (pLim sg)).length (sgCost sg cs).length sg fs ∧ Shp (rs.map (pLim sg)).length (sgCost sg cs).length t' ∧ StOf (rs.map (pLim sg)) (sgCost sg cs) t' ∧ j < (sgCost sg cs).length ∧ tT t' (rs.map (pLim sg)).length j < 0 ∧ ∀ i, i < (rs.map (pLim sg)).length → tT t' i j ≤ 0)
abbrev NCp : List Str := ["rows", "costs", "signs", "limits", "amounts", "weights", "answer", "row", "sign", "cost", "top", "bottom"]
section
variable {P : Program} {w : World} {K : PySem.W.Frag} {mg : Str → Option Value} {base : Heap}
theorem scCp : FnScope NCp ["rows", "costs", "signs"] (defScope sCheapestPossible) := ⟨rfl, rfl, rfl, by decide +kernel, rfl, by decide +kernel, by decide +kernel⟩
/-! costs in a list -/
def spPossL (K : PySem.W.Frag) (d : Nat) : Sp := fun vs H Q _ => ∃ (x g : V) (c : Addr) (rs : List Rw) (sg cs : List Int), vs = [x, .ref c, g] ∧ Dq K H x (rowsD rs) ∧ IntsAt H c cs ∧ Dq K H g (sgD sg) ∧ SgOk sg cs.length ∧ (∀ r ∈ rs, isRowD (rowD r) cs.length = true) ∧ rs.length ≤ 8 ∧ 1 ≤ cs.length ∧ cs.length ≤ 3 ∧ (∀ c ∈ cs, c.natAbs ≤ 2 ^ 20) ∧ d ≠ 0 ∧ (d = 1 → cs = zerosOf cs) ∧
  ∀ H' y a w, Same H H' → SqT K H' y [a, w] → PossT K H' rs sg cs a w → Q (.ref y) H'
theorem ok_cheapPossL {d : Nat} {f fL fC : Addr} {fd fdL fdC : FuncData} (F : FnT K "cheapest_possible" sCheapestPossible f fd) (mtup : mg "tuple" = none) (mzip : mg "zip" = none)
    (gL : mg "possible_limit" = some (.ref fL)) (GL : FnOk P w K mg base CX0 1 fL fdL ["row", "signs"] (spPossLim K)) (kL : PySem.W.keepIn K (.ref fL) = true) (bL : Binds K fdL ["row", "signs"] [])
    (gC : mg "cheapest_amounts" = some (.ref fC)) (GC : FnOk P w K mg base CX0 6 fC fdC ["limits", "costs"] (spCheap K d)) (kC : PySem.W.keepIn K (.ref fC) = true) (bC : Binds K fdC ["limits", "costs"] []) :
    FnOk P w K mg base CX0 7 f fd ["rows", "costs", "signs"] (spPossL K d) := by
  refine F.ok scCp (fun vs H Q E h => ?_) (fun cdv A outer s H vs Q E hr h => ?_)
  · obtain ⟨x, g, c, rs, sg, cs, rfl, _⟩ := h
    rfl
  · obtain ⟨x, g, c, rs, sg, cs, rfl, dx, hc, dg, so, hR, h8, m1, m3, hb, d0, d1, q⟩ := h
    have nd := scCp.nd
    have hr1 : Room 1 _ := hr.mono (by decide)
    refine ⟨_, PSs.nox (pss_cons (ps_cut (ps_setLc (i := 3) (own := [("row", 7)]) (g := gName 7) (tt := tYes) rfl nd rfl rfl (sw_true rfl rfl rfl (by decide +kernel)) (pi_tup (pv 0))
          (blkOk_by (own := [("row", 7)]) (N := NCp) (sc := defScope sCheapestPossible) (by decide +kernel)) (fun _ _ _ _ _ => pg_name (i := 7) nd rfl (Or.inl rfl)) (fun _ _ _ _ _ => pts_nil)
          (fun _ _ _ _ _ => pe_call GL hr1 rfl gL kL bL .nil pass0 (pa_cons (pv 7) (pa_cons (pv 2) pa_nil)))))
      (pss_cons (ps_cut (ps_asg (pe_call GC hr rfl gC kC bC .nil pass0 (pa_cons (pv 3) (pa_cons
            (pe_lc (own := [("sign", 8), ("cost", 9)]) (g := gTup K 2 (gCons (gName 8) (gCons (gName 9) gNil))) (tt := tYes) rfl nd (CaZ.pi_zipQ (by rfl) mzip (pa_cons (pv 2) (pa_cons (pv 1) pa_nil))) (blkOk_by (own := [("sign", 8), ("cost", 9)]) (N := NCp) (sc := defScope sCheapestPossible) (by decide +kernel))
              (fun _ _ _ _ _ => pgT K rfl (pgs_cons (pg_name (i := 8) nd rfl (Or.inl rfl)) (pgs_cons (pg_name (i := 9) nd rfl (Or.inl rfl)) pgs_nil))) (fun _ _ _ _ _ => pts_nil)
              (fun _ _ _ _ _ => pe_op op_mul (pv 8) (pv 9))) pa_nil)))
          (pgTt K rfl (pgs_cons (pg_name (i := 4) nd rfl (.inl rfl)) (pgs_cons (pg_name (i := 5) nd rfl (.inl rfl)) pgs_nil)))))
      (pss_cons (ps_cut (ps_if (pt_cmpR op_isN (pv 4) pe_non (nomark _)) (pss_one (ps_ret (pe_tup (pa_cons pe_non (pa_cons (pe_callTy call_tuple_of (by rfl) mtup (by decide +kernel) (pa_cons (pv 5) pa_nil)) pa_nil))))) pss_nil))
      (pss_cons (ps_cut (ps_set (i := 6) nd rfl (.inl rfl) (pe_callTy call_tuple_of (by rfl) mtup (by decide +kernel) (pa_cons (pe_lc (own := [("sign", 8), ("top", 10), ("bottom", 11)]) (g := gTup K 2 (gCons (gName 8) (gCons (gTup K 2 (gCons (gName 10) (gCons (gName 11) gNil))) gNil))) (tt := tYes) rfl nd (CaZ.pi_zipQ (by rfl) mzip (pa_cons (pv 2) (pa_cons (pv 4) pa_nil)))
            (blkOk_by (own := [("sign", 8), ("top", 10), ("bottom", 11)]) (N := NCp) (sc := defScope sCheapestPossible) (by decide +kernel))
            (fun _ _ _ _ _ => pgT K rfl (pgs_cons (pg_name (i := 8) nd rfl (Or.inl rfl)) (pgs_cons (pgT K rfl (pgs_cons (pg_name (i := 10) nd rfl (Or.inl rfl)) (pgs_cons (pg_name (i := 11) nd rfl (Or.inl rfl)) pgs_nil))) pgs_nil))) (fun _ _ _ _ _ => pts_nil)
            (fun _ _ _ _ _ => pe_tup (pa_cons (pe_op op_mul (pv 8) (pv 10)) (pa_cons (pv 11) pa_nil)))) pa_nil))))
      (pss_one (ps_ret (pe_tup (pa_cons (pv 6) (pa_cons (pe_ifExp (pt_cmpR op_isN (pv 5) pe_non (nomark _)) pe_non (pe_callTy call_tuple_of (by rfl) mtup (by decide +kernel) (pa_cons (pv 5) pa_nil))) pa_nil))))))))), ?_⟩
    have sl := so.len
    have cl := sgCost_len (sg := sg) (cs := cs) (by omega)
    obtain ⟨lo, lo0⟩ := poss_low hR so rfl hb h8 m3
    obtain ⟨xa, xs, rfl, hx, dxs, hxl⟩ := tup_len dx
    obtain ⟨ga, gvs, rfl, hga, dga, gl⟩ := tup_len dg
    rw [List.length_map] at hxl gl
    refine ⟨fun σ' H' => ∃ p, σ' = [some (.ref xa), some (.ref c), some (.ref ga), some (.ref p), none, none, none, none, none, none, none, none] ∧ Same H H' ∧ LimsAt K H' p (rs.map (pLim sg)), ?_, ?_⟩
    · refine ⟨_, rfl, xa, rfl, ⟨_, hx⟩, fun D hD => ?_⟩
      refine lc_it (walk_tup (K := K) (a := xa) (xs := xs)) (fun k H' => Same H H' ∧ ∃ ps : List Addr, H' D = some (.lst (ps.map V.ref)) ∧ ps.length = k ∧ ∀ (i : Nat) (p : Addr) (l : List Int × Int), ps[i]? = some p → (rs.map (pLim sg))[i]? = some l → ∃ q, SqT K H' p [.ref q, .int l.2] ∧ IntsAt H' q l.1)
        ⟨Same.new hD, [], upd_same, rfl, fun i p l h => nomatch (List.getElem?_nil.symm.trans h : (none : Option Addr) = some p)⟩ (fun k H' hk p => same_sqt p.1 hx) ?_ ?_
      · rintro k z H2 H2x hk ⟨s2, ps, bD, lps, ok⟩ ⟨e2, hz⟩
        subst e2
        have hkr : k < rs.length := by omega
        obtain ⟨d', hd, dq⟩ := (dxs.same s2).get hz
        rw [List.getElem?_map, List.getElem?_eq_getElem hkr] at hd
        cases hd
        refine ⟨rfl, rdYes ⟨_, rfl, _, rfl, z, .ref ga, rs[k], sg, cs.length, rfl, dq, hR _ (List.getElem_mem hkr), m3, dg.same s2, so, fun H3 y p s3 hy hp => ?_⟩⟩
        have bD3 := s3 _ _ bD
        have kn : KeptN D H3 (upd H3 D (.lst (ps.map V.ref ++ [.ref y]))) := fun b o ne e _ => by rw [upd_ne ne]; exact e
        have iup : ∀ {q : Addr} {r : Rw}, isRowD (rowD r) cs.length = true → IntsAt H3 q (pLim sg r).1 → IntsAt (upd H3 D (.lst (ps.map V.ref ++ [.ref y]))) q (pLim sg r).1 := fun {q r} hr' h => by
          have ne : q ≠ D := fun e => by
            subst e
            have e1 := h.symm.trans bD3
            injection e1 with e1
            injection e1 with e1
            have lp := (row_name hr').2
            have hne : (pLim sg r).1 ≠ [] := fun z => by
              have := congrArg List.length z
              rw [show (pLim sg r).1 = possA sg r.parts from rfl, possA_len (by omega), List.length_nil] at this
              omega
            cases hs : (pLim sg r).1 with
            | nil => exact hne hs
            | cons i t =>
              rw [hs] at e1
              cases ps with
              | nil => cases e1
              | cons a b => cases e1
          show upd _ _ _ _ = _
          rw [upd_ne ne]
          exact h
        refine ⟨_, bD3, ?_, fun b' o e => ?_, ps ++ [y], ?_, by rw [List.length_append, lps]; rfl, fun i p' l' h1 h2 => ?_⟩
        · rw [List.length_map, lps]
          exact Nat.lt_of_lt_of_le (show k < 10 by omega) (by decide)
        · rw [upd_ne (ne_of_none e hD)]
          exact s3 _ _ (s2 _ _ e)
        · rw [upd_same, List.map_append]
          rfl
        · have il : i < rs.length := by
            have := (List.getElem?_eq_some_iff.mp h2).1
            rwa [List.length_map] at this
          rw [List.getElem?_map, List.getElem?_eq_getElem il] at h2
          cases h2
          have hri := hR _ (List.getElem_mem il)
          by_cases hi : i < ps.length
          · rw [List.getElem?_append_left hi] at h1
            obtain ⟨q', g1, g2⟩ := ok i p' (pLim sg rs[i]) h1 (by rw [List.getElem?_map, List.getElem?_eq_getElem il]; rfl)
            exact ⟨q', sqt_butN bD3 kn (same_sqt s3 g1), iup hri (s3 _ _ g2)⟩
          · have hi' : i = ps.length := by
              have := (List.getElem?_eq_some_iff.mp h1).1
              rw [List.length_append] at this
              have e1 : [y].length = 1 := rfl
              omega
            subst hi'
            rw [List.getElem?_concat_length] at h1
            cases h1
            subst lps
            exact ⟨p, sqt_butN bD3 kn hy, iup hri hp⟩
      · rintro H2 ⟨s2, ps, bD, lps, ok⟩
        exact ⟨D, rfl, s2, ps, bD, by rw [lps, hxl, List.length_map], ok⟩
    rintro _ H1 ⟨p, rfl, s1, hp⟩
    have hc1 := s1 _ _ hc
    have hga1 := same_sqt s1 hga
    refine ⟨fun σ' H' => ∃ (y : Addr) (a w' : V), σ' = [some (.ref xa), some (.ref c), some (.ref ga), some (.ref p), some a, some w', none, none, none, none, none, none] ∧ Same H1 H' ∧ Told K H' (rs.map (pLim sg)) (sgCost sg cs) a w', ?_, ?_⟩
    · refine ⟨_, rfl, _, rfl, _, rfl, ga, c, _, _, rfl, hga1, SqL.of hc1, fun D hD => ?_⟩
      refine lc_it (CaZ.walk_zq (K := K) (a := ga) (b := c) (xs := gvs) (ys := cs.map V.int) (n := cs.length) (by omega) (List.length_map ..)) (fun k H' => Same H1 H' ∧ H' D = some (.lst (((sgCost sg cs).take k).map V.int))) ⟨Same.new hD, upd_same⟩ (fun k H' hk p' => ⟨same_sqt p'.1 hga1, SqL.of (p'.1 _ _ hc1)⟩) ?_ ?_
      · rintro k z H2 H2x hk ⟨s2, bD⟩ ⟨T, x1, y1, rfl, hT, rfl, hx', hy'⟩
        have s3 := Same.new (o := .tup [x1, y1]) hT
        have s23 := s2.trans s3
        have hks : k < sg.length := by omega
        obtain rfl := sg_get ((dga.same s1).same s23) hks hx'
        obtain rfl : y1 = .int cs[k] := by
          replace hy' : (cs.map V.int)[k]? = some y1 := hy'
          rw [List.getElem?_map, List.getElem?_eq_getElem hk] at hy'
          cases hy'
          rfl
        have sb : -(2 ^ 64) < sg[k] ∧ sg[k] < 2 ^ 64 := by
          rcases so.ok _ (List.getElem_mem hks) with e | e <;> rw [e] <;> decide
        refine ⟨T, _, rfl, SqT.of upd_same, rfl, _, _, rfl, _, _, rfl, ⟨rfl, rfl, rdYes ?_⟩⟩
        refine ⟨_, rfl, _, rfl, _, _, rfl, rfl, .inl sb, _, s3 _ _ bD, ?_, fun b' o e => ?_, ?_⟩
        · rw [List.length_map, List.length_take]
          exact Nat.lt_of_le_of_lt (Nat.le_trans (Nat.min_le_left ..) (show k ≤ 10 by omega)) (by decide)
        · rw [upd_ne (ne_of_none e hD)]
          exact s23 _ _ e
        · rw [upd_same, List.take_succ, sgCost_get hks hk, List.map_append]
          rfl
      · rintro H2 ⟨s2, bD⟩
        rw [List.take_of_length_le (by omega)] at bD
        refine ⟨p, D, rs.map (pLim sg), sgCost sg cs, rfl, hp.same s2, bD, fun l hl => ?_, by rw [List.length_map]; omega, by omega, lo, lo0, d0, fun e => sgCost_zeros sg cs (by omega) (d1 e), fun H' y a' w' s' hy tl => ⟨y, _, rfl, hy, rfl, _, _, rfl, _, _, rfl, rfl, y, a', w', rfl, s2.trans s', tl⟩⟩
        obtain ⟨r, hr', rfl⟩ := List.mem_map.mp hl
        have lm := (row_name (hR r hr')).2
        show (possA sg r.parts).length = _
        rw [possA_len (by omega), cl, lm]
    rintro _ H2 ⟨y, a, w', rfl, s2, told⟩
    have s12 := s1.trans s2
    have hga2 := same_sqt s12 hga
    have two : 2 ≤ sizeLine := by decide
    rcases told with ⟨y1, t, i, rfl, rfl, sh, st, hi, neg, pos, vs, hv, lv, rv⟩ | told
    · refine ⟨fun _ _ => False, ?_, fun _ _ h => h.elim⟩
      obtain ⟨ws, lw, dw, kw⟩ := frs_build (R := fun k p => WgtOf (sgCost sg cs).length t i ((sgCost sg cs).length + k) p) vs 0 fun q' v h => by
        obtain ⟨p', d', r'⟩ := rv q' v h
        exact ⟨p', d', by rw [Nat.zero_add]; exact r'⟩
      refine ⟨_, rfl, rfl, _, rfl, ?_⟩
      rw [decide_eq_true rfl]
      refine iteT ⟨_, rfl, y1, vs, rfl, .inl ⟨SqL.of hv, fun tr htr => ⟨two, fun y' hy' => ?_⟩⟩⟩
      have w1 := Same.new (o := .tup vs) htr
      have w2 := Same.new (o := .tup [.non, .ref tr]) hy'
      refine q _ y' .non (.ref tr) (s12.trans (w1.trans w2)) (SqT.of upd_same) (.inl ⟨ws, t, i, rfl, .tup (same_sqt w2 (SqT.of upd_same)) (dw.same (w1.trans w2)), sh, st, hi, neg, pos, by rw [lw, lv], fun k p' h => ?_⟩)
      have := kw k p' h
      rwa [Nat.zero_add] at this
    obtain ⟨y1, t, rfl, sh, am, rest⟩ : ∃ (y1 : Addr) (t : Tb), a = .ref y1 ∧ Shp (rs.map (pLim sg)).length (sgCost sg cs).length t ∧ AmtsAt K H2 y1 (sgCost sg cs).length t (rs.map (pLim sg)).length ∧
        ((∃ y2, w' = .ref y2 ∧ StOf (rs.map (pLim sg)) (sgCost sg cs) t ∧ (∀ q, ¬ WrongT (rs.map (pLim sg)).length (sgCost sg cs).length t q) ∧ FrsAt K H2 y2 (rs.map (pLim sg)).length fun k p => WgtOf (sgCost sg cs).length t (rs.map (pLim sg)).length ((sgCost sg cs).length + k) p) ∨
         (∃ (t' : Tb) (j : Nat), w' = .non ∧ StOf (rs.map (pLim sg)) (zerosOf (sgCost sg cs)) t ∧ (∀ q, ¬ WrongT (rs.map (pLim sg)).length (sgCost sg cs).length t q) ∧ Shp (rs.map (pLim sg)).length (sgCost sg cs).length t' ∧ StOf (rs.map (pLim sg)) (sgCost sg cs) t' ∧ j < (sgCost sg cs).length ∧ tT t' (rs.map (pLim sg)).length j < 0 ∧ ∀ i, i < (rs.map (pLim sg)).length → tT t' i j ≤ 0)) := by
      rcases told with ⟨y1, y2, t, rfl, rfl, sh, st, no, am, fr⟩ | ⟨y1, t, t', j, rfl, rfl, sh, st, no, am, sh', st', hj, neg, col⟩
      · exact ⟨y1, t, rfl, sh, am, .inl ⟨y2, rfl, st, no, fr⟩⟩
      · exact ⟨y1, t, rfl, sh, am, .inr ⟨t', j, rfl, st, no, sh', st', hj, neg, col⟩⟩
    obtain ⟨vs, hv, lv, rv⟩ := am
    refine ⟨fun σ' H' => σ' = [some (.ref xa), some (.ref c), some (.ref ga), some (.ref p), some (.ref y1), some w', none, none, none, none, none, none] ∧ H' = H2, ?_, ?_⟩
    · refine ⟨_, rfl, rfl, _, rfl, ?_⟩
      rw [decide_eq_false (fun z => nomatch z)]
      exact iteF ⟨rfl, rfl⟩
    rintro _ H3 ⟨rfl, rfl⟩
    refine ⟨fun σ' H' => ∃ (g : Addr) (fs : List (Int × Int)), σ' = [some (.ref xa), some (.ref c), some (.ref ga), some (.ref p), some (.ref y1), some w', some (.ref g), none, none, none, none, none] ∧ Same H3 H' ∧ Dq K H' (.ref g) (frsD fs) ∧ PossA t (rs.map (pLim sg)).length (sgCost sg cs).length sg fs, ?_, ?_⟩
    · refine ⟨_, rfl, _, rfl, ga, y1, _, _, rfl, hga2, SqL.of hv, fun D hD => ?_⟩
      refine lc_it (CaZ.walk_zq (K := K) (a := ga) (b := y1) (xs := gvs) (ys := vs) (n := cs.length) (by omega) (by omega)) (fun k H' => Same H3 H' ∧ ∃ (us : List V) (fs : List (Int × Int)), H' D = some (.lst us) ∧ DqAll K H' us (fs.map frD) ∧ fs.length = k ∧ ∀ (q : Nat) (f : Int × Int), fs[q]? = some f → ∃ (p : Int × Int) (s : Int), sg[q]? = some s ∧ AmtOf (sgCost sg cs).length t (rs.map (pLim sg)).length q p ∧ f = (s * p.1, p.2))
        ⟨Same.new hD, [], [], upd_same, .nil, rfl, fun q f h => nomatch (List.getElem?_nil.symm.trans h : (none : Option (Int × Int)) = some f)⟩ (fun k H' hk p => ⟨same_sqt p.1 hga2, SqL.of (p.1 _ _ hv)⟩) ?_ ?_
      · rintro k z H4 H4x hk ⟨s4, us, fs, bD, du, lf, ok⟩ ⟨T, x1', y1', rfl, hT, rfl, hx', hy'⟩
        have s5 := Same.new (o := .tup [x1', y1']) hT
        have s45 := s4.trans s5
        have hks : k < sg.length := by omega
        obtain rfl := sg_get ((dga.same s12).same s45) hks hx'
        obtain ⟨f1, d1', a1⟩ := rv k y1' hy'
        obtain ⟨pa, rfl, hpa⟩ := fr_at (d1'.same s45)
        have sb : -(2 ^ 64) < sg[k] ∧ sg[k] < 2 ^ 64 := by
          rcases so.ok _ (List.getElem_mem hks) with e | e <;> rw [e] <;> decide
        refine ⟨T, _, rfl, SqT.of upd_same, rfl, _, _, rfl, _, _, rfl, ⟨pa, _, rfl, hpa, rfl, _, _, rfl, _, _, rfl, rfl, ⟨rfl, rfl, rdYes ?_⟩⟩⟩
        refine ⟨_, rfl, _, rfl, _, _, rfl, rfl, .inl sb, _, rfl, two, fun yn hyn => ?_⟩
        have s6 := Same.new (o := .tup [.int (sg[k] * f1.1), .int f1.2]) hyn
        have bD6 := s6 _ _ (s5 _ _ bD)
        have kn : KeptN D (upd (upd H4 T (.tup [.int sg[k], .ref pa])) yn (.tup [.int (sg[k] * f1.1), .int f1.2])) (upd (upd (upd H4 T (.tup [.int sg[k], .ref pa])) yn (.tup [.int (sg[k] * f1.1), .int f1.2])) D (.lst (us ++ [.ref yn]))) := fun b o ne e _ => by rw [upd_ne ne]; exact e
        have lu := du.len
        rw [List.length_map] at lu
        refine ⟨_, bD6, ?_, fun b' o e => ?_, us ++ [.ref yn], fs ++ [(sg[k] * f1.1, f1.2)], upd_same, ?_, by rw [List.length_append, lf]; rfl, fun i f hi => ?_⟩
        · exact Nat.lt_of_lt_of_le (show us.length < 10 by omega) (by decide)
        · rw [upd_ne (ne_of_none e hD)]
          exact s6 _ _ (s45 _ _ e)
        · exact (DrAll.but bD6 kn (drAll_of (noLs_map frD (fun _ => rfl) (fs ++ [(sg[k] * f1.1, f1.2)])) (by rw [List.map_append]; exact (du.same (s5.trans s6)).app (.cons (fr_of upd_same) .nil)))).dq
        · by_cases hif : i < fs.length
          · rw [List.getElem?_append_left hif] at hi
            exact ok i f hi
          · have hi' : i = fs.length := by
              have := (List.getElem?_eq_some_iff.mp hi).1
              rw [List.length_append] at this
              have e1 : [(sg[k] * f1.1, f1.2)].length = 1 := rfl
              omega
            subst hi'
            rw [List.getElem?_concat_length] at hi
            cases hi
            subst lf
            exact ⟨f1, sg[fs.length], List.getElem?_eq_getElem hks, a1, rfl⟩
      · rintro H4 ⟨s4, us, fs, bD, du, lf, ok⟩
        refine ⟨D, us, rfl, .inl ⟨SqL.of bD, fun tr htr => ?_⟩⟩
        have w1 := Same.new (o := .tup us) htr
        exact ⟨tr, fs, rfl, s4.trans w1, .tup (SqT.of upd_same) (du.same w1), by rw [lf, cl], ok⟩
    rintro _ H4 ⟨g, fs, rfl, s4, dg4, sa⟩
    rcases rest with ⟨y2, rfl, st, no, vs2, hv2, lv2, rv2⟩ | ⟨t', j, rfl, st, no, sh', st', hj, neg, col⟩
    · obtain ⟨ws, lw, dw, kw⟩ := frs_build (R := fun k p => WgtOf (sgCost sg cs).length t (rs.map (pLim sg)).length ((sgCost sg cs).length + k) p) vs2 0 fun q' v h => by
        obtain ⟨p', d', r'⟩ := rv2 q' v h
        exact ⟨p', d', by rw [Nat.zero_add]; exact r'⟩
      refine ⟨_, rfl, _, rfl, rfl, _, rfl, ?_⟩
      rw [decide_eq_false (fun z => nomatch z)]
      refine iteF ⟨_, rfl, y2, vs2, rfl, .inl ⟨SqL.of (s4 _ _ hv2), fun tr htr => ⟨two, fun y' hy' => ?_⟩⟩⟩
      have w1 := Same.new (o := .tup vs2) htr
      have w2 := Same.new (o := .tup [.ref g, .ref tr]) hy'
      refine q _ y' (.ref g) (.ref tr) (s12.trans (s4.trans (w1.trans w2))) (SqT.of upd_same) (.inr (.inl ⟨fs, ws, t, dg4.same (w1.trans w2), .tup (same_sqt w2 (SqT.of upd_same)) (dw.same (s4.trans (w1.trans w2))), sh, st, no, sa, by rw [lw, lv2], fun k p' h => ?_⟩))
      have := kw k p' h
      rwa [Nat.zero_add] at this
    · refine ⟨_, rfl, _, rfl, rfl, _, rfl, ?_⟩
      rw [decide_eq_true rfl]
      refine iteT ⟨two, fun y' hy' => ?_⟩
      have w2 := Same.new (o := .tup [.ref g, .non]) hy'
      exact q _ y' (.ref g) .non (s12.trans (s4.trans w2)) (SqT.of upd_same) (.inr (.inr ⟨fs, t, t', j, dg4.same w2, rfl, sh, st, no, sa, sh', st', hj, neg, col⟩))
/-! costs in a tuple -/
end
end Ca
set_option Elab.async false
set_option linter.all false
set_option maxRecDepth 100000
set_option maxHeartbeats 8000000
namespace Ca
/-! ### possible answers, sign by sign -/
def lessQ2 (a b : Rat) : Rat := if a ≤ b then a else b
theorem lessQ2_left {a b : Rat} (h : a ≤ b) : lessQ2 a b = a := by
  unfold lessQ2
  rw [if_pos h]
theorem lessQ2_right {a b : Rat} (h : b ≤ a) : lessQ2 a b = b := by
  unfold lessQ2
  split
  · grind
  · rfl
/-- the least that a row can make of values -/
def leastQ (lo hi : Nat → Rat) (x : Nat → Rat) (n : Nat) : Rat := qsum (fun j => lessQ2 (lo j * x j) (hi j * x j)) n
def PossQ (S : List SRow) (n : Nat) (x : Nat → Rat) : Prop := ∀ r ∈ S, leastQ r.lo r.hi x n ≤ r.bd
/-- a row of signs -/
def Signs (s : Nat → Rat) (n : Nat) : Prop := ∀ j, j < n → s j = 1 ∨ s j = -1
/-- the end that makes a sum the least, with its sign -/
def endS (s lo hi : Nat → Rat) (j : Nat) : Rat := if s j = 1 then s j * lo j else s j * hi j
theorem least_sign {s lo hi u : Nat → Rat} {n : Nat} (hs : Signs s n) (hl : ∀ j, j < n → lo j ≤ hi j) (hu : ∀ j, j < n → 0 ≤ u j) : leastQ lo hi (fun j => s j * u j) n = qsum (fun j => endS s lo hi j * u j) n := by
  refine qsum_congr n fun j hj => ?_
  have l := hl j hj
  have a := hu j hj
  have m := Rat.mul_le_mul_of_nonneg_right l a
  show lessQ2 (lo j * (s j * u j)) (hi j * (s j * u j)) = endS s lo hi j * u j
  unfold endS
  rcases hs j hj with e | e
  · rw [e, if_pos rfl]
    rw [lessQ2_left (by grind)]
    grind
  · rw [e, if_neg (by decide)]
    rw [lessQ2_right (by grind)]
    grind
theorem sign_split (x : Nat → Rat) (n : Nat) : ∃ s u : Nat → Rat, Signs s n ∧ (∀ j, 0 ≤ u j) ∧ ∀ j, x j = s j * u j := by
  refine ⟨fun j => if 0 ≤ x j then 1 else -1, fun j => if 0 ≤ x j then x j else -x j, fun j _ => ?_, fun j => ?_, fun j => ?_⟩
  · show (if 0 ≤ x j then (1 : Rat) else -1) = 1 ∨ (if 0 ≤ x j then (1 : Rat) else -1) = -1
    split
    · exact .inl rfl
    · exact .inr rfl
  · show 0 ≤ (if 0 ≤ x j then x j else -x j)
    split
    · assumption
    · grind
  · show x j = (if 0 ≤ x j then (1 : Rat) else -1) * (if 0 ≤ x j then x j else -x j)
    split
    · grind
    · grind
/-- amounts that keep the limits of these signs are a possible answer, and a possible answer is such amounts for some signs -/
def AmtsQ (S : List SRow) (n : Nat) (s u : Nat → Rat) : Prop := (∀ j, j < n → 0 ≤ u j) ∧ ∀ r ∈ S, qsum (fun j => endS s r.lo r.hi j * u j) n ≤ r.bd
theorem poss_of_amts {S : List SRow} {n : Nat} {s u : Nat → Rat} (hl : ∀ r ∈ S, ∀ j, j < n → r.lo j ≤ r.hi j) (hs : Signs s n) (h : AmtsQ S n s u) : PossQ S n fun j => s j * u j := fun r hr => by
  rw [least_sign hs (hl r hr) h.1]
  exact h.2 r hr
theorem amts_of_poss {S : List SRow} {n : Nat} {s u : Nat → Rat} (hl : ∀ r ∈ S, ∀ j, j < n → r.lo j ≤ r.hi j) (hs : Signs s n) (hu : ∀ j, j < n → 0 ≤ u j) (h : PossQ S n fun j => s j * u j) : AmtsQ S n s u :=
  ⟨hu, fun r hr => by
    rw [← least_sign hs (hl r hr) hu]
    exact h r hr⟩
end Ca
set_option Elab.async false
set_option linter.all false
set_option maxRecDepth 100000
set_option maxHeartbeats 8000000
namespace Ca
open PySem L2
/-! ### where nothing is wrong the amounts cost the least -/
section
variable {ls : List (List Int × Int)} {cs : List Int} {t : Tb}
theorem feas_opt (sh : Shp ls.length cs.length t) (so : StOf ls cs t) (no : ∀ q, ¬ WrongT ls.length cs.length t q) : ∃ x : Nat → Rat, Feas ls cs.length x ∧ (∀ q p, q < cs.length → AmtOf cs.length t ls.length q p → x q = (p.1 : Rat) / (p.2 : Rat)) ∧ ∀ z, Feas ls cs.length z → qsum (fun j => ((cosC cs j : Int) : Rat) * x j) cs.length ≤ qsum (fun j => ((cosC cs j : Int) : Rat) * z j) cs.length := by
  obtain ⟨S, rp, ok, _⟩ := so
  obtain ⟨y, y1, y2, y3, y4⟩ := ok.primal
  have D0 : 0 < S.D := ok.dic.pos
  have Dq : (0 : Rat) < (S.D : Rat) := by exact_mod_cast D0
  have pos : ∀ q, q < cs.length + ls.length → 0 ≤ y q := fun q hq => by
    have hp := ok.pm.mem_iff (a := q)
    have hm : q ∈ S.bs ++ S.fs := hp.mpr (List.mem_range.mpr (by omega))
    rcases List.mem_append.mp hm with h | h
    · obtain ⟨l, hl⟩ := List.mem_iff_getElem?.mp h
      rw [y1 l q hl]
      have ll := (List.getElem?_eq_some_iff.mp hl).1
      have bl := ok.bl
      by_cases g : S.T l cs.length < 0
      · exact absurd ((rp.wrong sh).mpr (.inl ⟨l, hl, g⟩)) (no q)
      · omega
    · rw [y2 q h]
      exact Int.le_refl 0
  refine ⟨fun q => (y q : Rat) / (S.D : Rat), ⟨fun j hj => div_nonneg' (pos j (by omega)) D0, fun i hi => ?_⟩, fun q p hq am => ?_, fun z hz => ?_⟩
  · have e := y3 i hi
    have p := pos (cs.length + i) (by omega)
    have le : Det.rsum (fun j => limA ls i j * y j) cs.length ≤ S.D * limB ls i := by omega
    have leq : ((Det.rsum (fun j => limA ls i j * y j) cs.length : Int) : Rat) ≤ ((S.D * limB ls i : Int) : Rat) := by exact_mod_cast le
    rw [rsum_q, Rat.intCast_mul] at leq
    have e2 : qsum (fun j => ((limA ls i j * y j : Int) : Rat)) cs.length = (S.D : Rat) * qsum (fun j => (limA ls i j : Rat) * ((y j : Rat) / (S.D : Rat))) cs.length := by
      rw [← qsum_mul]
      refine qsum_congr _ fun j _ => ?_
      rw [Rat.intCast_mul]
      have : (S.D : Rat) ≠ 0 := by grind
      grind
    rw [e2] at leq
    exact Rat.le_of_mul_le_mul_left leq Dq
  · have tD : t.D = S.D := rp.D
    rcases am with ⟨l, l1, l2, rd⟩ | ⟨h, rfl⟩
    · rw [rp.bs] at l2
      rw [rp.T l cs.length (by omega) (Nat.le_refl _), tD] at rd
      show (y q : Rat) / (S.D : Rat) = _
      rw [y1 l q l2]
      have c := rd.cross
      have p2 := rd.pos
      have c' : (p.1 : Rat) * (S.D : Rat) = (S.T l cs.length : Rat) * (p.2 : Rat) := by exact_mod_cast c
      have p2' : (0 : Rat) < (p.2 : Rat) := by exact_mod_cast p2
      have h1 : (S.D : Rat) ≠ 0 := by grind
      have h2 : (p.2 : Rat) ≠ 0 := by grind
      grind
    · have hm : q ∈ S.bs ++ S.fs := (ok.pm.mem_iff (a := q)).mpr (List.mem_range.mpr (by omega))
      rcases List.mem_append.mp hm with hb | hf
      · obtain ⟨l, hl⟩ := List.mem_iff_getElem?.mp hb
        have ll := (List.getElem?_eq_some_iff.mp hl).1
        have bl := ok.bl
        exact absurd (by rw [rp.bs]; exact hl) (h l (by omega))
      · show (y q : Rat) / (S.D : Rat) = _
        rw [y2 q hf]
        have h1 : (S.D : Rat) ≠ 0 := by grind
        show ((0 : Int) : Rat) / (S.D : Rat) = ((0 : Int) : Rat) / ((1 : Int) : Rat)
        grind
  · have bl := ok.bl
    have fl := ok.fl
    have fnd : (S.bs ++ S.fs).Nodup := ok.pm.nodup_iff.mpr List.nodup_range
    obtain ⟨_, fnd1, dis⟩ := List.nodup_append.mp fnd
    let W : Nat → Int := fun q => if q ∈ S.fs then S.T ls.length (S.fs.idxOf q) else 0
    have w1 : ∀ l q, S.fs[l]? = some q → W q = S.T ls.length l := fun l q hq => by
      have qm : q ∈ S.fs := List.mem_of_getElem? hq
      show (if q ∈ S.fs then S.T ls.length (S.fs.idxOf q) else _) = _
      rw [if_pos qm]
      have e : S.fs.idxOf q = l := by
        have hlt : S.fs.idxOf q < S.fs.length := List.idxOf_lt_length_iff.mpr qm
        have g := List.getElem_idxOf hlt
        refine (List.getElem?_inj hlt fnd1).mp ?_
        rw [List.getElem?_eq_getElem hlt, g, hq]
      rw [e]
    have w2 : ∀ q ∈ S.bs, W q = if q = ls.length + cs.length then S.D else 0 := fun q hq => by
      have lt : q < ls.length + cs.length := List.mem_range.mp ((ok.pm.mem_iff (a := q)).mp (List.mem_append_left _ hq))
      show (if q ∈ S.fs then _ else _) = _
      rw [if_neg fun z => dis q hq q z rfl, if_neg (by omega)]
    have ht : (S.bs ++ [ls.length + cs.length])[ls.length]? = some (ls.length + cs.length) := by
      rw [List.getElem?_append_right (by omega), bl, Nat.sub_self]
      rfl
    obtain ⟨d1, d2⟩ := Det.Ok.dual ok ht w1 w2 (e := S.D) (by rw [if_pos rfl])
    have wpos : ∀ q, q < ls.length + cs.length → 0 ≤ W q := fun q hq => by
      rcases List.mem_append.mp ((ok.pm.mem_iff (a := q)).mpr (List.mem_range.mpr hq)) with h | h
      · rw [w2 q h]
        split <;> omega
      · obtain ⟨l, hl⟩ := List.mem_iff_getElem?.mp h
        rw [w1 l q hl]
        by_cases g : S.T ls.length l < 0
        · exact absurd ((rp.wrong sh).mpr (.inr ⟨l, hl, g⟩)) (no q)
        · omega
    obtain ⟨x0, xl⟩ := hz
    have a1 : (0 : Rat) ≤ qsum (fun j => ((W j : Int) : Rat) * z j) cs.length := qsum_nonneg _ fun j hj => by
      have : (0 : Rat) ≤ ((W j : Int) : Rat) := by exact_mod_cast wpos j (by omega)
      exact Rat.mul_nonneg this (x0 j hj)
    have a2 : qsum (fun j => ((W j : Int) : Rat) * z j) cs.length = qsum (fun k => ((W (cs.length + k) : Int) : Rat) * qsum (fun j => ((limA ls k j : Int) : Rat) * z j) cs.length) ls.length + (S.D : Rat) * qsum (fun j => ((cosC cs j : Int) : Rat) * z j) cs.length := by
      have e : ∀ j, j < cs.length → ((W j : Int) : Rat) * z j = qsum (fun k => ((W (cs.length + k) : Int) : Rat) * (((limA ls k j : Int) : Rat) * z j)) ls.length + (S.D : Rat) * (((cosC cs j : Int) : Rat) * z j) := fun j hj => by
        have d := d1 j hj
        have d' : ((Det.rsum (fun i => limA ls i j * W (cs.length + i)) ls.length : Int) : Rat) = ((W j : Int) : Rat) - (S.D : Rat) * ((cosC cs j : Int) : Rat) := by
          rw [d, Rat.intCast_sub, Rat.intCast_mul]
        rw [rsum_q] at d'
        have e3 : qsum (fun k => ((W (cs.length + k) : Int) : Rat) * (((limA ls k j : Int) : Rat) * z j)) ls.length = z j * qsum (fun i => ((limA ls i j * W (cs.length + i) : Int) : Rat)) ls.length := by
          rw [← qsum_mul]
          refine qsum_congr _ fun k _ => ?_
          rw [Rat.intCast_mul]
          grind
        rw [e3, d']
        grind
      rw [qsum_congr _ e, qsum_add, qsum_swap, qsum_mul]
      congr 1
      exact qsum_congr _ fun k _ => qsum_mul _ _ _
    have a3 : qsum (fun k => ((W (cs.length + k) : Int) : Rat) * qsum (fun j => ((limA ls k j : Int) : Rat) * z j) cs.length) ls.length ≤ qsum (fun k => ((limB ls k * W (cs.length + k) : Int) : Rat)) ls.length := qsum_le _ fun k hk => by
      have : (0 : Rat) ≤ ((W (cs.length + k) : Int) : Rat) := by exact_mod_cast wpos (cs.length + k) (by omega)
      have := Rat.mul_le_mul_of_nonneg_left (xl k hk) this
      rw [Rat.intCast_mul]
      grind
    rw [← rsum_q, d2] at a3
    have c1 : (S.D : Rat) * qsum (fun j => ((cosC cs j : Int) : Rat) * ((y j : Rat) / (S.D : Rat))) cs.length = -((S.T ls.length cs.length : Int) : Rat) := by
      rw [← qsum_mul]
      have : ((Det.rsum (fun j => cosC cs j * y j) cs.length : Int) : Rat) = ((-S.T ls.length cs.length : Int) : Rat) := by rw [y4]
      rw [rsum_q, Rat.intCast_neg] at this
      rw [← this]
      refine qsum_congr _ fun j _ => ?_
      rw [Rat.intCast_mul]
      have : (S.D : Rat) ≠ 0 := by grind
      grind
    refine Rat.le_of_mul_le_mul_left (c := (S.D : Rat)) ?_ Dq
    rw [c1]
    grind
end
end Ca
set_option Elab.async false
set_option linter.all false
set_option maxRecDepth 100000
set_option maxHeartbeats 8000000
namespace Ca.Det
section
variable {V : Nat → Col} {m n : Nat} {S : Sta}
end
end Ca.Det
namespace Ca
open PySem L2
/-! ### a column that is stuck: costs have no least -/
section
variable {ls : List (List Int × Int)} {cs : List Int} {t : Tb}
end
end Ca
set_option Elab.async false
set_option linter.all false
set_option maxRecDepth 100000
set_option maxHeartbeats 4000000
namespace Ca
open PySem L2
theorem frs_get {K : PySem.W.Frag} {H : Hp} {xs : List V} {fs : List (Int × Int)} {k : Nat} {v : V} (h : DqAll K H xs (fs.map frD)) (hk : k < fs.length) (hv : xs[k]? = some v) : Dq K H v (frD fs[k]) := by
  obtain ⟨d, hd, dq⟩ := h.get hv
  rw [List.getElem?_map, List.getElem?_eq_getElem hk] at hd
  cases hd
  exact dq
section
variable {P : Program} {w : World} {K : PySem.W.Frag} {mg : Str → Option Value} {base : Heap}
end
end Ca
set_option Elab.async false
set_option linter.all false
set_option maxRecDepth 100000
set_option maxHeartbeats 8000000
namespace Ca
open PySem L2
/-! ### fractions whose bottoms divide one number -/
/-- the top over the one bottom D -/
def numD (D : Int) (f : Int × Int) : Int := f.1 * (D / f.2)
structure OfD (D : Int) (f : Int × Int) : Prop where
  pos : 0 < f.2
  dvd : f.2 ∣ D
  cop : Nat.gcd f.1.natAbs f.2.natAbs = 1
theorem num_of {D X p q : Int} (hq : 0 < q) (cop : Nat.gcd p.natAbs q.natAbs = 1) (h : p * D = X * q) : q ∣ D ∧ p * (D / q) = X := by
  have d : q.natAbs ∣ p.natAbs * D.natAbs := by
    rw [← Int.natAbs_mul, h, Int.natAbs_mul]
    exact Nat.dvd_mul_left _ _
  have dd : q ∣ D := Int.natAbs_dvd_natAbs.mp (Nat.Coprime.dvd_of_dvd_mul_left (show Nat.gcd q.natAbs p.natAbs = 1 by rw [Nat.gcd_comm]; exact cop) d)
  refine ⟨dd, ?_⟩
  obtain ⟨w, rfl⟩ := dd
  rw [Int.mul_ediv_cancel_left _ (Int.ne_of_gt hq)]
  refine Int.eq_of_mul_eq_mul_right (Int.ne_of_gt hq) ?_
  rw [← h, Int.mul_comm q w, Int.mul_assoc]
theorem OfD.ex {D : Int} {f : Int × Int} (h : OfD D f) : ∃ u, D = f.2 * u ∧ numD D f = f.1 * u := by
  obtain ⟨u, rfl⟩ := h.dvd
  refine ⟨u, rfl, ?_⟩
  unfold numD
  rw [Int.mul_ediv_cancel_left _ (Int.ne_of_gt h.pos)]
theorem OfD.top {D : Int} {f : Int × Int} (h : OfD D f) (D0 : 0 < D) : f.1.natAbs ≤ (numD D f).natAbs ∧ f.2.natAbs ≤ D.natAbs := by
  obtain ⟨u, e, n⟩ := h.ex
  have u0 : 0 < u := by
    refine Int.lt_of_not_ge fun z => ?_
    have := Int.mul_nonpos_of_nonneg_of_nonpos (Int.le_of_lt h.pos) z
    omega
  rw [n, Int.natAbs_mul]
  have u1 : 1 ≤ u.natAbs := by omega
  refine ⟨Nat.le_mul_of_pos_right _ u1, ?_⟩
  rw [e, Int.natAbs_mul]
  exact Nat.le_mul_of_pos_right _ u1
theorem OfD.same {D : Int} {f g : Int × Int} (hf : OfD D f) (hg : OfD D g) (D0 : 0 < D) (h : numD D f = numD D g) : f = g := by
  obtain ⟨u, e1, n1⟩ := hf.ex
  obtain ⟨v, e2, n2⟩ := hg.ex
  have k1 : f.1 * D = numD D f * f.2 := by rw [n1, e1]; grind
  have k2 : f.1 * D = numD D g * f.2 := by rw [k1, h]
  have k3 : g.1 * D = numD D g * g.2 := by rw [n2, e2]; grind
  have k4 : f.1 * g.2 = g.1 * f.2 := by
    refine Int.eq_of_mul_eq_mul_right (Int.ne_of_gt D0) ?_
    have a : f.1 * g.2 * D = f.1 * D * g.2 := by grind
    have b : g.1 * f.2 * D = g.1 * D * f.2 := by grind
    rw [a, b, k2, k3]
    grind
  have d1 : f.2.natAbs ∣ g.2.natAbs := Nat.Coprime.dvd_of_dvd_mul_left (show Nat.gcd f.2.natAbs f.1.natAbs = 1 by rw [Nat.gcd_comm]; exact hf.cop) (by
    rw [← Int.natAbs_mul, k4, Int.natAbs_mul]
    exact Nat.dvd_mul_left _ _)
  have d2 : g.2.natAbs ∣ f.2.natAbs := Nat.Coprime.dvd_of_dvd_mul_left (show Nat.gcd g.2.natAbs g.1.natAbs = 1 by rw [Nat.gcd_comm]; exact hg.cop) (by
    rw [← Int.natAbs_mul, ← k4, Int.natAbs_mul]
    exact Nat.dvd_mul_left _ _)
  have e := Nat.dvd_antisymm d1 d2
  have p1 := hf.pos
  have p2 := hg.pos
  have e' : f.2 = g.2 := by omega
  have e3 : f.1 = g.1 := by
    rw [← e'] at k4
    exact Int.eq_of_mul_eq_mul_right (Int.ne_of_gt p1) k4
  exact Prod.ext e3 e'
end Ca
set_option Elab.async false
set_option linter.all false
set_option maxRecDepth 100000
set_option maxHeartbeats 8000000
namespace Ca
open PySem L2
/-! ### sums of whole numbers times fractions whose bottoms divide one number -/
section
variable {P : Program} {w : World} {K : PySem.W.Frag} {mg : Str → Option Value} {base : Heap}
end
end Ca
set_option Elab.async false
set_option linter.all false
set_option maxRecDepth 100000
set_option maxHeartbeats 8000000
namespace Ca
open PySem L2
/-! ### least costs of sure answers, in rational numbers -/
def frQ (f : Int × Int) : Rat := (f.1 : Rat) / (f.2 : Rat)
def frsQ (fs : List (Int × Int)) (j : Nat) : Rat := frQ (fs.getD j (0, 1))
def costQ (cs : List Int) (x : Nat → Rat) : Rat := qsum (fun j => ((cosC cs j : Int) : Rat) * x j) cs.length
/-! amounts that a table tells -/
section
variable {ls : List (List Int × Int)} {cs : List Int} {t : Tb}
theorem tD_pos (so : StOf ls cs t) : 0 < t.D := by
  obtain ⟨S, rp, ok, _⟩ := so
  rw [rp.D]
  exact ok.dic.pos
end
/-! costs of parts -/
theorem cosC_lo {cs : List Int} {j : Nat} (hj : j < cs.length) : cosC (cs2 cs) j = cosC cs j := by
  unfold cosC cs2
  rw [List.getD_eq_getElem?_getD, List.getElem?_append_left hj, List.getD_eq_getElem?_getD]
theorem cosC_hi {cs : List Int} {j : Nat} (hj : j < cs.length) : cosC (cs2 cs) (cs.length + j) = -cosC cs j := by
  unfold cosC cs2
  rw [List.getD_eq_getElem?_getD, List.getElem?_append_right (by omega), Nat.add_sub_cancel_left, List.getElem?_map, List.getElem?_eq_getElem hj, List.getD_eq_getElem?_getD, List.getElem?_eq_getElem hj]
  rfl
theorem cost2_q (cs : List Int) (x : Nat → Rat) : qsum (fun j => ((cosC (cs2 cs) j : Int) : Rat) * x j) (cs2 cs).length = costQ cs fun j => x j - x (cs.length + j) := by
  rw [cs2_len, qsum_split, ← qsum_add]
  unfold costQ
  refine qsum_congr _ fun j hj => ?_
  rw [cosC_lo hj, cosC_hi hj, Rat.intCast_neg]
  grind
theorem cost_congr {cs : List Int} {x y : Nat → Rat} (h : ∀ j, j < cs.length → x j = y j) : costQ cs x = costQ cs y := qsum_congr _ fun j hj => by rw [h j hj]
theorem mostQ_congr {lo hi x y : Nat → Rat} {n : Nat} (h : ∀ j, j < n → x j = y j) : mostQ lo hi x n = mostQ lo hi y n := qsum_congr _ fun j hj => by rw [h j hj]
theorem sureV_congr {rs : List Rw} {m : Nat} {x y : Nat → Rat} (h : ∀ j, j < m → x j = y j) (hx : SureV rs m x) : SureV rs m y := fun r hr => by
  rw [← mostQ_congr h]
  exact hx r hr
/-- parts put together -/
def joinQ (m : Nat) (u v : Nat → Rat) (j : Nat) : Rat := if j < m then u j else v (j - m)
theorem join_lo {m j : Nat} {u v : Nat → Rat} (h : j < m) : joinQ m u v j = u j := if_pos h
theorem join_hi {m j : Nat} {u v : Nat → Rat} : joinQ m u v (m + j) = v j := by
  unfold joinQ
  rw [if_neg (by omega), Nat.add_sub_cancel_left]
theorem feas_of_sure {rs : List Rw} {m : Nat} (hm : ∀ r ∈ rs, r.parts.length = m) {x : Nat → Rat} (hx : SureV rs m x) : ∃ z, Feas (rs.map sureL) (m + m) z ∧ ∀ j, j < m → z j - z (m + j) = x j := by
  have hp := parts_of_sure hx
  refine ⟨joinQ m (fun j => posQ (x j)) (fun j => negQ (x j)), (feas_parts hm _).mpr ⟨fun j hj => ?_, fun r hr => ?_⟩, fun j hj => ?_⟩
  · show 0 ≤ joinQ _ _ _ j ∧ 0 ≤ joinQ _ _ _ (m + j)
    rw [join_lo hj, join_hi]
    exact hp.1 j hj
  · refine Rat.le_trans ?_ (hp.2 r hr)
    refine qsum_le _ fun j hj => ?_
    show r.hi j * joinQ _ _ _ j - r.lo j * joinQ _ _ _ (m + j) ≤ _
    rw [join_lo hj, join_hi]
    exact Rat.le_refl
  · rw [join_lo hj, join_hi]
    exact (pos_neg (x j)).1
theorem sure_of_feas {rs : List Rw} {m : Nat} (hR : ∀ r ∈ rs, isRowD (rowD r) m = true) {z : Nat → Rat} (h : Feas (rs.map sureL) (m + m) z) : SureV rs m fun j => z j - z (m + j) :=
  sure_of_parts (srow_le hR) ((feas_parts (fun r hr => (row_name (hR r hr)).2) z).mp h)
/-- what is told where nothing is wrong: a sure answer of the least cost -/
theorem sure_least {rs : List Rw} {cs : List Int} {t : Tb} {fs : List (Int × Int)} (hR : ∀ r ∈ rs, isRowD (rowD r) cs.length = true) (sh : Shp (rs.map sureL).length (cs2 cs).length t) (st : StOf (rs.map sureL) (cs2 cs) t) (no : ∀ q, ¬ WrongT (rs.map sureL).length (cs2 cs).length t q)
    (sa : SureA t (rs.map sureL).length cs.length fs) : SureV rs cs.length (frsQ fs) ∧ ∀ x, SureV rs cs.length x → costQ cs (frsQ fs) ≤ costQ cs x := by
  obtain ⟨x, fx, hx, opt⟩ := feas_opt sh st no
  have e : ∀ j, j < cs.length → frsQ fs j = x j - x (cs.length + j) := fun j hj => by
    have hj' : j < fs.length := by rw [sa.1]; exact hj
    obtain ⟨p1, p2, a1, a2, rd⟩ := sa.2 j fs[j] (List.getElem?_eq_getElem hj')
    have o1 := hx j p1 (by rw [cs2_len]; omega) (by rw [cs2_len]; exact a1)
    have o2 := hx (cs.length + j) p2 (by rw [cs2_len]; omega) (by rw [cs2_len, Nat.add_comm cs.length j]; exact a2)
    unfold frsQ frQ
    rw [List.getD_eq_getElem?_getD, List.getElem?_eq_getElem hj']
    show ((fs[j]).1 : Rat) / ((fs[j]).2 : Rat) = _
    rw [redS rd, o1, o2]
    have d1 : 0 < p1.2 * p2.2 := by
      obtain ⟨g, hg, _, e⟩ := rd.ex
      rw [← e]
      exact Int.mul_pos rd.pos hg
    have n1 : p1.2 ≠ 0 := fun z => by rw [z, Int.zero_mul] at d1; exact absurd d1 (by decide)
    have n2 : p2.2 ≠ 0 := fun z => by rw [z, Int.mul_zero] at d1; exact absurd d1 (by decide)
    have q1 : (p1.2 : Rat) ≠ 0 := fun z => n1 (by exact_mod_cast z)
    have q2 : (p2.2 : Rat) ≠ 0 := fun z => n2 (by exact_mod_cast z)
    rw [Rat.intCast_add, Rat.intCast_mul, Rat.intCast_mul, Rat.intCast_mul, Rat.intCast_neg]
    grind
  rw [cs2_len] at fx
  refine ⟨sureV_congr (fun j hj => (e j hj).symm) (sure_of_feas hR fx), fun y hy => ?_⟩
  obtain ⟨z, fz, hz⟩ := feas_of_sure (fun r hr => (row_name (hR r hr)).2) hy
  have := opt z (by rw [cs2_len]; exact fz)
  rw [cost2_q, cost2_q] at this
  rw [cost_congr e, ← cost_congr hz]
  exact this
end Ca
set_option Elab.async false
set_option linter.all false
set_option maxRecDepth 100000
set_option maxHeartbeats 8000000
namespace Ca
open PySem L2
/-! ### what cheapest_possible tells, in rational numbers -/
def prow (r : Rw) : SRow := ⟨fun j => ((r.parts.getD j (0, 0)).1 : Rat), fun j => ((r.parts.getD j (0, 0)).2 : Rat), (r.bd.2 : Rat)⟩
def PossV (rs : List Rw) (m : Nat) (x : Nat → Rat) : Prop := PossQ (rs.map prow) m x
def sgQ (sg : List Int) (j : Nat) : Rat := ((sg.getD j 0 : Int) : Rat)
theorem prow_le {rs : List Rw} {m : Nat} (hR : ∀ r ∈ rs, isRowD (rowD r) m = true) : ∀ r ∈ rs.map prow, ∀ j, j < m → r.lo j ≤ r.hi j := by
  intro r hr j hj
  obtain ⟨r', hr', rfl⟩ := List.mem_map.mp hr
  exact srow_le hR (srow r') (List.mem_map_of_mem hr') j hj
theorem sg_one {sg : List Int} {m : Nat} (so : SgOk sg m) {j : Nat} (hj : j < m) : (sg.getD j 0 = 1 ∧ sgQ sg j = 1) ∨ (sg.getD j 0 = -1 ∧ sgQ sg j = -1) := by
  have sl := so.len
  have e : sg.getD j 0 = sg[j]'(by omega) := by
    rw [List.getD_eq_getElem?_getD, List.getElem?_eq_getElem (by omega)]
    rfl
  unfold sgQ
  rcases so.ok _ (List.getElem_mem (show j < sg.length by omega)) with h | h
  · rw [e, h]
    exact .inl ⟨rfl, rfl⟩
  · rw [e, h]
    exact .inr ⟨rfl, rfl⟩
theorem sg_signs {sg : List Int} {m : Nat} (so : SgOk sg m) : Signs (sgQ sg) m := fun j hj => (sg_one so hj).elim (fun h => .inl h.2) fun h => .inr h.2
theorem feas_poss {rs : List Rw} {m : Nat} {sg : List Int} (hm : ∀ r ∈ rs, r.parts.length = m) (so : SgOk sg m) (u : Nat → Rat) : Feas (rs.map (pLim sg)) m u ↔ AmtsQ (rs.map prow) m (sgQ sg) u := by
  have sl := so.len
  have key : ∀ i (h : i < rs.length), qsum (fun j => ((limA (rs.map (pLim sg)) i j : Int) : Rat) * u j) m = qsum (fun j => endS (sgQ sg) (prow rs[i]).lo (prow rs[i]).hi j * u j) m := fun i h => by
    have lm := hm _ (List.getElem_mem h)
    refine qsum_congr m fun j hj => ?_
    have e : limA (rs.map (pLim sg)) i j = sg.getD j 0 * (if sg.getD j 0 = 1 then (rs[i].parts.getD j (0, 0)).1 else (rs[i].parts.getD j (0, 0)).2) := by
      unfold limA
      rw [List.getD_eq_getElem?_getD (l := rs.map (pLim sg)), List.getElem?_map, List.getElem?_eq_getElem h]
      show (possA sg rs[i].parts).getD j 0 = _
      rw [List.getD_eq_getElem?_getD, possA_get (by omega) (by omega), List.getD_eq_getElem?_getD, List.getElem?_eq_getElem (by omega), List.getD_eq_getElem?_getD, List.getElem?_eq_getElem (by omega)]
      rfl
    rw [e]
    unfold endS
    rcases sg_one so hj with ⟨e1, e2⟩ | ⟨e1, e2⟩
    · rw [e1, e2, if_pos rfl, if_pos rfl, Int.one_mul, Rat.one_mul]
      rfl
    · rw [e1, e2, if_neg (by decide), if_neg (by decide), Int.neg_one_mul, Rat.intCast_neg]
      show _ = -1 * ((rs[i].parts.getD j (0, 0)).2 : Rat) * u j
      grind
  have bd : ∀ i (h : i < rs.length), limB (rs.map (pLim sg)) i = rs[i].bd.2 := fun i h => by
    unfold limB
    rw [List.getD_eq_getElem?_getD, List.getElem?_map, List.getElem?_eq_getElem h]
    rfl
  constructor
  · rintro ⟨f0, f1⟩
    refine ⟨f0, fun r hr => ?_⟩
    obtain ⟨r', hr', rfl⟩ := List.mem_map.mp hr
    obtain ⟨i, hi, rfl⟩ := List.mem_iff_getElem.mp hr'
    have := f1 i (by rw [List.length_map]; exact hi)
    rw [key i hi, bd i hi] at this
    exact this
  · rintro ⟨g0, g1⟩
    refine ⟨g0, fun i hi => ?_⟩
    rw [List.length_map] at hi
    rw [key i hi, bd i hi]
    exact g1 _ (List.mem_map_of_mem (List.getElem_mem hi))
theorem lessQ_congr {lo hi x y : Nat → Rat} {n : Nat} (h : ∀ j, j < n → x j = y j) : leastQ lo hi x n = leastQ lo hi y n := qsum_congr _ fun j hj => by rw [h j hj]
theorem possV_congr {rs : List Rw} {m : Nat} {x y : Nat → Rat} (h : ∀ j, j < m → x j = y j) (hx : PossV rs m x) : PossV rs m y := fun r hr => by
  rw [← lessQ_congr h]
  exact hx r hr
theorem poss_of_feas {rs : List Rw} {m : Nat} {sg : List Int} (hR : ∀ r ∈ rs, isRowD (rowD r) m = true) (so : SgOk sg m) {u : Nat → Rat} (h : Feas (rs.map (pLim sg)) m u) : PossV rs m fun j => sgQ sg j * u j :=
  poss_of_amts (prow_le hR) (sg_signs so) ((feas_poss (fun r hr => (row_name (hR r hr)).2) so u).mp h)
/-- a possible answer is one for some signs -/
theorem feas_of_poss {rs : List Rw} {m : Nat} (hR : ∀ r ∈ rs, isRowD (rowD r) m = true) {x : Nat → Rat} (hx : PossV rs m x) : ∃ (i : Nat) (sg : List Int) (u : Nat → Rat), (signsL m)[i]? = some sg ∧ Feas (rs.map (pLim sg)) m u ∧ ∀ j, j < m → x j = sgQ sg j * u j := by
  obtain ⟨s, u, hs, hu, e⟩ := sign_split x m
  let sg : List Int := (List.range m).map fun j => if s j = 1 then 1 else -1
  have so : SgOk sg m := ⟨by rw [List.length_map, List.length_range], fun y hy => by
    obtain ⟨j, _, rfl⟩ := List.mem_map.mp hy
    by_cases c : s j = 1
    · rw [if_pos c]; exact .inl rfl
    · rw [if_neg c]; exact .inr rfl⟩
  have es : ∀ j, j < m → sgQ sg j = s j := fun j hj => by
    unfold sgQ
    rw [List.getD_eq_getElem?_getD, List.getElem?_map, List.getElem?_range hj]
    show (((if s j = 1 then (1 : Int) else -1) : Int) : Rat) = s j
    rcases hs j hj with c | c
    · rw [if_pos c, c]; rfl
    · rw [if_neg (by rw [c]; decide), c]; rfl
  have hmem : sg ∈ signsL m := (signs_mem m sg).mpr ⟨so.len, so.ok⟩
  obtain ⟨i, hi⟩ := List.mem_iff_getElem?.mp hmem
  have hx' : PossV rs m fun j => sgQ sg j * u j := possV_congr (fun j hj => by rw [e j, es j hj]) hx
  exact ⟨i, sg, u, hi, (feas_poss (fun r hr => (row_name (hR r hr)).2) so u).mpr (amts_of_poss (prow_le hR) (sg_signs so) (fun j _ => hu j) hx'), fun j hj => by rw [e j, es j hj]⟩
/-- where nothing is told there is no answer with these signs -/
theorem poss_none {rs : List Rw} {m : Nat} {sg cs : List Int} {t : Tb} {i : Nat} (hl : (sgCost sg cs).length = m) (sh : Shp (rs.map (pLim sg)).length (sgCost sg cs).length t) (st : StOf (rs.map (pLim sg)) (sgCost sg cs) t ∨ StOf (rs.map (pLim sg)) (zerosOf (sgCost sg cs)) t) (hi : i < (rs.map (pLim sg)).length)
    (h1 : tT t i (sgCost sg cs).length < 0) (h2 : ∀ j, j < (sgCost sg cs).length → 0 ≤ tT t i j) : ∀ u, ¬ Feas (rs.map (pLim sg)) m u := by
  subst hl
  rcases st with st | st
  · exact unfeas_of sh st hi h1 h2
  · have lz := zeros_len (sgCost sg cs)
    have := unfeas_of (cs := zerosOf (sgCost sg cs)) (by rw [lz]; exact sh) st hi (by rw [lz]; exact h1) (by rw [lz]; exact h2)
    rw [lz] at this
    exact this
theorem possA_q {sg : List Int} {m k : Nat} {t : Tb} {fs : List (Int × Int)} {x : Nat → Rat} (so : SgOk sg m) (sa : PossA t k m sg fs) (hx : ∀ q p, q < m → AmtOf m t k q p → x q = (p.1 : Rat) / (p.2 : Rat)) : ∀ j, j < m → frsQ fs j = sgQ sg j * x j := fun j hj => by
  have hj' : j < fs.length := by rw [sa.1]; exact hj
  obtain ⟨p, s, hs, am, e⟩ := sa.2 j fs[j] (List.getElem?_eq_getElem hj')
  unfold frsQ frQ
  rw [List.getD_eq_getElem?_getD, List.getElem?_eq_getElem hj']
  show ((fs[j]).1 : Rat) / ((fs[j]).2 : Rat) = _
  rw [e, hx j p hj am]
  have e2 : sgQ sg j = (s : Rat) := by
    unfold sgQ
    rw [List.getD_eq_getElem?_getD, hs]
    rfl
  rw [e2]
  show ((s * p.1 : Int) : Rat) / (p.2 : Rat) = _
  rw [Rat.intCast_mul, Rat.div_def, Rat.div_def, Rat.mul_assoc]
/-- an answer that is told is possible -/
theorem poss_some {rs : List Rw} {m : Nat} {sg cs : List Int} {t : Tb} {fs : List (Int × Int)} (hc : cs.length = m) (hR : ∀ r ∈ rs, isRowD (rowD r) m = true) (so : SgOk sg m) (sh : Shp (rs.map (pLim sg)).length cs.length t) (st : StOf (rs.map (pLim sg)) cs t) (no : ∀ q, ¬ WrongT (rs.map (pLim sg)).length cs.length t q)
    (sa : PossA t (rs.map (pLim sg)).length cs.length sg fs) : PossV rs m (frsQ fs) := by
  obtain ⟨x, fx, hx⟩ := feas_of sh st no
  rw [hc] at fx hx sa
  exact possV_congr (fun j hj => (possA_q so sa hx j hj).symm) (poss_of_feas hR so fx)
end Ca
set_option Elab.async false
set_option linter.all false
set_option maxRecDepth 100000
set_option maxHeartbeats 8000000
namespace Ca
/-! ### leaving out the last unknown of rows of whole numbers (each below with each above) -/
abbrev FRow := List Int × Int
def dotI (r : List Int) (x : Nat → Rat) : Rat := qsum (fun j => ((r.getD j 0 : Int) : Rat) * x j) r.length
def SatF (S : List FRow) (x : Nat → Rat) : Prop := ∀ p ∈ S, dotI p.1 x ≤ ((p.2 : Int) : Rat)
def lastI (r : List Int) : Int := r.getD (r.length - 1) 0
def mixI (r t : List Int) : List Int := List.zipWith (fun a b => a * -lastI t + b * lastI r) r.dropLast t.dropLast
/-- what is found behind leaving out the last unknown -/
def FoundF (S : List FRow) (p : FRow) : Prop := (∃ r ∈ S, lastI r.1 = 0 ∧ p = (r.1.dropLast, r.2)) ∨ ∃ r ∈ S, ∃ t ∈ S, lastI r.1 > 0 ∧ lastI t.1 < 0 ∧ p = (mixI r.1 t.1, r.2 * -lastI t.1 + t.2 * lastI r.1)
theorem dotI_last {r : List Int} {n : Nat} (h : r.length = n + 1) (x : Nat → Rat) : dotI r x = dotI r.dropLast x + ((lastI r : Int) : Rat) * x n := by
  unfold dotI lastI
  rw [List.length_dropLast, h]
  show qsum _ n + _ = qsum _ n + _
  congr 1
  refine qsum_congr _ fun j hj => ?_
  rw [List.getD_eq_getElem?_getD, List.getD_eq_getElem?_getD, List.getElem?_dropLast, if_pos (by omega)]
theorem dotI_mix {r t : List Int} {n : Nat} (hr : r.length = n + 1) (ht : t.length = n + 1) (x : Nat → Rat) : dotI (mixI r t) x = dotI r.dropLast x * (-((lastI t : Int) : Rat)) + dotI t.dropLast x * ((lastI r : Int) : Rat) := by
  have lr : r.dropLast.length = n := by rw [List.length_dropLast, hr]; rfl
  have lt : t.dropLast.length = n := by rw [List.length_dropLast, ht]; rfl
  have lm : (mixI r t).length = n := by
    unfold mixI
    rw [List.length_zipWith, lr, lt, Nat.min_self]
  have e1 : dotI r.dropLast x * (-((lastI t : Int) : Rat)) = qsum (fun j => (-((lastI t : Int) : Rat)) * (((r.dropLast.getD j 0 : Int) : Rat) * x j)) n := by
    rw [qsum_mul]
    unfold dotI
    rw [lr, Rat.mul_comm]
  have e2 : dotI t.dropLast x * ((lastI r : Int) : Rat) = qsum (fun j => ((lastI r : Int) : Rat) * (((t.dropLast.getD j 0 : Int) : Rat) * x j)) n := by
    rw [qsum_mul]
    unfold dotI
    rw [lt, Rat.mul_comm]
  rw [e1, e2, ← qsum_add]
  unfold dotI
  rw [lm]
  refine qsum_congr _ fun j hj => ?_
  have j1 : j < r.dropLast.length := by omega
  have j2 : j < t.dropLast.length := by omega
  have e3 : (mixI r t).getD j 0 = r.dropLast.getD j 0 * -lastI t + t.dropLast.getD j 0 * lastI r := by
    unfold mixI
    rw [List.getD_eq_getElem?_getD, List.getElem?_zipWith, List.getD_eq_getElem?_getD, List.getD_eq_getElem?_getD, List.getElem?_eq_getElem j1, List.getElem?_eq_getElem j2]
    rfl
  rw [e3, Rat.intCast_add, Rat.intCast_mul, Rat.intCast_mul, Rat.intCast_neg]
  grind
theorem ex_max : ∀ (l : List Rat), l ≠ [] → ∃ m ∈ l, ∀ x ∈ l, x ≤ m
  | [], h => absurd rfl h
  | [a], _ => ⟨a, List.mem_singleton.mpr rfl, fun x hx => by rw [List.mem_singleton.mp hx]; exact Rat.le_refl⟩
  | a :: b :: l, _ => by
    obtain ⟨m, hm, h⟩ := ex_max (b :: l) (List.cons_ne_nil _ _)
    by_cases c : a ≤ m
    · refine ⟨m, List.mem_cons_of_mem _ hm, fun x hx => ?_⟩
      rcases List.mem_cons.mp hx with rfl | hx
      · exact c
      · exact h x hx
    · refine ⟨a, List.mem_cons_self .., fun x hx => ?_⟩
      rcases List.mem_cons.mp hx with rfl | hx
      · exact Rat.le_refl
      · exact Rat.le_trans (h x hx) (Rat.le_of_lt (Rat.not_le.mp c))
theorem ex_min (l : List Rat) : ∃ m, ∀ x ∈ l, m ≤ x := by
  induction l with
  | nil => exact ⟨0, fun x hx => by cases hx⟩
  | cons a l ih =>
    obtain ⟨m, h⟩ := ih
    by_cases c : a ≤ m
    · refine ⟨a, fun x hx => ?_⟩
      rcases List.mem_cons.mp hx with rfl | hx
      · exact Rat.le_refl
      · exact Rat.le_trans c (h x hx)
    · refine ⟨m, fun x hx => ?_⟩
      rcases List.mem_cons.mp hx with rfl | hx
      · exact Rat.le_of_lt (Rat.not_le.mp c)
      · exact h x hx
theorem ex_between {ls us : List Rat} (h : ∀ a ∈ ls, ∀ b ∈ us, a ≤ b) : ∃ z, (∀ a ∈ ls, a ≤ z) ∧ ∀ b ∈ us, z ≤ b := by
  by_cases c : ls = []
  · subst c
    obtain ⟨m, hm⟩ := ex_min us
    exact ⟨m, fun a ha => (by cases ha), hm⟩
  · obtain ⟨m, hm, k⟩ := ex_max ls c
    exact ⟨m, k, fun b hb => h m hm b hb⟩
theorem dotI_congr {r : List Int} {x y : Nat → Rat} (h : ∀ j, j < r.length → x j = y j) : dotI r x = dotI r y := qsum_congr _ fun j hj => by rw [h j hj]
/-- some values keep the rows just if some keep those found behind leaving out the last unknown -/
theorem fm_step {S : List FRow} {n : Nat} (hl : ∀ p ∈ S, p.1.length = n + 1) : (∃ x, SatF S x) ↔ ∃ x, ∀ p, FoundF S p → dotI p.1 x ≤ ((p.2 : Int) : Rat) := by
  constructor
  · rintro ⟨x, hx⟩
    refine ⟨x, fun p hp => ?_⟩
    rcases hp with ⟨r, hr, z, rfl⟩ | ⟨r, hr, t, ht, pos, neg, rfl⟩
    · have := hx r hr
      rw [dotI_last (hl r hr), z] at this
      show dotI r.1.dropLast x ≤ _
      have e : ((0 : Int) : Rat) * x n = 0 := by rw [show ((0 : Int) : Rat) = 0 from rfl, Rat.zero_mul]
      rw [e, Rat.add_zero] at this
      exact this
    · have h1 := hx r hr
      have h2 := hx t ht
      rw [dotI_last (hl r hr)] at h1
      rw [dotI_last (hl t ht)] at h2
      show dotI (mixI r.1 t.1) x ≤ ((r.2 * -lastI t.1 + t.2 * lastI r.1 : Int) : Rat)
      rw [dotI_mix (hl r hr) (hl t ht), Rat.intCast_add, Rat.intCast_mul, Rat.intCast_mul, Rat.intCast_neg]
      have p1 : (0 : Rat) < ((lastI r.1 : Int) : Rat) := by exact_mod_cast pos
      have p2 : ((lastI t.1 : Int) : Rat) < 0 := by exact_mod_cast neg
      have q2 : (0 : Rat) ≤ -((lastI t.1 : Int) : Rat) := by grind
      have m1 := Rat.mul_le_mul_of_nonneg_right h1 q2
      have m2 := Rat.mul_le_mul_of_nonneg_right h2 (Rat.le_of_lt p1)
      grind
  · rintro ⟨y, hy⟩
    have key : ∃ z : Rat, (∀ t ∈ S, lastI t.1 < 0 → (((t.2 : Int) : Rat) - dotI t.1.dropLast y) / ((lastI t.1 : Int) : Rat) ≤ z) ∧ ∀ r ∈ S, lastI r.1 > 0 → z ≤ (((r.2 : Int) : Rat) - dotI r.1.dropLast y) / ((lastI r.1 : Int) : Rat) := by
      obtain ⟨z, h1, h2⟩ := ex_between (ls := (S.filter fun t => decide (lastI t.1 < 0)).map fun t => (((t.2 : Int) : Rat) - dotI t.1.dropLast y) / ((lastI t.1 : Int) : Rat)) (us := (S.filter fun r => decide (lastI r.1 > 0)).map fun r => (((r.2 : Int) : Rat) - dotI r.1.dropLast y) / ((lastI r.1 : Int) : Rat)) fun a ha b hb => by
        obtain ⟨t, ht, rfl⟩ := List.mem_map.mp ha
        obtain ⟨r, hr, rfl⟩ := List.mem_map.mp hb
        obtain ⟨ht, neg⟩ := List.mem_filter.mp ht
        obtain ⟨hr, pos⟩ := List.mem_filter.mp hr
        replace neg := of_decide_eq_true neg
        replace pos := of_decide_eq_true pos
        have h := hy _ (.inr ⟨r, hr, t, ht, pos, neg, rfl⟩)
        rw [dotI_mix (hl r hr) (hl t ht), Rat.intCast_add, Rat.intCast_mul, Rat.intCast_mul, Rat.intCast_neg] at h
        have p1 : (0 : Rat) < ((lastI r.1 : Int) : Rat) := by exact_mod_cast pos
        have p2 : ((lastI t.1 : Int) : Rat) < 0 := by exact_mod_cast neg
        generalize ((lastI r.1 : Int) : Rat) = A at h p1 ⊢
        generalize ((lastI t.1 : Int) : Rat) = B at h p2 ⊢
        generalize dotI r.1.dropLast y = X at h ⊢
        generalize dotI t.1.dropLast y = Y at h ⊢
        generalize ((r.2 : Int) : Rat) = b1 at h ⊢
        generalize ((t.2 : Int) : Rat) = b2 at h ⊢
        have A0 : A ≠ 0 := by grind
        have B0 : B ≠ 0 := by grind
        refine Rat.not_lt.mp fun lt => ?_
        have pq : 0 < A * -B := Rat.mul_pos p1 (by grind)
        have := Rat.mul_lt_mul_of_pos_left lt pq
        have e1 : A * -B * ((b1 - X) / A) = -B * (b1 - X) := by grind
        have e2 : A * -B * ((b2 - Y) / B) = -A * (b2 - Y) := by grind
        rw [e1, e2] at this
        grind
      exact ⟨z, fun t ht neg => h1 _ (List.mem_map.mpr ⟨t, List.mem_filter.mpr ⟨ht, decide_eq_true neg⟩, rfl⟩), fun r hr pos => h2 _ (List.mem_map.mpr ⟨r, List.mem_filter.mpr ⟨hr, decide_eq_true pos⟩, rfl⟩)⟩
    obtain ⟨z, h1, h2⟩ := key
    refine ⟨fun j => if j = n then z else y j, fun p hp => ?_⟩
    have hlp := hl p hp
    have e : dotI p.1.dropLast (fun j => if j = n then z else y j) = dotI p.1.dropLast y := dotI_congr fun j hj => by
      rw [List.length_dropLast, hlp] at hj
      rw [if_neg (by omega)]
    rw [dotI_last hlp, e]
    show _ + _ * (if n = n then z else y n) ≤ _
    rw [if_pos rfl]
    rcases Int.lt_trichotomy (lastI p.1) 0 with c | c | c
    · have k := h1 p hp c
      have p2 : ((lastI p.1 : Int) : Rat) < 0 := by exact_mod_cast c
      generalize ((lastI p.1 : Int) : Rat) = B at k p2 ⊢
      generalize dotI p.1.dropLast y = Y at k ⊢
      generalize ((p.2 : Int) : Rat) = b at k ⊢
      have B0 : B ≠ 0 := by grind
      have := Rat.mul_le_mul_of_nonneg_left k (show 0 ≤ -B by grind)
      have e2 : -B * ((b - Y) / B) = -(b - Y) := by grind
      rw [e2] at this
      grind
    · have h := hy _ (.inl ⟨p, hp, c, rfl⟩)
      rw [c, show ((0 : Int) : Rat) = 0 from rfl, Rat.zero_mul, Rat.add_zero]
      exact h
    · have k := h2 p hp c
      have p1 : (0 : Rat) < ((lastI p.1 : Int) : Rat) := by exact_mod_cast c
      generalize ((lastI p.1 : Int) : Rat) = A at k p1 ⊢
      generalize dotI p.1.dropLast y = X at k ⊢
      generalize ((p.2 : Int) : Rat) = b at k ⊢
      have A0 : A ≠ 0 := by grind
      have := Rat.mul_le_mul_of_nonneg_left k (Rat.le_of_lt p1)
      have e1 : A * ((b - X) / A) = b - X := by grind
      rw [e1] at this
      grind
/-- rows of no unknowns -/
theorem fm_none {S : List FRow} (hl : ∀ p ∈ S, p.1 = []) : (∃ x, SatF S x) ↔ ∀ p ∈ S, 0 ≤ p.2 := by
  have e : ∀ x : Nat → Rat, dotI [] x = 0 := fun x => rfl
  constructor
  · rintro ⟨x, hx⟩ p hp
    have := hx p hp
    rw [hl p hp, e] at this
    exact_mod_cast this
  · intro h
    refine ⟨fun _ => 0, fun p hp => ?_⟩
    rw [hl p hp, e]
    have := h p hp
    exact_mod_cast this
end Ca
set_option Elab.async false
set_option linter.all false
set_option maxRecDepth 100000
set_option maxHeartbeats 8000000
namespace Ca
open PySem L2
/-! ### the law's rows of signs, and the rows of whole numbers that answers with such signs keep -/
def lsgL : Nat → List (List Int)
  | 0 => [[]]
  | n + 1 => (lsgL n).map (· ++ [-1]) ++ (lsgL n).map (· ++ [1])
theorem lsg_len : ∀ m, (lsgL m).length = 2 ^ m
  | 0 => rfl
  | m + 1 => by
    unfold lsgL
    rw [List.length_append, List.length_map, List.length_map, lsg_len m, Nat.pow_succ]
    omega
theorem lsg_mem : ∀ (m : Nat) (s : List Int), s ∈ lsgL m ↔ SgOk s m
  | 0, s => by
    unfold lsgL
    rw [List.mem_singleton]
    exact ⟨fun h => by subst h; exact ⟨rfl, fun x h => nomatch h⟩, fun h => List.length_eq_zero_iff.mp h.len⟩
  | m + 1, s => by
    unfold lsgL
    have ih := lsg_mem m
    constructor
    · intro h
      have key : ∀ (a : List Int) (e : Int), (e = 1 ∨ e = -1) → a ∈ lsgL m → SgOk (a ++ [e]) (m + 1) := fun a e he ha => by
        have o := (ih a).mp ha
        refine ⟨by rw [List.length_append, o.len]; rfl, fun x hx => ?_⟩
        rcases List.mem_append.mp hx with hx | hx
        · exact o.ok x hx
        · rw [List.mem_singleton.mp hx]
          exact he
      rcases List.mem_append.mp h with h | h
      · obtain ⟨a, ha, rfl⟩ := List.mem_map.mp h
        exact key a _ (.inr rfl) ha
      · obtain ⟨a, ha, rfl⟩ := List.mem_map.mp h
        exact key a _ (.inl rfl) ha
    · intro h
      have ne : s ≠ [] := fun z => by
        have := h.len
        rw [z] at this
        exact absurd this (by show ¬ 0 = m + 1; omega)
      have e := List.dropLast_concat_getLast ne
      have o : SgOk s.dropLast m := ⟨by rw [List.length_dropLast, h.len]; rfl, fun x hx => h.ok x (List.dropLast_subset _ hx)⟩
      have ml := (ih _).mpr o
      rw [← e]
      rcases h.ok _ (List.getLast_mem ne) with g | g
      · rw [g]
        exact List.mem_append_right _ (List.mem_map.mpr ⟨_, ml, rfl⟩)
      · rw [g]
        exact List.mem_append_left _ (List.mem_map.mpr ⟨_, ml, rfl⟩)
def caseN (sure : Bool) (sg : List Int) (ps : List (Int × Int)) : List Int := List.zipWith (fun p s => if decide (s > 0) == sure then p.2 else p.1) ps sg
def caseR (sure : Bool) (sg : List Int) (r : Rw) : FRow := (caseN sure sg r.parts, if sure then r.bd.1 else r.bd.2)
def unitN (sg : List Int) (j : Nat) : List Int := (List.range sg.length).map fun i => if i = j then 0 - sg.getD j 0 else 0
def caseL (sure : Bool) (sg : List Int) (rs : List Rw) : List FRow := rs.map (caseR sure sg) ++ (List.range sg.length).map fun j => (unitN sg j, 0)
def OneV (sure : Bool) (rs : List Rw) (m : Nat) (x : Nat → Rat) : Prop := if sure then SureV rs m x else PossV rs m x
theorem qsum_one (j : Nat) (a : Rat) : ∀ n, qsum (fun i => if i = j then a else 0) n = if j < n then a else 0
  | 0 => by
    rw [if_neg (Nat.not_lt_zero _)]
    rfl
  | n + 1 => by
    show qsum _ n + (if n = j then a else 0) = _
    rw [qsum_one j a n]
    by_cases h : n = j
    · rw [if_neg (by omega), if_pos h, if_pos (by omega)]
      grind
    · by_cases h2 : j < n
      · rw [if_pos h2, if_neg h, if_pos (by omega)]
        grind
      · rw [if_neg h2, if_neg h, if_neg (by omega)]
        grind
theorem unit_dot {sg : List Int} {j : Nat} (hj : j < sg.length) (x : Nat → Rat) : dotI (unitN sg j) x = -(sgQ sg j * x j) := by
  unfold dotI
  have l : (unitN sg j).length = sg.length := by
    unfold unitN
    rw [List.length_map, List.length_range]
  rw [l]
  have e : ∀ i, i < sg.length → ((((unitN sg j).getD i 0 : Int) : Rat) * x i) = (if i = j then -(sgQ sg j * x j) else 0) := fun i hi => by
    have g : (unitN sg j).getD i 0 = if i = j then 0 - sg.getD j 0 else 0 := by
      unfold unitN
      rw [List.getD_eq_getElem?_getD, List.getElem?_map, List.getElem?_range hi]
      rfl
    rw [g]
    by_cases h : i = j
    · subst h
      rw [if_pos rfl, if_pos rfl]
      unfold sgQ
      rw [show (0 : Int) - sg.getD i 0 = -(sg.getD i 0) by omega, Rat.intCast_neg]
      grind
    · rw [if_neg h, if_neg h]
      have z : ((0 : Int) : Rat) = 0 := rfl
      rw [z]
      grind
  rw [qsum_congr _ e, qsum_one, if_pos hj]
theorem maxQ_left {a b : Rat} (h : b ≤ a) : maxQ a b = a := by
  unfold maxQ
  split
  · grind
  · rfl
theorem maxQ_right {a b : Rat} (h : a ≤ b) : maxQ a b = b := by
  unfold maxQ
  rw [if_pos h]
/-- values of these signs: a row of the case is the row's end -/
theorem case_dot {sure : Bool} {sg : List Int} {m : Nat} {r : Rw} {x : Nat → Rat} (so : SgOk sg m) (hr : isRowD (rowD r) m = true) (hx : ∀ j, j < m → 0 ≤ sgQ sg j * x j) :
    dotI (caseR sure sg r).1 x = if sure then mostQ (srow r).lo (srow r).hi x m else leastQ (prow r).lo (prow r).hi x m := by
  have lm := (row_name hr).2
  have sl := so.len
  have RP := rowS_pairs hr
  have l : (caseR sure sg r).1.length = m := by
    show (caseN sure sg r.parts).length = m
    unfold caseN
    rw [List.length_zipWith, lm, sl, Nat.min_self]
  have key : ∀ j, j < m → ((((caseR sure sg r).1.getD j 0 : Int) : Rat) * x j) = if sure then maxQ ((srow r).lo j * x j) ((srow r).hi j * x j) else lessQ2 ((prow r).lo j * x j) ((prow r).hi j * x j) := fun j hj => by
    have j1 : j < r.parts.length := by omega
    have j2 : j < sg.length := by omega
    have g : (caseR sure sg r).1.getD j 0 = if decide (sg.getD j 0 > 0) == sure then (r.parts.getD j (0, 0)).2 else (r.parts.getD j (0, 0)).1 := by
      show (caseN sure sg r.parts).getD j 0 = _
      unfold caseN
      rw [List.getD_eq_getElem?_getD, List.getElem?_zipWith, List.getD_eq_getElem?_getD, List.getD_eq_getElem?_getD, List.getElem?_eq_getElem j1, List.getElem?_eq_getElem j2]
      rfl
    have lohi : ((r.parts.getD j (0, 0)).1 : Rat) ≤ ((r.parts.getD j (0, 0)).2 : Rat) := by
      have e : r.parts.getD j (0, 0) = r.parts[j] := by
        rw [List.getD_eq_getElem?_getD, List.getElem?_eq_getElem j1]
        rfl
      rw [e]
      exact_mod_cast (RP _ (List.mem_append_left _ (List.getElem_mem j1))).2.1
    have hxj := hx j hj
    rw [g]
    show _ = if sure then maxQ (((r.parts.getD j (0, 0)).1 : Rat) * x j) (((r.parts.getD j (0, 0)).2 : Rat) * x j) else lessQ2 (((r.parts.getD j (0, 0)).1 : Rat) * x j) (((r.parts.getD j (0, 0)).2 : Rat) * x j)
    rcases sg_one so hj with ⟨e1, e2⟩ | ⟨e1, e2⟩
    · rw [e1]
      rw [e2, Rat.one_mul] at hxj
      have mm := Rat.mul_le_mul_of_nonneg_right lohi hxj
      cases sure
      · rw [if_neg (by decide), if_neg (by decide), lessQ2_left mm]
      · rw [if_pos (by decide), if_pos rfl, maxQ_right mm]
    · rw [e1]
      rw [e2] at hxj
      have mm := Rat.mul_le_mul_of_nonneg_right lohi hxj
      have m2 : ((r.parts.getD j (0, 0)).2 : Rat) * x j ≤ ((r.parts.getD j (0, 0)).1 : Rat) * x j := by grind
      cases sure
      · rw [if_pos (by decide), if_neg (by decide), lessQ2_right m2]
      · rw [if_neg (by decide), if_pos rfl, maxQ_left m2]
  unfold dotI
  rw [l, qsum_congr _ key]
  cases sure
  · rw [if_neg (by decide)]
    rfl
  · rw [if_pos rfl]
    rfl
theorem case_bd (sure : Bool) (sg : List Int) (r : Rw) : (((caseR sure sg r).2 : Int) : Rat) = if sure then (srow r).bd else (prow r).bd := by
  cases sure <;> rfl
theorem case_iff {sure : Bool} {sg : List Int} {m : Nat} {rs : List Rw} {x : Nat → Rat} (so : SgOk sg m) (hR : ∀ r ∈ rs, isRowD (rowD r) m = true) : SatF (caseL sure sg rs) x ↔ (∀ j, j < m → 0 ≤ sgQ sg j * x j) ∧ OneV sure rs m x := by
  have sl := so.len
  have z : ((0 : Int) : Rat) = 0 := rfl
  have unit : SatF ((List.range sg.length).map fun j => (unitN sg j, (0 : Int))) x ↔ ∀ j, j < m → 0 ≤ sgQ sg j * x j := by
    constructor
    · intro h j hj
      have := h (unitN sg j, 0) (List.mem_map.mpr ⟨j, List.mem_range.mpr (by omega), rfl⟩)
      rw [unit_dot (by omega)] at this
      rw [show (((unitN sg j, (0 : Int)) : FRow).2 : Rat) = 0 from rfl] at this
      grind
    · intro h p hp
      obtain ⟨j, hj, rfl⟩ := List.mem_map.mp hp
      have hj' := List.mem_range.mp hj
      have := h j (by omega)
      rw [unit_dot hj']
      show _ ≤ ((0 : Int) : Rat)
      rw [z]
      grind
  have split : SatF (caseL sure sg rs) x ↔ SatF (rs.map (caseR sure sg)) x ∧ SatF ((List.range sg.length).map fun j => (unitN sg j, (0 : Int))) x := by
    unfold caseL
    exact ⟨fun h => ⟨fun p hp => h p (List.mem_append_left _ hp), fun p hp => h p (List.mem_append_right _ hp)⟩, fun h p hp => (List.mem_append.mp hp).elim (h.1 p) (h.2 p)⟩
  rw [split, unit]
  constructor
  · rintro ⟨h1, h2⟩
    refine ⟨h2, ?_⟩
    have row : ∀ r ∈ rs, (if sure then mostQ (srow r).lo (srow r).hi x m else leastQ (prow r).lo (prow r).hi x m) ≤ if sure then (srow r).bd else (prow r).bd := fun r hr => by
      have := h1 _ (List.mem_map_of_mem hr)
      rw [case_dot so (hR r hr) h2, case_bd] at this
      exact this
    unfold OneV
    cases sure
    · rw [if_neg (by decide)]
      intro s hs
      obtain ⟨r, hr, rfl⟩ := List.mem_map.mp hs
      exact row r hr
    · rw [if_pos rfl]
      intro s hs
      obtain ⟨r, hr, rfl⟩ := List.mem_map.mp hs
      exact row r hr
  · rintro ⟨h2, h1⟩
    refine ⟨fun p hp => ?_, h2⟩
    obtain ⟨r, hr, rfl⟩ := List.mem_map.mp hp
    rw [case_dot so (hR r hr) h2, case_bd]
    unfold OneV at h1
    cases sure
    · rw [if_neg (by decide)] at h1
      exact h1 (prow r) (List.mem_map_of_mem hr)
    · rw [if_pos rfl] at h1
      exact h1 (srow r) (List.mem_map_of_mem hr)
theorem sign_of (x : Nat → Rat) (m : Nat) : ∃ sg, SgOk sg m ∧ ∀ j, j < m → 0 ≤ sgQ sg j * x j := by
  refine ⟨(List.range m).map fun j => if 0 ≤ x j then 1 else -1, ⟨by rw [List.length_map, List.length_range], fun y hy => ?_⟩, fun j hj => ?_⟩
  · obtain ⟨j, _, rfl⟩ := List.mem_map.mp hy
    split
    · exact .inl rfl
    · exact .inr rfl
  · have e : sgQ ((List.range m).map fun j => if 0 ≤ x j then (1 : Int) else -1) j = if 0 ≤ x j then 1 else -1 := by
      unfold sgQ
      rw [List.getD_eq_getElem?_getD, List.getElem?_map, List.getElem?_range hj]
      show (((if 0 ≤ x j then (1 : Int) else -1) : Int) : Rat) = _
      split
      · rfl
      · rfl
    rw [e]
    split
    · grind
    · grind
theorem has_iff {sure : Bool} {m : Nat} {rs : List Rw} {more : List FRow} (hR : ∀ r ∈ rs, isRowD (rowD r) m = true) : (∃ sg ∈ lsgL m, ∃ x, SatF (caseL sure sg rs ++ more) x) ↔ ∃ x, OneV sure rs m x ∧ SatF more x := by
  have app : ∀ sg x, SatF (caseL sure sg rs ++ more) x ↔ SatF (caseL sure sg rs) x ∧ SatF more x := fun sg x =>
    ⟨fun h => ⟨fun p hp => h p (List.mem_append_left _ hp), fun p hp => h p (List.mem_append_right _ hp)⟩, fun h p hp => (List.mem_append.mp hp).elim (h.1 p) (h.2 p)⟩
  constructor
  · rintro ⟨sg, hs, x, hx⟩
    obtain ⟨h1, h2⟩ := (app sg x).mp hx
    exact ⟨x, ((case_iff ((lsg_mem m sg).mp hs) hR).mp h1).2, h2⟩
  · rintro ⟨x, h1, h2⟩
    obtain ⟨sg, so, hx⟩ := sign_of x m
    exact ⟨sg, (lsg_mem m sg).mpr so, x, (app sg x).mpr ⟨(case_iff so hR).mpr ⟨hx, h1⟩, h2⟩⟩
/-- how great the rows of a case are -/
theorem case_sm {sure : Bool} {sg : List Int} {m : Nat} {rs : List Rw} (so : SgOk sg m) (hR : ∀ r ∈ rs, isRowD (rowD r) m = true) : ∀ k ∈ caseL sure sg rs, k.1.length = m ∧ (∀ x ∈ k.1, x.natAbs < 2 ^ 14) ∧ k.2.natAbs < 2 ^ 14 := by
  have sl := so.len
  intro k hk
  rcases List.mem_append.mp (show k ∈ rs.map (caseR sure sg) ++ (List.range sg.length).map (fun j => (unitN sg j, (0 : Int))) from hk) with h | h
  · obtain ⟨r, hr, rfl⟩ := List.mem_map.mp h
    have lm := (row_name (hR r hr)).2
    have RP := rowS_pairs (hR r hr)
    refine ⟨?_, fun x hx => ?_, ?_⟩
    · show (caseN sure sg r.parts).length = m
      unfold caseN
      rw [List.length_zipWith, lm, sl, Nat.min_self]
    · obtain ⟨j, hj⟩ := List.mem_iff_getElem?.mp (show x ∈ caseN sure sg r.parts from hx)
      unfold caseN at hj
      rw [List.getElem?_zipWith] at hj
      cases e1 : r.parts[j]? with
      | none => rw [e1] at hj; cases hj
      | some p =>
        cases e2 : sg[j]? with
        | none => rw [e1, e2] at hj; cases hj
        | some s =>
          rw [e1, e2] at hj
          cases hj
          have := RP p (List.mem_append_left _ (List.mem_of_getElem? e1))
          show (if decide (s > 0) == sure then p.2 else p.1).natAbs < 16384
          split <;> omega
    · have := RP r.bd (List.mem_append_right _ (List.mem_singleton.mpr rfl))
      show (if sure then r.bd.1 else r.bd.2).natAbs < 16384
      split <;> omega
  · obtain ⟨j, hj, rfl⟩ := List.mem_map.mp h
    have hj' := List.mem_range.mp hj
    refine ⟨?_, fun x hx => ?_, by show (0 : Int).natAbs < 16384; decide⟩
    · show (unitN sg j).length = m
      unfold unitN
      rw [List.length_map, List.length_range, sl]
    · obtain ⟨i, _, rfl⟩ := List.mem_map.mp (show x ∈ unitN sg j from hx)
      have e : sg.getD j 0 = sg[j] := by
        rw [List.getD_eq_getElem?_getD, List.getElem?_eq_getElem hj']
        rfl
      have := so.ok _ (List.getElem_mem hj')
      show (if i = j then 0 - sg.getD j 0 else 0).natAbs < 16384
      rw [e]
      split
      · rcases this with g | g <;> rw [g] <;> decide
      · decide
theorem case_len {sure : Bool} {sg : List Int} {rs : List Rw} : (caseL sure sg rs).length = rs.length + sg.length := by
  unfold caseL
  rw [List.length_append, List.length_map, List.length_map, List.length_range]
end Ca
set_option Elab.async false
set_option linter.all false
set_option maxRecDepth 100000
/-! sets whose elements are objects of any kind of keys (HeapKind): the search of one -/
namespace Ca.SetK
open PySem PySem.Spec PyProof.Rows L2
section
variable {P : Program} {w : World} {K : Type} [DecidableEq K]
/-- what adding to a set asks of the kind besides -/
structure Ask (κ : HeapKind P w K) : Prop where
  stay : ∀ {h h' : Heap} {k : K} {b : Addr}, κ.is h k b → (∀ c o vs n, h.get? c = some o → o.data = .seq vs n → h'.get? c = some o) → κ.is h' k b
  noCls : ∀ {A : Around} {E : Value → Shared → Prop} {s : Shared} {k : K} {b : Addr} {Q : Bool → Shared → Prop}, κ.is s.heap k b → Q false s → wpAny (model P w) A (ofAClassStatement 8 (.ref b)) Q E s
  byVal : ∀ {A : Around} {E : Value → Shared → Prop} {s : Shared} {k : K} {b : Addr} {Q : Bool → Shared → Prop}, κ.is s.heap k b → Q true s → wpAny (model P w) A (hashByValue 8 (.ref b)) Q E s
variable {κ : HeapKind P w K} {A : Around} {E : Value → Shared → Prop} {s : Shared}
/-- asking for a key among keys shows nothing -/
theorem unseen (q : Ask κ) {k : K} {b : Addr} (hb : κ.is s.heap k b) {ys : List Value} (hys : ∀ y ∈ ys, ∃ k2 c, y = Value.ref c ∧ κ.is s.heap k2 c) {Q : Bool → Shared → Prop} (done : Q false s) :
    wpAny (model P w) A (searchCouldBeSeen (.ref b) ys) Q E s := by
  unfold searchCouldBeSeen
  refine wpAny_bind (wpAny_forIn_list _ (fun left acc z => (acc.1 = none ∧ z = s) ∧ ∀ y ∈ left, ∃ k2 c, y = Value.ref c ∧ κ.is s.heap k2 c) _ (fun y left acc z hz => ?_) (fun acc z hz => ?_) _ _ ⟨⟨rfl, rfl⟩, hys⟩)
  · obtain ⟨⟨h0, rfl⟩, hl⟩ := hz
    obtain ⟨k2, c, rfl, hc⟩ := hl y List.mem_cons_self
    have tl := fun u (hu : u ∈ left) => hl u (List.mem_cons_of_mem _ hu)
    dsimp only
    split
    · exact wpAny_pure ⟨⟨rfl, rfl⟩, tl⟩
    · refine wpAny_bind (κ.quiet hb ?_)
      simp only [Bool.not_true, Bool.false_eq_true, if_false]
      refine wpAny_bind (κ.quiet hc ?_)
      simp only [Bool.not_true, Bool.false_eq_true, if_false]
      refine wpAny_bind (q.noCls hb ?_)
      simp only [Bool.false_eq_true, if_false]
      refine wpAny_bind (q.noCls hc ?_)
      simp only [Bool.false_eq_true, if_false]
      exact wpAny_pure ⟨⟨rfl, rfl⟩, tl⟩
  · obtain ⟨⟨h0, rfl⟩, _⟩ := hz
    obtain ⟨r1, r2⟩ := acc
    simp only at h0
    subst h0
    exact wpAny_pure done
/-- the entries of a set of these keys -/
def ents (κ : HeapKind P w K) (L : List (Addr × K)) : List (Int × Value) := L.map fun e => (κ.hash e.2, .ref e.1)
theorem ents_len (L : List (Addr × K)) : (ents κ L).length = L.length := List.length_map _
/-- the set at a: its entries es, its table t, its keys L -/
structure Tbl (κ : HeapKind P w K) (h : Heap) (a : Addr) (L : List (Addr × K)) (es : Array (Int × Value)) (ep : Nat) (t : SetTable) : Prop where
  at' : ∃ o, h.get? a = some o ∧ o.ExactSet ∧ o.data = .set es ep t
  es' : es.toList = ents κ L
  tab : TabOk t (L.map fun e => κ.hash e.2)
  one : (L.map Prod.snd).Nodup
  key : ∀ e ∈ L, κ.is h e.2 e.1
  pl : t.plain = true
  ld : w.params.followText "set-order" = true ∨ t.led = true
  gap : L.length * 5 < t.mask * 3
variable {a : Addr} {L : List (Addr × K)} {es : Array (Int × Value)} {ep : Nat} {t : SetTable}
theorem Tbl.len (T : Tbl κ s.heap a L es ep t) : es.size = L.length := by
  rw [← Array.length_toList, T.es', ents_len]
theorem Tbl.psize (T : Tbl κ s.heap a L es ep t) : t.place.size = L.length := T.tab.sz.trans (List.length_map _)
theorem Tbl.fit (T : Tbl κ s.heap a L es ep t) : t.fits es.size = true := by
  have h1 := T.psize
  have h2 := T.len
  have h3 := T.gap
  unfold SetTable.fits SetTable.fill
  rw [T.tab.dm]
  simp only [Bool.and_eq_true, beq_iff_eq, decide_eq_true_eq]
  constructor
  · omega
  · show t.place.size + 0 ≤ _
    omega
theorem Tbl.nth (T : Tbl κ s.heap a L es ep t) {i : Nat} {e : Addr × K} (h : L[i]? = some e) : es[i]? = some (κ.hash e.2, Value.ref e.1) := by
  rw [← Array.getElem?_toList, T.es']
  simp [ents, h]
theorem Tbl.stays (T : Tbl κ s.heap a L es ep t) : ¬ t.gaveWay = true := by
  have := mask_odd T.tab.mok
  simp [SetTable.gaveWay, this]
/-- the probe at step c of the way for a hash, in a table of this mask -/
abbrev pr (m : Nat) (g : Int) (c : Nat) : SetTable.Probe := L2.nth m (runAt m (SetTable.bits g % (m + 1)) (SetTable.bits g)) c
theorem pr_j (m : Nat) (g : Int) (c : Nat) : (pr m g c).j = way m g c := rfl
theorem pr_add (m : Nat) (g : Int) (c d : Nat) : L2.nth m (pr m g c) d = pr m g (c + d) := (nth_add m c _ d).symm
theorem nth_dum (m : Nat) : ∀ (n : Nat) (p : SetTable.Probe), p.dummy = none → (L2.nth m p n).dummy = none
  | 0, _, h => h
  | n + 1, p, h => nth_dum m n (adv m p) (by unfold adv; split <;> exact h)
/-- THE SEARCH, from step c on -/
theorem hunt (T : Tbl κ s.heap a L es ep t) (q : Ask κ) {x : Addr} {k : K} (hx : κ.is s.heap k x) (hr : κ.room A) {N : Nat} (hN : N < 10 * SetTable.turns t.mask)
    (gap : way t.mask (κ.hash k) N ∉ t.place.toList) (full : ∀ c, c < N → way t.mask (κ.hash k) c ∈ t.place.toList) {Q : SetFound → Shared → Prop}
    (yes : k ∈ L.map Prod.snd → Q (.there none) s) (no : k ∉ L.map Prod.snd → Q (.free (way t.mask (κ.hash k) N) false) s) :
    ∀ (f c : Nat) (st : Option SetTable.Probe), st.getD (t.probeStart (κ.hash k)) = pr t.mask (κ.hash k) c → c ≤ N → N < f + c →
      (∀ (i : Nat) e, L[i]? = some e → e.2 = k → ∃ d, c ≤ d ∧ d < N ∧ t.place.toList[i]? = some (way t.mask (κ.hash k) d)) →
      wpAny (model P w) A (setSearchFrom a (.ref x) (κ.hash k) true f st) Q E s := by
  intro f
  induction f with
  | zero => intro c st _ h1 h2; omega
  | succ f ih =>
    intro c st hst hc hf ahead
    obtain ⟨o, ho, hex, hd⟩ := T.at'
    -- the hash that stands at i
    have hat : ∀ (i : Nat) e, L[i]? = some e → (es[i]?.map Prod.fst).getD 0 = κ.hash e.2 := fun i e he => by rw [T.nth he]; rfl
    have sp := go_spec t T.tab.ris T.tab.dm (fun i => (es[i]?.map Prod.fst).getD 0) (κ.hash k) (10 * SetTable.turns t.mask) (N - c) (pr t.mask (κ.hash k) c) (nth_dum _ c _ rfl) (by omega)
      (fun d hd' => by rw [pr_add, pr_j]; exact full _ (by omega)) (by rw [pr_add, pr_j, show c + (N - c) = N by omega]; exact gap)
    rw [setSearchFrom_succ]
    refine wpAny_bind (wpAny_setState_of ho hd T.fit ?_)
    dsimp only
    refine wp_if_neg T.stays ?_
    try refine wpAny_bind (wpAny_pure ?_)
    rcases sp with ⟨d, i, hd1, hi, hh, first, hp⟩ | ⟨none', hp⟩
    · -- somebody stands there
      have e0 : t.probe (fun i => (es[i]?.map Prod.fst).getD 0) (κ.hash k) (st.getD (t.probeStart (κ.hash k))) = some (.candidate (way t.mask (κ.hash k) (c + d)) i (pr t.mask (κ.hash k) (c + d + 1))) := by
        rw [hst, Nat.add_assoc, ← pr_add, ← pr_j, ← pr_add]
        exact hp
      rw [e0]
      dsimp only
      rw [pr_add, pr_j] at hi
      have il : i < L.length := by
        have h1 := (List.getElem?_eq_some_iff.mp hi).1
        rw [Array.length_toList, T.psize] at h1
        exact h1
      obtain ⟨e, he⟩ : ∃ e, L[i]? = some e := ⟨_, List.getElem?_eq_getElem il⟩
      have em : e ∈ L := List.mem_of_getElem? he
      have sl : t.slot (way t.mask (κ.hash k) (c + d)) = .live i := slot_live T.tab.ris hi
      have go : wpAny (model P w) A (searchRest a (.ref x) (κ.hash k) true f es t (way t.mask (κ.hash k) (c + d)) i (pr t.mask (κ.hash k) (c + d + 1))) Q E s := by
        unfold searchRest
        rw [T.nth he]
        dsimp only
        refine wpAny_bind (wpAny_holding (κ.eqBool hr (T.key e em) hx ?_))
        refine wpAny_bind (wpAny_setState_of ho hd T.fit ?_)
        dsimp only
        by_cases ek : e.2 = k
        · refine wp_if_pos (by simp [ek]) (wpAny_pure (yes ?_))
          exact List.mem_map.mpr ⟨e, em, ek⟩
        refine wp_if_neg (by simp [ek]) ?_
        try refine wpAny_bind (wpAny_pure ?_)
        rw [sameMem]
        dsimp only
        simp only [if_true, sl, T.nth he]
        refine wpAny_bind (wpAny_isSame_ref_self (wpAny_bind (wpAny_pure ?_)))
        simp only [if_true]
        refine wp_if_neg (by simp [ek]) ?_
        refine ih (c + d + 1) _ rfl (by omega) (by omega) fun j u hu uk => ?_
        obtain ⟨z, z1, z2, z3⟩ := ahead j u hu uk
        refine ⟨z, ?_, z2, z3⟩
        -- what is sought has not been passed
        by_cases lt : z < c + d
        · exact absurd ((hat j u hu).trans (congrArg κ.hash uk)) (first (z - c) j (by omega) (by rw [pr_add, pr_j, show c + (z - c) = z by omega]; exact z3))
        by_cases eq : z = c + d
        · subst eq
          have s2 := slot_live T.tab.ris z3
          rw [sl] at s2
          injection s2 with s2
          subst s2
          rw [he] at hu
          cases hu
          exact absurd uk ek
        omega
      by_cases tl : t.led = true
      · refine wp_if_neg (by simp [tl]) ?_
        try refine wpAny_bind (wpAny_pure ?_)
        exact go
      · refine wp_if_pos (by simp [tl]) ?_
        refine wpAny_bind (unseen q hx (fun y hy => ?_) ?_)
        · obtain ⟨u, hu, uy⟩ := List.mem_map.mp hy
          have hu2 : u ∈ es.toList := by
            rw [Array.toList_filter] at hu
            exact (List.mem_filter.mp hu).1
          rw [T.es'] at hu2
          obtain ⟨v, hv, vu⟩ := List.mem_map.mp hu2
          exact ⟨v.2, v.1, by rw [← uy, ← vu], T.key v hv⟩
        · refine wp_if_neg (by decide) ?_
          try refine wpAny_bind (wpAny_pure ?_)
          exact go
    · -- nobody stands there
      have e0 : t.probe (fun i => (es[i]?.map Prod.fst).getD 0) (κ.hash k) (st.getD (t.probeStart (κ.hash k))) = some (.empty (way t.mask (κ.hash k) N) none) := by
        have e1 : way t.mask (κ.hash k) N = (L2.nth t.mask (pr t.mask (κ.hash k) c) (N - c)).j := by
          rw [pr_add, pr_j, show c + (N - c) = N by omega]
        rw [hst, e1]
        exact hp
      rw [e0]
      dsimp only
      refine wpAny_pure (no fun hm => ?_)
      obtain ⟨u, hu, uk⟩ := List.mem_map.mp hm
      obtain ⟨j, hj⟩ := List.mem_iff_getElem?.mp hu
      obtain ⟨z, z1, z2, z3⟩ := ahead j u hj uk
      exact none' (z - c) j (by omega) (by rw [pr_add, pr_j, show c + (z - c) = z by omega]; exact z3) ((hat j u hj).trans (congrArg κ.hash uk))
/-- the search that adding makes -/
theorem seek (T : Tbl κ s.heap a L es ep t) (q : Ask κ) {x : Addr} {k : K} (hx : κ.is s.heap k x) (hr : κ.room A) {Q : SetFound → Shared → Prop}
    (yes : k ∈ L.map Prod.snd → Q (.there none) s)
    (no : ∀ N, k ∉ L.map Prod.snd → way t.mask (κ.hash k) N ∉ t.place.toList → (∀ c, c < N → way t.mask (κ.hash k) c ∈ t.place.toList) → Q (.free (way t.mask (κ.hash k) N) false) s) :
    wpAny (model P w) A (setSearch a (.ref x) (κ.hash k) true) Q E s := by
  obtain ⟨N, hN, gap, full⟩ := T.tab.first (by have := T.gap; rw [List.length_map]; omega) (κ.hash k)
  have small : 10 * SetTable.turns t.mask < 9999 := by
    unfold SetTable.turns
    rcases T.tab.mok with e | e | e <;> omega
  unfold setSearch
  refine hunt T q hx hr hN gap full yes (fun hn => no N hn gap full) _ 0 none rfl (Nat.zero_le _) (by omega) fun i e he ek => ?_
  have il : i < t.place.toList.length := by
    rw [Array.length_toList, T.psize]
    exact (List.getElem?_eq_some_iff.mp he).1
  obtain ⟨d, hd, e1⟩ := T.tab.before gap (i := i) (j := t.place.toList[i]) (by simp [he, ek]) (List.getElem?_eq_getElem il)
  exact ⟨d, Nat.zero_le _, hd, by rw [e1]; exact List.getElem?_eq_getElem il⟩
end
end Ca.SetK
set_option Elab.async false
set_option linter.all false
set_option maxRecDepth 100000
/-! sets whose elements are objects of any kind of keys: one more, and the table laid anew -/
namespace Ca.SetK
open PySem PySem.Spec PyProof.Rows L2
section
variable {P : Program} {w : World} {K : Type} [DecidableEq K] {κ : HeapKind P w K} {A : Around} {E : Value → Shared → Prop} {s : Shared}
/-- keys are no sets: they stay where a set alone is changed -/
theorem is_same (q : Ask κ) {h h' : Heap} {k : K} {a b : Addr} {o : Obj} {es : Array (Int × Value)} {ep : Nat} {t : SetTable} (hb : κ.is h k b) (ho : h.get? a = some o) (hd : o.data = .set es ep t) (sb : Heap.SameBut a h h') : κ.is h' k b := by
  refine q.stay hb fun c u vs n hu hs => ?_
  by_cases e : c = a
  · rw [e, ho] at hu
    rw [← Option.some.inj hu, hd] at hs
    cases hs
  · exact (sb.2 c e).trans hu
/-- a list with one put in -/
def ins {α : Type} (L : List α) (i : Nat) (x : α) : List α := L.take i ++ x :: L.drop i
theorem ins_perm {α : Type} (L : List α) (i : Nat) (x : α) : (ins L i x).Perm (x :: L) := by
  have h := List.perm_middle (a := x) (l₁ := L.take i) (l₂ := L.drop i)
  rwa [List.take_append_drop] at h
theorem ins_map {α β : Type} (f : α → β) (L : List α) (i : Nat) (x : α) : (ins L i x).map f = ins (L.map f) i (f x) := by
  simp [ins]
/-- entries in another order are the entries of the keys in that order -/
theorem turned (L : List (Addr × K)) (es : Array (Int × Value)) (he : es.toList = ents κ L) : ∀ is : List Nat, (∀ i ∈ is, i < L.length) →
    is.filterMap (fun i => es[i]?) = ents κ (is.filterMap fun i => L[i]?) ∧ ((is.filterMap fun i => L[i]?).map fun e => κ.hash e.2) = is.map fun i => (es.map Prod.fst).getD i 0
  | [], _ => ⟨rfl, rfl⟩
  | i :: is, h => by
    obtain ⟨ih1, ih2⟩ := turned L es he is fun j hj => h j (List.mem_cons_of_mem _ hj)
    have il := h i List.mem_cons_self
    obtain ⟨e, hi⟩ : ∃ e, L[i]? = some e := ⟨_, List.getElem?_eq_getElem il⟩
    have hes : es[i]? = some (κ.hash e.2, Value.ref e.1) := by
      rw [← Array.getElem?_toList, he]
      simp [ents, hi]
    have hf : (es.map Prod.fst).getD i 0 = κ.hash e.2 := by
      rw [Array.getD_eq_getD_getElem?, Array.getElem?_map, hes]
      rfl
    constructor
    · rw [List.filterMap_cons_some hes, List.filterMap_cons_some hi, ih1]
      rfl
    · rw [List.filterMap_cons_some hi, List.map_cons, List.map_cons, ih2, hf]
theorem all_back {α : Type} (L : List α) : (List.range L.length).filterMap (fun i => L[i]?) = L := by
  apply List.ext_getElem?
  intro j
  have h : ∀ n, n ≤ L.length → (List.range n).filterMap (fun i => L[i]?) = L.take n := by
    intro n
    induction n with
    | zero => intro _; rfl
    | succ n ih =>
      intro hn
      rw [List.range_succ, List.filterMap_append, ih (by omega), List.take_add_one]
      congr 1
  rw [h _ (Nat.le_refl _), List.take_length]
variable {a : Addr} {L : List (Addr × K)} {es : Array (Int × Value)} {ep : Nat} {t : SetTable}
/-- laid anew in a greater table -/
theorem relay (q : Ask κ) {o : Obj} (ho : s.heap.get? a = some o) (hx : o.ExactSet) (hd : o.data = .set es ep t) (he : es.toList = ents κ L) (hp : t.place.size = es.size) (dm : t.dummies = #[]) (fl : es.size ≤ t.mask)
    (one : (L.map Prod.snd).Nodup) (key : ∀ e ∈ L, κ.is s.heap e.2 e.1) (pl : t.plain = true) (ld : w.params.followText "set-order" = true ∨ t.led = true) {want M : Nat}
    (hw : SetTable.sizeAbove want - 1 = M) (hM : MaskOk M) (h128 : SetTable.sizeAbove want ≤ 128) (gap : L.length * 5 < M * 3) {Q : Unit → Shared → Prop}
    (next : ∀ h' L2 es2 ep2 t2, Heap.SameBut a s.heap h' → Tbl κ h' a L2 es2 ep2 t2 → L2.Perm L → Q () { s with heap := h' }) : wpAny (model P w) A (setRelay a want) Q E s := by
  have el : es.size = L.length := by rw [← Array.length_toList, he, ents_len]
  have fit : t.fits es.size = true := by
    unfold SetTable.fits SetTable.fill
    rw [dm]
    simp only [Bool.and_eq_true, beq_iff_eq, decide_eq_true_eq]
    exact ⟨hp, by show t.place.size + 0 ≤ _; omega⟩
  obtain ⟨t2, order, e, perm, tab, em, elD, epl, _⟩ := relaid_ok t (hs := es.map Prod.fst) (wanted := want) hw hM (by rw [Array.size_map, el]; omega)
  rw [Array.size_map, el] at perm
  obtain ⟨r1, r2⟩ := turned L es he order.toList fun i hi => List.mem_range.mp (perm.mem_iff.mp hi)
  have pm : (order.toList.filterMap fun i => L[i]?).Perm L := by
    have h := perm.filterMap fun i => L[i]?
    rwa [all_back] at h
  rw [← r2] at tab
  have ef : (order.filterMap fun i => es[i]?).toList = ents κ (order.toList.filterMap fun i => L[i]?) := by
    rw [Array.toList_filterMap]
    exact r1
  generalize (order.toList.filterMap fun i => L[i]?) = L2 at tab pm ef
  generalize hes2 : (order.filterMap fun i => es[i]?) = es2 at ef
  have sz : es2.size = es.size := by rw [← Array.length_toList, ef, ents_len, pm.length_eq, el]
  rw [setRelay_eq]
  refine wpAny_bind (wpAny_setState_of ho hd fit ?_)
  dsimp only
  refine wp_if_neg (by rw [sizeLine_eq]; omega) ?_
  try refine wpAny_bind (wpAny_pure ?_)
  rw [e]
  dsimp only
  rw [hes2]
  refine wpAny_bind ?_
  refine wp_if_neg (by simp [sz]) ?_
  try refine wpAny_bind (wpAny_pure ?_)
  refine wpAny_pure ?_
  dsimp only
  refine wpAny_storeSet_of ho hd ?_ (by rw [sz, el, sizeLine_eq]; have := gap; rcases hM with z | z | z <;> omega)
  have sb := Heap.SameBut.update s.heap a (Obj.putSet es2 t2)
  refine next _ L2 es2 (ep + 1) t2 sb ?_ pm
  exact { at' := ⟨_, store_at ho hd, ⟨hx.1, hx.2.1, hx.2.2⟩, rfl⟩, es' := ef, tab := tab, one := (pm.map Prod.snd).nodup_iff.mpr one,
          key := fun u hu => is_same q (key u (pm.mem_iff.mp hu)) ho hd sb, pl := epl.trans pl, ld := by rw [elD]; exact ld, gap := by rw [pm.length_eq, em]; exact gap }
/-- ADDING a key: the set holds it then -/
theorem put (T : Tbl κ s.heap a L es ep t) (q : Ask κ) {x : Addr} {k : K} (hx : κ.is s.heap k x) (hr : κ.room A) (few : L.length + 1 < 76) {Q : Bool → Shared → Prop}
    (next : ∀ b h' L2 es2 ep2 t2, Heap.SameBut a s.heap h' → Tbl κ h' a L2 es2 ep2 t2 → (k ∈ L.map Prod.snd → L2 = L) → (k ∉ L.map Prod.snd → L2.Perm ((x, k) :: L)) → Q b { s with heap := h' }) :
    wpAny (model P w) A (setAddHashed a (.ref x) (κ.hash k)) Q E s := by
  obtain ⟨o, ho, hex, hd⟩ := T.at'
  have el := T.len
  have gap := T.gap
  unfold setAddHashed
  refine wpAny_holding ?_
  rw [show (100000 : Nat) = 99999 + 1 from rfl, setAddHashedIn_succ]
  refine wpAny_bind (wpAny_setState_of ho hd T.fit ?_)
  dsimp only
  refine wp_if_neg (by simp [byScan, Value.scannable]) ?_
  try refine wpAny_bind (wpAny_pure ?_)
  refine wpAny_bind (seek T q hx hr (fun hm => ?_) fun N hm free full => ?_)
  · dsimp only
    exact wpAny_pure (next false s.heap L es ep t (Heap.SameBut.refl a s.heap) T (fun _ => rfl) fun z => (z hm).elim)
  dsimp only
  refine wpAny_bind (wpAny_setState_of ho hd T.fit ?_)
  dsimp only
  obtain ⟨p1, p2, p3, p4, p5, p6, _, _, p9⟩ := T.tab.put free full
  generalize hb : SetTable.below t.place (way t.mask (κ.hash k) N) = at0 at p1 p2 p3
  generalize hpt : t.put (way t.mask (κ.hash k) N) = pt at p1 p3 p4 p5 p6 p9 ⊢
  obtain ⟨t1, pos⟩ := pt
  dsimp only at p1 p3 p4 p5 p6 p9 ⊢
  subst p1
  have pl1 : t1.plain = true := p6.trans T.pl
  first
    | (refine wpAny_bind ?_; refine wp_if_pos pl1 ?_; refine q.byVal hx ?_)
    | refine wp_if_pos pl1 (wpAny_bind (q.byVal hx ?_))
  simp only [if_true]
  have e1 : (SetTable.insertAt es pos (κ.hash k, Value.ref x)).toList = ents κ (ins L pos (x, k)) := by
    rw [SetTable.toList_insertAt, T.es']
    unfold ents
    rw [ins_map]
    rfl
  have pm := ins_perm L pos (x, k)
  have ll : (ins L pos (x, k)).length = L.length + 1 := pm.length_eq
  have tab1 : TabOk t1 ((ins L pos (x, k)).map fun e => κ.hash e.2) := by
    rw [ins_map]
    exact p3
  have one1 : ((ins L pos (x, k)).map Prod.snd).Nodup := (pm.map Prod.snd).nodup_iff.mpr (List.nodup_cons.mpr ⟨hm, T.one⟩)
  generalize SetTable.insertAt es pos (κ.hash k, Value.ref x) = es1 at e1 ⊢
  generalize ins L pos (x, k) = L1 at e1 pm ll tab1 one1
  have sz : es1.size = L.length + 1 := by rw [← Array.length_toList, e1, ents_len, ll]
  refine wpAny_bind (wpAny_storeSet_of ho hd ?_ (by rw [sz, sizeLine_eq]; omega))
  have sb := Heap.SameBut.update s.heap a (Obj.putSet es1 t1)
  have ho1 := store_at (es' := es1) (t' := t1) ho hd
  generalize s.heap.update a (Obj.putSet es1 t1) = h1 at sb ho1 ⊢
  have key1 : ∀ e ∈ L1, κ.is h1 e.2 e.1 := fun e he => by
    rcases List.mem_cons.mp (pm.mem_iff.mp he) with z | z
    · rw [z]; exact is_same q hx ho hd sb
    · exact is_same q (T.key e z) ho hd sb
  have ld1 : w.params.followText "set-order" = true ∨ t1.led = true := by rw [p5]; exact T.ld
  have full1 : t1.tooFull = decide ((L.length + 1) * 5 ≥ t1.mask * 3) := by
    unfold SetTable.tooFull
    rw [p9, List.length_map]
  by_cases tf : t1.tooFull = true
  · first
      | (refine wpAny_bind ?_; refine wp_if_pos (by simp [tf]) ?_)
      | (refine wp_if_pos (by simp [tf]) ?_; refine wpAny_bind ?_)
    rw [full1, decide_eq_true_eq, p4] at tf
    rw [el]
    have go : ∀ M, SetTable.sizeAbove (SetTable.grown (L.length + 1)) = M + 1 → MaskOk M → (L.length + 1) * 5 < M * 3 →
        wpAny (model P w) A (setRelay a (SetTable.grown (L.length + 1))) (fun _ z => wpAny (model P w) A (pure true) Q E z) E { s with heap := h1 } := fun M m1 m2 m3 => by
      refine relay (s := { s with heap := h1 }) q ho1 ⟨hex.1, hex.2.1, hex.2.2⟩ rfl e1 (by rw [tab1.sz, List.length_map, ll, sz]) tab1.dm (by rw [sz, p4]; omega) one1 key1 pl1 ld1 (by omega) m2 (by rw [m1]; rcases m2 with z | z | z <;> omega) (by rw [ll]; exact m3) ?_
      intro h2 L2 es2 ep2 t2 sb2 T2 pm2
      exact wpAny_pure (next true h2 L2 es2 ep2 t2 (sb.trans sb2) T2 (fun z => (hm z).elim) fun _ => pm2.trans pm)
    rcases T.tab.mok with z | z | z
    · obtain e4 : L.length = 4 := by rw [z] at tf gap; omega
      exact go 31 (by rw [e4]; exact size_20) (.inr (.inl rfl)) (by omega)
    · obtain e18 : L.length = 18 := by rw [z] at tf gap; omega
      exact go 127 (by rw [e18]; exact size_76) (.inr (.inr rfl)) (by omega)
    · rw [z] at tf
      omega
  · first
      | refine wp_if_neg (by simp [tf]) ?_
      | (refine wpAny_bind ?_; refine wp_if_neg (by simp [tf]) ?_; refine wpAny_pure ?_)
    refine wpAny_pure (next true h1 L1 es1 (ep + 1) t1 sb ?_ (fun z => (hm z).elim) fun _ => pm)
    rw [full1, decide_eq_true_eq] at tf
    exact { at' := ⟨_, ho1, ⟨hex.1, hex.2.1, hex.2.2⟩, rfl⟩, es' := e1, tab := tab1, one := one1, key := key1, pl := pl1, ld := ld1, gap := by rw [ll]; omega }
end
end Ca.SetK
set_option Elab.async false
set_option linter.all false
set_option maxRecDepth 100000
/-! set(a list of keys) -/
namespace Ca.SetK
open PySem PySem.Spec PyProof.Rows L2
section
variable {P : Program} {w : World} {K : Type} [DecidableEq K] {κ : HeapKind P w K} {A : Around} {E : Value → Shared → Prop} {s : Shared}
/-- L has just the keys of the first i of ks -/
structure Had (ks : List (Addr × K)) (i : Nat) (L : List (Addr × K)) : Prop where
  from' : ∀ e ∈ L, e ∈ ks
  every : ∀ (j : Nat) e, j < i → ks[j]? = some e → e.2 ∈ L.map Prod.snd
  few : L.length ≤ i
theorem Had.none (ks : List (Addr × K)) : Had ks 0 [] := ⟨fun _ h => (by cases h), fun _ _ h => (by omega), Nat.le_refl _⟩
theorem Had.again {ks L : List (Addr × K)} {i : Nat} {e : Addr × K} (g : Had ks i L) (h : ks[i]? = some e) (m : e.2 ∈ L.map Prod.snd) : Had ks (i + 1) L :=
  ⟨g.from', fun j u hj hu => (by
    rcases Nat.lt_succ_iff_lt_or_eq.mp hj with z | rfl
    · exact g.every j u z hu
    · rw [h] at hu
      cases hu
      exact m), Nat.le_succ_of_le g.few⟩
theorem Had.more {ks L L2 : List (Addr × K)} {i : Nat} {e : Addr × K} (g : Had ks i L) (h : ks[i]? = some e) (pm : L2.Perm (e :: L)) : Had ks (i + 1) L2 :=
  ⟨fun u hu => (by
    rcases List.mem_cons.mp (pm.mem_iff.mp hu) with rfl | z
    · exact List.mem_of_getElem? h
    · exact g.from' u z), fun j u hj hu => (by
    rw [(pm.map Prod.snd).mem_iff, List.map_cons]
    rcases Nat.lt_succ_iff_lt_or_eq.mp hj with z | rfl
    · exact List.mem_cons_of_mem _ (g.every j u z hu)
    · rw [h] at hu
      cases hu
      exact List.mem_cons_self), by rw [pm.length_eq]; exact Nat.succ_le_succ g.few⟩
theorem is_keep (q : Ask κ) {h h' : Heap} {k : K} {b : Addr} (x : κ.is h k b) (hk : ∀ c o, h.get? c = some o → h'.get? c = some o) : κ.is h' k b := q.stay x fun c o _ _ e _ => hk c o e
theorem Tbl.keep (q : Ask κ) {h h' : Heap} {a : Addr} {L : List (Addr × K)} {es : Array (Int × Value)} {ep : Nat} {t : SetTable} (T : Tbl κ h a L es ep t) (ha : ∀ o, h.get? a = some o → h'.get? a = some o) (hk : ∀ e ∈ L, κ.is h' e.2 e.1) : Tbl κ h' a L es ep t := by
  obtain ⟨o, ho, r⟩ := T.at'
  exact { at' := ⟨o, ha o ho, r⟩, es' := T.es', tab := T.tab, one := T.one, key := hk, pl := T.pl, ld := T.ld, gap := T.gap }
/-- the object of a new set -/
abbrev fresh (w : World) : Obj := { cls := .type "set", dict := none, data := .set #[] 0 (.fresh 0 0 (!w.params.followText "set-order")) }
theorem tbl_new {h : Heap} {a : Addr} (ho : h.get? a = some (fresh w)) : Tbl κ h a [] #[] 0 (.fresh 0 0 (!w.params.followText "set-order")) where
  at' := ⟨_, ho, ⟨rfl, rfl, rfl⟩, rfl⟩
  es' := rfl
  tab := ⟨List.Pairwise.nil, rfl, rfl, .inl rfl, fun x hx => (by cases hx), fun i h j hi => (by simp at hi)⟩
  one := List.nodup_nil
  key := fun p hp => (by cases hp)
  pl := rfl
  ld := by
    show _ ∨ (!w.params.followText "set-order") = true
    cases w.params.followText "set-order" <;> simp
  gap := by
    show 0 * 5 < 7 * 3
    decide
/-- the turns of set(..) over what is walked -/
theorem turns (q : Ask κ) {I S : Addr} {fp wr : List Addr} {G : Array GenState → Array GenState → Prop} {n : Nat} {Pv : Nat → Value → Prop} {St : Nat → Shared → Prop} {R : Result → Shared → Prop} (W : WalksS P w A.in1 I fp wr G n Pv St) (nS : S ∉ fp)
    (ks : List (Addr × K)) (hn : n = ks.length) (few : ks.length < 76) (val : ∀ i v, Pv i v → ∃ e, ks[i]? = some e ∧ v = .ref e.1) (h0 : Heap) (hk : ∀ e ∈ ks, κ.is h0 e.2 e.1) (S0 : h0.get? S = none) (w0 : ∀ b ∈ wr, h0.get? b = none) (hr : κ.room A.in1) :
    ∀ (d i : Nat) (s : Shared), i + d = n → St i s → (∀ b o, h0.get? b = some o → s.heap.get? b = some o) → (∃ L es ep t, Tbl κ s.heap S L es ep t ∧ Had ks i L) →
      (∀ z L es ep t, Moved (S :: wr) G s z → Tbl κ z.heap S L es ep t → Had ks n L → (∀ b o, h0.get? b = some o → z.heap.get? b = some o) → R (.ok (.ret .none)) z) →
      codeAny (model P w) A (.builtin "set.update.loop" ⟨[.ref S, .ref I], []⟩) R s := by
  have nW : S ∉ wr := fun h => nS (W.sub _ h)
  have up : ∀ b ∈ wr, b ∈ S :: wr := fun b hb => List.mem_cons_of_mem _ hb
  have kept : ∀ {y z : Shared}, Moved wr G y z → (∀ b o, h0.get? b = some o → y.heap.get? b = some o) → ∀ b o, h0.get? b = some o → z.heap.get? b = some o := fun hm old b o e =>
    hm.heap b o (fun hb => by rw [w0 b hb] at e; cases e) (old b o e)
  intro d
  induction d with
  | zero =>
    intro i s hi st old ⟨L, es, ep, t, T, g⟩ out
    obtain rfl : i = n := by omega
    refine codeAny_builtin F.entry_set_update_loop ?_
    rw [Around.under_plainId F.plain_set_update_loop _]
    show wpAny _ A.in1 (pyNext (.ref I) >>= _) _ _ s
    refine wpAny_bind (W.done s _ _ st fun z hm => ?_)
    show wpAny _ A.in1 (ret Value.none) _ _ z
    have old2 := kept hm old
    exact wpAny_pure (out z L es ep t (hm.mono up) (T.keep q (fun o e => hm.heap S o nW e) fun e he => is_keep q (hk e (g.from' e he)) old2) g old2)
  | succ d ih =>
    intro i s hi st old ⟨L, es, ep, t, T, g⟩ out
    refine codeAny_builtin F.entry_set_update_loop ?_
    rw [Around.under_plainId F.plain_set_update_loop _]
    show wpAny _ A.in1 (pyNext (.ref I) >>= _) _ _ s
    refine wpAny_bind (W.item i s _ _ (by omega) st fun v z hv st2 hm => ?_)
    obtain ⟨e, he, rfl⟩ := val i v hv
    have old2 := kept hm old
    have T2 : Tbl κ z.heap S L es ep t := T.keep q (fun o e => hm.heap S o nW e) fun u hu => is_keep q (hk u (g.from' u hu)) old2
    have hx : κ.is z.heap e.2 e.1 := is_keep q (hk e (List.mem_of_getElem? he)) old2
    show wpAny _ A.in1 (holding [Value.ref e.1] (setAdd S (.ref e.1)) >>= _) _ _ z
    refine wpAny_bind (wpAny_holding ?_)
    unfold setAdd
    refine wpAny_holding (wpAny_bind (κ.pyHash hr hx ?_))
    refine put (s := { z with toks := z.toks + κ.draws e.2 }) T2 q hx hr (by have := g.few; omega) fun b h2 L2 es2 ep2 t2 sb T3 c1 c2 => ?_
    have g2 : Had ks (i + 1) L2 := by
      by_cases m : e.2 ∈ L.map Prod.snd
      · rw [c1 m]; exact g.again he m
      · exact g.more he (c2 m)
    have old3 : ∀ b o, h0.get? b = some o → h2.get? b = some o := fun b o u => (sb.2 b fun y => by rw [y, S0] at u; cases u).trans (old2 b o u)
    refine wpAny_pure ⟨plainId_quiet F.plain_set_update_loop _, ih (i + 1) _ (by omega) (W.frame _ z _ _ st2 (Nat.le_add_right _ _) fun b hb o u => ?_) old3 ⟨L2, es2, ep2, t2, T3, g2⟩ fun y L4 es4 ep4 t4 m4 T4 g4 old4 => ?_⟩
    · exact (sb.2 b fun y : b = S => nS (y ▸ hb)).trans u
    · refine out y L4 es4 ep4 t4 (Moved.trans W.gtrans ((hm.mono up).then_heap (Nat.le_add_right _ _) fun b o hb u => ?_) m4) T4 g4 old4
      exact (sb.2 b fun y : b = S => hb (y ▸ List.mem_cons_self)).trans u
end
end Ca.SetK
set_option Elab.async false
set_option linter.all false
set_option maxRecDepth 100000
set_option maxHeartbeats 3200000
/-! set(a list of keys): the call -/
namespace Ca.SetK
open PySem PySem.Spec PyProof.Rows L2
section
variable {P : Program} {w : World} {K : Type} [DecidableEq K] {κ : HeapKind P w K} {A : Around} {E : Value → Shared → Prop} {s : Shared}
/-- what stands behind the call -/
def Out (κ : HeapKind P w K) (s : Shared) (ks : List (Addr × K)) (z : Shared) : Prop := ∃ h2 tk L es ep t, z = { s with heap := h2, toks := tk } ∧ Tbl κ h2 s.heap.objs.size L es ep t ∧ Had ks ks.length L ∧ ∀ b o, s.heap.get? b = some o → h2.get? b = some o
/-- set.__init__ of a new set -/
theorem init_ (q : Ask κ) {l : Addr} {items : Array Value} (ks : List (Addr × K)) (hh : A.handled = none) (hl : s.heap.IsList l items) (hit : items.toList = ks.map fun e => Value.ref e.1)
    (hk : ∀ e ∈ ks, κ.is s.heap e.2 e.1) (few : ks.length < 76) (hr : κ.room A.in1) :
    wpAny (model P w) A (Builtin.«set.__init__» ⟨[.ref s.heap.objs.size, .ref l], []⟩) (fun fin z => match fin with
      | .done (.ret r) => r = .none ∧ Out κ s ks z
      | _ => False) E { s with heap := s.heap.push (fresh w) } := by
  have sz : items.size = ks.length := by rw [← Array.length_toList, hit, List.length_map]
  obtain ⟨ol, hol, hcl, nl, hdl⟩ := id hl
  have ll : l < s.heap.objs.size := Heap.lt_size hol
  have hl1 : (s.heap.push (fresh w)).IsList l items := hl.push _
  have z1 : (s.heap.push (fresh w)).objs.size = s.heap.objs.size + 1 := Heap.size_push ..
  have hT : Shared.TypeIs { s with heap := s.heap.push (fresh w) } (.ref l) "list" := hl1.typeIs
  have hsls := F.sub_list_set
  have hslf := F.sub_list_frozenset
  have hne : (Value.type "list" == Value.type "dict") = false := by decide
  have above : ∀ b, s.heap.objs.size ≤ b → s.heap.get? b = none := fun b hb => Heap.get?_none_of_le hb
  obtain ⟨ocls, odict, odata, oslots⟩ := ol
  simp only at hcl hdl
  subst hcl
  subst hdl
  have hol' : (s.heap.push (fresh w)).get? l = some { cls := .type "list", dict := odict, data := .seq items nl, slots := oslots } := Heap.get?_push_of_some _ hol
  have nI : l ≠ (s.heap.push (fresh w)).objs.size := by rw [z1]; exact Nat.ne_of_lt (Nat.lt_succ_of_lt ll)
  unfold Builtin.«set.__init__» noKeywords Builtin.Frozenset.updateFrom
  generalize hPI : pyIter = PI
  wp_walk
  subst hPI
  refine wpAny_pyIter_list hl1 ?_
  refine wpAny_bind (wpAny_runValue ?_)
  have hh1 : A.in1.handled = none := by simp [hh]
  have nS : s.heap.objs.size ∉ [(s.heap.push (fresh w)).objs.size, l] := by
    rw [z1]
    simp only [List.mem_cons, List.not_mem_nil, or_false, not_or]
    exact ⟨Nat.ne_of_lt (Nat.lt_succ_self _), Nat.ne_of_gt ll⟩
  have val : ∀ (i : Nat) (v : Value), items[i]? = some v → ∃ e, ks[i]? = some e ∧ v = .ref e.1 := fun i v hv => by
    rw [← Array.getElem?_toList, hit, List.getElem?_map] at hv
    cases hq : ks[i]? with
    | none => rw [hq] at hv; cases hv
    | some e =>
      rw [hq] at hv
      exact ⟨e, rfl, (Option.some.inj hv).symm⟩
  refine turns q ((Walks.list hh1 _ l nI items).toS) (S := s.heap.objs.size) nS ks sz few val s.heap hk (above _ (Nat.le_refl _)) (fun b hb => above b (by
    rw [List.mem_singleton.mp hb, z1]
    exact Nat.le_succ _)) hr items.size 0 _ (Nat.zero_add _) ⟨⟨_, Heap.get?_push_size _ rfl, rfl, rfl⟩, hl1.push _⟩ (fun b o e => Heap.get?_push_of_some _ (Heap.get?_push_of_some _ e)) ?_ ?_
  · exact ⟨[], #[], 0, _, tbl_new (Heap.get?_push_of_some _ (Heap.get?_push_size _ rfl)), Had.none ks⟩
  · intro z L es ep t hm T g old
    obtain ⟨h2, g2, d2, tk, os2⟩ := z
    obtain rfl : g2 = s.gens := hm.gens
    obtain rfl : d2 = s.drawn := hm.drawn
    obtain rfl : os2 = s.os := hm.os
    rw [sz] at g
    show wpAny _ _ _ _ _ _
    refine wpAny_pure ?_
    show wpAny _ _ (ret Value.none) _ _ _
    exact wpAny_pure ⟨rfl, h2, tk, L, es, ep, t, rfl, T, g, old⟩
/-- set(xs) -/
theorem call_set (q : Ask κ) {l : Addr} {items : Array Value} (ks : List (Addr × K)) (hh : A.handled = none) (hl : s.heap.IsList l items) (hit : items.toList = ks.map fun e => Value.ref e.1)
    (hk : ∀ e ∈ ks, κ.is s.heap e.2 e.1) (few : ks.length < 76) (hr : ∀ B : Around, B.units ≤ A.units + 4 → κ.room B) {Q : Value → Shared → Prop}
    (out : ∀ z, Out κ s ks z → Q (.ref s.heap.objs.size) z) : wpAny (model P w) A (call (.type "set") [.ref l]) Q E s := by
  obtain ⟨c, tl, hmro⟩ := F.called_set.mro
  have hmade := F.called_set.made
  have hsub := F.called_set.sub
  refine wpAny_call (codeAny_of_tree ?_)
  show wpAny _ _ (callAny (.type "set") _) _ _ _
  refine wpAny_pure ⟨Code.quiet_builtin _ (by decide +kernel), codeAny_builtin F.entry_type_call ?_⟩
  rw [Around.under_plain (weight_type_call_type "set" [.ref l] []) rfl]
  have c1 := F.called_set.notType
  have c2 := F.called_set.canCreate
  have c3 := F.typeCall_set_1 (.ref l)
  repeat (any_goals (first | assumption | wp_step))
  refine codeAny_mono (code_set_led1 (.ref l) (E := E) (Q₁ := fun v z => v = .ref s.heap.objs.size ∧ z = { s with heap := s.heap.push (fresh w) }) ⟨rfl, rfl⟩) fun r z hr1 => ?_
  cases r with
  | error e => exact hr1
  | ok fl =>
    cases fl with
    | ret v =>
      obtain ⟨rfl, rfl⟩ := hr1
      have hT : Shared.TypeIs { s with heap := s.heap.push (fresh w) } (.ref s.heap.objs.size) "set" := ⟨_, Heap.get?_push_size _ rfl, rfl⟩
      have i1 := F.called_set.init.lookup
      have i2 := F.called_set.init.bind (.ref s.heap.objs.size)
      repeat (any_goals (first | assumption | wp_step))
      refine codeAny_mono (codeAny_call_builtin (R := wants (fun r z => r = .none ∧ Out κ s ks z) E) F.called_set.init.plain F.entry_set_init (check_set_init_1 hT ?_)) fun r2 z2 hr2 => ?_
      · refine wpAny_mono (init_ (A := A.in1.in1) (E := E) q ks (by simp [hh]) hl hit hk few (hr _ (Nat.le_succ _))) (fun fin z hz => ?_) fun e z hz => hz
        cases fin with
        | done f =>
          cases f with
          | ret r => exact hz
          | _ => exact hz.elim
        | again _ => exact hz.elim
      · cases r2 with
        | error e => exact hr2
        | ok f2 =>
          cases f2 with
          | ret r =>
            obtain ⟨rfl, hz⟩ := hr2
            repeat (any_goals (first | assumption | wp_step))
            obtain ⟨h2, tk, L, es, ep, t, rfl, T, g, old⟩ := hz
            exact out _ ⟨h2, tk, L, es, ep, t, rfl, T, g, old⟩
          | _ => exact hr2.elim
    | _ => exact hr1.elim
end
end Ca.SetK
set_option Elab.async false
set_option linter.all false
set_option maxRecDepth 100000
/-! pairs of a tuple of whole numbers and a whole number, as keys -/
namespace Ca.SetK
open PySem PySem.Spec PyProof.Rows L2
abbrev Pk := List Int × Int
def encK (k : Pk) : NestedKey := .tup [.tup (k.1.map .num), .num k.2]
def encD (k : Pk) : PyData := .tuple [.tuple (k.1.map .int), .int k.2]
theorem encK_inj {x y : Pk} (h : encK x = encK y) : x = y := by
  obtain ⟨a, b⟩ := x
  obtain ⟨c, d⟩ := y
  simp only [encK, NestedKey.tup.injEq, List.cons.injEq, NestedKey.num.injEq, and_true] at h
  obtain ⟨h1, rfl⟩ := h
  have : a = c := by
    have inj : ∀ (u v : List Int), u.map NestedKey.num = v.map NestedKey.num → u = v := by
      intro u
      induction u with
      | nil => intro v hv; cases v with | nil => rfl | cons _ _ => cases hv
      | cons i u ih =>
        intro v hv
        cases v with
        | nil => cases hv
        | cons j v =>
          simp only [List.map_cons, List.cons.injEq, NestedKey.num.injEq] at hv
          rw [hv.1, ih v hv.2]
    exact inj a c h1
  rw [this]
theorem dep0 : ∀ ns : List Int, NestedKey.depthAll (ns.map .num) = 0
  | [] => rfl
  | n :: ns => by
    show max (NestedKey.depth (.num n)) (NestedKey.depthAll (ns.map .num)) = 0
    rw [dep0 ns]
    rfl
theorem depK (k : Pk) : (encK k).depth = 2 := by
  show max (NestedKey.depthAll (k.1.map .num) + 1) (max 0 0) + 1 = 2
  rw [dep0]
  rfl
/-- the tuple at b holds such a pair -/
def Kp (h : Heap) (k : Pk) (b : Addr) : Prop := ∃ (o o2 : Obj) (c : Addr) (us : Array Value) (tk : Tok) (n m : Nat), h.get? b = some o ∧ o.cls = .type "tuple" ∧ o.data = .seq #[.ref c, .int k.2 tk] n ∧ h.get? c = some o2 ∧ o2.cls = .type "tuple" ∧ o2.data = .seq us m ∧ IntsAre us.toList k.1
theorem nall {h : Heap} {us : List Value} {ns : List Int} (r : IntsAre us ns) : NestedAll h (ns.map .num) us := by
  induction r with
  | nil => exact .nil
  | cons i t _ ih => exact .cons (.int i t) ih
theorem rall {h : Heap} {us : List Value} {ns : List Int} (r : IntsAre us ns) : ReadsAll h us (ns.map .int) [] := by
  induction r with
  | nil => exact .nil
  | cons i t _ ih => exact ReadsAll.cons (as := []) (.int i t) ih
theorem Kp.nest {h : Heap} {k : Pk} {b : Addr} (x : Kp h k b) : NestedIs h (encK k) (.ref b) := by
  obtain ⟨o, o2, c, us, tk, n, m, h1, h2, h3, h4, h5, h6, h7⟩ := x
  exact .tup h1 h2 h3 (.cons (.tup h4 h5 h6 (nall h7)) (.cons (.int _ _) .nil))
theorem Kp.data {h : Heap} {k : Pk} {b : Addr} (x : Kp h k b) : Reads h (.ref b) (encD k) [] := by
  obtain ⟨o, o2, c, us, tk, n, m, h1, h2, h3, h4, h5, h6, h7⟩ := x
  exact .tuple h1 h2 h3 (ReadsAll.cons (as := []) (.tuple h4 h5 h6 (rall h7)) (ReadsAll.cons (as := []) (.int _ _) .nil))
theorem Kp.stay {h h' : Heap} {k : Pk} {b : Addr} (x : Kp h k b) (old : ∀ c o vs n, h.get? c = some o → o.data = .seq vs n → h'.get? c = some o) : Kp h' k b := by
  obtain ⟨o, o2, c, us, tk, n, m, h1, h2, h3, h4, h5, h6, h7⟩ := x
  exact ⟨o, o2, c, us, tk, n, m, old _ _ _ _ h1 h3, h2, h3, old _ _ _ _ h4 h6, h5, h6, h7⟩
section
variable {P : Program} {w : World}
/-- the kind of such keys -/
def pairK (P : Program) (w : World) : HeapKind P w Pk where
  is := Kp
  hash := fun k => (encK k).hash w
  draws := fun k => (encK k).draws
  room := fun A => A.units + 8 < cLine
  inj := fun hx hy => encK_inj (NestedIs.inj _ _ _ hx.nest hy.nest)
  keeps := fun {h h' k a d o es ep} x ho hd hs => x.stay fun c u vs n hu hc => by
    by_cases e : c = d
    · rw [e, ho] at hu
      rw [← Option.some.inj hu, hd] at hc
      cases hc
    · exact (hs.2 c e).trans hu
  pyHash := fun hu hk h => pyHash_key _ _ _ _ _ hk.nest (by rw [depK]; omega) h
  eqBool := fun {A E s x y a b Q} hu hx hy h => eqAt_key _ _ A s _ _ hx.nest hy.nest (by rw [depK, depK]; omega) _ _ _ _ (by
    rw [← NestedKey.decide_eq, show decide (encK x = encK y) = decide (x = y) from decide_eq_decide.mpr ⟨encK_inj, fun e => by rw [e]⟩]
    exact h)
  quiet := fun {A E s k a Q} hk h => quiet_key _ _ 8 s hk.nest (by rw [depK]; omega) A E Q h
variable {A : Around} {E : Value → Shared → Prop} {s : Shared}
/-- asked of a tuple: no class statement among what it holds -/
theorem noCls_tup {n : Nat} {b : Addr} {o : Obj} {vs : Array Value} {m : Nat} {Q : Bool → Shared → Prop} (ho : s.heap.get? b = some o) (hc : o.cls = .type "tuple") (hd : o.data = .seq vs m)
    (each : ∀ v ∈ vs.toList, ∀ Q : Bool → Shared → Prop, Q false s → wpAny (model P w) A (ofAClassStatement n v) Q E s) (h : Q false s) : wpAny (model P w) A (ofAClassStatement (n + 1) (.ref b)) Q E s := by
  have hT : s.TypeIs (.ref b) "tuple" := ⟨o, ho, hc⟩
  have e : (("tuple" : String) == "tuple") = true := by decide
  unfold ofAClassStatement
  refine wpAny_bind (wpAny_typeOf hT ?_)
  dsimp only
  simp only [e, if_true, Bool.not_true, Bool.false_eq_true, if_false]
  try refine wpAny_bind (wpAny_pure ?_)
  try simp only [Bool.not_true, Bool.false_eq_true, if_false]
  refine wpAny_bind (m := seqItems? (.ref b)) (wpAny_seqItems ho hd ?_)
  dsimp only
  refine wpAny_bind ?_
  show wpAny _ _ (forIn vs _ _) _ _ s
  rw [← Array.forIn_toList]
  refine wpAny_forIn_list _ (fun left acc z => (acc.1 = none ∧ z = s) ∧ ∀ v ∈ left, v ∈ vs.toList) _ (fun v left acc z hz => ?_) (fun acc z hz => ?_) _ _ ⟨⟨rfl, rfl⟩, fun v hv => hv⟩
  · obtain ⟨⟨h0, rfl⟩, hl⟩ := hz
    refine wpAny_bind (each v (hl v List.mem_cons_self) _ ?_)
    simp only [Bool.false_eq_true, if_false]
    exact wpAny_pure ⟨⟨rfl, rfl⟩, fun u hu => hl u (List.mem_cons_of_mem _ hu)⟩
  · obtain ⟨⟨h0, rfl⟩, _⟩ := hz
    obtain ⟨r1, r2⟩ := acc
    simp only at h0
    subst h0
    exact wpAny_pure h
/-- asked of a tuple: its hash is its value's, if those of what it holds are -/
theorem byVal_tup {n : Nat} {b : Addr} {o : Obj} {vs : Array Value} {m : Nat} {Q : Bool → Shared → Prop} (ho : s.heap.get? b = some o) (hc : o.cls = .type "tuple") (hd : o.data = .seq vs m)
    (each : ∀ v ∈ vs.toList, ∀ Q : Bool → Shared → Prop, Q true s → wpAny (model P w) A (hashByValue n v) Q E s) (h : Q true s) : wpAny (model P w) A (hashByValue (n + 1) (.ref b)) Q E s := by
  have hT : s.TypeIs (.ref b) "tuple" := ⟨o, ho, hc⟩
  unfold hashByValue
  refine wpAny_bind (wpAny_specialOf hT F.slot_tuple_hash.lookup ?_)
  refine wpAny_bind (m := seqItems? (.ref b)) (wpAny_seqItems ho hd ?_)
  refine wpAny_bind ?_
  show wpAny _ _ (forIn vs _ _) _ _ s
  rw [← Array.forIn_toList]
  refine wpAny_forIn_list _ (fun left acc z => (acc.1 = none ∧ z = s) ∧ ∀ v ∈ left, v ∈ vs.toList) _ (fun v left acc z hz => ?_) (fun acc z hz => ?_) _ _ ⟨⟨rfl, rfl⟩, fun v hv => hv⟩
  · obtain ⟨⟨h0, rfl⟩, hl⟩ := hz
    refine wpAny_bind (each v (hl v List.mem_cons_self) _ ?_)
    simp only [Bool.not_true, Bool.false_eq_true, if_false]
    exact wpAny_pure ⟨⟨rfl, rfl⟩, fun u hu => hl u (List.mem_cons_of_mem _ hu)⟩
  · obtain ⟨⟨h0, rfl⟩, _⟩ := hz
    obtain ⟨r1, r2⟩ := acc
    simp only at h0
    subst h0
    exact wpAny_pure h
theorem int_of {us : List Value} {ns : List Int} (r : IntsAre us ns) : ∀ v ∈ us, ∃ i t, v = Value.int i t := by
  induction r with
  | nil => intro v hv; cases hv
  | cons i t _ ih =>
    intro v hv
    rcases List.mem_cons.mp hv with rfl | z
    · exact ⟨i, t, rfl⟩
    · exact ih v z
theorem askK : Ask (pairK P w) where
  stay := fun x old => Kp.stay x old
  noCls := fun {A E s k b Q} x h => by
    obtain ⟨o, o2, c, us, tk, n, m, h1, h2, h3, h4, h5, h6, h7⟩ := x
    refine noCls_tup (n := 7) h1 h2 h3 (fun v hv Q2 hq => ?_) h
    have hv2 : v = .ref c ∨ v = .int k.2 tk := by simpa using hv
    rcases hv2 with rfl | rfl
    · refine noCls_tup (n := 6) h4 h5 h6 (fun u hu Q3 hq3 => ?_) hq
      obtain ⟨i, t, rfl⟩ := int_of h7 u hu
      rw [ofAClass_int]
      exact wpAny_pure hq3
    · rw [ofAClass_int]
      exact wpAny_pure hq
  byVal := fun {A E s k b Q} x h => by
    obtain ⟨o, o2, c, us, tk, n, m, h1, h2, h3, h4, h5, h6, h7⟩ := x
    refine byVal_tup (n := 7) h1 h2 h3 (fun v hv Q2 hq => ?_) h
    have hv2 : v = .ref c ∨ v = .int k.2 tk := by simpa using hv
    rcases hv2 with rfl | rfl
    · refine byVal_tup (n := 6) h4 h5 h6 (fun u hu Q3 hq3 => ?_) hq
      obtain ⟨i, t, rfl⟩ := int_of h7 u hu
      rw [hashBy_int]
      exact wpAny_pure hq3
    · rw [hashBy_int]
      exact wpAny_pure hq
end
end Ca.SetK
set_option Elab.async false
set_option linter.all false
set_option maxRecDepth 100000
set_option maxHeartbeats 1600000
/-! sorted(set(..)) of pairs of a tuple of whole numbers and a whole number: over the layer -/
namespace Ca.SetK
open PySem PySem.Spec PyProof.Rows PySem.W L2
section
variable {P : Program} {w : World} {A : Around} {E : Value → Shared → Prop} {s : Shared}
theorem alikeK (x y : Addr × Pk) : alike (encD x.2) (encD y.2) = true := by
  show (alikeAll (x.2.1.map .int) (y.2.1.map .int) && (true && true)) = true
  rw [alike_ints]
  rfl
theorem depD (k : Pk) : (encD k).depth ≤ 2 := by
  have h : (encD k).depth = max (PyData.depthAll (k.1.map .int) + 1) (max 0 0) + 1 := rfl
  rw [h, depth_ints]
  decide
/-- values that are those of keys, in some order -/
theorem as_keys {L : List (Addr × Pk)} : ∀ vs : List Value, (∀ v ∈ vs, ∃ e ∈ L, v = Value.ref e.1) → ∃ L1 : List (Addr × Pk), vs = L1.map (fun e => Value.ref e.1) ∧ ∀ e ∈ L1, e ∈ L
  | [], _ => ⟨[], rfl, fun e h => (by cases h)⟩
  | v :: vs, h => by
    obtain ⟨e, he, rfl⟩ := h v List.mem_cons_self
    obtain ⟨L1, rfl, h1⟩ := as_keys vs fun u hu => h u (List.mem_cons_of_mem _ hu)
    exact ⟨e :: L1, rfl, fun u hu => (List.mem_cons.mp hu).elim (fun z => z ▸ he) (h1 u)⟩
/-- sorted(a set of keys): its keys, in some order -/
theorem sorted_set {a : Addr} {L : List (Addr × Pk)} {es : Array (Int × Value)} {ep : Nat} {t : SetTable} {Q : Value → Shared → Prop} (T : Tbl (pairK P w) s.heap a L es ep t) (hh : A.handled = none) (hu : A.units + 8 < cLine)
    (out : ∀ (z : Shared) (p : Addr) (vs : Array Value) (c : Nat) (L2 : List (Addr × Pk)), (∀ b o, s.heap.get? b = some o → z.heap.get? b = some o) → z.gens = s.gens → z.os = s.os → s.heap.objs.size ≤ p →
      z.heap.get? p = some (seqObj "list" vs c) → vs.toList = L2.map (fun e => Value.ref e.1) → L2.Perm L → Q (.ref p) z) :
    wpAny (model P w) A (call (.builtin "sorted") [.ref a]) Q E s := by
  obtain ⟨o, ho, hex, hd⟩ := T.at'
  have el := T.len
  have few : L.length < 77 := by
    have h1 := T.gap
    rcases T.tab.mok with z | z | z <;> omega
  refine Calls.call_function_entry kind_sorted plain_sorted entry_sorted (args_sorted1 _) ?_
  unfold Builtin.«sorted»
  refine wpAny_bind (m := checkCount "sorted" 1 1 _) (wpAny_pure ?_)
  refine wpAny_bind (collect_set (A := A.in1) hh ⟨o, ho, hex.1, hd⟩ T.fit (by unfold scanBound; omega) T.tab.ris T.ld fun s1 vs old zs g1 o1 pm => ?_)
  have e0 : es.toList.map (·.2) = L.map fun e => Value.ref e.1 := by
    rw [T.es']
    simp [ents]
  rw [e0] at pm
  -- an address holds one key
  have inj : ∀ e ∈ L, ∀ u ∈ L, e.1 = u.1 → e = u := fun e he u hu eq => by
    have k1 := T.key e he
    rw [eq] at k1
    exact Prod.ext eq ((pairK P w).inj k1 (T.key u hu))
  have nL : L.Nodup := List.Pairwise.of_map Prod.snd (fun _ _ hn e => hn (congrArg Prod.snd e)) T.one
  obtain ⟨L1, rfl, sub⟩ := as_keys (L := L) vs fun v hv => by
    obtain ⟨e, he, eq⟩ := List.mem_map.mp (pm.mem_iff.mp hv)
    exact ⟨e, he, eq.symm⟩
  have n1 : L1.Nodup := by
    have n2 : (L.map fun e => Value.ref e.1).Nodup := List.pairwise_map.mpr (nL.imp_of_mem fun {e u} he hu hn eq => hn (inj e he u hu (by injection eq)))
    exact List.Pairwise.of_map (fun e : Addr × Pk => Value.ref e.1) (fun _ _ hn e => hn (congrArg (fun e : Addr × Pk => Value.ref e.1) e)) (pm.nodup_iff.mpr n2)
  have p1 : L1.Perm L := (List.perm_ext_iff_of_nodup n1 nL).mpr fun e => ⟨sub e, fun he => by
    obtain ⟨u, hu, eq⟩ := List.mem_map.mp (pm.mem_iff.mpr (List.mem_map.mpr ⟨e, he, rfl⟩))
    injection eq with eq
    rw [← inj u (sub u hu) e he eq]
    exact hu⟩
  have l1 : L1.length < 77 := by rw [p1.length_eq]; exact few
  refine wpAny_bind (wpAny_newList ?_ (by rw [List.length_map, sizeLine_eq]; omega))
  have hl : (s1.heap.push (seqObj "list" (L1.map fun e => Value.ref e.1).toArray 0)).get? s1.heap.objs.size = some (seqObj "list" (L1.map fun e => Value.ref e.1).toArray 0) := Heap.get?_push_size _ rfl
  have both : EachIs (fun v (e : Addr × Pk) => v = Value.ref e.1 ∧ e ∈ L) (L1.map fun e => Value.ref e.1) L1 := by
    have h : ∀ l : List (Addr × Pk), (∀ e ∈ l, e ∈ L) → EachIs (fun v (e : Addr × Pk) => v = Value.ref e.1 ∧ e ∈ L) (l.map fun e => Value.ref e.1) l := by
      intro l
      induction l with
      | nil => intro _; exact .nil
      | cons e l ih => intro h; exact .cons ⟨rfl, h e List.mem_cons_self⟩ (ih fun u hu => h u (List.mem_cons_of_mem _ hu))
    exact h L1 sub
  have reads : EachIs (fun v (e : Addr × Pk) => ∃ as, Reads (s1.heap.push (seqObj "list" (L1.map fun e => Value.ref e.1).toArray 0)) v (encD e.2) as ∧ s1.heap.objs.size ∉ as) (L1.map fun e => Value.ref e.1) L1 :=
    both.mono fun v e ⟨h1, h2⟩ => by
      subst h1
      exact ⟨[], (is_keep askK (T.key e h2) fun c u hc => Heap.get?_push_of_some _ (old c u hc)).data, by simp⟩
  refine wpAny_bind (wpAny_holding (PySem.W.list_sort_data (s := { s1 with heap := s1.heap.push (seqObj "list" (L1.map fun e => Value.ref e.1).toArray 0) }) (R := fun v (e : Addr × Pk) => v = Value.ref e.1 ∧ e ∈ L) (enc := fun e : Addr × Pk => encD e.2) hl both reads
    (PySem.W.AllAlike.of alikeK) (PySem.W.Sortable.tuples fun b => ⟨_, _, rfl⟩) (by rw [sizeLine_eq]; omega) (fun b _ => by have := depD b.2; show A.units + 1 + 1 + _ < _; omega) fun vs2 len2 each2 => ?_))
  obtain ⟨c, hc⟩ := sortedHeap_at (vs := L1.map fun e => Value.ref e.1) (out := List.toArray vs2) hl
  have e2 : vs2 = (L1.mergeSort (PySem.W.dataLe false fun e : Addr × Pk => encD e.2)).map fun e => Value.ref e.1 := by
    have h : ∀ (x : List Value) (y : List (Addr × Pk)), EachIs (fun v (e : Addr × Pk) => v = Value.ref e.1 ∧ e ∈ L) x y → x = y.map fun e => Value.ref e.1 := by
      intro x y r
      induction r with
      | nil => rfl
      | cons r _ ih => rw [List.map_cons, ← ih, r.1]
    exact h _ _ each2
  refine wpAny_pure ⟨_, rfl, out _ s1.heap.objs.size (List.toArray vs2) c _ (fun b u e => ?_) g1 o1 zs hc (by rw [← e2]) ((List.mergeSort_perm _ _).trans p1)⟩
  have e3 := old b u e
  have lt := Heap.lt_size e3
  show (sortedHeap _ _ _ _).get? b = some u
  rw [sortedHeap_old (Nat.ne_of_lt lt) (by rw [size_push']; exact Nat.lt_succ_of_lt lt)]
  exact Heap.get?_push_of_some _ e3
end
end Ca.SetK
set_option Elab.async false
set_option linter.all false
set_option maxRecDepth 100000
set_option maxHeartbeats 1600000
/-! sorted(set(a list of pairs)): the rules of the layer -/
namespace Ca.SetK
open PySem PySem.Spec PyProof.Rows PySem.W L2
/-- the pair at p, over the layer -/
def PkV (K : PySem.W.Frag) (H : Hp) (k : Pk) (p : Addr) : Prop := ∃ t, SqT K H p [.ref t, .int k.2] ∧ SqT K H t (k.1.map .int)
theorem sqt_up {K : PySem.W.Frag} {H H' : Hp} {p : Addr} {xs : List V} (x : SqT K H p xs) (e : ∀ c u, H c = some u → H' c = some u) : SqT K H' p xs := by
  rcases x with h | h
  · rcases h with h | ⟨o, h⟩
    · exact .inl (.inl (e _ _ h))
    · exact .inl (.inr ⟨o, e _ _ h⟩)
  · exact .inr h
theorem PkV.up {K : PySem.W.Frag} {H H' : Hp} {k : Pk} {p : Addr} (x : PkV K H k p) (e : ∀ c u, H c = some u → H' c = some u) : PkV K H' k p := by
  obtain ⟨t, h1, h2⟩ := x
  exact ⟨t, sqt_up h1 e, sqt_up h2 e⟩
theorem PkV.upd {K : PySem.W.Frag} {H : Hp} {k : Pk} {p : Addr} {b : Addr} {o : HO} (x : PkV K H k p) (nb : H b = none) : PkV K (L2.upd H b o) k p := by
  obtain ⟨t, h1, h2⟩ := x
  have e : ∀ c u, H c = some u → L2.upd H b o c = some u := fun c u hc => by
    unfold L2.upd
    rw [if_neg (fun z => by rw [z, nb] at hc; cases hc)]
    exact hc
  exact ⟨t, sqt_up h1 e, sqt_up h2 e⟩
/-- the set at a, its keys apart -/
def Set0 (P : Program) (w : World) (h : Heap) (a : Addr) (L : List (Addr × Pk)) : Prop := ∃ (es : Array (Int × Value)) (ep : Nat) (t : SetTable), (∃ o, h.get? a = some o ∧ o.ExactSet ∧ o.data = .set es ep t) ∧ es.toList = ents (pairK P w) L ∧
  TabOk t (L.map fun e => (pairK P w).hash e.2) ∧ (L.map Prod.snd).Nodup ∧ t.plain = true ∧ (w.params.followText "set-order" = true ∨ t.led = true) ∧ L.length * 5 < t.mask * 3
def SetO (P : Program) (w : World) (a : Addr) (L : List (Addr × Pk)) : HO := .ext fun h => Set0 P w h a L
theorem Set0.of {P : Program} {w : World} {h : Heap} {a : Addr} {L : List (Addr × Pk)} {es : Array (Int × Value)} {ep : Nat} {t : SetTable} (T : Tbl (pairK P w) h a L es ep t) : Set0 P w h a L :=
  ⟨es, ep, t, T.at', T.es', T.tab, T.one, T.pl, T.ld, T.gap⟩
theorem Set0.whole {P : Program} {w : World} {h : Heap} {a : Addr} {L : List (Addr × Pk)} (x : Set0 P w h a L) (key : ∀ e ∈ L, Kp h e.2 e.1) : ∃ es ep t, Tbl (pairK P w) h a L es ep t := by
  obtain ⟨es, ep, t, h1, h2, h3, h4, h5, h6, h7⟩ := x
  exact ⟨es, ep, t, { at' := h1, es' := h2, tab := h3, one := h4, key := key, pl := h5, ld := h6, gap := h7 }⟩
theorem setO_ok {P : Program} {w : World} {H : Hp} {h : Heap} {a : Addr} {L : List (Addr × Pk)} (x : Set0 P w h a L) : ObjOk P w H h a (SetO P w a L) := by
  have ⟨_, _, _, ⟨o, ho, _⟩, _⟩ := x
  refine ⟨x, ⟨o, ho⟩, fun h1 h2 y k => ?_⟩
  obtain ⟨es, ep, t, ⟨o2, ho2, r2⟩, r⟩ := (show Set0 P w h1 a L from y)
  exact ⟨es, ep, t, ⟨o2, k o2 ho2, r2⟩, r⟩
theorem ints_vals : ∀ {ns : List Int} {us : List Value}, Vals (ns.map V.int) us → IntsAre us ns
  | [], _, .nil => .nil
  | n :: ns, _, .cons r t => by
    obtain ⟨tk, rfl⟩ := r
    exact .cons n tk (ints_vals t)
theorem refs_vals : ∀ {ks : List (Addr × Pk)} {us : List Value}, Vals (ks.map fun e => V.ref e.1) us → us = ks.map fun e => Value.ref e.1
  | [], _, .nil => rfl
  | e :: ks, _, .cons r t => by
    cases r
    rw [refs_vals t]
    rfl
theorem vals_refs : ∀ ks : List (Addr × Pk), Vals (ks.map fun e => V.ref e.1) (ks.map fun e => Value.ref e.1)
  | [] => .nil
  | e :: ks => .cons rfl (vals_refs ks)
section
variable {X : Cx} {pins : List (Addr × Obj)} {σ : L2.St} {H : Hp} {s : Shared}
theorem kp_of (I : Inv X pins σ H s) {k : Pk} {p : Addr} (x : PkV X.K H k p) : Kp s.heap k p := by
  obtain ⟨t, h1, h2⟩ := x
  obtain ⟨its, r, ⟨o, ho, hc, n, hd⟩, _⟩ := I.tuple h1
  obtain ⟨its2, r2, ⟨o2, ho2, hc2, n2, hd2⟩, _⟩ := I.tuple h2
  cases r with
  | cons ra rr =>
    cases rr with
    | cons rb rn =>
      cases rn
      cases ra
      obtain ⟨tk, rfl⟩ := rb
      exact ⟨o, o2, t, its2.toArray, tk, n, n2, ho, hc, hd, ho2, hc2, hd2, by simpa using ints_vals r2⟩
/-- set(xs) -/
def rSetK (K : PySem.W.Frag) (P : Program) (w : World) : List V → Hp → VK → Prop := fun xs H Q => ∃ (l : Addr) (ks : List (Addr × Pk)), xs = [V.ref l] ∧ SqL K H l (ks.map fun e => V.ref e.1) ∧ (∀ e ∈ ks, PkV K H e.2 e.1) ∧ ks.length < 76 ∧
  ∀ a L, H a = none → (∀ e ∈ L, e ∈ ks) → (∀ e ∈ ks, e.2 ∈ L.map Prod.snd) → L.length ≤ ks.length → Q (.ref a) (L2.upd H a (SetO P w a L))
theorem cr_setK (hc : X.calm = true) (hu : X.A.units + 64 < cLine) : CallR X (.type "set") (rSetK X.K X.prog X.w) := by
  intro pins s σ H xs us Q I r h
  obtain ⟨l, ks, rfl, hl, hk, few, q⟩ := h
  rw [Vals.ref1 r]
  obtain ⟨its, rv, pl, _⟩ := I.list hl
  refine call_set (κ := pairK X.prog X.w) askK ks (I.ok.hd hc) pl.isList (by simpa using refs_vals rv) (fun e he => kp_of I (hk e he)) few (fun B hB => by show B.units + 8 < cLine; omega) fun z hz => ?_
  obtain ⟨h2, tk, L, es, ep, t, rfl, T, g, old⟩ := hz
  refine ⟨.ref s.heap.objs.size, L2.upd H s.heap.objs.size (SetO X.prog X.w s.heap.objs.size L), I.laid (t' := tk) old (Nat.le_refl _) (setO_ok (Set0.of T)), rfl, q _ L (I.hok.fresh (Nat.le_refl _)) g.from' (fun e he => ?_) g.few⟩
  obtain ⟨j, hj⟩ := List.mem_iff_getElem?.mp he
  exact g.every j e (List.getElem?_eq_some_iff.mp hj).1 hj
/-- sorted(set) -/
def rSortK (K : PySem.W.Frag) (P : Program) (w : World) : List V → Hp → VK → Prop := fun xs H Q => ∃ (a : Addr) (L : List (Addr × Pk)), xs = [V.ref a] ∧ H a = some (SetO P w a L) ∧ (∀ e ∈ L, PkV K H e.2 e.1) ∧
  ∀ (M : List (Addr × Pk)) (p : Addr), M.Perm L → H p = none → Q (.ref p) (L2.upd H p (.lst (M.map fun e => V.ref e.1)))
theorem cr_sortK (hc : X.calm = true) (hu : X.A.units + 64 < cLine) : CallR X (.builtin "sorted") (rSortK X.K X.prog X.w) := by
  intro pins s σ H xs us Q I r h
  obtain ⟨a, L, rfl, ha, hk, q⟩ := h
  rw [Vals.ref1 r]
  have S0 : Set0 X.prog X.w s.heap a L := (I.hok a _ ha).1
  obtain ⟨es, ep, t, T⟩ := S0.whole fun e he => kp_of I (hk e he)
  have few : L.length < 77 := by
    have h1 := T.gap
    rcases T.tab.mok with z | z | z <;> omega
  refine sorted_set T (I.ok.hd hc) (by omega) fun z p vs c L2' old g o hp hg hv pm => ?_
  have len : (L2'.map fun e => V.ref e.1).length ≤ sizeLine := by rw [List.length_map, pm.length_eq, sizeLine_eq]; omega
  have hn : H p = none := I.hok.fresh hp
  have rv : Vals (L2'.map fun e => V.ref e.1) vs.toList := by rw [hv]; exact vals_refs L2'
  have J : Inv X pins σ (L2.upd H p (.lst (L2'.map fun e => V.ref e.1))) { s with heap := z.heap, gens := z.gens, drawn := z.drawn, toks := z.toks } :=
    I.call (ch := []) (Un.laid old hp hn) (I.hok.laid old hp ⟨len, vs.toList, c, rv, hg⟩) (by rw [g]; exact I.bare) (fun _ y => nomatch y)
  have e : z = { s with heap := z.heap, gens := z.gens, drawn := z.drawn, toks := z.toks } := by
    cases z
    cases s
    cases o
    rfl
  rw [e]
  exact ⟨.ref p, _, J, rfl, q L2' p pm hn⟩
end
end Ca.SetK
set_option Elab.async false
set_option linter.all false
set_option maxRecDepth 100000
set_option maxHeartbeats 8000000
namespace Ca
open PySem L2
/-! ### the law's own leaving out of the last unknown -/
def mixR (r t : FRow) : FRow := (mixI r.1 t.1, r.2 * -lastI t.1 + t.2 * lastI r.1)
def zeroR (ks : List FRow) : List FRow := (ks.filter fun r => decide (lastI r.1 = 0)).map fun r => (r.1.dropLast, r.2)
def overR (r t : FRow) : Bool := decide (lastI r.1 > 0) && decide (lastI t.1 < 0)
def pairsR (r : FRow) (ts : List FRow) : List FRow := (ts.filter (overR r)).map (mixR r)
def foundR (ks : List FRow) : List FRow := zeroR ks ++ ks.flatMap fun r => pairsR r ks
theorem foundR_iff (ks : List FRow) (p : FRow) : p ∈ foundR ks ↔ FoundF ks p := by
  unfold foundR zeroR pairsR overR mixR FoundF
  simp only [List.mem_append, List.mem_map, List.mem_filter, List.mem_flatMap, decide_eq_true_eq, Bool.and_eq_true]
  constructor
  · rintro (⟨r, ⟨h1, h2⟩, rfl⟩ | ⟨r, hr, t, ⟨h1, h2, h3⟩, rfl⟩)
    · exact .inl ⟨r, h1, h2, rfl⟩
    · exact .inr ⟨r, hr, t, h1, h2, h3, rfl⟩
  · rintro (⟨r, h1, h2, rfl⟩ | ⟨r, hr, t, h1, h2, h3, rfl⟩)
    · exact .inl ⟨r, ⟨h1, h2⟩, rfl⟩
    · exact .inr ⟨r, hr, t, ⟨h1, h2, h3⟩, rfl⟩
theorem flat_len (ks : List FRow) (c : Nat) (f : FRow → List FRow) (g : FRow → Bool) (h : ∀ r, (f r).length = if g r then c else 0) : (ks.flatMap f).length = (ks.filter g).length * c := by
  induction ks with
  | nil => simp
  | cons r ks ih =>
    rw [List.flatMap_cons, List.length_append, ih, h r, List.filter_cons]
    split
    · rw [List.length_cons, Nat.succ_mul]
      omega
    · omega
theorem three_len (ks : List FRow) : (ks.filter fun r => decide (lastI r.1 = 0)).length + (ks.filter fun r => decide (lastI r.1 > 0)).length + (ks.filter fun r => decide (lastI r.1 < 0)).length = ks.length := by
  induction ks with
  | nil => rfl
  | cons r ks ih =>
    simp only [List.filter_cons, decide_eq_true_eq]
    by_cases h0 : lastI r.1 = 0
    · rw [if_pos h0, if_neg (by omega), if_neg (by omega)]
      simp only [List.length_cons]
      omega
    · by_cases h1 : lastI r.1 > 0
      · rw [if_neg h0, if_pos h1, if_neg (by omega)]
        simp only [List.length_cons]
        omega
      · rw [if_neg h0, if_neg h1, if_pos (by omega)]
        simp only [List.length_cons]
        omega
theorem mul16 : ∀ a : Fin 17, ∀ b : Fin 17, a.val + b.val ≤ 16 → 16 - a.val - b.val + a.val * b.val ≤ 64 := by decide +kernel
theorem mul8 : ∀ a : Fin 9, ∀ b : Fin 9, a.val + b.val ≤ 8 → 8 - a.val - b.val + a.val * b.val ≤ 16 := by decide +kernel
theorem found_len {ks : List FRow} (h : ks.length ≤ 16) : (foundR ks).length ≤ 64 ∧ (ks.length ≤ 8 → (foundR ks).length ≤ 16) := by
  have e : (foundR ks).length = (ks.filter fun r => decide (lastI r.1 = 0)).length + (ks.filter fun r => decide (lastI r.1 > 0)).length * (ks.filter fun r => decide (lastI r.1 < 0)).length := by
    unfold foundR
    rw [List.length_append, flat_len ks (ks.filter fun r => decide (lastI r.1 < 0)).length _ (fun r => decide (lastI r.1 > 0)) fun r => ?_]
    · unfold zeroR
      rw [List.length_map]
    · unfold pairsR overR
      rw [List.length_map]
      by_cases c : lastI r.1 > 0
      · rw [if_pos (decide_eq_true c)]
        simp [c]
      · rw [if_neg (by simp [c])]
        simp [c]
  have t := three_len ks
  rw [e]
  generalize (ks.filter fun r => decide (lastI r.1 = 0)).length = z at *
  generalize (ks.filter fun r => decide (lastI r.1 > 0)).length = p at *
  generalize (ks.filter fun r => decide (lastI r.1 < 0)).length = n at *
  refine ⟨?_, fun h8 => ?_⟩
  · have := mul16 ⟨p, by omega⟩ ⟨n, by omega⟩ (by show p + n ≤ 16; omega)
    dsimp only at this
    omega
  · have := mul8 ⟨p, by omega⟩ ⟨n, by omega⟩ (by show p + n ≤ 8; omega)
    dsimp only at this
    omega
/-! ### the program's -/
abbrev encD := SetK.encD
theorem ints_fd {K : PySem.W.Frag} {H : Hp} : ∀ {xs : List V} {cs : List Int}, DqAll K H xs (cs.map .int) → xs = cs.map V.int
  | [], [], _ => rfl
  | x :: xs, c :: cs, .cons d t => by
    rw [ints_fd t]
    cases d
    rfl
theorem pk_at {K : PySem.W.Frag} {H : Hp} {v : V} {k : FRow} (h : Dq K H v (encD k)) : ∃ a t, v = .ref a ∧ SqT K H a [.ref t, .int k.2] ∧ SqT K H t (k.1.map V.int) := by
  obtain ⟨a, xs, rfl, ha, da, hl⟩ := tup_len h
  cases da with
  | cons d1 t =>
    cases t with
    | cons d2 t =>
      cases t
      obtain ⟨t, ys, rfl, ht, dt, _⟩ := tup_len d1
      rw [ints_fd dt] at ht
      cases d2
      exact ⟨a, t, rfl, ha, ht⟩
theorem pk_of {K : PySem.W.Frag} {H : Hp} {a t : Addr} {k : FRow} (h1 : SqT K H a [.ref t, .int k.2]) (h2 : SqT K H t (k.1.map V.int)) : Dq K H (.ref a) (encD k) :=
  .tup h1 (.cons (.tup h2 (by
    generalize k.1 = l
    induction l with
    | nil => exact .nil
    | cons i l ih => exact .cons (.int i) ih)) (.cons (.int _) .nil))
theorem pk_upd {K : PySem.W.Frag} {H : Hp} {y : Addr} {v : V} {ys : List V} {o : HO} {k : FRow} (hy : H y = some (.lst ys)) (h : Dq K H v (encD k)) : Dq K (upd H y o) v (encD k) := by
  obtain ⟨a, t, rfl, h1, h2⟩ := pk_at h
  exact pk_of (sqt_updT hy h1) (sqt_updT hy h2)
theorem pks_upd {K : PySem.W.Frag} {H : Hp} {y : Addr} {ys : List V} {o : HO} (hy : H y = some (.lst ys)) : ∀ {ks : List FRow} {vs : List V}, DqAll K H vs (ks.map encD) → DqAll K (upd H y o) vs (ks.map encD)
  | [], _, h => by cases h; exact .nil
  | k :: ks, _, h => by
    cases h with
    | cons a b => exact .cons (pk_upd hy a) (pks_upd hy b)
theorem keys_of {K : PySem.W.Frag} {H : Hp} : ∀ {vs : List V} {ks : List FRow}, DqAll K H vs (ks.map encD) → ∃ es : List (Addr × FRow), vs = es.map (fun e => V.ref e.1) ∧ es.map Prod.snd = ks ∧ ∀ e ∈ es, SetK.PkV K H e.2 e.1
  | [], [], _ => ⟨[], rfl, rfl, fun e h => by cases h⟩
  | v :: vs, k :: ks, .cons a b => by
    obtain ⟨c, t, rfl, h1, h2⟩ := pk_at a
    obtain ⟨es, rfl, rfl, he⟩ := keys_of b
    exact ⟨(c, k) :: es, rfl, rfl, fun e h => (List.mem_cons.mp h).elim (fun z => z ▸ ⟨t, h1, h2⟩) (he e)⟩
theorem dq_keys {K : PySem.W.Frag} {H : Hp} : ∀ {es : List (Addr × FRow)}, (∀ e ∈ es, SetK.PkV K H e.2 e.1) → DqAll K H (es.map fun e => V.ref e.1) ((es.map Prod.snd).map encD)
  | [], _ => .nil
  | e :: es, h => by
    obtain ⟨t, h1, h2⟩ := h e List.mem_cons_self
    exact .cons (pk_of h1 h2) (dq_keys fun u hu => h u (List.mem_cons_of_mem _ hu))
abbrev NWl : List Str := ["_law_rows_here", "_law_row", "_law_bound", "_law_found", "_law_mate", "_law_mate_bound", "_law_both", "_law_a", "_law_b"]
def SmF (b : Nat) (r : FRow) : Prop := (∀ x ∈ r.1, x.natAbs < 2 ^ b) ∧ r.2.natAbs < 2 ^ b
theorem last_sm {b : Nat} {r : List Int} (h : ∀ x ∈ r, x.natAbs < 2 ^ b) : (lastI r).natAbs < 2 ^ b := by
  unfold lastI
  rw [List.getD_eq_getElem?_getD]
  cases e : r[r.length - 1]? with
  | none => exact Nat.pow_pos (by decide)
  | some x => exact h x (List.mem_of_getElem? e)
theorem mix_sm {b : Nat} {x y p q : Int} (h1 : x.natAbs < 2 ^ b) (h2 : y.natAbs < 2 ^ b) (h3 : p.natAbs < 2 ^ b) (h4 : q.natAbs < 2 ^ b) : (x * -y + p * q).natAbs < 2 ^ (2 * b + 1) := by
  have a1 : (x * -y).natAbs ≤ 2 ^ b * 2 ^ b := by
    rw [Int.natAbs_mul, Int.natAbs_neg]
    exact Nat.mul_le_mul (Nat.le_of_lt h1) (Nat.le_of_lt h2)
  have a2 : (p * q).natAbs < 2 ^ b * 2 ^ b := by
    rw [Int.natAbs_mul]
    exact Nat.mul_lt_mul'' h3 h4
  have e : 2 ^ (2 * b + 1) = 2 * (2 ^ b * 2 ^ b) := by
    rw [Nat.pow_succ, Nat.two_mul, Nat.pow_add, Nat.mul_comm]
  rw [e]
  omega
theorem found_sm {b : Nat} {ks : List FRow} (h : ∀ r ∈ ks, SmF b r) {p : FRow} (hp : FoundF ks p) : SmF (2 * b + 1) p := by
  rcases hp with ⟨r, hr, _, rfl⟩ | ⟨r, hr, t, ht, _, _, rfl⟩
  · have up : 2 ^ b ≤ 2 ^ (2 * b + 1) := Nat.pow_le_pow_right (by decide) (by omega)
    exact ⟨fun x hx => Nat.lt_of_lt_of_le ((h r hr).1 x (List.dropLast_subset _ hx)) up, Nat.lt_of_lt_of_le (h r hr).2 up⟩
  · refine ⟨fun x hx => ?_, mix_sm (h r hr).2 (last_sm (h t ht).1) (h t ht).2 (last_sm (h r hr).1)⟩
    obtain ⟨i, hi⟩ := List.mem_iff_getElem?.mp hx
    unfold mixI at hi
    rw [List.getElem?_zipWith] at hi
    cases e1 : r.1.dropLast[i]? with
    | none => rw [e1] at hi; cases hi
    | some u =>
      cases e2 : t.1.dropLast[i]? with
      | none => rw [e1, e2] at hi; cases hi
      | some v =>
        rw [e1, e2] at hi
        cases hi
        exact mix_sm ((h r hr).1 _ (List.dropLast_subset _ (List.mem_of_getElem? e1))) (last_sm (h t ht).1) ((h t ht).1 _ (List.dropLast_subset _ (List.mem_of_getElem? e2))) (last_sm (h r hr).1)
theorem sm_mulW {b : Nat} {i j : Int} (hb : b ≤ 100000) (h1 : i.natAbs < 2 ^ b) (h2 : j.natAbs < 2 ^ b) : CMulW i j := by
  have l : ∀ k : Int, k.natAbs < 2 ^ b → k.natAbs.log2 ≤ b := fun k hk => by
    by_cases z : k.natAbs = 0
    · rw [z]
      exact Nat.zero_le _
    · exact Nat.le_of_lt ((Nat.log2_lt z).mpr hk)
  have := l i h1
  have := l j h2
  show _ + _ < 1000000
  omega
def spWl (K : PySem.W.Frag) : Sp := fun vs H Q _ => ∃ l us, ∃ ks : List FRow, ∃ n b, vs = [.ref l] ∧ SqL K H l us ∧ DqAll K H us (ks.map encD) ∧ (∀ k ∈ ks, k.1.length = n + 1) ∧ ks.length ≤ 16 ∧ (∀ k ∈ ks, SmF b k) ∧ b ≤ 100000 ∧ n ≤ 3 ∧
  ∀ H' l' us', ∀ ks' : List FRow, Same H H' → SqL K H' l' us' → DqAll K H' us' (ks'.map encD) → (∀ k, k ∈ ks' ↔ FoundF ks k) → ks'.length ≤ (foundR ks).length → Q (.ref l') H'
theorem slT {X : Cx} (K : PySem.W.Frag) (h : X.K = K := by rfl) : SlR X (rSlA K) := h ▸ sl_tupA
section
variable {P : Program} {w : World} {K : PySem.W.Frag} {mg : Str → Option Value} {base : Heap}
theorem scWl : FnScope NWl ["_law_rows_here"] (defScope sLawWithoutLast) := ⟨rfl, rfl, rfl, by decide +kernel, rfl, by decide +kernel, by decide +kernel⟩
theorem ok_wl {f : Addr} {fd : FuncData} (F : FnT K "_law_without_last" sLawWithoutLast f fd) (mtup : mg "tuple" = none) (mzip : mg "zip" = none) (mset : mg "set" = none) (msor : mg "sorted" = none) :
    FnOk P w K mg base CX0 1 f fd ["_law_rows_here"] (spWl K) := by
  refine F.ok scWl (fun vs H Q E h => ?_) (fun cdv A outer s H vs Q E hr h => ?_)
  · obtain ⟨l, us, ks, n, b, rfl, _⟩ := h
    rfl
  · obtain ⟨l, us, ks, n, b, rfl, hl, du, hn, h16, sm, hb, n3, q⟩ := h
    have nd := scWl.nd
    refine ⟨_, PSs.nox (pss_cons (ps_cut (ps_setLc (i := 3) (own := [("_law_row", 1), ("_law_bound", 2)]) (g := gTup K 2 (gCons (gName 1) (gCons (gName 2) gNil))) rfl nd rfl rfl (sw_true rfl rfl rfl (by decide +kernel)) (pi_list (pv 0))
          (blkOk_by (own := [("_law_row", 1), ("_law_bound", 2)]) (N := NWl) (sc := defScope sLawWithoutLast) (by decide +kernel))
          (fun _ _ _ _ _ => pgTt K rfl (pgs_cons (pg_name (i := 1) nd rfl (Or.inl rfl)) (pgs_cons (pg_name (i := 2) nd rfl (Or.inl rfl)) pgs_nil)))
          (fun _ _ _ _ _ => pts_one (pt_cmpR op_eq (pe_ix (ixT K) (pv 1) (pe_un un_neg pe_int) (fun _ _ => rfl)) pe_int (nomark _)))
          (fun _ _ _ _ _ => pe_tup (pa_cons (pe_slice (slT K) (pv 1) po_none (po_some (pe_un un_neg pe_int))) (pa_cons (pv 2) pa_nil)))))
      (pss_cons (ps_for PassesOwn.never rfl (pi_list (pv 0)) (pgTt K rfl (pgs_cons (pg_name (i := 1) nd rfl (.inr rfl)) (pgs_cons (pg_name (i := 2) nd rfl (.inl rfl)) pgs_nil)))
        (pss_one (ps_for PassesOwn.never rfl (pi_list (pv 0)) (pgTt K rfl (pgs_cons (pg_name (i := 4) nd rfl (.inr rfl)) (pgs_cons (pg_name (i := 5) nd rfl (.inl rfl)) pgs_nil)))
          (pss_one (ps_if (PW.pt (pw_and (pt_cmpR op_gt (pe_ix (ixT K) (pv 1) (pe_un un_neg pe_int) (fun _ _ => rfl)) pe_int (nomark _)) (pw_and1 (pt_cmpR op_lt (pe_ix (ixT K) (pv 4) (pe_un un_neg pe_int) (fun _ _ => rfl)) pe_int (nomark _)))))
            (pss_cons (ps_set (i := 6) nd rfl (.inl rfl) (pe_callTy call_tuple_of (by rfl) mtup (by decide +kernel) (pa_cons (pe_lc (own := [("_law_a", 7), ("_law_b", 8)]) (g := gTup K 2 (gCons (gName 7) (gCons (gName 8) gNil))) (tt := tYes) rfl nd
                (RZ.pi_zipA (by rfl) mzip (pa_cons (pe_slice sl_tupA (pv 1) po_none (po_some (pe_un un_neg pe_int))) (pa_cons (pe_slice sl_tupA (pv 4) po_none (po_some (pe_un un_neg pe_int))) pa_nil)))
                (blkOk_by (own := [("_law_a", 7), ("_law_b", 8)]) (N := NWl) (sc := defScope sLawWithoutLast) (by decide +kernel))
                (fun _ _ _ _ _ => pgTt K rfl (pgs_cons (pg_name (i := 7) nd rfl (Or.inl rfl)) (pgs_cons (pg_name (i := 8) nd rfl (Or.inl rfl)) pgs_nil))) (fun _ _ _ _ _ => pts_nil)
                (fun _ _ _ _ _ => pe_op op_add (pe_op op_mulW (pv 7) (pe_un un_neg (pe_ix (ixT K) (pv 4) (pe_un un_neg pe_int) (fun _ _ => rfl)))) (pe_op op_mulW (pv 8) (pe_ix (ixT K) (pv 1) (pe_un un_neg pe_int) (fun _ _ => rfl))))) pa_nil)))
            (pss_one (ps_expr (pe_bm PySem.F.plainAttrs_list PySem.F.slot_list_append PySem.F.type_list_append mt_append (pv 3) (pa_cons (pe_tup (pa_cons (pv 6) (pa_cons (pe_op op_add (pe_op op_mulW (pv 2) (pe_un un_neg (pe_ix ix_tup (pv 4) (pe_un un_neg pe_int) (fun _ _ => rfl)))) (pe_op op_mulW (pv 5) (pe_ix ix_tup (pv 1) (pe_un un_neg pe_int) (fun _ _ => rfl)))) pa_nil))) pa_nil)))))
            pss_nil)))))
      (pss_one (ps_ret (pe_callB (SetK.cr_sortK rfl hr.units) (by rfl) msor (by decide +kernel) (pa_cons (pe_callTy (SetK.cr_setK rfl hr.units) (by rfl) mset (by decide +kernel) (pa_cons (pv 3) pa_nil)) pa_nil)))))), ?_⟩
    have lu : us.length = ks.length := by
      have := du.len
      rwa [List.length_map] at this
    have take1 : ∀ (i : Nat) (r : FRow), ks[i]? = some r → zeroR (ks.take (i + 1)) = zeroR (ks.take i) ++ if lastI r.1 = 0 then [(r.1.dropLast, r.2)] else [] := fun i r hr0 => by
      unfold zeroR
      rw [List.take_succ, hr0, List.filter_append, List.map_append]
      congr 1
      simp only [Option.toList, List.filter_cons, decide_eq_true_eq, List.filter_nil]
      split <;> rfl
    have row : ∀ {H2 : Hp} {i : Nat} {z : V}, Same H H2 → us[i]? = some z → ∃ r a t m, ks[i]? = some r ∧ r ∈ ks ∧ z = .ref a ∧ SqT K H2 a [.ref t, .int r.2] ∧ SqT K H2 t (r.1.map V.int) ∧ r.1.length = m + 1 ∧ m = n ∧ atI (r.1.map V.int) (-1) = some (.int (lastI r.1)) ∧ cutV (r.1.map V.int) none (some (-1)) = r.1.dropLast.map V.int := by
      intro H2 i z s2 hz
      obtain ⟨d, hd, dq⟩ := (du.same s2).get hz
      rw [List.getElem?_map] at hd
      cases hk : ks[i]? with
      | none => rw [hk] at hd; cases hd
      | some r =>
        rw [hk] at hd
        cases hd
        obtain ⟨a, t, rfl, h1, h2⟩ := pk_at dq
        have hm := List.mem_of_getElem? hk
        have hrl := hn r hm
        refine ⟨r, a, t, n, rfl, hm, rfl, h1, h2, hrl, rfl, atI_neg (n := n) (by rw [List.length_map, hrl]) ?_, ?_⟩
        · unfold lastI
          rw [hrl, List.getElem?_map, List.getD_eq_getElem?_getD, Nat.add_sub_cancel, List.getElem?_eq_getElem (by omega)]
          rfl
        · rw [cut_lastT _ n (by rw [List.length_map, hrl]), List.dropLast_eq_take, hrl, List.map_take]
          rfl
    refine ⟨fun σ' H' => ∃ p vs, σ' = [some (.ref l), none, none, some (.ref p), none, none, none, none, none] ∧ H p = none ∧ Same H H' ∧ H' p = some (.lst vs) ∧ DqAll K H' vs ((zeroR ks).map encD), ?_, ?_⟩
    · refine ⟨_, rfl, l, rfl, ⟨_, hl⟩, fun D hD => ?_⟩
      refine lc_it (walk_list (K := K) (a := l) (xs := us)) (fun i H' => Same H H' ∧ ∃ vs, H' D = some (.lst vs) ∧ DqAll K H' vs ((zeroR (ks.take i)).map encD)) ⟨Same.new hD, [], upd_same, .nil⟩ (fun i H' hi p => hl.ext p.1) ?_ ?_
      · rintro i z H2 H2x hi ⟨s2, vs, bD, dvs⟩ ⟨e2, hz⟩
        subst e2
        obtain ⟨r, a, t, m, hk, hm, rfl, h1, h2, hrl, rfl, e1, e2⟩ := row s2 hz
        refine ⟨a, _, rfl, h1, rfl, _, _, rfl, _, _, rfl, rfl, ⟨rfl, ?_⟩⟩
        refine ⟨_, rfl, _, rfl, t, _, -1, _, rfl, rfl, h2, e1, rfl, _, rfl, ?_⟩
        by_cases z0 : lastI r.1 = 0
        · rw [z0, decide_eq_true rfl]
          refine iteT ?_
          refine ⟨_, rfl, rd_no ⟨_, rfl, _, rfl, rd_slA h2 fun H5 c s5 hc => ⟨_, rfl, Nat.le_of_ble_eq_true rfl, fun u hu => ?_⟩⟩⟩
          have nDu : u ≠ D := fun z => by rw [z, s5 _ _ bD] at hu; cases hu
          have s6 := Same.new (o := .tup [.ref c, .int r.2]) hu
          have s56 := s5.trans s6
          refine ⟨vs, s56 _ _ bD, ?_, ?_⟩
          · have := dvs.len
            rw [List.length_map] at this
            have : (zeroR (ks.take i)).length ≤ i := by
              unfold zeroR
              rw [List.length_map]
              exact Nat.le_trans (List.length_filter_le _ _) (by rw [List.length_take]; exact Nat.min_le_left _ _)
            exact Nat.lt_of_le_of_lt (show vs.length ≤ 16 by omega) (by decide)
          · rw [e2] at hc
            have dk : Dq K (upd H5 u (.tup [.ref c, .int r.2])) (.ref u) (encD (r.1.dropLast, r.2)) := pk_of (k := (r.1.dropLast, r.2)) (SqT.of upd_same) (same_sqt s6 hc)
            have noH : H D = none := hD
            refine ⟨fun b o e => ?_, _, upd_same, ?_⟩
            · rw [upd_ne (ne_of_none e hD)]
              exact s56 _ _ (s2 _ _ e)
            · rw [take1 i r hk, if_pos z0, List.map_append]
              exact (pks_upd (s56 _ _ bD) (dvs.same s56)).app (.cons (pk_upd (s56 _ _ bD) dk) .nil)
        · rw [decide_eq_false (fun e => z0 (V.int.inj e))]
          exact iteF ⟨s2, vs, bD, by rw [take1 i r hk, if_neg z0, List.append_nil]; exact dvs⟩
      · rintro H2 ⟨s2, vs, bD, dvs⟩
        rw [lu, List.take_length] at dvs
        exact ⟨D, vs, rfl, hD, s2, bD, dvs⟩
    rintro _ H1 ⟨p, vs0, rfl, hp0, s1, hp1, dvs0⟩
    have take2 : ∀ (r : FRow) (i : Nat) (t : FRow), ks[i]? = some t → pairsR r (ks.take (i + 1)) = pairsR r (ks.take i) ++ if overR r t then [mixR r t] else [] := fun r i t hr0 => by
      unfold pairsR
      rw [List.take_succ, hr0, List.filter_append, List.map_append]
      congr 1
      simp only [Option.toList, List.filter_cons, List.filter_nil]
      split <;> rfl
    have few : ∀ (r : FRow) (k i : Nat), (zeroR ks ++ (ks.take k).flatMap (fun r => pairsR r ks) ++ pairsR r (ks.take i)).length < 1000 := fun r k i => by
      have a1 : (zeroR ks).length ≤ 16 := by
        unfold zeroR
        rw [List.length_map]
        exact Nat.le_trans (List.length_filter_le _ _) h16
      have a2 : ∀ (ts : List FRow) (r : FRow), ts.length ≤ 16 → (pairsR r ts).length ≤ 16 := fun ts r ht => by
        unfold pairsR
        rw [List.length_map]
        exact Nat.le_trans (List.length_filter_le _ _) ht
      have a3 : ∀ ts : List FRow, (ts.flatMap fun r => pairsR r ks).length ≤ 16 * ts.length := by
        intro ts
        induction ts with
        | nil => exact Nat.zero_le _
        | cons u ts ih =>
          rw [List.flatMap_cons, List.length_append, List.length_cons]
          have := a2 ks u h16
          omega
      have a4 := a3 (ks.take k)
      have a5 : (ks.take k).length ≤ 16 := by rw [List.length_take]; exact Nat.le_trans (Nat.min_le_right _ _) h16
      have a6 := a2 (ks.take i) r (by rw [List.length_take]; exact Nat.le_trans (Nat.min_le_right _ _) h16)
      rw [List.length_append, List.length_append]
      omega
    have hl1 := hl.ext s1
    have id0 : Same H H := fun _ _ e => e
    refine ⟨_, rfl, l, rfl, ⟨_, hl1⟩, ?_⟩
    refine for_it (walk_list (K := K) (a := l) (xs := us)) (fun k σ' H' => Same H H' ∧ ∃ vs o1 o2 o4 o5 o6, σ' = [some (.ref l), o1, o2, some (.ref p), o4, o5, o6, none, none] ∧ H' p = some (.lst vs) ∧ DqAll K H' vs ((zeroR ks ++ (ks.take k).flatMap fun r => pairsR r ks).map encD))
      ⟨s1, vs0, _, _, _, _, _, rfl, hp1, by rw [List.take_zero, List.flatMap_nil, List.append_nil]; exact dvs0⟩ (fun k σ' H' hk y => hl.ext y.1) ?_ (fun σ' H' y => ?_)
    · rintro k z _ H2 H2x hk ⟨s2, vs, o1, o2, o4, o5, o6, rfl, hp2, dvs⟩ ⟨e2, hz⟩
      subst e2
      obtain ⟨r, a, t, m, hkr, hm, rfl, h1, h2, hrl, rfl, e1, e2⟩ := row id0 hz
      refine ⟨a, _, rfl, same_sqt s2 h1, rfl, _, _, rfl, _, _, rfl, rfl, ?_⟩
      refine ⟨_, rfl, l, rfl, ⟨_, hl.ext s2⟩, ?_⟩
      refine for_it (walk_list (K := K) (a := l) (xs := us)) (fun i σ' H' => Same H H' ∧ ∃ vs o4 o5 o6, σ' = [some (.ref l), some (.ref t), some (.int r.2), some (.ref p), o4, o5, o6, none, none] ∧ H' p = some (.lst vs) ∧ DqAll K H' vs ((zeroR ks ++ (ks.take k).flatMap (fun r => pairsR r ks) ++ pairsR r (ks.take i)).map encD))
        ⟨s2, vs, _, _, _, rfl, hp2, by rw [List.take_zero]; show DqAll K _ vs ((_ ++ []).map encD); rw [List.append_nil]; exact dvs⟩ (fun i σ' H' hi y => hl.ext y.1) ?_ (fun σ' H' y => ?_)
      · rintro i z _ H3 H3x hi ⟨s3, vs3, o4, o5, o6, rfl, hp3, dvs3⟩ ⟨e3, hz3⟩
        subst e3
        obtain ⟨r2, a2, t2, m2, hkr2, hm2, rfl, h12, h22, hrl2, rfl, e12, e22⟩ := row id0 hz3
        refine ⟨a2, _, rfl, same_sqt s3 h12, rfl, _, _, rfl, _, _, rfl, rfl, ?_⟩
        have ht3 := same_sqt s3 h2
        have ht23 := same_sqt s3 h22
        have skip : overR r r2 = false → (zeroR ks ++ (ks.take k).flatMap (fun r => pairsR r ks) ++ pairsR r (ks.take (i + 1))) = (zeroR ks ++ (ks.take k).flatMap (fun r => pairsR r ks) ++ pairsR r (ks.take i)) := fun h => by
          rw [take2 r i r2 hkr2, if_neg (by rw [h]; decide), List.append_nil]
        refine ⟨_, rfl, _, rfl, t, _, -1, _, rfl, rfl, ht3, e1, _, _, rfl, rfl, _, rfl, ?_⟩
        by_cases c1 : lastI r.1 > 0
        · rw [decide_eq_true c1]
          refine iteT ⟨_, rfl, _, rfl, t2, _, -1, _, rfl, rfl, ht23, e12, _, _, rfl, rfl, _, rfl, ?_⟩
          by_cases c2 : lastI r2.1 < 0
          · rw [decide_eq_true c2]
            refine iteT ?_
            refine ⟨_, rfl, rd_no ⟨_, rfl, _, rfl, rd_slA ht3 fun H4 c s4 hc => ⟨_, rfl, rd_no ⟨_, rfl, _, rfl, rd_slA (same_sqt s4 ht23) fun H5 c' s5 hc' => ?_⟩⟩⟩⟩
            rw [e2] at hc
            rw [e22] at hc'
            have hc5 := same_sqt s5 hc
            have s35 := (s3.trans s4).trans s5
            have la : r.1.dropLast.length = m2 := by rw [List.length_dropLast, hrl]; rfl
            have lb : r2.1.dropLast.length = m2 := by rw [List.length_dropLast, hrl2]; rfl
            have mixg : ∀ (j : Nat) (u v : Int), r.1.dropLast[j]? = some u → r2.1.dropLast[j]? = some v → (mixI r.1 r2.1)[j]? = some (u * -lastI r2.1 + v * lastI r.1) := fun j u v h3 h4 => by
              unfold mixI
              rw [List.getElem?_zipWith, h3, h4]
            have lm : (mixI r.1 r2.1).length = m2 := by
              unfold mixI
              rw [List.length_zipWith, la, lb, Nat.min_self]
            refine ⟨c, c', _, _, rfl, .inr ⟨hc5, hc', fun D hD => ?_⟩⟩
            refine lc_it (CaZ.walk_zt (K := K) (a := c) (b := c') (xs := r.1.dropLast.map V.int) (ys := r2.1.dropLast.map V.int) (n := m2) (by rw [List.length_map, la]) (by rw [List.length_map, lb])) (fun j H' => Same H5 H' ∧ H' D = some (.lst (((mixI r.1 r2.1).take j).map V.int))) ⟨Same.new hD, upd_same⟩ (fun j H' hj y => ⟨same_sqt y.1 hc5, same_sqt y.1 hc'⟩) ?_ ?_
            · rintro j z H6 _ hj ⟨s6, bD⟩ ⟨T, x1, y1, rfl, hT, rfl, hx1, hy1⟩
              have s7 : Same H6 (upd H6 T (.tup [x1, y1])) := Same.new hT
              have s67 := s6.trans s7
              replace hx1 : (r.1.dropLast.map V.int)[j]? = some x1 := hx1
              replace hy1 : (r2.1.dropLast.map V.int)[j]? = some y1 := hy1
              rw [List.getElem?_map, List.getElem?_eq_getElem (by omega)] at hx1 hy1
              cases hx1
              cases hy1
              have s37 := s35.trans s67
              refine ⟨T, _, rfl, SqT.of upd_same, rfl, _, _, rfl, _, _, rfl, rfl, ⟨rfl, rdYes ?_⟩⟩
              have q1 := (sm r hm).1 _ (List.dropLast_subset _ (List.getElem_mem (l := r.1.dropLast) (n := j) (by omega)))
              have q2 := (sm r2 hm2).1 _ (List.dropLast_subset _ (List.getElem_mem (l := r2.1.dropLast) (n := j) (by omega)))
              refine ⟨_, rfl, _, rfl, _, rfl, t2, _, -1, _, rfl, rfl, same_sqt s37 h22, e12, _, rfl, _, _, rfl, rfl, sm_mulW hb q1 (by rw [Int.natAbs_neg]; exact last_sm (sm r2 hm2).1), ?_⟩
              refine ⟨_, rfl, _, rfl, _, rfl, t, _, -1, _, rfl, rfl, same_sqt s37 h2, e1, _, _, rfl, rfl, sm_mulW hb q2 (last_sm (sm r hm).1), _, _, rfl, rfl, _, s7 _ _ bD, ?_, fun b' o e => ?_, ?_⟩
              · rw [List.length_map, List.length_take]
                exact Nat.lt_of_le_of_lt (Nat.le_trans (Nat.min_le_left ..) (show j ≤ 3 by omega)) (by decide)
              · rw [upd_ne (ne_of_none e hD)]
                exact s67 _ _ e
              · rw [upd_same, List.take_succ, mixg j _ _ (List.getElem?_eq_getElem (by omega)) (List.getElem?_eq_getElem (by omega)), List.map_append]
                rfl
            · rintro H6 ⟨s6, bD⟩
              rw [← lm, List.take_length] at bD
              refine ⟨D, _, rfl, .inl ⟨SqL.of bD, fun u hu => ?_⟩⟩
              have s7 := Same.new (o := .tup ((mixI r.1 r2.1).map V.int)) hu
              have s37 := (s35.trans s6).trans s7
              have s07 := (s4.trans s5).trans (s6.trans s7)
              have hp7 := s07 _ _ hp3
              refine ⟨_, rfl, .inl ⟨rfl, _, SqL.of hp7⟩, _, rfl, _, rfl, _, rfl, _, rfl, t2, _, -1, _, rfl, rfl, same_sqt s37 h22, e12, _, rfl, _, _, rfl, rfl, sm_mulW hb (sm r hm).2 (by rw [Int.natAbs_neg]; exact last_sm (sm r2 hm2).1), ?_⟩
              refine ⟨_, rfl, _, rfl, _, rfl, t, _, -1, _, rfl, rfl, same_sqt s37 h2, e1, _, _, rfl, rfl, sm_mulW hb (sm r2 hm2).2 (last_sm (sm r hm).1), _, _, rfl, rfl, Nat.le_of_ble_eq_true rfl, fun y hy => ?_⟩
              have s8 := Same.new (o := .tup [.ref u, .int (r.2 * -lastI r2.1 + r2.2 * lastI r.1)]) hy
              have hp8 := s8 _ _ hp7
              have s08 := s07.trans s8
              refine ⟨_, _, _, rfl, rfl, hp8, ?_, fun b' o e => ?_, _, _, _, _, rfl, upd_same, ?_⟩
              · have h9 := dvs3.len
                rw [List.length_map] at h9
                have h10 := few r k i
                exact Nat.lt_of_lt_of_le (show vs3.length < 1000 by omega) (by decide)
              · rw [upd_ne (ne_of_none e hp0)]
                exact s08 _ _ (s3 _ _ e)
              · rw [take2 r i r2 hkr2, if_pos (by unfold overR; simp [c1, c2]), ← List.append_assoc, List.map_append]
                have dm : Dq K (upd (upd H6 u (.tup ((mixI r.1 r2.1).map V.int))) y (.tup [.ref u, .int (r.2 * -lastI r2.1 + r2.2 * lastI r.1)])) (.ref y) (encD (mixR r r2)) := pk_of (k := mixR r r2) (SqT.of upd_same) (same_sqt s8 (SqT.of upd_same))
                exact (pks_upd hp8 (dvs3.same s08)).app (.cons (pk_upd hp8 dm) .nil)
          · rw [decide_eq_false c2]
            refine iteF ⟨s3, vs3, _, _, _, rfl, hp3, ?_⟩
            rw [skip (by unfold overR; simp [c2])]
            exact dvs3
        · rw [decide_eq_false c1]
          refine iteF (iteF ⟨s3, vs3, _, _, _, rfl, hp3, ?_⟩)
          rw [skip (by unfold overR; simp [c1])]
          exact dvs3
      · obtain ⟨s3, vs3, o4, o5, o6, rfl, hp3, dvs3⟩ := y
        refine ⟨s3, vs3, _, _, _, _, _, rfl, hp3, ?_⟩
        rw [List.take_succ, hkr, List.flatMap_append, ← List.append_assoc]
        rw [lu, List.take_length] at dvs3
        show DqAll K H' vs3 ((_ ++ (pairsR r ks ++ [])).map encD)
        rw [List.append_nil]
        exact dvs3
    · obtain ⟨s3, vs3, o1, o2, o4, o5, o6, rfl, hp3, dvs3⟩ := y
      rw [lu, List.take_length] at dvs3
      obtain ⟨es, rfl, ek, pk⟩ := keys_of dvs3
      have el : es.length = (foundR ks).length := by
        rw [← List.length_map (f := Prod.snd), ek]
        rfl
      have f64 := (found_len h16).1
      refine ⟨_, rfl, p, es, rfl, SqL.of hp3, pk, by omega, fun a L ha sub all lle => ?_⟩
      have s4 := Same.new (o := SetK.SetO P w a L) ha
      refine ⟨a, L, rfl, upd_same, fun e he => (pk e (sub e he)).up s4, fun M c pm hc => ?_⟩
      have s5 := Same.new (o := .lst (M.map fun e => V.ref e.1)) hc
      refine q _ c _ (M.map Prod.snd) ((s3.trans s4).trans s5) (SqL.of upd_same) (dq_keys fun e he => ((pk e (sub e (pm.mem_iff.mp he))).up s4).up s5) (fun k => ?_) (by rw [List.length_map, pm.length_eq]; omega)
      rw [← foundR_iff]
      constructor
      · intro hk
        obtain ⟨e, he, rfl⟩ := List.mem_map.mp hk
        have h1 : e.2 ∈ es.map Prod.snd := List.mem_map.mpr ⟨e, sub e (pm.mem_iff.mp he), rfl⟩
        rw [ek] at h1
        exact h1
      · intro hk
        have h1 : k ∈ es.map Prod.snd := by
          rw [ek]
          exact hk
        obtain ⟨e, he, rfl⟩ := List.mem_map.mp h1
        exact (pm.map Prod.snd).mem_iff.mpr (all e he)
end
end Ca
set_option Elab.async false
set_option linter.all false
set_option maxRecDepth 100000
set_option maxHeartbeats 4000000
namespace Ca
open PySem L2
/-! ### purses -/
def spPurse (K : PySem.W.Frag) : Sp := fun vs H Q _ => ∃ (a : Addr) (ns : List Int) (k : Nat), vs = [.ref a, .int k] ∧ k ≤ 1000 ∧ SqL K H a (ns.map V.int) ∧
  ∀ H' l, H l = none → Same H H' → Urn H' l → Q (.ref l) H'
section
variable {P : Program} {w : World} {K : PySem.W.Frag} {mg : Str → Option Value} {base : Heap}
abbrev NPu : List Str := ["_law_script", "_law_k", "_law_cell", "_law_digits", "_law_seed"]
theorem scPurse : FnScope NPu ["_law_script", "_law_k"] (defScope sLawPurse) := ⟨rfl, rfl, rfl, by decide +kernel, rfl, by decide +kernel, by decide +kernel⟩
theorem ok_purse {f : Addr} {fd : FuncData} (F : Fun K "_law_purse" "_law_purse" sLawPurse f fd) (B : Bi mg) : FnOk P w K mg base CX0 1 f fd ["_law_script", "_law_k"] (spPurse K) := by
  refine F.ok scPurse (fun vs H Q E h => ?_) (fun cdv A outer s H vs Q E hr h => ?_)
  · obtain ⟨a, ns, k, rfl, _⟩ := h
    rfl
  · obtain ⟨a, ns, k, rfl, hk, hS, q⟩ := h
    have nd := scPurse.nd
    refine ⟨_, pss_cons (ps_if (pt_cmpR op_lt (pv 1) (pe_callB call_len_seq (by rfl) B.len PySem.boot_len (pa_cons (pv 0) pa_nil)) (nomark _))
        (pss_cons (ps_set (i := 2) nd rfl (.inl rfl) (pe_ix ix_list (pv 0) (pv 1) (fun _ _ => rfl)))
          (pss_cons (ps_cut (ps_set (i := 3) nd rfl (.inl rfl) (pe_ifExp (PW.pt (pw_or (pt_cmpR op_lt (pv 2) pe_int (nomark _)) (pw_or1 (pt_cmpR op_ge (pv 2) (pe_op op_pow pe_int pe_int) (nomark _))))) (pe_callB call_abs (by rfl) B.abs (by decide +kernel) (pa_cons (pv 2) pa_nil)) pe_int)))
          (pss_one (ps_ret (pe_lst (pa_cons (pv 3) (pa_cons (pe_op op_mod (pe_callTy call_int1 (by rfl) B.int PyProof.Rows.boot_int (pa_cons (pe_op op_add (pe_op op_add (pe_op op_mul (pv 2) pe_int) (pe_op op_mul pe_int (pv 1))) pe_int) pa_nil)) pe_int) (pa_cons pe_int pa_nil)))))))) pss_nil)
      (pss_cons (ps_set (i := 4) nd rfl (.inl rfl) (pe_op op_add (pe_op op_mul pe_int (pv 1)) pe_int))
      (pss_cons (ps_for PassesOwn.never rfl (pi_list (pe_slice sl_list (pv 0) po_none (po_some pe_int))) (pg_name (i := 2) nd rfl (.inl rfl))
        (pss_one (ps_set (i := 4) nd rfl (.inl rfl) (pe_op op_mod (pe_callTy call_int1 (by rfl) B.int PyProof.Rows.boot_int (pa_cons (pe_op op_add (pe_op op_mul (pv 4) pe_int) (pv 2)) pa_nil)) pe_int))))
      (pss_one (ps_ret (pe_lst (pa_cons pe_int (pa_cons (pv 4) (pa_cons pe_int pa_nil)))))))), ?_⟩
    have three : 3 ≤ sizeLine := by decide
    refine ⟨_, rfl, _, rfl, _, _, rfl, .inl hS, _, _, rfl, rfl, _, rfl, ite2 (fun c => ?_) (fun c => ?_)⟩
    · have hk : k < ns.length := by
        have c' := of_decide_eq_true c
        rw [List.length_map] at c'
        exact Int.ofNat_lt.mp c'
      obtain ⟨z, hz⟩ : ∃ z, ns[k]? = some z := ⟨_, List.getElem?_eq_getElem hk⟩
      refine ⟨_, rfl, _, rfl, _, _, _, _, rfl, rfl, hS, atI_nat (v := .int z) (by rw [List.getElem?_map, hz]; rfl), ?_⟩
      refine ⟨fun σ' H' => ∃ g : Int, 0 ≤ g ∧ σ' = [some (.ref a), some (.int k), some (.int z), some (.int g), none] ∧ H' = H, ?_, ?_⟩
      · refine ⟨_, rfl, _, _, rfl, rfl, _, rfl, ?_⟩
        refine ite2 (fun c => ?_) (fun c => ?_)
        · refine iteT ⟨_, rfl, _, rfl, _, ?_, rfl, rfl⟩
          split <;> omega
        · refine ⟨_, rfl, _, _, rfl, rfl, ⟨by decide, by decide, by decide⟩, _, _, rfl, rfl, _, rfl, ?_⟩
          refine ite2 (fun c => ?_) (fun c => ?_)
          · refine ⟨_, rfl, _, rfl, _, ?_, rfl, rfl⟩
            split <;> omega
          · exact ⟨0, Int.le_refl _, rfl, rfl⟩
      · rintro σ2 H2 ⟨g, hg, rfl, rfl⟩
        refine ⟨_, rfl, _, rfl, _, _, rfl, rfl, .inr ⟨by decide, by decide⟩, _, rfl, _, _, rfl, rfl, .inl ⟨by decide, by decide⟩, _, _, rfl, rfl, _, _, rfl, rfl, .inl ⟨_, rfl, _, _, rfl, rfl, by show (0 : Int) < 2147483629; decide, three, fun l hl => ?_⟩⟩
        exact q _ l hl (Same.new hl) ⟨g, _, 0, hg, Int.emod_nonneg _ (by decide), Int.emod_lt_of_pos _ (by decide), upd_same⟩
    · refine ⟨_, rfl, _, _, rfl, rfl, .inl ⟨by decide, by decide⟩, _, _, rfl, rfl, ?_⟩
      refine ⟨_, rfl, _, rfl, a, _, rfl, hS, fun p hp => ?_⟩
      have s1 : Same H (upd H p (.lst (cutV (ns.map V.int) none (some 4)))) := Same.new hp
      refine ⟨_, rfl, ⟨_, SqL.of upd_same⟩, for_list (K := K) (a := p) (xs := cutV (ns.map V.int) none (some 4)) (fun i σ H' => ∃ (st : Int) (v : Option V), 0 ≤ st ∧ st < 2147483629 ∧ σ = [some (.ref a), some (.int k), v, none, some (.int st)] ∧ H' = upd H p (.lst (cutV (ns.map V.int) none (some 4))))
        ⟨_, none, ?_, ?_, rfl, rfl⟩ (fun i σ H' _ h => ?_) ?_ ?_⟩
      · show (0 : Int) ≤ 86243 * (k : Int) + 131
        omega
      · show 86243 * (k : Int) + 131 < 2147483629
        omega
      · obtain ⟨_, _, _, _, _, rfl⟩ := h
        exact SqL.of upd_same
      · rintro i y σ H' hi ⟨st, v, _, _, rfl, rfl⟩
        obtain ⟨z, rfl⟩ := cut_int_get hi
        refine ⟨_, rfl, _, _, rfl, rfl, .inr ⟨by decide, by decide⟩, _, rfl, _, _, rfl, rfl, .inl ⟨_, rfl, _, _, rfl, rfl, by show (0 : Int) < 2147483587; decide, _, _, Int.emod_nonneg _ (by decide), ?_, rfl, rfl⟩⟩
        exact Int.lt_trans (Int.emod_lt_of_pos _ (by decide)) (by decide)
      · rintro σ H' ⟨st, v, h1, h2, rfl, rfl⟩
        refine ⟨_, rfl, three, fun l hl => ?_⟩
        exact q _ l (s1.free hl) (s1.trans (Same.new hl)) ⟨0, st, 0, Int.le_refl _, h1, h2, upd_same⟩
abbrev NDr : List Str := ["_law_purse_here", "_law_size", "_law_seed", "_law_by", "_law_digit"]
theorem scDraw : FnScope NDr ["_law_purse_here", "_law_size"] (defScope sLawDraw) := ⟨rfl, rfl, rfl, by decide +kernel, rfl, by decide +kernel, by decide +kernel⟩
theorem ok_draw {f : Addr} {fd : FuncData} (F : Fun K "_law_draw" "_law_draw" sLawDraw f fd) (B : Bi mg) : FnOk P w K mg base CX0 1 f fd ["_law_purse_here", "_law_size"] spDip := by
  refine F.ok scDraw (fun vs H Q E h => ?_) (fun cdv A outer s H vs Q E hr h => ?_)
  · obtain ⟨a, t, rfl, _⟩ := h
    rfl
  · obtain ⟨l, t, rfl, ⟨g, x, n, hg, hx, hx2, hU⟩, ht, ht2, q⟩ := h
    have nd := scDraw.nd
    refine ⟨_, pss_cons (ps_cut (ps_par (i := 2) (j := 3) rfl nd rfl rfl (by decide) rfl rfl (pa_cons (pe_ix ix_list (pv 0) pe_int (fun _ _ => rfl)) (pa_cons (pe_op op_add (pe_op op_mod (pe_callTy call_int1 (by rfl) B.int PyProof.Rows.boot_int (pa_cons (pe_ix ix_list (pv 0) pe_int (fun _ _ => rfl)) pa_nil)) pe_int) pe_int) pa_nil)) rfl))
      (pss_cons (ps_asg (pe_op op_add (pe_ix ix_list (pv 0) pe_int (fun _ _ => rfl)) pe_int) (pg_sub (pv 0) pe_int set_list))
      (pss_cons (ps_asg (pe_op op_mod (pe_callTy call_int1 (by rfl) B.int PyProof.Rows.boot_int (pa_cons (pe_op op_add (pe_op op_add (pe_op op_mul (pv 2) (pv 3)) (pe_op op_mul pe_int (pe_ix ix_list (pv 0) pe_int (fun _ _ => rfl)))) pe_int) pa_nil)) pe_int) (pg_sub (pv 0) pe_int set_list))
      (pss_cons (ps_if (pt_cmpR op_gt (pe_ix ix_list (pv 0) pe_int (fun _ _ => rfl)) pe_int (nomark _))
        (pss_cons (ps_asg (pe_callB call_divmod (by rfl) B.divmod (by decide +kernel) (pa_cons (pe_ix ix_list (pv 0) pe_int (fun _ _ => rfl)) (pa_cons (pv 1) pa_nil)))
            (pg_tup rfl (pgs_cons (pg_sub (pv 0) pe_int set_list) (pgs_cons (pg_name (i := 4) nd rfl (.inl rfl)) pgs_nil))))
          (pss_one (ps_ret (pv 4)))) pss_nil)
      (pss_one (ps_ret (pe_op op_mod (pe_callTy call_int1 (by rfl) B.int PyProof.Rows.boot_int (pa_cons (pe_op op_fdiv (pe_ix ix_list (pv 0) pe_int (fun _ _ => rfl)) pe_int) pa_nil)) (pv 1))))))), ?_⟩
    refine ⟨fun σ' H' => ∃ by' : Int, σ' = [some (.ref l), some (.int t), some (.int x), some (.int by'), none] ∧ Kept l H H' ∧ H' l = some (.lst [.int g, .int x, .int n]), ?_, ?_⟩
    · exact ⟨_, rfl, _, _, _, _, rfl, rfl, SqL.of hU, rfl, _, rfl, _, _, _, _, rfl, rfl, SqL.of hU, rfl, .inl ⟨_, rfl, _, _, rfl, rfl, by show (0 : Int) < 40009; decide, _, _, rfl, rfl, _, _, rfl, ⟨_, rfl, Kept.refl l H, hU⟩⟩⟩
    rintro _ H1 ⟨by', rfl, k1, hU1⟩
    refine ⟨_, rfl, _, _, _, _, rfl, rfl, SqL.of hU1, rfl, _, _, rfl, rfl, _, rfl, _, _, _, _, rfl, rfl, hU1, rfl, ?_⟩
    refine ⟨_, rfl, _, rfl, _, _, rfl, rfl, .inl ⟨by show -(2 ^ 64) < x; omega, by show x < 2 ^ 64; omega⟩, _, rfl, _, _, _, _, rfl, rfl, SqL.of upd_same, rfl, _, _, rfl, rfl, .inl ⟨by decide, by decide⟩, _, _, rfl, rfl, _, _, rfl, rfl, .inl ⟨_, rfl, _, _, rfl, rfl, by show (0 : Int) < 2147483629; decide, _, rfl, _, _, _, _, rfl, rfl, upd_same, rfl, ?_⟩⟩
    have k2 : ∀ o o', Kept l H (upd (upd H1 l o) l o') := fun o o' => k1.trans (Kept.upd.trans Kept.upd)
    refine ⟨_, rfl, _, _, _, _, rfl, rfl, SqL.of upd_same, rfl, _, _, rfl, rfl, _, rfl, ite2 (fun c => ?_) (fun c => ?_)⟩
    · refine ⟨_, rfl, _, _, _, _, rfl, rfl, SqL.of upd_same, rfl, _, rfl, _, _, rfl, ⟨ht, ht2⟩, fun p hp => ?_⟩
      have npl : l ≠ p := ne_of_none upd_same hp
      refine ⟨_, _, rfl, SqT.of upd_same, rfl, _, _, rfl, ⟨_, rfl, _, _, _, _, rfl, rfl, Eq.trans (upd_ne npl) upd_same, rfl, ?_⟩⟩
      refine ⟨_, _, rfl, ⟨rfl, ?_⟩⟩
      refine ⟨_, rfl, q _ _ ((k2 _ _).trans ((Kept.new hp).trans Kept.upd)) ⟨_, _, _, ?_, Int.emod_nonneg _ (by decide), Int.emod_lt_of_pos _ (by decide), upd_same⟩ (Int.emod_nonneg _ (by omega)) (Int.emod_lt_of_pos _ ht)⟩
      exact Int.ediv_nonneg hg (Int.le_of_lt ht)
    · refine ⟨_, rfl, _, _, _, _, rfl, rfl, SqL.of upd_same, rfl, _, _, rfl, rfl, ⟨by decide, by decide⟩, .inl ⟨_, rfl, _, rfl, _, _, rfl, rfl, ht, ?_⟩⟩
      exact q _ _ (k2 _ _) ⟨g, _, _, hg, Int.emod_nonneg _ (by decide), Int.emod_lt_of_pos _ (by decide), upd_same⟩ (Int.emod_nonneg _ (by omega)) (Int.emod_lt_of_pos _ ht)
theorem scPick : FnScope ["_law_purse_here", "_law_menu"] ["_law_purse_here", "_law_menu"] (defScope sLawPick) := ⟨rfl, rfl, rfl, by decide +kernel, rfl, by decide +kernel, by decide +kernel⟩
theorem ok_pick {f fD : Addr} {fd fdD : FuncData} (F : Fun K "_law_pick" "_law_pick" sLawPick f fd) (B : Bi mg) (gD : mg "_law_draw" = some (.ref fD)) (GD : FnOk P w K mg base CX0 1 fD fdD ["_law_purse_here", "_law_size"] spDip) (kD : PySem.W.keepIn K (.ref fD) = true) (bD : Binds K fdD ["_law_purse_here", "_law_size"] []) :
    FnOk P w K mg base CX0 2 f fd ["_law_purse_here", "_law_menu"] (spFrom K) := by
  refine F.ok scPick (fun vs H Q E h => ?_) (fun cdv A outer s H vs Q E hr h => ?_)
  · obtain ⟨l, a, xs, rfl, _⟩ := h
    rfl
  · obtain ⟨l, a, xs, rfl, hU, hA, nal, h0, h1, q⟩ := h
    refine ⟨_, pss_one (ps_ret (pe_ix ix_list (pv 1) (pe_call GD hr rfl gD kD bD .nil pass0 (pa_cons (pv 0) (pa_cons (pe_callB call_len_seq (by rfl) B.len PySem.boot_len (pa_cons (pv 1) pa_nil)) pa_nil))) (fun _ _ => rfl))), ?_⟩
    refine ⟨_, rfl, _, rfl, _, rfl, _, _, rfl, .inl (SqL.of hA), l, _, rfl, hU, by omega, by omega, fun H' r k u r0 r1 => ?_⟩
    have hi : r.toNat < xs.length := by omega
    refine ⟨a, xs, r, xs[r.toNat], rfl, rfl, SqL.of (k _ _ nal hA), ?_, ?_⟩
    · exact at_of (j := r.toNat) (by omega) (List.getElem?_eq_getElem hi)
    · exact q _ r.toNat _ (List.getElem?_eq_getElem hi) k u
end
end Ca
set_option Elab.async false
set_option linter.all false
set_option maxRecDepth 100000
set_option maxHeartbeats 4000000
namespace Ca
open PySem L2
/-! ### the law's own fractions, stretches -/
def spLowP (K : PySem.W.Frag) : Sp := fun vs H Q _ => ∃ a b : Int, vs = [.int a, .int b] ∧ 0 < b ∧ b.natAbs < 2 ^ 8000 ∧ ∀ H' y p q, Same H H' → Dq K H' y (frD (p, q)) → Red a b p q → Q y H'
def spStrP (K : PySem.W.Frag) : Sp := fun vs H Q _ => ∃ (l : Addr) (z : Int), vs = [.ref l, .int z] ∧ Urn H l ∧ 1 ≤ z ∧ z ≤ 1000 ∧ ∀ H' v p, Kept l H H' → Urn H' l → Dq K H' v (strD p) → isStretchD (strD p) = true → Q v H'
section
variable {P : Program} {w : World} {K : PySem.W.Frag} {mg : Str → Option Value} {base : Heap}
abbrev NLo : List Str := ["_law_top", "_law_bottom", "_law_high", "_law_less"]
theorem scLowP : FnScope NLo ["_law_top", "_law_bottom"] (defScope sLawLow) := ⟨rfl, rfl, rfl, by decide +kernel, rfl, by decide +kernel, by decide +kernel⟩
theorem ok_lowP {f : Addr} {fd : FuncData} (F : FnT K "_law_low" sLawLow f fd) (mabs : mg "abs" = none) (mint : mg "int" = none) : FnOk P w K mg base CX0 1 f fd ["_law_top", "_law_bottom"] (spLowP K) := by
  refine F.ok scLowP (fun vs H Q E h => ?_) (fun cdv A outer s H vs Q E hr h => ?_)
  · obtain ⟨a, b, rfl, _⟩ := h
    rfl
  · obtain ⟨a, b, rfl, hb, hs, q⟩ := h
    have nd := scLowP.nd
    refine ⟨_, PSs.nox (pss_cons (ps_par (i := 2) (j := 3) rfl nd rfl rfl (by decide) rfl rfl (pa_cons (pe_callB call_abs (by rfl) mabs (by decide +kernel) (pa_cons (pv 0) pa_nil)) (pa_cons (pv 1) pa_nil)) rfl)
      (pss_cons (ps_while PassesOwn.never (pt_cmpR op_gt (pv 3) pe_int (nomark _))
          (pss_one (ps_par (i := 2) (j := 3) rfl nd rfl rfl (by decide) rfl rfl (pa_cons (pv 3) (pa_cons (pe_op op_mod (pe_callTy call_int1 (by rfl) mint PyProof.Rows.boot_int (pa_cons (pv 2) pa_nil)) (pv 3)) pa_nil)) rfl)))
      (pss_one (ps_ret (pe_tup (pa_cons (pe_op op_fdivW (pv 0) (pv 2)) (pa_cons (pe_op op_fdivW (pv 1) (pv 2)) pa_nil))))))), ?_⟩
    have g0 : 0 < Nat.gcd a.natAbs b.natAbs := Nat.gcd_pos_of_pos_right _ (by omega)
    have g1 : Nat.gcd a.natAbs b.natAbs ≤ b.natAbs := Nat.gcd_le_right _ (by omega)
    have gs : ((Nat.gcd a.natAbs b.natAbs : Nat) : Int).natAbs < 2 ^ 8000 := by rw [Int.natAbs_natCast]; exact Nat.lt_of_le_of_lt g1 hs
    have cd : ∀ i : Int, CDivW i ((Nat.gcd a.natAbs b.natAbs : Nat) : Int) := fun i => wide_div (b := 8000) (by omega) gs (by decide) (by decide)
    have eabs : (if a < 0 then -a else a) = ((a.natAbs : Nat) : Int) := by split <;> omega
    have eb : b = ((b.natAbs : Nat) : Int) := by omega
    refine ⟨_, rfl, _, rfl, _, rfl, _, _, rfl, ?_⟩
    rw [eabs]
    refine while_by (fun σ' H' => H' = H ∧ ∃ (m n : Nat), σ' = [some (.int a), some (.int b), some (.int (m : Int)), some (.int (n : Int))] ∧ Nat.gcd m n = Nat.gcd a.natAbs b.natAbs)
      (fun σ' H' => match σ' with
        | [_, _, _, some (.int c)] => c.toNat
        | _ => 0) ⟨rfl, a.natAbs, b.natAbs, (by rw [← eb]; rfl), rfl⟩ ?_ ?_
    · rintro _ _ ⟨rfl, m, n, rfl, hg⟩
      refine ⟨_, rfl, _, _, rfl, rfl, _, rfl, ite2 (fun g => ?_) (fun g => ?_)⟩
      · have c0 : 0 < n := by
          have := of_decide_eq_true g
          omega
        refine ⟨_, rfl, _, rfl, .inl ⟨_, rfl, _, rfl, _, _, rfl, rfl, (by show (0 : Int) < (n : Int); omega), _, _, rfl, ⟨rfl, n, m % n, rfl, ?_⟩, ?_⟩⟩
        · rw [← hg, Nat.gcd_comm m n, Nat.gcd_rec n m, Nat.gcd_comm]
        · show ((m : Int) % (n : Int)).toNat < (n : Int).toNat
          have := Nat.mod_lt m c0
          omega
      · have c0 : n = 0 := by
          have : ¬ ((n : Int) > 0) := fun h => g (decide_eq_true h)
          omega
        subst c0
        rw [Nat.gcd_zero_right] at hg
        subst hg
        refine ⟨_, rfl, _, rfl, _, _, rfl, rfl, cd _, _, rfl, _, rfl, _, _, rfl, rfl, cd _, by show 2 ≤ sizeLine; decide, fun p2 hp2 => ?_⟩
        exact q _ _ _ _ (Same.new hp2) (fr_of upd_same) (red_of hb)
    · intro σ' H' Q1 Q2 hq z
      obtain ⟨v, e1, a1, a2, e2, e3, k', e4, z⟩ := z
      exact ⟨v, e1, a1, a2, e2, e3, k', e4, hq _ _ z⟩
theorem scStrP : FnScope ["_law_purse_here", "_law_size", "_law_first"] ["_law_purse_here", "_law_size"] (defScope sLawStretch) := ⟨rfl, rfl, rfl, by decide +kernel, rfl, by decide +kernel, by decide +kernel⟩
theorem ok_strP {f fD fF : Addr} {fd fdD fdF : FuncData} (F : FnT K "_law_stretch" sLawStretch f fd)
    (gD : mg "_law_draw" = some (.ref fD)) (GD : FnOk P w K mg base CX0 1 fD fdD ["_law_purse_here", "_law_size"] spDip) (kD : PySem.W.keepIn K (.ref fD) = true) (bD : Binds K fdD ["_law_purse_here", "_law_size"] [])
    (gF : mg "_law_pick" = some (.ref fF)) (GF : FnOk P w K mg base CX0 2 fF fdF ["_law_purse_here", "_law_menu"] (spFrom K)) (kF : PySem.W.keepIn K (.ref fF) = true) (bF : Binds K fdF ["_law_purse_here", "_law_menu"] []) :
    FnOk P w K mg base CX0 3 f fd ["_law_purse_here", "_law_size"] (spStrP K) := by
  refine F.ok scStrP (fun vs H Q E h => ?_) (fun cdv A outer s H vs Q E hr h => ?_)
  · obtain ⟨l, z, rfl, _⟩ := h
    rfl
  · obtain ⟨l, z, rfl, hU, z1, z2, q⟩ := h
    have nd := scStrP.nd
    have hr1 : Room 1 _ := hr.mono (by decide)
    refine ⟨_, PSs.nox (pss_cons (ps_set (i := 2) nd rfl (.inl rfl) (pe_call GF hr rfl gF kF bF .nil pass0 (pa_cons (pv 0) (pa_cons (pe_lst (pa_cons pe_int (pa_cons pe_int (pa_cons (pe_un un_neg pe_int)
          (pa_cons (pe_op op_sub (pe_call GD hr1 rfl gD kD bD .nil pass0 (pa_cons (pv 0) (pa_cons (pe_op op_add (pe_op op_mul pe_int (pv 1)) pe_int) pa_nil))) (pv 1)) pa_nil))))) pa_nil))))
      (pss_one (ps_ret (pe_tup (pa_cons (pv 2) (pa_cons (pe_op op_add (pv 2) (pe_call GF hr rfl gF kF bF .nil pass0 (pa_cons (pv 0) (pa_cons (pe_lst (pa_cons pe_int (pa_cons pe_int (pa_cons pe_int (pa_cons pe_int
          (pa_cons (pe_call GD hr1 rfl gD kD bD .nil pass0 (pa_cons (pv 0) (pa_cons (pe_op op_add (pv 1) pe_int) pa_nil))) pa_nil)))))) pa_nil)))) pa_nil)))))), ?_⟩
    refine ⟨_, rfl, _, rfl, _, rfl, _, rfl, _, _, rfl, rfl, .inl ⟨by decide, by decide⟩, _, _, rfl, rfl, l, 2 * z + 1, rfl, hU, by omega, by omega, fun H2 d k2 u2 d0 d1 => ⟨_, rfl, _, _, rfl, rfl, by show 4 ≤ sizeLine; decide, fun p hp => ?_⟩⟩
    obtain ⟨uo, huo⟩ := u2.some
    have s2 := Same.new (o := .lst [.int 0, .int 1, .int (-1), .int (d - z)]) hp
    refine ⟨l, p, _, rfl, u2.same s2, upd_same, (ne_of_none huo hp).symm, by show 0 < 4; decide, by show 4 < 1000; decide, fun H3 i v hv k3 u3 => ?_⟩
    obtain ⟨low, rfl, w1, w2⟩ : ∃ low : Int, v = .int low ∧ -1000 ≤ low ∧ low ≤ 1001 := by
      match i, hv with
      | 0, hv => cases hv; exact ⟨0, rfl, by decide, by decide⟩
      | 1, hv => cases hv; exact ⟨1, rfl, by decide, by decide⟩
      | 2, hv => cases hv; exact ⟨-1, rfl, by decide, by decide⟩
      | 3, hv => cases hv; exact ⟨d - z, rfl, by omega, by omega⟩
      | n + 4, hv => cases hv
    refine ⟨_, rfl, _, rfl, _, rfl, _, rfl, _, rfl, _, _, rfl, rfl, l, z + 1, rfl, u3, by omega, by omega, fun H4 e k4 u4 e0 e1 => ⟨by show 5 ≤ sizeLine; decide, fun p2 hp2 => ?_⟩⟩
    obtain ⟨uo2, huo2⟩ := u4.some
    have s4 := Same.new (o := .lst [.int 0, .int 0, .int 1, .int 2, .int e]) hp2
    refine ⟨l, p2, _, rfl, u4.same s4, upd_same, (ne_of_none huo2 hp2).symm, by show 0 < 5; decide, by show 5 < 1000; decide, fun H5 i2 v2 hv2 k5 u5 => ?_⟩
    obtain ⟨hi, rfl, y1, y2⟩ : ∃ hi : Int, v2 = .int hi ∧ 0 ≤ hi ∧ hi ≤ 1000 := by
      match i2, hv2 with
      | 0, hv => cases hv; exact ⟨0, rfl, by decide, by decide⟩
      | 1, hv => cases hv; exact ⟨0, rfl, by decide, by decide⟩
      | 2, hv => cases hv; exact ⟨1, rfl, by decide, by decide⟩
      | 3, hv => cases hv; exact ⟨2, rfl, by decide, by decide⟩
      | 4, hv => cases hv; exact ⟨e, rfl, by omega, by omega⟩
      | n + 5, hv => cases hv
    refine ⟨_, _, rfl, rfl, by show 2 ≤ sizeLine; decide, fun t ht => ?_⟩
    exact q _ _ (low, low + hi) (k2.trans (s2.kept.trans (k3.trans (k4.trans (s4.kept.trans (k5.trans (Same.new ht).kept)))))) (u5.same (Same.new ht)) (strD_at upd_same) (two_ok (show -10000 ≤ low by omega) (show low ≤ low + hi by omega) (show low + hi ≤ 10000 by omega))
end
end Ca
set_option Elab.async false
set_option linter.all false
set_option maxRecDepth 100000
set_option maxHeartbeats 4000000
namespace Ca
open PySem PySem.Spec PyProof.Rows L2
/-! ### math.lcm -/
end Ca
set_option Elab.async false
set_option linter.all false
set_option maxRecDepth 100000
set_option maxHeartbeats 4000000
namespace Ca
open PySem L2
/-! ### an answer in whole numbers -/
def wholeOf (fs : List (Int × Int)) : Nat := fs.foldl (fun w f => Nat.lcm w f.2.natAbs) 1
def partsW (fs : List (Int × Int)) : List Int := fs.map fun f => f.1 * (((wholeOf fs : Nat) : Int) / f.2)
section
variable {P : Program} {w : World} {K : PySem.W.Frag} {mg : Str → Option Value} {base : Heap}
end
end Ca
set_option Elab.async false
set_option linter.all false
set_option maxRecDepth 100000
set_option maxHeartbeats 8000000
namespace Ca
open PySem L2
/-! ### what an answer that was seen asks of a row -/
def leastS (fs ps : List (Int × Int)) : List Int := (List.range ps.length).map fun i => (partsW fs).getD i 0 * (ps.getD i (0, 0)).1
def seenLim (fs : List (Int × Int)) (r : Rw) : List Int × Int := (partsW fs, ((wholeOf fs : Nat) : Int) * r.bd.2 - (leastS fs r.parts).sum)
theorem row_pairs {r : Rw} {m : Nat} (h : isRowD (rowD r) m = true) : ∀ p ∈ r.parts ++ [r.bd], -10000 ≤ p.1 ∧ p.1 ≤ p.2 ∧ p.2 ≤ 10000 := by
  obtain ⟨_, h2⟩ := Bool.and_eq_true_iff.mp (show (nameS r.name && (isTupN (.tuple (r.parts.map strD)) m && ((partsOf (.tuple (r.parts.map strD)) ++ [strD r.bd]).all isStretchD))) = true from h)
  obtain ⟨_, h4⟩ := Bool.and_eq_true_iff.mp h2
  intro p hp
  refine str_ok (List.all_eq_true.mp h4 (strD p) ?_)
  show strD p ∈ r.parts.map strD ++ [strD r.bd]
  rw [show r.parts.map strD ++ [strD r.bd] = (r.parts ++ [r.bd]).map strD by rw [List.map_append]; rfl]
  exact List.mem_map_of_mem hp
section
variable {P : Program} {w : World} {K : PySem.W.Frag} {mg : Str → Option Value} {base : Heap}
end
end Ca
set_option Elab.async false
set_option linter.all false
set_option maxRecDepth 100000
set_option maxHeartbeats 8000000
namespace Ca
open PySem L2
/-! ### that no number is further above its least than its greatest is -/
def unitL (m k : Nat) : List Int := (List.range m).map fun i => if k = i then 1 else 0
def widthL (ps : List (Int × Int)) : List (List Int × Int) := (List.range ps.length).map fun k => (unitL ps.length k, (ps.getD k (0, 0)).2 - (ps.getD k (0, 0)).1)
section
variable {P : Program} {w : World} {K : PySem.W.Frag} {mg : Str → Option Value} {base : Heap}
end
end Ca
set_option Elab.async false
set_option linter.all false
set_option maxRecDepth 100000
set_option maxHeartbeats 8000000
namespace Ca
open PySem L2
/-! ### numbers for a row, with which all that was seen keeps it -/
def seenLs (r : Rw) (fss : List (List (Int × Int))) : List (List Int × Int) := widthL r.parts ++ fss.map fun fs => seenLim fs r
abbrev zs (m : Nat) : List Int := List.replicate m 0
def UnfitP (r : Rw) (fss : List (List (Int × Int))) : Prop := ∃ (t : Tb) (i : Nat), Shp (seenLs r fss).length r.parts.length t ∧ StOf (seenLs r fss) (zs r.parts.length) t ∧ i < (seenLs r fss).length ∧ tT t i r.parts.length < 0 ∧ ∀ j, j < r.parts.length → 0 ≤ tT t i j
def FitP (r : Rw) (fss : List (List (Int × Int))) (gs : List (Int × Int)) : Prop := gs.length = r.parts.length ∧ ∃ t : Tb, Shp (seenLs r fss).length r.parts.length t ∧ StOf (seenLs r fss) (zs r.parts.length) t ∧ (∀ q, ¬ WrongT (seenLs r fss).length r.parts.length t q) ∧
  ∀ q g, gs[q]? = some g → ∃ p, AmtOf r.parts.length t (seenLs r fss).length q p ∧ Red ((r.parts.getD q (0, 0)).1 * p.2 + p.1 * 1) (1 * p.2) g.1 g.2
/-- what is told of a row: no numbers, or some -/
def FitT (K : PySem.W.Frag) (H : Hp) (r : Rw) (fss : List (List (Int × Int))) (v : V) : Prop := (v = .non ∧ UnfitP r fss) ∨ ∃ gs : List (Int × Int), Dq K H v (frsD gs) ∧ FitP r fss gs
theorem FitT.same {K : PySem.W.Frag} {H H' : Hp} {r : Rw} {fss : List (List (Int × Int))} {v : V} (h : FitT K H r fss v) (s : Same H H') : FitT K H' r fss v := by
  rcases h with h | ⟨gs, d, h⟩
  · exact .inl h
  · exact .inr ⟨gs, d.same s, h⟩
theorem frsAll_updT {K : PySem.W.Frag} {H : Hp} {y : Addr} {ys : List V} {o : HO} (hy : H y = some (.lst ys)) : ∀ {gs : List (Int × Int)} {vs : List V}, DqAll K H vs (gs.map frD) → DqAll K (upd H y o) vs (gs.map frD)
  | [], _, h => by cases h; exact .nil
  | g :: gs, _, h => by
    cases h with
    | cons a b => exact .cons (fr_updT hy a) (frsAll_updT hy b)
section
variable {P : Program} {w : World} {K : PySem.W.Frag} {mg : Str → Option Value} {base : Heap}
end
end Ca
set_option Elab.async false
set_option linter.all false
set_option maxRecDepth 100000
set_option maxHeartbeats 4000000
namespace Ca
open PySem PySem.Spec PyProof.Rows L2
section
variable {P : Program} {w : World} {K : PySem.W.Frag} {mg : Str → Option Value} {base : Heap} {C fI : Addr} {fdI : FuncData}
end
end Ca
set_option Elab.async false
set_option linter.all false
set_option maxRecDepth 100000
set_option maxHeartbeats 4000000
namespace Ca
open PySem L2
/-! ### answers and rows -/
structure AnsOk (fs : List (Int × Int)) (m : Nat) : Prop where
  len : fs.length = m
  ok : ∀ f ∈ fs, FrOk 300 f
  cop : ∀ f ∈ fs, Nat.gcd f.1.natAbs f.2.natAbs = 1
theorem AnsOk.is {fs : List (Int × Int)} {m : Nat} (h : AnsOk fs m) : isAnsD (frsD fs) m = true := by
  refine Bool.and_eq_true_iff.mpr ⟨?_, ?_⟩
  · show decide ((fs.map frD).length = m) = true
    rw [List.length_map]
    exact decide_eq_true h.len
  · show (fs.map frD).all isFracD = true
    rw [List.all_map, List.all_eq_true]
    intro f hf
    show (decide (0 < f.2) && decide (Nat.gcd f.1.natAbs f.2.natAbs = 1)) = true
    rw [decide_eq_true (h.ok f hf).pos, decide_eq_true (h.cop f hf)]
    rfl
def spChkS (K : PySem.W.Frag) (C : Addr) : Sp := fun vs H Q _ => ∃ x ns rs, vs = [.ref x] ∧ SysAt K C H x ns rs ∧ Q .non H
section
variable {P : Program} {w : World} {K : PySem.W.Frag} {mg : Str → Option Value} {base : Heap} {C : Addr}
end
end Ca
set_option Elab.async false
set_option linter.all false
set_option maxRecDepth 100000
set_option maxHeartbeats 4000000
namespace Ca
open PySem L2
section
variable {P : Program} {w : World} {K : PySem.W.Frag} {mg : Str → Option Value} {base : Heap} {C fUn pUn fRo pRo : Addr} {fdUn fdRo : FuncData}
theorem scChkS : FnScope ["system"] ["system"] (defScope sCheckSystem) := ⟨rfl, rfl, rfl, by decide +kernel, rfl, by decide +kernel, by decide +kernel⟩
theorem ok_chkS {f : Addr} {fd : FuncData} (F : FnT K "check_system" sCheckSystem f fd) (B : Bn mg) (S : SysC K C) (I : SysI K C) (gC : mg "System" = some (.ref C)) : FnOk P w K mg base CX0 1 f fd ["system"] (spChkS K C) := by
  refine F.ok scChkS (fun vs H Q E h => ?_) (fun cdv A outer s H vs Q E hr h => ?_)
  · obtain ⟨x, ns, rs, rfl, _⟩ := h
    rfl
  · obtain ⟨x, ns, rs, rfl, hX, q⟩ := h
    refine ⟨_, PSs.nox (pss_one (ps_if (pt_not (pt_val (pe_callB call_isi (by rfl) B.isi PyProof.Rows.boot_isinstance (pa_cons (pv 0) (pa_cons (pe_glob (v := .ref C) rfl gC rfl) pa_nil))))) (pss_one ps_never) pss_nil)), ?_⟩
    obtain ⟨_, _, dx, _, _, ex, _, _⟩ := id hX
    exact ⟨_, rfl, .ref x, .ref C, _, _, true, rfl, .own C, .base (.ins ex S.cl I.ha I.hn I.ht I.hm), I.own, _, rfl, iteF q⟩
end
end Ca
set_option Elab.async false
set_option linter.all false
set_option maxRecDepth 100000
set_option maxHeartbeats 8000000
namespace Ca
open PySem L2
/-! ### what is no system, no answers -/
section
variable {P : Program} {w : World} {K : PySem.W.Frag} {mg : Str → Option Value} {base : Heap} {C CN CS fIN fIS fUn fRo : Addr} {fdIN fdIS fdUn fdRo : FuncData} {pUn pRo : Addr}
end
end Ca
set_option Elab.async false
set_option linter.all false
set_option maxRecDepth 100000
set_option maxHeartbeats 8000000
namespace Ca
open PySem L2
/-! ### clash, fits, fitting -/
abbrev Fss := List (List (Int × Int))
theorem rows_get {K : PySem.W.Frag} {H : Hp} {xs : List V} {rs : List Rw} {k : Nat} {v : V} (h : DqAll K H xs (rs.map rowD)) (hk : k < rs.length) (hv : xs[k]? = some v) : Dq K H v (rowD rs[k]) := by
  obtain ⟨d, hd, dq⟩ := h.get hv
  rw [List.getElem?_map, List.getElem?_eq_getElem hk] at hd
  cases hd
  exact dq
section
variable {P : Program} {w : World} {K : PySem.W.Frag} {mg : Str → Option Value} {base : Heap} {C CN CS fIN fIS fUn fRo : Addr} {fdIN fdIS fdUn fdRo : FuncData} {pUn pRo : Addr}
end
end Ca
set_option Elab.async false
set_option linter.all false
set_option maxRecDepth 100000
set_option maxHeartbeats 8000000
namespace Ca
open PySem L2
section
variable {P : Program} {w : World} {K : PySem.W.Frag} {mg : Str → Option Value} {base : Heap} {C CN CS fRo : Addr} {fdRo : FuncData} {pRo : Addr}
end
end Ca
set_option Elab.async false
set_option linter.all false
set_option maxRecDepth 100000
set_option maxHeartbeats 4000000
namespace Ca
open PySem L2
/-! ### which numbers fit what was seen -/
def qv (f : Int × Int) : Rat := (f.1 : Rat) / (f.2 : Rat)
section
variable {r : Rw} {fss : Fss}
end
end Ca
set_option Elab.async false
set_option linter.all false
set_option maxRecDepth 100000
set_option maxHeartbeats 8000000
namespace Ca
open PySem PySem.Spec PyProof.Rows L2
/-! ### the law's drawn systems -/
def nmR (k : Nat) : Str := ("r" : Str) ++ toString ((k : Nat) : Int)
def folk3 (m : Nat) : List Str := (["x", "y", "z9"] : List Str).take m
theorem nmR_ok : ∀ k, k < 6 → nameS (nmR k) = true ∧ (nmR k).length ≤ 1000 ∧ ("r" : Str).length + (toString ((k : Nat) : Int) : Str).length ≤ 1000 := by decide +kernel
theorem nmR_nd : ((List.range 6).map nmR).Nodup := by decide +kernel
theorem folk3_ok {m : Nat} (h1 : 1 ≤ m) (h3 : m ≤ 3) : Folk (folk3 m) ∧ (folk3 m).length = m := by
  have : m = 1 ∨ m = 2 ∨ m = 3 := by omega
  rcases this with rfl | rfl | rfl
  · exact ⟨⟨by decide, by decide, by decide +kernel, by decide +kernel⟩, rfl⟩
  · exact ⟨⟨by decide, by decide, by decide +kernel, by decide +kernel⟩, rfl⟩
  · exact ⟨⟨by decide, by decide, by decide +kernel, by decide +kernel⟩, rfl⟩
theorem lines_ofP {rs : List Rw} {m : Nat} (h6 : rs.length ≤ 6) (h : ∀ i r, rs[i]? = some r → r.name = nmR i ∧ isRowD (rowD r) m = true) : Lines rs m := by
  refine ⟨h6, fun r hr => ?_, ?_⟩
  · obtain ⟨i, hi⟩ := List.mem_iff_getElem?.mp hr
    exact (h i r hi).2
  · have e : rs.map Rw.name = ((List.range 6).map nmR).take rs.length := by
      refine List.ext_getElem (by simp; omega) fun i h1 h2 => ?_
      rw [List.length_map] at h1
      rw [List.getElem_map, List.getElem_take, List.getElem_map, List.getElem_range]
      exact (h i rs[i] (List.getElem?_eq_getElem h1)).1
    rw [e]
    exact nmR_nd.sublist (List.take_sublist _ _)
def spCard (K : PySem.W.Frag) : Sp := fun vs H Q _ => ∃ (l : Addr) (mu mr sz : Int), vs = [.ref l, .int mu, .int mr, .int sz] ∧ Urn H l ∧ 1 ≤ mu ∧ mu ≤ 3 ∧ 1 ≤ mr ∧ mr ≤ 6 ∧ 1 ≤ sz ∧ sz ≤ 1000 ∧
  ∀ H' c u r rs m, Kept l H H' → Urn H' l → H c = none → c ≠ l → H' c = some (.lst [.ref u, .ref r]) → Dq K H' (.ref u) (folkD (folk3 m)) → Dq K H' (.ref r) (rowsD rs) → 1 ≤ m → (m : Int) ≤ mu → Lines rs m → 1 ≤ rs.length → (rs.length : Int) ≤ mr → (∀ i r, rs[i]? = some r → r.name = nmR i ∧ -2000 ≤ r.bd.1 ∧ r.bd.2 ≤ 8001) → Q (.ref c) H'
def spMadeP (K : PySem.W.Frag) (C : Addr) : Sp := fun vs H Q _ => ∃ c u r ns rs, vs = [.ref c] ∧ H c = some (.lst [.ref u, .ref r]) ∧ Dq K H (.ref u) (folkD ns) ∧ Dq K H (.ref r) (rowsD rs) ∧ Folk ns ∧ Lines rs ns.length ∧ ∀ H' y, Same H H' → SysAt K C H' y ns rs → Q (.ref y) H'
abbrev NCd : List Str := ["_law_purse_here", "_law_most_unknowns", "_law_most_rows", "_law_size", "_law_many", "_law_rows_here", "_law_k", "_law_numbers_here", "_law_low_here", "_law_bound_here", "_law_j"]
section
variable {P : Program} {w : World} {K : PySem.W.Frag} {mg : Str → Option Value} {base : Heap} {C fI : Addr} {fdI : FuncData}
theorem scMadeP : FnScope ["_law_card_here"] ["_law_card_here"] (defScope sLawMade) := ⟨rfl, rfl, rfl, by decide +kernel, rfl, by decide +kernel, by decide +kernel⟩
theorem ok_madeP {f : Addr} {fd : FuncData} (F : FnT K "_law_made" sLawMade f fd) (M : Mk K C fI) (gS : mg "System" = some (.ref C))
    (GI : FnOk P w K mg base CX0 5 fI fdI ["self", "unknowns", "rows"] (spInit K C)) (bI : Binds K fdI ["self", "unknowns", "rows"] []) : FnOk P w K mg base CX0 7 f fd ["_law_card_here"] (spMadeP K C) := by
  refine F.ok scMadeP (fun vs H Q E h => ?_) (fun cdv A outer s H vs Q E hr h => ?_)
  · obtain ⟨c, u, r, ns, rs, rfl, _⟩ := h
    rfl
  · obtain ⟨c, u, r, ns, rs, rfl, hc, du, dr, hN, hL, q⟩ := h
    refine ⟨_, PSs.nox (pss_one (ps_ret (pe_make M GI hr rfl gS bI .nil pass0 (pa_cons (pe_ix ix_list (pv 0) pe_int (fun _ _ => rfl)) (pa_cons (pe_ix ix_list (pv 0) pe_int (fun _ _ => rfl)) pa_nil))))), ?_⟩
    refine ⟨_, rfl, c, _, 0, _, rfl, rfl, SqL.of hc, atI_nat (j := 0) rfl, _, rfl, c, _, 1, _, rfl, rfl, SqL.of hc, atI_nat (j := 1) rfl, fun y dy hy hdy ne => ?_⟩
    have sn := made_new (C := C) hy hdy
    refine ⟨y, dy, .ref u, .ref r, ns, rs, rfl, upd_same, du.same sn, hN, dr.same sn, hL, fun H6 k6 x6 => ⟨rfl, ?_⟩⟩
    have s6 := made_same hy hdy k6
    exact q H6 y s6 ⟨hN, hL, dy, .ref u, .ref r, x6, du.same s6, dr.same s6⟩
theorem scCard : FnScope NCd ["_law_purse_here", "_law_most_unknowns", "_law_most_rows", "_law_size"] (defScope sLawCard) := ⟨rfl, rfl, rfl, by decide +kernel, rfl, by decide +kernel, by decide +kernel⟩
theorem ok_card {f fD fF fS : Addr} {fd fdD fdF fdS : FuncData} (F : FnT K "_law_card" sLawCard f fd) (mtup : mg "tuple" = none) (mrng : mg "range" = none) (mstr : mg "str" = none)
    (gD : mg "_law_draw" = some (.ref fD)) (GD : FnOk P w K mg base CX0 1 fD fdD ["_law_purse_here", "_law_size"] spDip) (kD : PySem.W.keepIn K (.ref fD) = true) (bD : Binds K fdD ["_law_purse_here", "_law_size"] [])
    (gF : mg "_law_pick" = some (.ref fF)) (GF : FnOk P w K mg base CX0 2 fF fdF ["_law_purse_here", "_law_menu"] (spFrom K)) (kF : PySem.W.keepIn K (.ref fF) = true) (bF : Binds K fdF ["_law_purse_here", "_law_menu"] [])
    (gS : mg "_law_stretch" = some (.ref fS)) (GS : FnOk P w K mg base CX0 3 fS fdS ["_law_purse_here", "_law_size"] (spStrP K)) (kS : PySem.W.keepIn K (.ref fS) = true) (bS : Binds K fdS ["_law_purse_here", "_law_size"] []) :
    FnOk P w K mg base CX0 4 f fd ["_law_purse_here", "_law_most_unknowns", "_law_most_rows", "_law_size"] (spCard K) := by
  refine F.ok scCard (fun vs H Q E h => ?_) (fun cdv A outer s H vs Q E hr h => ?_)
  · obtain ⟨l, mu, mr, sz, rfl, _⟩ := h
    rfl
  · obtain ⟨l, mu, mr, sz, rfl, hU, u1, u3, r1, r6, z1, z2, q⟩ := h
    have nd := scCard.nd
    have hr1 : Room 1 _ := hr.mono (by decide)
    have hr2 : Room 2 _ := hr.mono (by decide)
    refine ⟨_, PSs.nox (pss_cons (ps_cut (ps_par (i := 4) (j := 5) rfl nd rfl rfl (by decide) rfl rfl (pa_cons (pe_op op_add pe_int (pe_call GD hr1 rfl gD kD bD .nil pass0 (pa_cons (pv 0) (pa_cons (pv 1) pa_nil)))) (pa_cons (pe_lst pa_nil) pa_nil)) rfl))
      (pss_cons (ps_cut (ps_for PassesOwn.never rfl (pi_range1 rfl mrng (pa_cons (pe_op op_add pe_int (pe_call GD hr1 rfl gD kD bD .nil pass0 (pa_cons (pv 0) (pa_cons (pv 2) pa_nil)))) pa_nil)) (pg_name (i := 6) nd rfl (.inl rfl))
        (pss_cons (ps_cut (ps_set (i := 7) nd rfl (.inl rfl) (pe_callTy call_tuple_of (by rfl) mtup (by decide +kernel) (pa_cons (pe_lc (own := [("_law_j", 10)]) (g := gName 10) (tt := tYes) rfl nd (pi_range1 rfl mrng (pa_cons (pv 4) pa_nil))
            (blkOk_by (own := [("_law_j", 10)]) (N := NCd) (sc := defScope sLawCard) (by decide +kernel)) (fun _ _ _ _ _ => pg_name (i := 10) nd rfl (Or.inl rfl)) (fun _ _ _ _ _ => pts_nil)
            (fun _ _ _ _ _ => pe_call GS hr rfl gS kS bS .nil pass0 (pa_cons (pv 0) (pa_cons (pv 3) pa_nil)))) pa_nil))))
        (pss_cons (ps_cut (ps_set (i := 8) nd rfl (.inl rfl) (pe_call GF hr2 rfl gF kF bF .nil pass0 (pa_cons (pv 0) (pa_cons (pe_lst (pa_cons pe_int (pa_cons pe_int (pa_cons (pe_un un_neg pe_int)
            (pa_cons (pe_op op_sub (pe_call GD hr1 rfl gD kD bD .nil pass0 (pa_cons (pv 0) (pa_cons (pe_op op_add (pe_op op_mul pe_int (pv 3)) pe_int) pa_nil))) (pe_op op_mul pe_int (pv 3))) pa_nil))))) pa_nil)))))
        (pss_cons (ps_cut (ps_set (i := 9) nd rfl (.inl rfl) (pe_tup (pa_cons (pv 8) (pa_cons (pe_op op_add (pv 8) (pe_call GF hr2 rfl gF kF bF .nil pass0 (pa_cons (pv 0) (pa_cons (pe_lst (pa_cons pe_int (pa_cons pe_int (pa_cons pe_int
            (pa_cons (pe_call GD hr1 rfl gD kD bD .nil pass0 (pa_cons (pv 0) (pa_cons (pe_op op_mul pe_int (pv 3)) pa_nil))) pa_nil))))) pa_nil)))) pa_nil)))))
        (pss_one (ps_expr (pe_bm PySem.F.plainAttrs_list PySem.F.slot_list_append PySem.F.type_list_append mt_append (pv 5) (pa_cons (pe_tup (pa_cons (pe_op op_add_str pe_str (pe_callTy call_str_int (by rfl) mstr (by decide +kernel) (pa_cons (pv 6) pa_nil))) (pa_cons (pv 7) (pa_cons (pv 9) pa_nil)))) pa_nil)))))))))
      (pss_one (ps_ret (pe_lst (pa_cons (pe_callTy call_tuple_of (by rfl) mtup (by decide +kernel) (pa_cons (pe_slice sl_list (pe_lst (pa_cons pe_str (pa_cons pe_str (pa_cons pe_str pa_nil)))) po_none (po_some (pv 4))) pa_nil)) (pa_cons (pe_callTy call_tuple_of (by rfl) mtup (by decide +kernel) (pa_cons (pv 5) pa_nil)) pa_nil))))))), ?_⟩
    have two : 2 ≤ sizeLine := by decide
    have three : 3 ≤ sizeLine := by decide
    have four : 4 ≤ sizeLine := by decide
    refine ⟨fun σ' H' => ∃ (m : Nat) (D : Addr), σ' = [some (.ref l), some (.int mu), some (.int mr), some (.int sz), some (.int (m : Nat)), some (.ref D), none, none, none, none, none] ∧ 1 ≤ m ∧ (m : Int) ≤ mu ∧ Kept l H H' ∧ Urn H' l ∧ D ≠ l ∧ H D = none ∧ H' D = some (.lst []), ?_, ?_⟩
    · refine ⟨_, rfl, _, rfl, l, mu, rfl, hU, by omega, by omega, fun H1 d k1 v1 d0 d1 => ⟨_, _, rfl, rfl, Nat.zero_le _, fun D hD => ?_⟩⟩
      obtain ⟨uo, huo⟩ := v1.some
      have nDl : D ≠ l := (ne_of_none huo hD).symm
      have s2 := Same.new (o := .lst []) hD
      exact ⟨_, _, rfl, 1 + d.toNat, D, by rw [show ((1 + d.toNat : Nat) : Int) = 1 + d by omega]; rfl, by omega, by omega, k1.trans s2.kept, v1.same s2, nDl, Kept.free k1 nDl hD, upd_same⟩
    rintro _ H1 ⟨m, D, rfl, m1, m2, k1, v1, nDl, hDn, hD1⟩
    have m3 : m ≤ 3 := by omega
    refine ⟨fun σ' H' => ∃ o6 o7 o8 o9, σ' = [some (.ref l), some (.int mu), some (.int mr), some (.int sz), some (.int (m : Nat)), some (.ref D), o6, o7, o8, o9, none] ∧ Kept l H H' ∧ Urn H' l ∧ ∃ (vs : List V) (rs : List Rw), H' D = some (.lst vs) ∧ DqAll K H' vs (rs.map rowD) ∧ 1 ≤ rs.length ∧ (rs.length : Int) ≤ mr ∧ ∀ i r, rs[i]? = some r → (r.name = nmR i ∧ -2000 ≤ r.bd.1 ∧ r.bd.2 ≤ 8001) ∧ isRowD (rowD r) m = true, ?_, ?_⟩
    · refine ⟨_, rfl, _, rfl, l, mr, rfl, v1, by omega, by omega, fun H2 d k2 v2 d0 d1 => ⟨_, _, rfl, rfl, _, rfl, by omega, by omega, ?_⟩⟩
      refine for_it (walk_range (lo := 0) (n := (1 + d).toNat)) (fun k σ' H' => ∃ o6 o7 o8 o9, σ' = [some (.ref l), some (.int mu), some (.int mr), some (.int sz), some (.int (m : Nat)), some (.ref D), o6, o7, o8, o9, none] ∧ Kept l H H' ∧ Urn H' l ∧ ∃ (vs : List V) (rs : List Rw), H' D = some (.lst vs) ∧ DqAll K H' vs (rs.map rowD) ∧ rs.length = k ∧ ∀ i r, rs[i]? = some r → (r.name = nmR i ∧ -2000 ≤ r.bd.1 ∧ r.bd.2 ≤ 8001) ∧ isRowD (rowD r) m = true)
        ⟨_, _, _, _, rfl, k1.trans k2, v2, [], [], k2 _ _ nDl hD1, .nil, rfl, fun i r h => by simp at h⟩ (fun _ _ _ _ _ => trivial) ?_ (fun σ' H' p => ?_)
      · rintro k z _ _ H3 hk ⟨o6, o7, o8, o9, rfl, k3, v3, vs, rs, bD, dvs, lr, hrs⟩ ⟨rfl, hz⟩
        have hk6 : k < 6 := by omega
        have ez : z = .int ((k : Nat) : Int) := by
          rw [hz]
          show V.int (0 + ((k : Nat) : Int)) = _
          rw [Int.zero_add]
        subst ez
        -- the stretches
        refine ⟨fun σ' H' => ∃ (t : Addr) (ps : List (Int × Int)), σ' = [some (.ref l), some (.int mu), some (.int mr), some (.int sz), some (.int (m : Nat)), some (.ref D), some (.int (k : Nat)), some (.ref t), o8, o9, none] ∧ Kept l H3 H' ∧ Urn H' l ∧ Dq K H' (.ref t) (.tuple (ps.map strD)) ∧ ps.length = m ∧ ∀ p ∈ ps, isStretchD (strD p) = true, ?_, ?_⟩
        · refine ⟨_, rfl, _, rfl, by omega, by omega, fun D2 hD2 => ?_⟩
          refine lc_draw (K := K) (walk_range (lo := 0) (n := ((m : Nat) : Int).toNat)) strD (fun _ p => isStretchD (strD p) = true) noL_strD (by omega) v3 hD2 (fun _ _ => trivial) (fun _ _ _ _ y => y.1) (fun _ => rfl) ?_ ?_
          · rintro i x H4 Qk hi ⟨_, hx⟩ k4 v4 kk
            exact ⟨_, rfl, _, rfl, l, sz, rfl, v4, z1, z2, fun H5 v p k5 v5 dp op => kk v p H5 k5 v5 dp op⟩
          · intro H4 xs ps k4 v4 bD2 dqs hlen hok
            refine ⟨D2, xs, rfl, .inl ⟨SqL.of bD2, fun tr htr => ?_⟩⟩
            have s5 := Same.new (o := .tup xs) htr
            refine ⟨tr, ps, rfl, k4.trans s5.kept, v4.same s5, .tup (SqT.of upd_same) (dqs.same s5), by omega, fun p hp => ?_⟩
            obtain ⟨i, hi⟩ := List.mem_iff_getElem?.mp hp
            exact hok i p hi
        rintro _ H4 ⟨t, ps, rfl, k4, v4, dt, lps, hps⟩
        -- the bound
        refine ⟨fun σ' H' => ∃ low : Int, σ' = [some (.ref l), some (.int mu), some (.int mr), some (.int sz), some (.int (m : Nat)), some (.ref D), some (.int (k : Nat)), some (.ref t), some (.int low), o9, none] ∧ Kept l H4 H' ∧ Urn H' l ∧ -2000 ≤ low ∧ low ≤ 6001, ?_, ?_⟩
        · refine ⟨_, rfl, _, rfl, _, rfl, _, rfl, _, _, rfl, rfl, .inl ⟨by decide, by decide⟩, _, _, rfl, rfl, l, 8 * sz + 1, rfl, v4, by omega, by omega, fun H5 d5 k5 v5 e0 e1 => ⟨_, rfl, _, _, rfl, rfl, .inl ⟨by decide, by decide⟩, _, _, rfl, rfl, four, fun p hp => ?_⟩⟩
          obtain ⟨uo, huo⟩ := v5.some
          have s6 := Same.new (o := .lst [.int 0, .int 5, .int (-5), .int (d5 - 2 * sz)]) hp
          refine ⟨l, p, _, rfl, v5.same s6, upd_same, (ne_of_none huo hp).symm, by show 0 < 4; decide, by show 4 < 1000; decide, fun H7 i v hv k7 v7 => ?_⟩
          have kk := k5.trans (s6.kept.trans k7)
          match i, hv with
          | 0, hv => cases hv; exact ⟨0, rfl, kk, v7, by decide, by decide⟩
          | 1, hv => cases hv; exact ⟨5, rfl, kk, v7, by decide, by decide⟩
          | 2, hv => cases hv; exact ⟨-5, rfl, kk, v7, by decide, by decide⟩
          | 3, hv => cases hv; exact ⟨d5 - 2 * sz, rfl, kk, v7, by omega, by omega⟩
          | n + 4, hv => cases hv
        rintro _ H5 ⟨low, rfl, k5, v5, w1, w2⟩
        refine ⟨fun σ' H' => ∃ (g : Addr) (hi : Int), σ' = [some (.ref l), some (.int mu), some (.int mr), some (.int sz), some (.int (m : Nat)), some (.ref D), some (.int (k : Nat)), some (.ref t), some (.int low), some (.ref g), none] ∧ Kept l H5 H' ∧ Urn H' l ∧ low ≤ hi ∧ hi ≤ low + 2000 ∧ Dq K H' (.ref g) (strD (low, hi)), ?_, ?_⟩
        · refine ⟨_, rfl, _, rfl, _, rfl, _, rfl, _, rfl, _, _, rfl, rfl, .inl ⟨by decide, by decide⟩, l, 2 * sz, rfl, v5, by omega, by omega, fun H6 d6 k6 v6 e0 e1 => ⟨four, fun p hp => ?_⟩⟩
          obtain ⟨uo, huo⟩ := v6.some
          have s7 := Same.new (o := .lst [.int 0, .int 1, .int 3, .int d6]) hp
          refine ⟨l, p, _, rfl, v6.same s7, upd_same, (ne_of_none huo hp).symm, by show 0 < 4; decide, by show 4 < 1000; decide, fun H8 i v hv k8 v8 => ?_⟩
          have kk := k6.trans (s7.kept.trans k8)
          obtain ⟨hi, rfl, y1, y2⟩ : ∃ hi : Int, v = .int hi ∧ 0 ≤ hi ∧ hi ≤ 2000 := by
            match i, hv with
            | 0, hv => cases hv; exact ⟨0, rfl, by decide, by decide⟩
            | 1, hv => cases hv; exact ⟨1, rfl, by decide, by decide⟩
            | 2, hv => cases hv; exact ⟨3, rfl, by decide, by decide⟩
            | 3, hv => cases hv; exact ⟨d6, rfl, by omega, by omega⟩
            | n + 4, hv => cases hv
          refine ⟨_, _, rfl, rfl, two, fun g hg => ?_⟩
          have s9 := Same.new (o := .tup [.int low, .int (low + hi)]) hg
          exact ⟨g, low + hi, rfl, kk.trans s9.kept, v8.same s9, by omega, by omega, strD_at upd_same⟩
        rintro _ H6 ⟨g, hi, rfl, k6, v6, y1, y2, dg⟩
        -- the row
        have k46 := k5.trans k6
        have k36 := k4.trans k46
        obtain ⟨ys3, hl3⟩ := urn_lst v3
        obtain ⟨ys4, hl4⟩ := urn_lst v4
        have bD6 := k36 _ _ nDl bD
        have dt6 := Dq.but hl4 k46 (show noL (.tuple (ps.map strD)) = true from noLs_map strD noL_strD ps) dt
        have dvs6 := DqAll.but hl3 k36 (noLs_map rowD noL_row rs) dvs
        have nk := nmR_ok k hk6
        refine ⟨_, rfl, .inl ⟨rfl, _, SqL.of bD6⟩, _, rfl, _, rfl, ?_, _, _, rfl, rfl, ?_, _, rfl, _, rfl, three, fun e he => ?_⟩
        · show (((k : Nat) : Int).natAbs.log2 < 1920)
          rw [Int.natAbs_natCast]
          exact Nat.lt_of_le_of_lt (Nat.log2_le_self k) (by omega)
        · exact Nat.le_trans nk.2.2 (by decide)
        have s7 := Same.new (o := .tup [.str (nmR k), .ref t, .ref g]) he
        have bD7 := s7 _ _ bD6
        refine ⟨D, _, _, rfl, rfl, bD7, ?_, _, _, _, _, rfl, ?_, ?_, vs ++ [.ref e], rs ++ [⟨nmR k, ps, (low, hi)⟩], upd_same, ?_, by rw [List.length_append, lr]; rfl, fun i r e1 => ?_⟩
        · have := dvs.len
          rw [List.length_map] at this
          exact Nat.lt_of_lt_of_le (show vs.length < 10 by omega) (by decide)
        · intro b o nb eb
          have nbD : b ≠ D := ne_of_none eb hDn
          rw [upd_ne nbD]
          exact s7 _ _ (k36 _ _ nb (k3 _ _ nb eb))
        · obtain ⟨gg, xx, nn, i1, i2, i3, i4⟩ := v6.same s7
          exact ⟨gg, xx, nn, i1, i2, i3, by rw [upd_ne nDl.symm]; exact i4⟩
        · rw [List.map_append]
          refine (DqAll.but bD7 Kept.upd (noLs_map rowD noL_row rs) (dvs6.same s7)).app (.cons (Dq.but bD7 Kept.upd (noL_row _) ?_) .nil)
          exact .tup (SqT.of upd_same) (.cons (.str _ nk.2.1) (.cons (dt6.same s7) (.cons (dg.same s7) .nil)))
        · by_cases g0 : i < rs.length
          · rw [List.getElem?_append_left g0] at e1
            exact hrs i r e1
          · rw [List.getElem?_append_right (Nat.le_of_not_lt g0)] at e1
            have e0 : i - rs.length = 0 := by
              cases z : i - rs.length with
              | zero => rfl
              | succ n => rw [z] at e1; cases e1
            rw [e0] at e1
            obtain rfl := Option.some.inj e1
            have ik : i = k := by omega
            subst ik
            refine ⟨⟨rfl, w1, by show hi ≤ 8001; omega⟩, row_ok nk.1 lps fun p hp => ?_⟩
            rcases List.mem_append.mp hp with h | h
            · exact hps p h
            · rw [List.mem_singleton.mp h]
              exact two_ok (show -10000 ≤ low by omega) y1 (show hi ≤ 10000 by omega)
      · obtain ⟨o6, o7, o8, o9, rfl, k3, v3, vs, rs, bD, dvs, lr, hrs⟩ := p
        exact ⟨o6, o7, o8, o9, rfl, k3, v3, vs, rs, bD, dvs, by omega, by omega, hrs⟩
    rintro _ H2 ⟨o6, o7, o8, o9, rfl, k2, v2, vs, rs, bD, dvs, l1, l2, hrs⟩
    obtain ⟨fo, fl⟩ := folk3_ok m1 m3
    refine ⟨three, fun p hp => ⟨_, rfl, _, rfl, p, _, rfl, SqL.of upd_same, fun p2 hp2 => ?_⟩⟩
    have s3 := Same.new (o := .lst [.str "x", .str "y", .str "z9"]) hp
    refine ⟨p2, _, rfl, .inl ⟨SqL.of upd_same, fun u hu => ?_⟩⟩
    have s4 := Same.new (o := .lst (cutV [.str "x", .str "y", .str "z9"] none (some ((m : Nat) : Int)))) hp2
    have s5 := Same.new (o := .tup (cutV [.str "x", .str "y", .str "z9"] none (some ((m : Nat) : Int)))) hu
    have s35 := s3.trans (s4.trans s5)
    refine ⟨_, rfl, D, vs, rfl, .inl ⟨SqL.of (s35 _ _ bD), fun r hr' => ?_⟩⟩
    have s6 := Same.new (o := .tup vs) hr'
    refine ⟨two, fun c hc => ?_⟩
    have s7 := Same.new (o := .lst [.ref u, .ref r]) hc
    have s67 := s6.trans s7
    have s37 := s35.trans s67
    obtain ⟨uo, huo⟩ := (v2.same (s35.trans s6)).some
    have ncl : c ≠ l := (ne_of_none huo hc).symm
    refine q _ c u r rs m (k2.trans s37.kept) (v2.same s37) (Kept.free (k2.trans (s35.trans s6).kept) ncl hc) ncl upd_same ?_ ?_ m1 m2 (lines_ofP (by omega) fun i r h => ⟨(hrs i r h).1.1, (hrs i r h).2⟩) l1 l2 (fun i r h => (hrs i r h).1)
    · have e : cutV [.str "x", .str "y", .str "z9"] none (some ((m : Nat) : Int)) = (folk3 m).map V.str := by
        rw [cut_take]
        unfold folk3
        rw [List.map_take]
        rfl
      have dq : DqAll K _ ((folk3 m).map V.str) ((folk3 m).map .str) := strs_dq (H := upd (upd (upd (upd (upd H2 p (.lst [.str "x", .str "y", .str "z9"])) p2 (.lst (cutV [.str "x", .str "y", .str "z9"] none (some ((m : Nat) : Int))))) u (.tup (cutV [.str "x", .str "y", .str "z9"] none (some ((m : Nat) : Int))))) r (.tup vs)) c (.lst [.ref u, .ref r])) fun x hx => by
        have := (name_parts (folk_names fo x hx)).2.1
        omega
      refine .tup (SqT.of (s67 _ _ (upd_same.trans ?_))) dq
      rw [e]
    · exact Dq.same s7 (.tup (SqT.of upd_same) (dvs.same (s35.trans s6)))
end
end Ca
set_option Elab.async false
set_option linter.all false
set_option maxRecDepth 100000
set_option maxHeartbeats 8000000
namespace Ca
open PySem L2
/-! ### the law's drawn answers -/
/-- fractions of small numbers -/
structure FewF (f : Int × Int) : Prop where
  pos : 0 < f.2
  top : f.1.natAbs ≤ 1000
  bot : f.2.natAbs ≤ 1000
  cop : Nat.gcd f.1.natAbs f.2.natAbs = 1
theorem FewF.isF {f : Int × Int} (h : FewF f) : isFracD (frD f) = true := by
  show (decide (0 < f.2) && decide (Nat.gcd f.1.natAbs f.2.natAbs = 1)) = true
  rw [decide_eq_true h.pos, decide_eq_true h.cop]
  rfl
section
variable {P : Program} {w : World} {K : PySem.W.Frag} {mg : Str → Option Value} {base : Heap}
end
end Ca
set_option Elab.async false
set_option linter.all false
set_option maxRecDepth 100000
set_option maxHeartbeats 8000000
namespace Ca
open PySem L2
/-! ### the law's own fractions -/
structure FrS (n : Nat) (f : Int × Int) : Prop where
  pos : 0 < f.2
  t : f.1.natAbs < 2 ^ n
  b : f.2.natAbs < 2 ^ n
  cop : Nat.gcd f.1.natAbs f.2.natAbs = 1
theorem FrS.mono {n k : Nat} {f : Int × Int} (h : FrS n f) (l : n ≤ k) : FrS k f := ⟨h.pos, Nat.lt_of_lt_of_le h.t (Nat.pow_le_pow_right (by decide) l), Nat.lt_of_lt_of_le h.b (Nat.pow_le_pow_right (by decide) l), h.cop⟩
theorem FewF.s {f : Int × Int} (h : FewF f) : FrS 10 f := ⟨h.pos, Nat.lt_of_le_of_lt h.top (by decide), Nat.lt_of_le_of_lt h.bot (by decide), h.cop⟩
theorem red_qv {a b p q : Int} (h : Red a b p q) : qv (p, q) = (a : Rat) / (b : Rat) := by
  have c := h.cross
  have c' : (p : Rat) * (b : Rat) = (a : Rat) * (q : Rat) := by exact_mod_cast c
  have b0 : 0 < b := by
    obtain ⟨g, hg, _, e⟩ := h.ex
    rw [← e]
    exact Int.mul_pos h.pos hg
  have h1 : (0 : Rat) < (q : Rat) := by exact_mod_cast h.pos
  have h2 : (0 : Rat) < (b : Rat) := by exact_mod_cast b0
  have h3 : (q : Rat) ≠ 0 := by grind
  have h4 : (b : Rat) ≠ 0 := by grind
  show (p : Rat) / (q : Rat) = _
  grind
theorem lt_pow2 {x a b : Nat} (hx : x < 2 ^ a) (h : a ≤ b) : x < 2 ^ b := Nat.lt_of_lt_of_le hx (Nat.pow_le_pow_right (by decide) h)
theorem mul_lt2 {x y : Int} {a b : Nat} (hx : x.natAbs < 2 ^ a) (hy : y.natAbs < 2 ^ b) : (x * y).natAbs < 2 ^ (a + b) := by
  rw [Int.natAbs_mul, Nat.pow_add]
  exact Nat.mul_lt_mul'' hx hy
theorem big_mul {i j : Int} {a b : Nat} (h1 : i.natAbs < 2 ^ a) (h2 : j.natAbs < 2 ^ b) (ha : a ≤ 9000) (hb : b ≤ 9000) : CMulW i j := by
  have l : ∀ k n : Nat, k < 2 ^ n → n ≤ 9000 → k.log2 ≤ 9000 := fun k n hk hn => by
    by_cases z : k = 0
    · rw [z]; exact Nat.zero_le _
    · have := (Nat.log2_lt z).mpr hk
      omega
  have := l _ _ h1 ha
  have := l _ _ h2 hb
  show _ < 1000000
  omega
def spLPlus (K : PySem.W.Frag) : Sp := fun vs H Q _ => ∃ x y f g a b, vs = [x, y] ∧ Dq K H x (frD f) ∧ Dq K H y (frD g) ∧ FrS a f ∧ FrS b g ∧ a + b ≤ 7000 ∧ ∀ H' z h, Same H H' → Dq K H' z (frD h) → FrS (a + b + 1) h → qv h = qv f + qv g → Q z H'
def spLTimes (K : PySem.W.Frag) : Sp := fun vs H Q _ => ∃ x y f g a b, vs = [x, y] ∧ Dq K H x (frD f) ∧ Dq K H y (frD g) ∧ FrS a f ∧ FrS b g ∧ a + b ≤ 7000 ∧ ∀ H' z h, Same H H' → Dq K H' z (frD h) → FrS (a + b) h → qv h = qv f * qv g → Q z H'
def spLLess (K : PySem.W.Frag) : Sp := fun vs H Q _ => ∃ x y f g a b, vs = [x, y] ∧ Dq K H x (frD f) ∧ Dq K H y (frD g) ∧ FrS a f ∧ FrS b g ∧ a + b ≤ 7000 ∧ Q (.bl (decide (qv f < qv g))) H
theorem qv_lt {f g : Int × Int} (hf : 0 < f.2) (hg : 0 < g.2) : (f.1 * g.2 < g.1 * f.2) ↔ qv f < qv g := by
  have h1 : (0 : Rat) < (f.2 : Rat) := by exact_mod_cast hf
  have h2 : (0 : Rat) < (g.2 : Rat) := by exact_mod_cast hg
  have h3 : (f.2 : Rat) ≠ 0 := by grind
  have h4 : (g.2 : Rat) ≠ 0 := by grind
  have hp : (0 : Rat) < (f.2 : Rat) * (g.2 : Rat) := Rat.mul_pos h1 h2
  have e1 : (f.1 : Rat) * (g.2 : Rat) = (f.2 : Rat) * (g.2 : Rat) * qv f := by unfold qv; grind
  have e2 : (g.1 : Rat) * (f.2 : Rat) = (f.2 : Rat) * (g.2 : Rat) * qv g := by unfold qv; grind
  have c : (f.1 * g.2 < g.1 * f.2) ↔ ((f.1 : Rat) * (g.2 : Rat) < (g.1 : Rat) * (f.2 : Rat)) := by
    constructor
    · intro h; exact_mod_cast h
    · intro h; exact_mod_cast h
  rw [c, e1, e2]
  constructor
  · exact fun h => Rat.lt_of_mul_lt_mul_left h (Rat.le_of_lt hp)
  · exact fun h => Rat.mul_lt_mul_of_pos_left h hp
section
variable {P : Program} {w : World} {K : PySem.W.Frag} {mg : Str → Option Value} {base : Heap}
theorem scLPlus : FnScope ["_law_one_here", "_law_two_here"] ["_law_one_here", "_law_two_here"] (defScope sLawPlus) := ⟨rfl, rfl, rfl, by decide +kernel, rfl, by decide +kernel, by decide +kernel⟩
theorem ok_lPlus {f fL : Addr} {fd fdL : FuncData} (F : FnT K "_law_plus" sLawPlus f fd) (gL : mg "_law_low" = some (.ref fL)) (GL : FnOk P w K mg base CX0 1 fL fdL ["_law_top", "_law_bottom"] (spLowP K)) (kL : PySem.W.keepIn K (.ref fL) = true) (bL : Binds K fdL ["_law_top", "_law_bottom"] []) :
    FnOk P w K mg base CX0 2 f fd ["_law_one_here", "_law_two_here"] (spLPlus K) := by
  refine F.ok scLPlus (fun vs H Q E h => ?_) (fun cdv A outer s H vs Q E hr h => ?_)
  · obtain ⟨x, y, f, g, a, b, rfl, _⟩ := h
    rfl
  · obtain ⟨x, y, f, g, a, b, rfl, dx, dy, hf, hg, hab, q⟩ := h
    obtain ⟨u, rfl, hu⟩ := fr_at dx
    obtain ⟨v, rfl, hv⟩ := fr_at dy
    refine ⟨_, PSs.nox (pss_one (ps_ret (pe_call GL hr rfl gL kL bL .nil pass0 (pa_cons (pe_op op_add (pe_op op_mulW (pe_ix ix_tup (pv 0) pe_int (fun _ _ => rfl)) (pe_ix ix_tup (pv 1) pe_int (fun _ _ => rfl))) (pe_op op_mulW (pe_ix ix_tup (pv 1) pe_int (fun _ _ => rfl)) (pe_ix ix_tup (pv 0) pe_int (fun _ _ => rfl))))
      (pa_cons (pe_op op_mulW (pe_ix ix_tup (pv 0) pe_int (fun _ _ => rfl)) (pe_ix ix_tup (pv 1) pe_int (fun _ _ => rfl))) pa_nil))))), ?_⟩
    refine ⟨_, rfl, u, _, 0, _, rfl, rfl, hu, atI_nat (j := 0) rfl, _, rfl, v, _, 1, _, rfl, rfl, hv, atI_nat (j := 1) rfl, _, _, rfl, rfl, big_mul hf.t hg.b (by omega) (by omega), ?_⟩
    refine ⟨_, rfl, v, _, 0, _, rfl, rfl, hv, atI_nat (j := 0) rfl, _, rfl, u, _, 1, _, rfl, rfl, hu, atI_nat (j := 1) rfl, _, _, rfl, rfl, big_mul hg.t hf.b (by omega) (by omega), _, _, rfl, rfl, ?_⟩
    refine ⟨_, rfl, u, _, 1, _, rfl, rfl, hu, atI_nat (j := 1) rfl, _, rfl, v, _, 1, _, rfl, rfl, hv, atI_nat (j := 1) rfl, _, _, rfl, rfl, big_mul hf.b hg.b (by omega) (by omega), ?_⟩
    have m1 := mul_lt2 hf.t hg.b
    have m2 := mul_lt2 hg.t hf.b
    have m3 := mul_lt2 hf.b hg.b
    refine ⟨_, _, rfl, Int.mul_pos hf.pos hg.pos, lt_pow2 m3 (by omega), fun H' z p q' s' dz rd => ?_⟩
    obtain ⟨l1, l2⟩ := rd.le
    refine q H' z (p, q') s' dz ⟨rd.pos, ?_, Nat.lt_of_le_of_lt l2 (lt_pow2 m3 (by omega)), rd.cop⟩ ?_
    · refine Nat.lt_of_le_of_lt l1 (Nat.lt_of_le_of_lt (Int.natAbs_add_le _ _) ?_)
      rw [show b + a = a + b from Nat.add_comm b a] at m2
      rw [Nat.pow_succ]
      omega
    · rw [red_qv rd]
      have h1 : (0 : Rat) < (f.2 : Rat) := by exact_mod_cast hf.pos
      have h2 : (0 : Rat) < (g.2 : Rat) := by exact_mod_cast hg.pos
      have h3 : (f.2 : Rat) ≠ 0 := by grind
      have h4 : (g.2 : Rat) ≠ 0 := by grind
      rw [Rat.intCast_add, Rat.intCast_mul, Rat.intCast_mul, Rat.intCast_mul]
      unfold qv
      grind
theorem scLTimes : FnScope ["_law_one_here", "_law_two_here"] ["_law_one_here", "_law_two_here"] (defScope sLawTimes) := ⟨rfl, rfl, rfl, by decide +kernel, rfl, by decide +kernel, by decide +kernel⟩
theorem ok_lTimes {f fL : Addr} {fd fdL : FuncData} (F : FnT K "_law_times" sLawTimes f fd) (gL : mg "_law_low" = some (.ref fL)) (GL : FnOk P w K mg base CX0 1 fL fdL ["_law_top", "_law_bottom"] (spLowP K)) (kL : PySem.W.keepIn K (.ref fL) = true) (bL : Binds K fdL ["_law_top", "_law_bottom"] []) :
    FnOk P w K mg base CX0 2 f fd ["_law_one_here", "_law_two_here"] (spLTimes K) := by
  refine F.ok scLTimes (fun vs H Q E h => ?_) (fun cdv A outer s H vs Q E hr h => ?_)
  · obtain ⟨x, y, f, g, a, b, rfl, _⟩ := h
    rfl
  · obtain ⟨x, y, f, g, a, b, rfl, dx, dy, hf, hg, hab, q⟩ := h
    obtain ⟨u, rfl, hu⟩ := fr_at dx
    obtain ⟨v, rfl, hv⟩ := fr_at dy
    refine ⟨_, PSs.nox (pss_one (ps_ret (pe_call GL hr rfl gL kL bL .nil pass0 (pa_cons (pe_op op_mulW (pe_ix ix_tup (pv 0) pe_int (fun _ _ => rfl)) (pe_ix ix_tup (pv 1) pe_int (fun _ _ => rfl)))
      (pa_cons (pe_op op_mulW (pe_ix ix_tup (pv 0) pe_int (fun _ _ => rfl)) (pe_ix ix_tup (pv 1) pe_int (fun _ _ => rfl))) pa_nil))))), ?_⟩
    refine ⟨_, rfl, u, _, 0, _, rfl, rfl, hu, atI_nat (j := 0) rfl, _, rfl, v, _, 0, _, rfl, rfl, hv, atI_nat (j := 0) rfl, _, _, rfl, rfl, big_mul hf.t hg.t (by omega) (by omega), ?_⟩
    refine ⟨_, rfl, u, _, 1, _, rfl, rfl, hu, atI_nat (j := 1) rfl, _, rfl, v, _, 1, _, rfl, rfl, hv, atI_nat (j := 1) rfl, _, _, rfl, rfl, big_mul hf.b hg.b (by omega) (by omega), ?_⟩
    have m1 := mul_lt2 hf.t hg.t
    have m3 := mul_lt2 hf.b hg.b
    refine ⟨_, _, rfl, Int.mul_pos hf.pos hg.pos, lt_pow2 m3 (by omega), fun H' z p q' s' dz rd => ?_⟩
    obtain ⟨l1, l2⟩ := rd.le
    refine q H' z (p, q') s' dz ⟨rd.pos, Nat.lt_of_le_of_lt l1 m1, Nat.lt_of_le_of_lt l2 m3, rd.cop⟩ ?_
    rw [red_qv rd]
    have h1 : (0 : Rat) < (f.2 : Rat) := by exact_mod_cast hf.pos
    have h2 : (0 : Rat) < (g.2 : Rat) := by exact_mod_cast hg.pos
    have h3 : (f.2 : Rat) ≠ 0 := by grind
    have h4 : (g.2 : Rat) ≠ 0 := by grind
    rw [Rat.intCast_mul, Rat.intCast_mul]
    unfold qv
    grind
theorem scLLess : FnScope ["_law_one_here", "_law_two_here"] ["_law_one_here", "_law_two_here"] (defScope sLawIsLess) := ⟨rfl, rfl, rfl, by decide +kernel, rfl, by decide +kernel, by decide +kernel⟩
theorem ok_lLess {f : Addr} {fd : FuncData} (F : FnT K "_law_is_less" sLawIsLess f fd) : FnOk P w K mg base CX0 1 f fd ["_law_one_here", "_law_two_here"] (spLLess K) := by
  refine F.ok scLLess (fun vs H Q E h => ?_) (fun cdv A outer s H vs Q E hr h => ?_)
  · obtain ⟨x, y, f, g, a, b, rfl, _⟩ := h
    rfl
  · obtain ⟨x, y, f, g, a, b, rfl, dx, dy, hf, hg, hab, q⟩ := h
    obtain ⟨u, rfl, hu⟩ := fr_at dx
    obtain ⟨v, rfl, hv⟩ := fr_at dy
    refine ⟨_, PSs.nox (pss_one (ps_ret (pe_cmpR op_lt (pe_op op_mulW (pe_ix ix_tup (pv 0) pe_int (fun _ _ => rfl)) (pe_ix ix_tup (pv 1) pe_int (fun _ _ => rfl))) (pe_op op_mulW (pe_ix ix_tup (pv 1) pe_int (fun _ _ => rfl)) (pe_ix ix_tup (pv 0) pe_int (fun _ _ => rfl))) (nomark _)))), ?_⟩
    refine ⟨_, rfl, u, _, 0, _, rfl, rfl, hu, atI_nat (j := 0) rfl, _, rfl, v, _, 1, _, rfl, rfl, hv, atI_nat (j := 1) rfl, _, _, rfl, rfl, big_mul hf.t hg.b (by omega) (by omega), ?_⟩
    refine ⟨_, rfl, v, _, 0, _, rfl, rfl, hv, atI_nat (j := 0) rfl, _, rfl, u, _, 1, _, rfl, rfl, hu, atI_nat (j := 1) rfl, _, _, rfl, rfl, big_mul hg.t hf.b (by omega) (by omega), _, _, rfl, rfl, ?_⟩
    have := qv_lt hf.pos hg.pos
    have e : decide (f.1 * g.2 < g.1 * f.2) = decide (qv f < qv g) := by
      by_cases z : qv f < qv g
      · rw [decide_eq_true z, decide_eq_true (this.mpr z)]
      · rw [decide_eq_false z, decide_eq_false (fun y => z (this.mp y))]
    show Q (.bl (decide (f.1 * g.2 < g.1 * f.2))) H
    rw [e]
    exact q
end
end Ca
set_option Elab.async false
set_option linter.all false
set_option maxRecDepth 100000
set_option maxHeartbeats 8000000
namespace Ca
open PySem L2
theorem isiK {X : Cx} (K : PySem.W.Frag) (h : X.K = K := by rfl) : CallR X (.builtin "isinstance") (rIsi K) := h ▸ call_isi
/-! ### whether a value is a fraction, by the law -/
def spLIsF (K : PySem.W.Frag) : Sp := fun vs H Q _ => ∃ v f n, vs = [v] ∧ Dq K H v (frD f) ∧ FrS n f ∧ n ≤ 5000 ∧ ∀ H', Same H H' → Q (.bl true) H'
def spLAreF (K : PySem.W.Frag) : Sp := fun vs H Q _ => ∃ v fs n, vs = [v, .int (fs.length : Nat)] ∧ Dq K H v (frsD fs) ∧ fs.length ≤ 8 ∧ (∀ f ∈ fs, FrS n f) ∧ n ≤ 5000 ∧ ∀ H', Same H H' → Q (.bl true) H'
theorem fr_dp {K : PySem.W.Frag} {H : Hp} {a : Addr} {p q : Int} (h : SqT K H a [.int p, .int q]) : Dp K H (.ref a) (frD (p, q)) := .tup h (.cons (.int _) (.cons (.int _) .nil))
theorem red_self {a b p q : Int} (h : Red a b p q) (c : Nat.gcd a.natAbs b.natAbs = 1) : p = a ∧ q = b := by
  obtain ⟨g, hg, e1, e2⟩ := h.ex
  have d1 : g.natAbs ∣ a.natAbs := Int.natAbs_dvd_natAbs.mpr ⟨p, by rw [← e1, Int.mul_comm]⟩
  have d2 : g.natAbs ∣ b.natAbs := Int.natAbs_dvd_natAbs.mpr ⟨q, by rw [← e2, Int.mul_comm]⟩
  have d3 := Nat.dvd_gcd d1 d2
  rw [c] at d3
  have := Nat.dvd_one.mp d3
  have g1 : g = 1 := by omega
  subst g1
  exact ⟨by rw [← e1, Int.mul_one], by rw [← e2, Int.mul_one]⟩
theorem shaped_fr (f : Int × Int) : SeqAt.shaped (frD f) = true := rfl
section
variable {P : Program} {w : World} {K : PySem.W.Frag} {mg : Str → Option Value} {base : Heap}
abbrev NLf : List Str := ["_law_told", "_law_part"]
theorem scLIsF : FnScope NLf ["_law_told"] (defScope sLawIsFraction) := ⟨rfl, rfl, rfl, by decide +kernel, rfl, by decide +kernel, by decide +kernel⟩
theorem ok_lIsF {f fL : Addr} {fd fdL : FuncData} (F : FnT K "_law_is_fraction" sLawIsFraction f fd) (B : Bn mg) (gL : mg "_law_low" = some (.ref fL)) (GL : FnOk P w K mg base CX0 1 fL fdL ["_law_top", "_law_bottom"] (spLowP K)) (kL : PySem.W.keepIn K (.ref fL) = true) (bL : Binds K fdL ["_law_top", "_law_bottom"] []) :
    FnOk P w K mg base CX0 2 f fd ["_law_told"] (spLIsF K) := by
  refine F.ok scLIsF (fun vs H Q E h => ?_) (fun cdv A outer s H vs Q E hr h => ?_)
  · obtain ⟨v, f, n, rfl, _⟩ := h
    rfl
  · obtain ⟨v, f, n, rfl, dv, hf, hn, q⟩ := h
    have nd := scLIsF.nd
    refine ⟨_, PSs.nox (pss_cons (ps_if (PW.pt (pw_or (pt_not (pt_val (pe_callB call_isi (by rfl) B.isi PyProof.Rows.boot_isinstance (pa_cons (pv 0) (pa_cons (pe_bltn (v := .ty "tuple") (by rfl) B.tup (by decide +kernel) rfl) pa_nil)))))
        (pw_or (pt_cmpR op_ne (pe_callB (call_lenK K) (by rfl) B.len boot_len (pa_cons (pv 0) pa_nil)) pe_int (nomark _))
        (pw_or1 (pt_cmpR (op_neD hr.units) (pe_lc (own := [("_law_part", 1)]) (g := gName 1) rfl nd (pi_tup (pv 0))
          (blkOk_by (own := [("_law_part", 1)]) (N := NLf) (sc := defScope sLawIsFraction) (by decide +kernel)) (fun _ _ _ _ _ => pg_name (i := 1) nd rfl (Or.inl rfl))
          (fun _ _ _ _ _ => pts_one (pt_val (pe_callB (isiK K) (by rfl) B.isi PyProof.Rows.boot_isinstance (pa_cons (pv 1) (pa_cons (pe_bltn (v := .ty "bool") (by rfl) B.bool (by decide +kernel) rfl) pa_nil)))))
          (fun _ _ _ _ _ => pv 1)) (pe_lst pa_nil) (nomark _)))))) (pss_one (ps_ret pe_bl)) pss_nil)
      (pss_cons (ps_if (PW.pt (pw_or (pt_not (pt_val (pe_callB call_isi (by rfl) B.isi PyProof.Rows.boot_isinstance (pa_cons (pe_ix ix_tup (pv 0) pe_int (fun _ _ => rfl)) (pa_cons (pe_bltn (v := .ty "int") (by rfl) B.int (by decide +kernel) rfl) pa_nil)))))
        (pw_or (pt_not (pt_val (pe_callB call_isi (by rfl) B.isi PyProof.Rows.boot_isinstance (pa_cons (pe_ix ix_tup (pv 0) pe_int (fun _ _ => rfl)) (pa_cons (pe_bltn (v := .ty "int") (by rfl) B.int (by decide +kernel) rfl) pa_nil)))))
        (pw_or1 (pt_cmpR op_lt (pe_ix ix_tup (pv 0) pe_int (fun _ _ => rfl)) pe_int (nomark _)))))) (pss_one (ps_ret pe_bl)) pss_nil)
      (pss_one (ps_ret (pe_cmpR (op_eqD hr.units) (pv 0) (pe_call GL hr rfl gL kL bL .nil pass0 (pa_cons (pe_ix ix_tup (pv 0) pe_int (fun _ _ => rfl)) (pa_cons (pe_ix ix_tup (pv 0) pe_int (fun _ _ => rfl)) pa_nil))) (nomark _)))))), ?_⟩
    obtain ⟨a, rfl, ha⟩ := fr_at dv
    refine rd_isd dv rfl (kit_tup _) ⟨_, rfl, iteF ?_⟩
    refine ⟨_, rfl, _, 2, rfl, .inr ⟨_, ha, rfl⟩, rfl, _, rfl, iteF ?_⟩
    refine ⟨_, rfl, a, rfl, ⟨_, ha⟩, fun D hD => ?_⟩
    refine lc_it (walk_tup (K := K) (a := a) (xs := [.int f.1, .int f.2])) (fun k H' => Same H H' ∧ H' D = some (.lst [])) ⟨Same.new hD, upd_same⟩ (fun k H' hk p => same_sqt p.1 ha) ?_ ?_
    · rintro k z H2 _ hk ⟨s2, bD⟩ ⟨rfl, hz⟩
      obtain ⟨i, rfl⟩ : ∃ i : Int, z = .int i := by
        match k, hz with
        | 0, hz => cases hz; exact ⟨_, rfl⟩
        | 1, hz => cases hz; exact ⟨_, rfl⟩
        | n + 2, hz => cases hz
      exact ⟨rfl, rd_isd (Dq.int (K := K) i) rfl (kit_bool _) ⟨_, rfl, iteF ⟨s2, bD⟩⟩⟩
    · rintro H2 ⟨s2, bD⟩
      refine ⟨Nat.zero_le _, fun q1 h1 => ?_⟩
      have s3 := Same.new (o := .lst []) h1
      have s23 := s2.trans s3
      refine rd_sameD (d := .list []) (.lst (SqL.of (s3 _ _ bD)) .nil) (.lst (SqL.of upd_same) .nil) (by decide +kernel) ⟨_, rfl, iteF ?_⟩
      have h3 := same_sqt s23 ha
      refine ⟨_, rfl, a, _, 0, _, rfl, rfl, h3, atI_nat (j := 0) rfl, .int f.1, .ty "int", _, _, true, rfl, .ty "int", Dq.tyx (K := K) (.int f.1), kit_ty (kit_int (.int f.1)), _, rfl, iteF ?_⟩
      refine ⟨_, rfl, a, _, 1, _, rfl, rfl, h3, atI_nat (j := 1) rfl, .int f.2, .ty "int", _, _, true, rfl, .ty "int", Dq.tyx (K := K) (.int f.2), kit_ty (kit_int (.int f.2)), _, rfl, iteF ?_⟩
      refine ⟨_, rfl, a, _, 1, _, rfl, rfl, h3, atI_nat (j := 1) rfl, _, _, rfl, rfl, _, rfl, ?_⟩
      rw [decide_eq_false (show ¬ f.2 < 1 by have := hf.pos; omega)]
      refine iteF ⟨_, rfl, _, rfl, a, _, 0, _, rfl, rfl, h3, atI_nat (j := 0) rfl, _, rfl, a, _, 1, _, rfl, rfl, h3, atI_nat (j := 1) rfl, f.1, f.2, rfl, hf.pos, lt_pow2 hf.b (by omega), fun H4 y p q' s4 dy rd => ?_⟩
      obtain ⟨e1, e2⟩ := red_self rd hf.cop
      subst e1 e2
      obtain ⟨b, rfl, hb⟩ := fr_at dy
      refine ⟨_, _, fr_dp (same_sqt s4 h3), fr_dp hb, shaped_fr _, shaped_fr _, ?_⟩
      rw [SeqAt.eqv_refl _ (Bool.and_eq_true_iff.mp (show (PyData.canLay0 (frD (f.1, f.2)) && decide (PyData.depth (frD (f.1, f.2)) ≤ 64)) = true from shaped_fr _)).1]
      exact q _ (s23.trans s4)
end
end Ca
set_option Elab.async false
set_option linter.all false
set_option maxRecDepth 100000
set_option maxHeartbeats 8000000
namespace Ca
open PySem L2
theorem rd_neN {a b : Nat} {H : Hp} {Q : VK} (e : a = b) (s : scal (.int (a : Int)) (.int (b : Int)) = true) (q : Q (.bl false) H) : rNe (.int (a : Int)) (.int (b : Int)) H Q := by
  subst e
  exact ⟨s, by rw [decide_eq_true rfl]; exact q⟩
section
variable {P : Program} {w : World} {K : PySem.W.Frag} {mg : Str → Option Value} {base : Heap}
abbrev NLaf : List Str := ["_law_told", "_law_many", "_law_part"]
theorem scLAreF : FnScope NLaf ["_law_told", "_law_many"] (defScope sLawAreFractions) := ⟨rfl, rfl, rfl, by decide +kernel, rfl, by decide +kernel, by decide +kernel⟩
theorem ok_lAreF {f fF : Addr} {fd fdF : FuncData} (F : FnT K "_law_are_fractions" sLawAreFractions f fd) (B : Bn mg) (gF : mg "_law_is_fraction" = some (.ref fF)) (GF : FnOk P w K mg base CX0 2 fF fdF ["_law_told"] (spLIsF K)) (kF : PySem.W.keepIn K (.ref fF) = true) (bF : Binds K fdF ["_law_told"] []) :
    FnOk P w K mg base CX0 3 f fd ["_law_told", "_law_many"] (spLAreF K) := by
  refine F.ok scLAreF (fun vs H Q E h => ?_) (fun cdv A outer s H vs Q E hr h => ?_)
  · obtain ⟨v, fs, n, rfl, _⟩ := h
    rfl
  · obtain ⟨v, fs, n, rfl, dv, l3, hf, hn, q⟩ := h
    have nd := scLAreF.nd
    refine ⟨_, PSs.nox (pss_cons (ps_if (PW.pt (pw_or (pt_not (pt_val (pe_callB call_isi (by rfl) B.isi PyProof.Rows.boot_isinstance (pa_cons (pv 0) (pa_cons (pe_bltn (v := .ty "tuple") (by rfl) B.tup (by decide +kernel) rfl) pa_nil)))))
        (pw_or1 (pt_cmpR op_ne (pe_callB (call_lenK K) (by rfl) B.len boot_len (pa_cons (pv 0) pa_nil)) (pv 1) (nomark _))))) (pss_one (ps_ret pe_bl)) pss_nil)
      (pss_one (ps_ret (pe_cmpR (op_eqD hr.units) (pe_lc (own := [("_law_part", 2)]) (g := gName 2) rfl nd (pi_tup (pv 0))
          (blkOk_by (own := [("_law_part", 2)]) (N := NLaf) (sc := defScope sLawAreFractions) (by decide +kernel)) (fun _ _ _ _ _ => pg_name (i := 2) nd rfl (Or.inl rfl))
          (fun _ _ _ _ _ => pts_one (pt_not (pt_val (pe_call GF hr rfl gF kF bF .nil pass0 (pa_cons (pv 2) pa_nil)))))
          (fun _ _ _ _ _ => pv 2)) (pe_lst pa_nil) (nomark _))))), ?_⟩
    obtain ⟨a, xs, rfl, ha, da, hl⟩ := tup_len dv
    rw [List.length_map] at hl
    refine rd_isd dv rfl (kit_tup _) ⟨_, rfl, iteF ?_⟩
    refine ⟨_, rfl, _, xs.length, rfl, .inr ⟨_, ha, rfl⟩, _, rfl, rd_neN hl rfl ⟨_, rfl, iteF ?_⟩⟩
    refine ⟨_, rfl, a, rfl, ⟨_, ha⟩, fun D hD => ?_⟩
    refine lc_it (walk_tup (K := K) (a := a) (xs := xs)) (fun k H' => Same H H' ∧ H' D = some (.lst [])) ⟨Same.new hD, upd_same⟩ (fun k H' hk p => same_sqt p.1 ha) ?_ ?_
    · rintro k z H2 _ hk ⟨s2, bD⟩ ⟨rfl, hz⟩
      rw [hl] at hk
      refine ⟨rfl, _, rfl, z, fs[k], n, rfl, frs_get (da.same s2) hk hz, hf _ (List.getElem_mem hk), hn, fun H3 s3 => ⟨_, rfl, iteF ⟨s2.trans s3, s3 _ _ bD⟩⟩⟩
    · rintro H2 ⟨s2, bD⟩
      refine ⟨Nat.zero_le _, fun q1 h1 => ?_⟩
      have s3 := Same.new (o := .lst []) h1
      exact ⟨.list [], .list [], .lst (SqL.of (s3 _ _ bD)) .nil, .lst (SqL.of upd_same) .nil, by decide +kernel, by decide +kernel, q _ (s2.trans s3)⟩
end
end Ca
set_option Elab.async false
set_option linter.all false
set_option maxRecDepth 100000
set_option maxHeartbeats 8000000
namespace Ca
open PySem L2
/-! ### how great what fits is -/
/-! ### within a stretch -/
section
variable {P : Program} {w : World} {K : PySem.W.Frag} {mg : Str → Option Value} {base : Heap}
end
end Ca
set_option Elab.async false
set_option linter.all false
set_option maxRecDepth 100000
set_option maxHeartbeats 8000000
namespace Ca
open PySem L2
/-! ### whether a value is a member, by the law -/
section
variable {P : Program} {w : World} {K : PySem.W.Frag} {mg : Str → Option Value} {base : Heap}
end
end Ca
set_option Elab.async false
set_option linter.all false
set_option maxRecDepth 100000
set_option maxHeartbeats 8000000
namespace Ca
open PySem L2
/-! ### the law's own sums of fractions times fractions -/
def dotF (ns fs : List (Int × Int)) : Rat := qsum (fun j => qv (ns.getD j (0, 1)) * qv (fs.getD j (0, 1))) ns.length
abbrev NLs : List Str := ["_law_numbers_here", "_law_told", "_law_total", "_law_a", "_law_b"]
theorem scLSum : FnScope NLs ["_law_numbers_here", "_law_told"] (defScope sLawSum) := ⟨rfl, rfl, rfl, by decide +kernel, rfl, by decide +kernel, by decide +kernel⟩
section
variable {P : Program} {w : World} {K : PySem.W.Frag} {mg : Str → Option Value} {base : Heap}
end
def spSumL (K : PySem.W.Frag) : Sp := fun vs H Q _ => ∃ a y xs ns fs A B, vs = [.ref a, y] ∧ SqL K H a xs ∧ DqAll K H xs (ns.map frD) ∧ Dq K H y (frsD fs) ∧ ns.length = fs.length ∧ fs.length ≤ 3 ∧ (∀ n ∈ ns, FrS A n) ∧ (∀ f ∈ fs, FrS B f) ∧ A + B ≤ 1500 ∧
  ∀ H' z t, Same H H' → Dq K H' z (frD t) → FrS (3 * (A + B + 1) + 1) t → qv t = dotF ns fs → Q z H'
section
variable {P : Program} {w : World} {K : PySem.W.Frag} {mg : Str → Option Value} {base : Heap}
theorem ok_sumL {f fP fT : Addr} {fd fdP fdT : FuncData} (F : FnT K "_law_sum" sLawSum f fd) (mzip : mg "zip" = none)
    (gP : mg "_law_plus" = some (.ref fP)) (GP : FnOk P w K mg base CX0 2 fP fdP ["_law_one_here", "_law_two_here"] (spLPlus K)) (kP : PySem.W.keepIn K (.ref fP) = true) (bP : Binds K fdP ["_law_one_here", "_law_two_here"] [])
    (gT : mg "_law_times" = some (.ref fT)) (GT : FnOk P w K mg base CX0 2 fT fdT ["_law_one_here", "_law_two_here"] (spLTimes K)) (kT : PySem.W.keepIn K (.ref fT) = true) (bT : Binds K fdT ["_law_one_here", "_law_two_here"] []) :
    FnOk P w K mg base CX0 3 f fd ["_law_numbers_here", "_law_told"] (spSumL K) := by
  refine F.ok scLSum (fun vs H Q E h => ?_) (fun cdv A outer s H vs Q E hr h => ?_)
  · obtain ⟨a, y, xs, ns, fs, A, B, rfl, _⟩ := h
    rfl
  · obtain ⟨a, y, xs, ns, fs, A, B, rfl, ha, dx, dy, hl, h3, hn, hf, hab, q⟩ := h
    have nd := scLSum.nd
    refine ⟨_, PSs.nox (pss_cons (ps_set (i := 2) nd rfl (.inl rfl) (pe_tup (pa_cons pe_int (pa_cons pe_int pa_nil))))
      (pss_cons (ps_for PassesOwn.never rfl (CaZ.pi_zipM (by rfl) mzip (pa_cons (pv 0) (pa_cons (pv 1) pa_nil))) (pgTt K rfl (pgs_cons (pg_name (i := 3) nd rfl (.inl rfl)) (pgs_cons (pg_name (i := 4) nd rfl (.inl rfl)) pgs_nil)))
        (pss_one (ps_set (i := 2) nd rfl (.inl rfl) (pe_call GP hr rfl gP kP bP .nil pass0 (pa_cons (pv 2) (pa_cons (pe_call GT hr rfl gT kT bT .nil pass0 (pa_cons (pv 3) (pa_cons (pv 4) pa_nil))) pa_nil))))))
      (pss_one (ps_ret (pv 2))))), ?_⟩
    obtain ⟨b, ys, rfl, hb1, hb2, hbl⟩ := tup_len dy
    rw [List.length_map] at hbl
    have lx : xs.length = fs.length := by
      have := dx.len
      rw [List.length_map] at this
      omega
    refine ⟨by show 2 ≤ sizeLine; decide, fun p hp => ?_⟩
    have s0 := Same.new (o := .tup [.int 0, .int 1]) hp
    refine ⟨_, rfl, _, rfl, a, b, _, _, rfl, s0.seq ha, same_sqt s0 hb1, ?_⟩
    refine for_it (CaZ.walk_zm (K := K) (a := a) (b := b) (xs := xs) (ys := ys) (n := fs.length) lx hbl)
      (fun k σ' H' => k ≤ fs.length ∧ Same H H' ∧ ∃ v t o3 o4, σ' = [some (.ref a), some (.ref b), some v, o3, o4] ∧ Dq K H' v (frD t) ∧ FrS (k * (A + B + 1) + 1) t ∧ qv t = qsum (fun j => qv (ns.getD j (0, 1)) * qv (fs.getD j (0, 1))) k)
      ⟨Nat.zero_le _, s0, .ref p, (0, 1), none, none, rfl, fr_of upd_same, ⟨by decide, by show 0 < 2 ^ _; exact Nat.pow_pos (by decide), by rw [Nat.zero_mul]; decide, by decide⟩, by unfold qv; show ((0 : Int) : Rat) / ((1 : Int) : Rat) = 0; grind⟩ (fun k σ' H' hk p => ⟨p.2.1.seq ha, same_sqt p.2.1 hb1⟩) ?_ (fun σ' H' p => ?_)
    · rintro k x _ H1 _ hk ⟨_, s1, v, t, o3, o4, rfl, dv, ft, et⟩ ⟨T, x1, y1, rfl, hT, rfl, hx, hy⟩
      have hkn : k < ns.length := by omega
      have s2 := Same.new (o := .tup [x1, y1]) hT
      have s12 := s1.trans s2
      have d1 := frs_get (dx.same s12) hkn hx
      have d2 := frs_get (hb2.same s12) hk hy
      have e1 : ns.getD k (0, 1) = ns[k] := by rw [List.getD_eq_getElem?_getD, List.getElem?_eq_getElem hkn]; rfl
      have e2 : fs.getD k (0, 1) = fs[k] := by rw [List.getD_eq_getElem?_getD, List.getElem?_eq_getElem hk]; rfl
      refine ⟨T, _, rfl, SqT.of upd_same, rfl, _, _, rfl, _, _, rfl, rfl, ?_⟩
      refine ⟨_, rfl, _, rfl, _, rfl, x1, y1, ns[k], fs[k], A, B, rfl, d1, d2, hn _ (List.getElem_mem hkn), hf _ (List.getElem_mem hk), by omega, fun H4 z g s4 dz fg eg => ?_⟩
      have kb : k * (A + B + 1) ≤ 2 * 1501 := Nat.mul_le_mul (by omega) (by omega)
      refine ⟨v, z, t, g, k * (A + B + 1) + 1, A + B, rfl, (dv.same s2).same s4, dz, ft, fg, by omega, fun H5 u r s5 du fr er => ⟨hk, s12.trans (s4.trans s5), u, r, _, _, rfl, du, ?_, ?_⟩⟩
      · refine fr.mono ?_
        rw [Nat.succ_mul]
        omega
      · simp only [qsum]
        rw [er, et, eg, e1, e2]
    · obtain ⟨_, s1, v, t, o3, o4, rfl, dv, ft, et⟩ := p
      refine ⟨_, rfl, q H' v t s1 dv (ft.mono ?_) ?_⟩
      · have : fs.length * (A + B + 1) ≤ 3 * (A + B + 1) := Nat.mul_le_mul_right _ h3
        omega
      · rw [et]
        unfold dotF
        rw [hl]
end
end Ca
set_option Elab.async false
set_option linter.all false
set_option maxRecDepth 100000
set_option maxHeartbeats 8000000
namespace Ca
open PySem L2
/-! ### whether an answer is possible, by the law -/
def chosenF (ps fs : List (Int × Int)) : List (Int × Int) := List.zipWith (fun p f => (if f.1 > 0 then p.1 else p.2, (1 : Int))) ps fs
theorem chosen_len {ps fs : List (Int × Int)} (h : ps.length = fs.length) : (chosenF ps fs).length = fs.length := by
  unfold chosenF
  rw [List.length_zipWith, h, Nat.min_self]
theorem chosen_get {ps fs : List (Int × Int)} {i : Nat} (h1 : i < ps.length) (h2 : i < fs.length) : (chosenF ps fs)[i]? = some (if fs[i].1 > 0 then ps[i].1 else ps[i].2, 1) := by
  unfold chosenF
  rw [List.getElem?_zipWith, List.getElem?_eq_getElem h1, List.getElem?_eq_getElem h2]
theorem chosen_frs {ps fs : List (Int × Int)} (h : ∀ p ∈ ps, isStretchD (strD p) = true) : ∀ n ∈ chosenF ps fs, FrS 14 n := by
  intro n hn
  obtain ⟨i, hi⟩ := List.mem_iff_getElem?.mp hn
  unfold chosenF at hi
  rw [List.getElem?_zipWith] at hi
  cases hp : ps[i]? with
  | none => rw [hp] at hi; cases hi
  | some p =>
    cases hf : fs[i]? with
    | none => rw [hp, hf] at hi; cases hi
    | some f =>
      rw [hp, hf] at hi
      cases hi
      obtain ⟨g1, g2, g3⟩ := str_ok (h p (List.mem_of_getElem? hp))
      refine ⟨by show (0 : Int) < 1; decide, ?_, by show (1 : Int).natAbs < 2 ^ 14; decide, by show Nat.gcd _ 1 = 1; exact Nat.gcd_one_right _⟩
      show (if f.1 > 0 then p.1 else p.2).natAbs < 16384
      split <;> omega
/-- the least that a row's sum can be -/
def minQ (r : Rw) (fs : List (Int × Int)) : Rat := dotF (chosenF r.parts fs) fs
def possL (fs : List (Int × Int)) (r : Rw) : Bool := !decide (qv (r.bd.2, 1) < minQ r fs)
def spLKeeps (K : PySem.W.Frag) : Sp := fun vs H Q _ => ∃ c u r v ns rs fs, vs = [.ref c, v, .bl false] ∧ H c = some (.lst [.ref u, .ref r]) ∧ Dq K H (.ref u) (folkD ns) ∧ Dq K H (.ref r) (rowsD rs) ∧ Dq K H v (frsD fs) ∧ Lines rs ns.length ∧ fs.length = ns.length ∧ ns.length ≤ 3 ∧ (∀ f ∈ fs, FrS 300 f) ∧ ∀ H', Same H H' → Q (.bl (rs.all (possL fs))) H'
abbrev NLk : List Str := ["_law_card_here", "_law_told", "_law_sure", "_law_word", "_law_numbers_here", "_law_bound_here", "_law_chosen", "_law_pair", "_law_part"]
section
variable {P : Program} {w : World} {K : PySem.W.Frag} {mg : Str → Option Value} {base : Heap}
theorem scLKeeps : FnScope NLk ["_law_card_here", "_law_told", "_law_sure"] (defScope sLawKeeps) := ⟨rfl, rfl, rfl, by decide +kernel, rfl, by decide +kernel, by decide +kernel⟩
theorem ok_lKeeps {f fA fL fS : Addr} {fd fdA fdL fdS : FuncData} (F : FnT K "_law_keeps" sLawKeeps f fd) (B : Bn mg) (mzip : mg "zip" = none)
    (gA : mg "_law_are_fractions" = some (.ref fA)) (GA : FnOk P w K mg base CX0 3 fA fdA ["_law_told", "_law_many"] (spLAreF K)) (kA : PySem.W.keepIn K (.ref fA) = true) (bA : Binds K fdA ["_law_told", "_law_many"] [])
    (gL : mg "_law_is_less" = some (.ref fL)) (GL : FnOk P w K mg base CX0 1 fL fdL ["_law_one_here", "_law_two_here"] (spLLess K)) (kL : PySem.W.keepIn K (.ref fL) = true) (bL : Binds K fdL ["_law_one_here", "_law_two_here"] [])
    (gS : mg "_law_sum" = some (.ref fS)) (GS : FnOk P w K mg base CX0 3 fS fdS ["_law_numbers_here", "_law_told"] (spSumL K)) (kS : PySem.W.keepIn K (.ref fS) = true) (bS : Binds K fdS ["_law_numbers_here", "_law_told"] []) :
    FnOk P w K mg base CX0 4 f fd ["_law_card_here", "_law_told", "_law_sure"] (spLKeeps K) := by
  refine F.ok scLKeeps (fun vs H Q E h => ?_) (fun cdv A outer s H vs Q E hr h => ?_)
  · obtain ⟨c, u, r, v, ns, rs, fs, rfl, _⟩ := h
    rfl
  · obtain ⟨c, u, r, v, ns, rs, fs, rfl, hc, du, dr, dv, hL, hl, m3, hf, q⟩ := h
    have nd := scLKeeps.nd
    have hr1 : Room 1 _ := hr.mono (by decide)
    refine ⟨_, PSs.nox (pss_cons (ps_if (pt_not (pt_val (pe_call GA hr rfl gA kA bA .nil pass0 (pa_cons (pv 1) (pa_cons (pe_callB (call_lenK K) (by rfl) B.len boot_len (pa_cons (pe_ix ix_list (pv 0) pe_int (fun _ _ => rfl)) pa_nil)) pa_nil))))) (pss_one (ps_ret pe_bl)) pss_nil)
      (pss_cons (ps_for PassesOwn.never rfl (pi_tup (pe_ix ix_list (pv 0) pe_int (fun _ _ => rfl)))
          (pgTt K rfl (pgs_cons (pg_name (i := 3) nd rfl (.inl rfl)) (pgs_cons (pg_name (i := 4) nd rfl (.inl rfl)) (pgs_cons (pg_name (i := 5) nd rfl (.inl rfl)) pgs_nil))))
        (pss_cons (ps_setLc (i := 6) (own := [("_law_pair", 7), ("_law_part", 8)]) (g := gTup K 2 (gCons (gName 7) (gCons (gName 8) gNil))) (tt := tYes) rfl nd rfl rfl (sw_true rfl rfl rfl (by decide +kernel)) (RZ.pi_zipA (by rfl) mzip (pa_cons (pv 4) (pa_cons (pv 1) pa_nil)))
            (blkOk_by (own := [("_law_pair", 7), ("_law_part", 8)]) (N := NLk) (sc := defScope sLawKeeps) (by decide +kernel))
            (fun _ _ _ _ _ => pgT K rfl (pgs_cons (pg_name (i := 7) nd rfl (Or.inl rfl)) (pgs_cons (pg_name (i := 8) nd rfl (Or.inl rfl)) pgs_nil))) (fun _ _ _ _ _ => pts_nil)
            (fun _ _ _ _ _ => pe_tup (pa_cons (pe_ix (ixT K) (pv 7) (pe_ifExp (pt_cmpR op_eq (pe_cmpR op_gt (pe_ix (ixT K) (pv 8) pe_int (fun _ _ => rfl)) pe_int (nomark _)) (pv 2) (nomark _)) pe_int pe_int) (fun _ _ => rfl)) (pa_cons pe_int pa_nil))))
        (pss_one (ps_if (pt_val (pe_call GL hr1 rfl gL kL bL .nil pass0 (pa_cons (pe_tup (pa_cons (pe_ix ix_tup (pv 5) (pe_ifExp (pt_val (pv 2)) pe_int pe_int) (fun _ _ => rfl)) (pa_cons pe_int pa_nil)))
            (pa_cons (pe_call GS hr rfl gS kS bS .nil pass0 (pa_cons (pv 6) (pa_cons (pv 1) pa_nil))) pa_nil)))) (pss_one (ps_ret pe_bl)) pss_nil))))
      (pss_one (ps_ret pe_bl)))), ?_⟩
    obtain ⟨u', us, e0, hu, _, hul⟩ := tup_len du
    cases e0
    obtain ⟨r', xs, e0, hx, dx, hxl⟩ := tup_len dr
    cases e0
    obtain ⟨b, ys, rfl, hb, db, hbl⟩ := tup_len dv
    rw [List.length_map] at hxl hbl hul
    have sqc : SqL K H c [.ref u, .ref r] := SqL.of hc
    refine ⟨_, rfl, _, rfl, c, _, 0, _, rfl, rfl, sqc, atI_nat (j := 0) rfl, _, us.length, rfl, .inr ⟨_, hu, rfl⟩, .ref b, fs, 300, (by rw [hul, hl]; rfl), dv, by omega, hf, by decide, fun H1 s1 => ⟨_, rfl, iteF ?_⟩⟩
    have hx1 := same_sqt s1 hx
    refine ⟨_, rfl, c, _, 1, _, rfl, rfl, SqL.of (s1 _ _ hc), atI_nat (j := 1) rfl, r, rfl, ⟨_, hx1⟩, ?_⟩
    refine for_it (walk_tup (K := K) (a := r) (xs := xs)) (fun k σ' H' => k ≤ rs.length ∧ Same H1 H' ∧ (∀ j r', j < k → rs[j]? = some r' → possL fs r' = true) ∧ ∃ o3 o4 o5 o6, σ' = [some (.ref c), some (.ref b), some (.bl false), o3, o4, o5, o6, none, none])
      ⟨Nat.zero_le _, fun _ _ e => e, fun j r' h => absurd h (Nat.not_lt_zero _), none, none, none, none, rfl⟩ (fun k σ' H' hk p => same_sqt p.2.1 hx1) ?_ (fun σ' H' p => ?_)
    · rintro k z _ H2 H2x hk ⟨_, s2, ok, o3, o4, o5, o6, rfl⟩ ⟨e2, hz⟩
      subst e2
      have hk' : k < rs.length := by omega
      have s12 := s1.trans s2
      have dR := rows_get (dx.same s12) hk' hz
      have hR := hL.ok _ (List.getElem_mem hk')
      obtain ⟨ra, v2, v3, rfl, hra, dv2, dv3, _⟩ := row_at dR
      obtain ⟨na, nvs, rfl, hna, dna, nl⟩ := tup_len dv2
      obtain ⟨ba, rfl, hba⟩ := fr_at (f := rs[k].bd) dv3
      rw [List.length_map] at nl
      have RP : ∀ p ∈ rs[k].parts ++ [rs[k].bd], isStretchD (strD p) = true := fun p hp => two_ok (row_pairs hR p hp).1 (row_pairs hR p hp).2.1 (row_pairs hR p hp).2.2
      have lp : rs[k].parts.length = fs.length := by rw [(row_name hR).2, hl]
      have hb2 := same_sqt s12 hb
      have l3 : fs.length ≤ 3 := by omega
      refine ⟨ra, _, rfl, hra, rfl, _, _, rfl, _, _, rfl, _, _, rfl, rfl, ?_⟩
      refine ⟨_, rfl, _, rfl, na, b, _, _, rfl, .inr ⟨hna, hb2, fun D hD => ?_⟩⟩
      refine lc_it (CaZ.walk_zt (K := K) (a := na) (b := b) (xs := nvs) (ys := ys) (n := fs.length) (by omega) hbl) (fun i H' => Same H2x H' ∧ ∃ vs, H' D = some (.lst vs) ∧ DqAll K H' vs (((chosenF rs[k].parts fs).take i).map frD)) ⟨Same.new hD, [], upd_same, .nil⟩ (fun i H' hi p => ⟨same_sqt p.1 hna, same_sqt p.1 hb2⟩) ?_ ?_
      · rintro i z H5 _ hi ⟨s5, vs, bD, dvs⟩ ⟨T, x1, y1, rfl, hT, rfl, hx1', hy1'⟩
        have s6 : Same H5 (upd H5 T (.tup [x1, y1])) := Same.new hT
        have s56 := s5.trans s6
        have hip : i < rs[k].parts.length := by omega
        obtain ⟨d, hd, dq⟩ := (dna.same s56).get hx1'
        rw [List.getElem?_map, List.getElem?_eq_getElem hip] at hd
        cases hd
        obtain ⟨pa, rfl, hpa⟩ := fr_at (f := rs[k].parts[i]) dq
        obtain ⟨g, rfl, hg⟩ := fr_at (frs_get ((db.same s12).same s56) hi hy1')
        refine ⟨T, _, rfl, SqT.of upd_same, rfl, _, _, rfl, _, _, rfl, rfl, ⟨rfl, rdYes ?_⟩⟩
        refine ⟨_, rfl, _, rfl, g, _, 0, _, rfl, rfl, hg, atI_nat (j := 0) rfl, _, _, rfl, rfl, _, rfl, rfl, _, rfl, ?_⟩
        have fin : ∀ (n : Int) (t : Addr), upd H5 T (.tup [.ref pa, .ref g]) t = none → (chosenF rs[k].parts fs)[i]? = some (n, 1) →
            ∃ acc, upd (upd H5 T (.tup [.ref pa, .ref g])) t (.tup [.int n, .int 1]) D = some (.lst acc) ∧ acc.length < sizeLine ∧ (Same H2x (upd (upd (upd H5 T (.tup [.ref pa, .ref g])) t (.tup [.int n, .int 1])) D (.lst (acc ++ [.ref t]))) ∧ ∃ vs, upd (upd (upd H5 T (.tup [.ref pa, .ref g])) t (.tup [.int n, .int 1])) D (.lst (acc ++ [.ref t])) D = some (.lst vs) ∧ DqAll K (upd (upd (upd H5 T (.tup [.ref pa, .ref g])) t (.tup [.int n, .int 1])) D (.lst (acc ++ [.ref t]))) vs (((chosenF rs[k].parts fs).take (i + 1)).map frD)) := fun n t ht hn => by
          have s7 : Same (upd H5 T (.tup [.ref pa, .ref g])) (upd (upd H5 T (.tup [.ref pa, .ref g])) t (.tup [.int n, .int 1])) := Same.new ht
          have bD7 := s7 _ _ (s6 _ _ bD)
          have lv : vs.length ≤ 3 := by
            have := dvs.len
            rw [List.length_map, List.length_take] at this
            omega
          refine ⟨vs, bD7, Nat.lt_of_le_of_lt lv (by decide), fun u o e => ?_, _, upd_same, ?_⟩
          · rw [upd_ne (ne_of_none e hD)]
            exact (s56.trans s7) _ _ e
          · rw [List.take_succ, hn, List.map_append]
            exact (frsAll_updT bD7 (dvs.same (s6.trans s7))).app (.cons (fr_updT bD7 (fr_of upd_same)) .nil)
        refine ite2 (fun c => ?_) (fun c => ?_)
        · refine ⟨pa, _, 1, _, rfl, rfl, hpa, atI_nat (j := 1) rfl, by show 2 ≤ sizeLine; decide, fun t ht => fin _ t ht ?_⟩
          have c' := V.bl.inj (of_decide_eq_true c)
          rw [chosen_get hip hi, if_neg (of_decide_eq_false c')]
        · refine ⟨pa, _, 0, _, rfl, rfl, hpa, atI_nat (j := 0) rfl, by show 2 ≤ sizeLine; decide, fun t ht => fin _ t ht ?_⟩
          have c' : fs[i].1 > 0 := Decidable.byContradiction fun z => c (decide_eq_true (congrArg V.bl (decide_eq_false z)))
          rw [chosen_get hip hi, if_pos c']
      · rintro H5 ⟨s5, vs, bD, dvs⟩
        rw [← chosen_len lp, List.take_length] at dvs
        have s15 := s12.trans s5
        have sq := chosen_frs (fs := fs) fun p hp => RP p (List.mem_append_left _ hp)
        refine ⟨_, rfl, _, rfl, _, rfl, iteF ⟨ba, _, 1, _, rfl, rfl, same_sqt s5 hba, atI_nat (j := 1) rfl, by show 2 ≤ sizeLine; decide, fun t ht => ?_⟩⟩
        have s6 := Same.new (o := .tup [.int rs[k].bd.2, .int 1]) ht
        have s16 := s15.trans s6
        refine ⟨_, rfl, _, rfl, D, .ref b, vs, chosenF rs[k].parts fs, fs, 14, 300, rfl, SqL.of (s6 _ _ bD), dvs.same s6, dv.same s16, chosen_len lp, l3, sq, hf, by decide, fun H7 z t' s7 dz ft et => ?_⟩
        obtain ⟨g1, g2, g3⟩ := str_ok (RP _ (List.mem_append_right _ (List.mem_singleton.mpr rfl)))
        have fb : FrS 14 (rs[k].bd.2, 1) := ⟨by show (0 : Int) < 1; decide, by show (rs[k].bd.2).natAbs < 16384; omega, by show (1 : Int).natAbs < 2 ^ 14; decide, by show Nat.gcd _ 1 = 1; exact Nat.gcd_one_right _⟩
        refine ⟨.ref t, z, (rs[k].bd.2, 1), t', 14, 946, rfl, (fr_of upd_same : Dq K _ (.ref t) (frD (rs[k].bd.2, 1))).same s7, dz, fb, ft, by decide, ?_⟩
        rw [et]
        by_cases hlt : qv (rs[k].bd.2, 1) < dotF (chosenF rs[k].parts fs) fs
        · rw [decide_eq_true hlt]
          refine ⟨_, rfl, iteT ?_⟩
          have := q H7 (s16.trans s7)
          rw [List.all_eq_false.mpr ⟨rs[k], List.getElem_mem hk', by unfold possL minQ; rw [decide_eq_true hlt]; decide⟩] at this
          exact this
        · rw [decide_eq_false hlt]
          refine ⟨_, rfl, iteF ⟨hk', s2.trans (s5.trans (s6.trans s7)), fun j r' hj hr' => ?_, _, _, _, _, rfl⟩⟩
          rcases Nat.lt_succ_iff_lt_or_eq.mp hj with h | rfl
          · exact ok j r' h hr'
          · rw [List.getElem?_eq_getElem hk'] at hr'
            cases hr'
            unfold possL minQ
            rw [decide_eq_false hlt]
            rfl
    · obtain ⟨_, s2, ok, o3, o4, o5, o6, rfl⟩ := p
      have := q H' (s1.trans s2)
      rw [List.all_eq_true.mpr fun r' hr' => by
        obtain ⟨j, hj⟩ := List.mem_iff_getElem?.mp hr'
        exact ok j r' (by rw [hxl]; exact (List.getElem?_eq_some_iff.mp hj).1) hj] at this
      exact this
end
end Ca
set_option Elab.async false
set_option linter.all false
set_option maxRecDepth 100000
set_option maxHeartbeats 8000000
namespace Ca
open PySem L2
/-! ### the law's rows of a case -/
def spLCase (K : PySem.W.Frag) : Sp := fun vs H Q _ => ∃ c u r g, ∃ sure : Bool, ∃ sg rs m, vs = [.ref c, g, .bl sure] ∧ H c = some (.lst [.ref u, .ref r]) ∧ Dq K H (.ref r) (rowsD rs) ∧ Dq K H g (sgD sg) ∧ SgOk sg m ∧ (∀ r ∈ rs, isRowD (rowD r) m = true) ∧ rs.length ≤ 8 ∧ m ≤ 3 ∧
  ∀ H' y us, Same H H' → H' y = some (.lst us) → DqAll K H' us ((caseL sure sg rs).map encD) → Q (.ref y) H'
abbrev NCa : List Str := ["_law_card_here", "_law_signs_here", "_law_sure", "_law_found", "_law_word", "_law_numbers_here", "_law_bound_here", "_law_row", "_law_j", "_law_pair", "_law_sign", "_law_i"]
section
variable {P : Program} {w : World} {K : PySem.W.Frag} {mg : Str → Option Value} {base : Heap}
theorem scLCase : FnScope NCa ["_law_card_here", "_law_signs_here", "_law_sure"] (defScope sLawCase) := ⟨rfl, rfl, rfl, by decide +kernel, rfl, by decide +kernel, by decide +kernel⟩
theorem ok_lCase {f : Addr} {fd : FuncData} (F : FnT K "_law_case" sLawCase f fd) (mzip : mg "zip" = none) (mtup : mg "tuple" = none) (mrng : mg "range" = none) (mlen : mg "len" = none) : FnOk P w K mg base CX0 1 f fd ["_law_card_here", "_law_signs_here", "_law_sure"] (spLCase K) := by
  refine F.ok scLCase (fun vs H Q E h => ?_) (fun cdv A outer s H vs Q E hr h => ?_)
  · obtain ⟨c, u, r, g, sure, sg, rs, m, rfl, _⟩ := h
    rfl
  · obtain ⟨c, u, r, g, sure, sg, rs, m, rfl, hc, dr, dg, so, hR, h8, m3, q⟩ := h
    have nd := scLCase.nd
    refine ⟨_, PSs.nox (pss_cons (ps_set (i := 3) nd rfl (.inl rfl) (pe_lst pa_nil))
      (pss_cons (ps_for PassesOwn.never rfl (pi_tup (pe_ix ix_list (pv 0) pe_int (fun _ _ => rfl)))
          (pgTt K rfl (pgs_cons (pg_name (i := 4) nd rfl (.inl rfl)) (pgs_cons (pg_name (i := 5) nd rfl (.inl rfl)) (pgs_cons (pg_name (i := 6) nd rfl (.inl rfl)) pgs_nil))))
        (pss_cons (ps_setLc (i := 7) (own := [("_law_pair", 9), ("_law_sign", 10)]) (g := gTup K 2 (gCons (gName 9) (gCons (gName 10) gNil))) (tt := tYes) rfl nd rfl rfl (sw_true rfl rfl rfl (by decide +kernel)) (RZ.pi_zipA (by rfl) mzip (pa_cons (pv 5) (pa_cons (pv 1) pa_nil)))
            (blkOk_by (own := [("_law_pair", 9), ("_law_sign", 10)]) (N := NCa) (sc := defScope sLawCase) (by decide +kernel))
            (fun _ _ _ _ _ => pgT K rfl (pgs_cons (pg_name (i := 9) nd rfl (Or.inl rfl)) (pgs_cons (pg_name (i := 10) nd rfl (Or.inl rfl)) pgs_nil))) (fun _ _ _ _ _ => pts_nil)
            (fun _ _ _ _ _ => pe_ix (ixT K) (pv 9) (pe_ifExp (pt_cmpR op_eq (pe_cmpR op_gt (pv 10) pe_int (nomark _)) (pv 2) (nomark _)) pe_int pe_int) (fun _ _ => rfl)))
        (pss_one (ps_expr (pe_bm PySem.F.plainAttrs_list PySem.F.slot_list_append PySem.F.type_list_append mt_append (pv 3) (pa_cons (pe_tup (pa_cons (pe_callTy call_tuple_of (by rfl) mtup (by decide +kernel) (pa_cons (pv 7) pa_nil))
            (pa_cons (pe_ix ix_tup (pv 6) (pe_ifExp (pt_val (pv 2)) pe_int pe_int) (fun _ _ => rfl)) pa_nil))) pa_nil))))))
      (pss_cons (ps_for PassesOwn.never rfl (pi_range1 rfl mrng (pa_cons (pe_callB (call_lenK K) (by rfl) mlen boot_len (pa_cons (pv 1) pa_nil)) pa_nil)) (pg_name (i := 8) nd rfl (.inr rfl))
        (pss_one (ps_expr (pe_bm PySem.F.plainAttrs_list PySem.F.slot_list_append PySem.F.type_list_append mt_append (pv 3) (pa_cons (pe_tup (pa_cons (pe_callTy call_tuple_of (by rfl) mtup (by decide +kernel)
            (pa_cons (pe_lc (own := [("_law_i", 11)]) (g := gName 11) (tt := tYes) rfl nd (pi_range1 rfl mrng (pa_cons (pe_callB (call_lenK K) (by rfl) mlen boot_len (pa_cons (pv 1) pa_nil)) pa_nil))
              (blkOk_by (own := [("_law_i", 11)]) (N := NCa) (sc := defScope sLawCase) (by decide +kernel)) (fun _ _ _ _ _ => pg_name (i := 11) nd rfl (Or.inl rfl)) (fun _ _ _ _ _ => pts_nil)
              (fun _ _ _ _ _ => pe_ifExp (pt_cmpR op_eq (pv 11) (pv 8) (nomark _)) (pe_op op_sub pe_int (pe_ix (ixT K) (pv 1) (pv 8) (fun _ _ => rfl))) pe_int)) pa_nil)) (pa_cons pe_int pa_nil))) pa_nil)))))
      (pss_one (ps_ret (pv 3)))))), ?_⟩
    obtain ⟨r', xs, e0, hx, dx, hxl⟩ := tup_len dr
    cases e0
    obtain ⟨ga, gs, rfl, hg, dgs, hgl⟩ := tup_len dg
    rw [List.length_map] at hxl hgl
    have sl := so.len
    refine ⟨Nat.zero_le _, fun p hp => ?_⟩
    have s0 := Same.new (o := .lst []) hp
    have hc0 := s0 _ _ hc
    refine ⟨_, rfl, c, _, 1, _, rfl, rfl, SqL.of hc0, atI_nat (j := 1) rfl, r, rfl, ⟨_, same_sqt s0 hx⟩, ?_⟩
    have keepH : ∀ {H1 H2 : Hp} {vs : List V} (zs : List V), Same H H1 → H1 p = some (.lst vs) → (∀ b o, H1 b = some o → b ≠ p → H2 b = some o) → Same H H2 := fun {H1 H2 vs} zs s h k b o e => k b o (s b o e) (ne_of_none e hp)
    refine for_it (walk_tup (K := K) (a := r) (xs := xs)) (fun k σ' H' => Same H H' ∧ ∃ vs o4 o5 o6 o7, σ' = [some (.ref c), some (.ref ga), some (.bl sure), some (.ref p), o4, o5, o6, o7, none, none, none, none] ∧ H' p = some (.lst vs) ∧ DqAll K H' vs (((rs.take k).map (caseR sure sg)).map encD))
      ⟨s0, _, _, _, _, _, rfl, upd_same, .nil⟩ (fun k σ' H' hk y => same_sqt y.1 hx) ?_ (fun σ' H' y => ?_)
    · rintro k z _ H2 H2x hk ⟨s2, vs, o4, o5, o6, o7, rfl, hp2, dvs⟩ ⟨e2, hz⟩
      subst e2
      have hk' : k < rs.length := by omega
      have lv : vs.length = k := by
        have := dvs.len
        rw [List.length_map, List.length_map, List.length_take] at this
        omega
      have dR := rows_get (dx.same s2) hk' hz
      have hRk := hR _ (List.getElem_mem hk')
      obtain ⟨ra, v2, v3, rfl, hra, dv2, dv3, _⟩ := row_at dR
      obtain ⟨na, nvs, rfl, hna, dna, nl⟩ := tup_len dv2
      obtain ⟨ba, rfl, hba⟩ := fr_at (f := rs[k].bd) dv3
      rw [List.length_map] at nl
      have lm := (row_name hRk).2
      have takek : (rs.take (k + 1)).map (caseR sure sg) = (rs.take k).map (caseR sure sg) ++ [caseR sure sg rs[k]] := by
        rw [List.take_succ, List.getElem?_eq_getElem hk', List.map_append]
        rfl
      generalize rs[k] = rk at *
      have hg2 := same_sqt s2 hg
      refine ⟨ra, _, rfl, hra, rfl, _, _, rfl, _, _, rfl, _, _, rfl, rfl, ?_⟩
      refine ⟨_, rfl, _, rfl, na, ga, _, _, rfl, .inr ⟨hna, hg2, fun D hD => ?_⟩⟩
      have nDp : D ≠ p := (ne_of_none hp2 hD).symm
      refine lc_it (CaZ.walk_zt (K := K) (a := na) (b := ga) (xs := nvs) (ys := gs) (n := sg.length) (by omega) hgl) (fun i H' => Same H2x H' ∧ H' D = some (.lst (((caseN sure sg rk.parts).take i).map V.int))) ⟨Same.new hD, upd_same⟩ (fun i H' hi y => ⟨same_sqt y.1 hna, same_sqt y.1 hg2⟩) ?_ ?_
      · rintro i z H5 _ hi ⟨s5, bD⟩ ⟨T, x1, y1, rfl, hT, rfl, hx1', hy1'⟩
        have s6 : Same H5 (upd H5 T (.tup [x1, y1])) := Same.new hT
        have s56 := s5.trans s6
        have hip : i < rk.parts.length := by omega
        obtain ⟨d, hd, dq⟩ := (dna.same s56).get hx1'
        rw [List.getElem?_map, List.getElem?_eq_getElem hip] at hd
        cases hd
        obtain ⟨pa, rfl, hpa⟩ := fr_at (f := rk.parts[i]) dq
        obtain ⟨d, hd, dq⟩ := (dgs.same (s2.trans s56)).get hy1'
        rw [List.getElem?_map, List.getElem?_eq_getElem hi] at hd
        cases hd
        cases dq
        have gi : (caseN sure sg rk.parts)[i]? = some (if decide (sg[i] > 0) == sure then rk.parts[i].2 else rk.parts[i].1) := by
          unfold caseN
          rw [List.getElem?_zipWith, List.getElem?_eq_getElem hip, List.getElem?_eq_getElem hi]
        refine ⟨T, _, rfl, SqT.of upd_same, rfl, _, _, rfl, _, _, rfl, rfl, ⟨rfl, rdYes ?_⟩⟩
        have bD6 := s6 _ _ bD
        have fin : ∀ n : Int, (caseN sure sg rk.parts)[i]? = some n → ∃ acc, upd H5 T (.tup [.ref pa, .int sg[i]]) D = some (.lst acc) ∧ acc.length < sizeLine ∧ Same H2x (upd (upd H5 T (.tup [.ref pa, .int sg[i]])) D (.lst (acc ++ [.int n]))) ∧ upd (upd H5 T (.tup [.ref pa, .int sg[i]])) D (.lst (acc ++ [.int n])) D = some (.lst (((caseN sure sg rk.parts).take (i + 1)).map V.int)) := fun n hn => by
          refine ⟨_, bD6, ?_, fun b' o e => ?_, ?_⟩
          · rw [List.length_map, List.length_take]
            exact Nat.lt_of_le_of_lt (Nat.le_trans (Nat.min_le_left ..) (show i ≤ 3 by omega)) (by decide)
          · rw [upd_ne (ne_of_none e hD)]
            exact s56 _ _ e
          · rw [upd_same, List.take_succ, hn, List.map_append]
            rfl
        refine ⟨_, rfl, _, rfl, _, _, rfl, rfl, _, rfl, rfl, _, rfl, ?_⟩
        refine ite2 (fun cc => ?_) (fun cc => ?_)
        · refine ⟨pa, _, 1, _, rfl, rfl, hpa, atI_nat (j := 1) rfl, fin _ ?_⟩
          have c' := V.bl.inj (of_decide_eq_true cc)
          rw [gi, if_pos (by rw [c']; exact beq_self_eq_true _)]
        · refine ⟨pa, _, 0, _, rfl, rfl, hpa, atI_nat (j := 0) rfl, fin _ ?_⟩
          have c' : ¬ (decide (sg[i] > 0) == sure) = true := fun z => cc (decide_eq_true (congrArg V.bl (eq_of_beq z)))
          rw [gi, if_neg c']
      · rintro H5 ⟨s5, bD⟩
        have lc : (caseN sure sg rk.parts).length = sg.length := by
          unfold caseN
          rw [List.length_zipWith, lm, sl, Nat.min_self]
        rw [← lc, List.take_length] at bD
        refine ⟨_, rfl, .inl ⟨rfl, _, SqL.of (s5 _ _ hp2)⟩, _, rfl, D, _, rfl, .inl ⟨SqL.of bD, fun u1 hu1 => ?_⟩⟩
        have s6 := Same.new (o := .tup ((caseN sure sg rk.parts).map V.int)) hu1
        have s56 := s5.trans s6
        have fin : ∀ n : Int, n = (caseR sure sg rk).2 → ∀ H' y, Same (upd H5 u1 (.tup ((caseN sure sg rk.parts).map V.int))) H' → SqT K H' y [.ref u1, .int n] → ∃ xs, H' p = some (.lst xs) ∧ xs.length < sizeLine ∧ Same H (upd H' p (.lst (xs ++ [.ref y]))) ∧ ∃ vs, upd H' p (.lst (xs ++ [.ref y])) p = some (.lst vs) ∧ DqAll K (upd H' p (.lst (xs ++ [.ref y]))) vs (((rs.take (k + 1)).map (caseR sure sg)).map encD) := fun n hn H' y s7 hy => by
          have hp7 := s7 _ _ (s56 _ _ hp2)
          subst hn
          have dm : Dq K H' (.ref y) (encD (caseR sure sg rk)) := pk_of (k := caseR sure sg rk) hy (same_sqt s7 (SqT.of upd_same))
          refine ⟨vs, hp7, Nat.lt_of_le_of_lt (show vs.length ≤ 8 by omega) (by decide), fun b' o e => ?_, _, upd_same, ?_⟩
          · rw [upd_ne (ne_of_none e hp)]
            exact s7 _ _ (s56 _ _ (s2 _ _ e))
          · rw [takek, List.map_append]
            exact (pks_upd hp7 (dvs.same (s56.trans s7))).app (.cons (pk_upd hp7 dm) .nil)
        refine ⟨_, rfl, _, rfl, _, rfl, ?_⟩
        have hba6 := same_sqt s56 hba
        refine ite2 (fun cc => ?_) (fun cc => ?_)
        · refine ⟨ba, _, 0, _, rfl, rfl, hba6, atI_nat (j := 0) rfl, Nat.le_of_ble_eq_true rfl, fun y hy => ?_⟩
          obtain ⟨zs, h1, h2, h3, vs', h4, h5⟩ := fin rk.bd.1 (by show _ = if sure then rk.bd.1 else rk.bd.2; rw [if_pos cc]) _ y (Same.new hy) (SqT.of upd_same)
          exact ⟨p, zs, _, rfl, rfl, h1, h2, h3, vs', _, _, _, _, rfl, h4, h5⟩
        · refine ⟨ba, _, 1, _, rfl, rfl, hba6, atI_nat (j := 1) rfl, Nat.le_of_ble_eq_true rfl, fun y hy => ?_⟩
          obtain ⟨zs, h1, h2, h3, vs', h4, h5⟩ := fin rk.bd.2 (by show _ = if sure then rk.bd.1 else rk.bd.2; rw [if_neg cc]) _ y (Same.new hy) (SqT.of upd_same)
          exact ⟨p, zs, _, rfl, rfl, h1, h2, h3, vs', _, _, _, _, rfl, h4, h5⟩
    · obtain ⟨s2, vs, o4, o5, o6, o7, rfl, hp2, dvs⟩ := y
      rw [hxl, List.take_length] at dvs
      have hg2 := same_sqt s2 hg
      refine ⟨_, rfl, _, _, rfl, .inr ⟨_, hg2, rfl⟩, _, rfl, by omega, by omega, ?_⟩
      have lgn : ((gs.length : Nat) : Int).toNat = sg.length := by rw [Int.toNat_natCast, hgl]
      refine for_it (walk_range (lo := 0) (n := ((gs.length : Nat) : Int).toNat)) (fun k σ' H' => Same H H' ∧ ∃ vs o4 o5 o6 o7 o8, σ' = [some (.ref c), some (.ref ga), some (.bl sure), some (.ref p), o4, o5, o6, o7, o8, none, none, none] ∧ H' p = some (.lst vs) ∧ DqAll K H' vs ((rs.map (caseR sure sg) ++ (List.range k).map fun j => (unitN sg j, (0 : Int))).map encD))
        ⟨s2, vs, _, _, _, _, _, rfl, hp2, by rw [List.range_zero, List.map_nil, List.append_nil]; exact dvs⟩ (fun _ _ _ _ _ => trivial) ?_ (fun σ' H' y => ?_)
      · rintro k z _ H3 H3x hk ⟨s3, vs, o4, o5, o6, o7, o8, rfl, hp3, dvs⟩ ⟨e3, hz⟩
        subst e3
        have hk' : k < sg.length := by omega
        have ez : z = .int ((k : Nat) : Int) := by
          rw [hz]
          show V.int (0 + ((k : Nat) : Int)) = _
          rw [Int.zero_add]
        subst ez
        clear hz
        have lv : vs.length = rs.length + k := by
          have := dvs.len
          rw [List.length_map, List.length_append, List.length_map, List.length_map, List.length_range] at this
          omega
        have hg3 := same_sqt s3 hg
        refine ⟨_, rfl, .inl ⟨rfl, _, SqL.of hp3⟩, _, rfl, _, _, rfl, .inr ⟨_, hg3, rfl⟩, _, rfl, by omega, by omega, fun D hD => ?_⟩
        have gsk : gs[k]? = some (.int (sg[k]'hk')) := by
          obtain ⟨d, hd, dq⟩ := (dgs).get (List.getElem?_eq_getElem (show k < gs.length by omega))
          rw [List.getElem?_map, List.getElem?_eq_getElem hk'] at hd
          cases hd
          rw [List.getElem?_eq_getElem (by omega)]
          cases hv : gs[k] with
          | int i =>
            rw [hv] at dq
            cases dq
            rfl
          | _ => rw [hv] at dq; cases dq
        refine lc_it (walk_range (lo := 0) (n := ((gs.length : Nat) : Int).toNat)) (fun i H' => Same H3x H' ∧ H' D = some (.lst (((unitN sg k).take i).map V.int))) ⟨Same.new hD, upd_same⟩ (fun _ _ _ _ => trivial) ?_ ?_
        · rintro i z H5 H5x hi ⟨s5, bD⟩ ⟨e5, hz5⟩
          subst e5
          have hi' : i < sg.length := by omega
          have ez : z = .int ((i : Nat) : Int) := by
            rw [hz5]
            show V.int (0 + ((i : Nat) : Int)) = _
            rw [Int.zero_add]
          subst ez
          clear hz5
          have gi : (unitN sg k)[i]? = some (if i = k then 0 - sg.getD k 0 else 0) := by
            unfold unitN
            rw [List.getElem?_map, List.getElem?_range hi']
            rfl
          have fin : ∀ n : Int, (unitN sg k)[i]? = some n → ∃ acc, H5x D = some (.lst acc) ∧ acc.length < sizeLine ∧ Same H3x (upd H5x D (.lst (acc ++ [.int n]))) ∧ upd H5x D (.lst (acc ++ [.int n])) D = some (.lst (((unitN sg k).take (i + 1)).map V.int)) := fun n hn => by
            refine ⟨_, bD, ?_, fun b' o e => ?_, ?_⟩
            · rw [List.length_map, List.length_take]
              exact Nat.lt_of_le_of_lt (Nat.le_trans (Nat.min_le_left ..) (show i ≤ 3 by omega)) (by decide)
            · rw [upd_ne (ne_of_none e hD)]
              exact s5 _ _ e
            · rw [upd_same, List.take_succ, hn, List.map_append]
              rfl
          refine ⟨rfl, rdYes ?_⟩
          refine ⟨_, rfl, _, rfl, rfl, _, rfl, ?_⟩
          by_cases ik : i = k
          · subst ik
            rw [decide_eq_true rfl]
            refine iteT ⟨_, rfl, _, rfl, ga, _, (i : Nat), _, rfl, rfl, same_sqt (s3.trans s5) hg, atI_nat (j := i) gsk, _, _, rfl, rfl, fin _ ?_⟩
            rw [gi, if_pos rfl, List.getD_eq_getElem?_getD, List.getElem?_eq_getElem hk']
            rfl
          · rw [show decide (V.int ((i : Nat) : Int) = V.int ((k : Nat) : Int)) = false from decide_eq_false (fun z => ik (Int.ofNat.inj (V.int.inj z)))]
            refine iteF (fin _ ?_)
            rw [gi, if_neg ik]
        · rintro H5 ⟨s5, bD⟩
          have lu : (unitN sg k).length = sg.length := by
            unfold unitN
            rw [List.length_map, List.length_range]
          rw [lgn, ← lu, List.take_length] at bD
          refine ⟨D, _, rfl, .inl ⟨SqL.of bD, fun u1 hu1 => ?_⟩⟩
          have s6 := Same.new (o := .tup ((unitN sg k).map V.int)) hu1
          refine ⟨Nat.le_of_ble_eq_true rfl, fun y hy => ?_⟩
          have s7 := Same.new (o := .tup [.ref u1, .int 0]) hy
          have s57 := s5.trans (s6.trans s7)
          have hp7 := s57 _ _ hp3
          have dm : Dq K (upd (upd H5 u1 (.tup ((unitN sg k).map V.int))) y (.tup [.ref u1, .int 0])) (.ref y) (encD (unitN sg k, 0)) := pk_of (k := (unitN sg k, 0)) (SqT.of upd_same) (same_sqt s7 (SqT.of upd_same))
          refine ⟨p, vs, _, rfl, rfl, hp7, Nat.lt_of_le_of_lt (show vs.length ≤ 12 by omega) (by decide), fun b' o e => ?_, _, _, _, _, _, _, rfl, upd_same, ?_⟩
          · rw [upd_ne (ne_of_none e hp)]
            exact s57 _ _ (s3 _ _ e)
          · rw [show (rs.map (caseR sure sg) ++ (List.range (k + 1)).map fun j => (unitN sg j, (0 : Int))) = (rs.map (caseR sure sg) ++ (List.range k).map fun j => (unitN sg j, (0 : Int))) ++ [(unitN sg k, 0)] by rw [List.range_succ, List.map_append, ← List.append_assoc]; rfl, List.map_append]
            exact (pks_upd hp7 (dvs.same s57)).app (.cons (pk_upd hp7 dm) .nil)
      · obtain ⟨s3, vs, o4, o5, o6, o7, o8, rfl, hp3, dvs⟩ := y
        rw [lgn] at dvs
        exact ⟨_, rfl, q H' p vs s3 hp3 dvs⟩
end
end Ca
set_option Elab.async false
set_option linter.all false
set_option maxRecDepth 100000
set_option maxHeartbeats 8000000
namespace Ca
open PySem L2
/-! ### the law's rows of signs -/
def spLSg (K : PySem.W.Frag) : Sp := fun vs H Q _ => ∃ m : Nat, vs = [.int (m : Nat)] ∧ m ≤ 3 ∧ ∀ H' y us, Same H H' → H' y = some (.lst us) → DqAll K H' us ((lsgL m).map sgD) → Q (.ref y) H'
theorem op_catK {X : Cx} (K : PySem.W.Frag) (h : X.K = K := by rfl) : OpR X (binaryOp .Add) (rCatA K) := h ▸ op_catA
abbrev NLsg : List Str := ["_law_many", "_law_found", "_law_turn", "_law_row"]
section
variable {P : Program} {w : World} {K : PySem.W.Frag} {mg : Str → Option Value} {base : Heap}
theorem scLs : FnScope NLsg ["_law_many"] (defScope sLawSigns) := ⟨rfl, rfl, rfl, by decide +kernel, rfl, by decide +kernel, by decide +kernel⟩
theorem ok_lsg {f : Addr} {fd : FuncData} (F : FnT K "_law_signs" sLawSigns f fd) (mrng : mg "range" = none) : FnOk P w K mg base CX0 1 f fd ["_law_many"] (spLSg K) := by
  refine F.ok scLs (fun vs H Q E h => ?_) (fun cdv A outer s H vs Q E hr h => ?_)
  · obtain ⟨m, rfl, _⟩ := h
    rfl
  · obtain ⟨m, rfl, m3, q⟩ := h
    have nd := scLs.nd
    refine ⟨_, PSs.nox (pss_cons (ps_set (i := 1) nd rfl (.inl rfl) (pe_lst (pa_cons (pe_tup pa_nil) pa_nil)))
      (pss_cons (ps_for PassesOwn.never rfl (pi_range1 rfl mrng (pa_cons (pv 0) pa_nil)) (pg_name (i := 2) nd rfl (.inl rfl))
        (pss_one (ps_set (i := 1) nd rfl (.inl rfl) (pe_op op_cat
          (pe_lc (own := [("_law_row", 3)]) (g := gName 3) (tt := tYes) rfl nd (pi_list (pv 1)) (blkOk_by (own := [("_law_row", 3)]) (N := NLsg) (sc := defScope sLawSigns) (by decide +kernel)) (fun _ _ _ _ _ => pg_name (i := 3) nd rfl (Or.inl rfl)) (fun _ _ _ _ _ => pts_nil)
            (fun _ _ _ _ _ => pe_op (op_catK K) (pv 3) (pe_tup (pa_cons (pe_un un_neg pe_int) pa_nil))))
          (pe_lc (own := [("_law_row", 3)]) (g := gName 3) (tt := tYes) rfl nd (pi_list (pv 1)) (blkOk_by (own := [("_law_row", 3)]) (N := NLsg) (sc := defScope sLawSigns) (by decide +kernel)) (fun _ _ _ _ _ => pg_name (i := 3) nd rfl (Or.inl rfl)) (fun _ _ _ _ _ => pts_nil)
            (fun _ _ _ _ _ => pe_op (op_catK K) (pv 3) (pe_tup (pa_cons pe_int pa_nil))))))))
      (pss_one (ps_ret (pv 1))))), ?_⟩
    have one : 1 ≤ sizeLine := by decide
    refine ⟨Nat.zero_le _, fun e he => ⟨one, fun l hl => ?_⟩⟩
    have s1 := Same.new (o := .tup []) he
    have s2 := Same.new (o := .lst [.ref e]) hl
    have de : Dq K (upd (upd H e (.tup [])) l (.lst [.ref e])) (.ref e) (sgD []) := .tup (same_sqt s2 (SqT.of upd_same)) .nil
    refine ⟨_, rfl, _, rfl, by omega, by omega, ?_⟩
    refine for_it (walk_range (lo := 0) (n := ((m : Nat) : Int).toNat)) (fun k σ' H' => Same H H' ∧ ∃ (l : Addr) (us : List V) (o : Option V), σ' = [some (.int (m : Nat)), some (.ref l), o, none] ∧ H' l = some (.lst us) ∧ DqAll K H' us ((lsgL k).map sgD))
      ⟨s1.trans s2, l, _, none, rfl, upd_same, .cons de .nil⟩ (fun _ _ _ _ _ => trivial) ?_ (fun σ' H' p => ?_)
    · rintro k z _ H0 H0x hk ⟨s0, l, us, o, rfl, hl, du⟩ ⟨e0, hz⟩
      subst e0
      clear hz
      have lu : us.length = 2 ^ k := by
        have := du.len
        rw [List.length_map, lsg_len] at this
        exact this
      have k3 : k < 3 := by omega
      have p8 : 2 ^ k ≤ 4 := Nat.pow_le_pow_right (n := 2) (by decide) (show k ≤ 2 by omega)
      refine ⟨_, rfl, l, rfl, ⟨_, SqL.of hl⟩, fun D1 hD1 => ?_⟩
      refine lc_it (walk_list (K := K) (a := l) (xs := us)) (fun i H' => Same H0x H' ∧ ∃ ws, H' D1 = some (.lst ws) ∧ ws.length = i ∧ DqAll K H' ws ((((lsgL k).take i).map (· ++ [-1])).map sgD)) ⟨Same.new hD1, [], upd_same, rfl, .nil⟩ (fun i H' hi p => SqL.of (p.1 _ _ hl)) ?_ ?_
      · rintro i z H3 H3x hi ⟨s3, ws, bD, lw, dw⟩ ⟨e3, hz⟩
        subst e3
        have hik : i < (lsgL k).length := by rw [lsg_len, ← lu]; exact hi
        obtain ⟨d, hd, dq⟩ := (du.same s3).get hz
        rw [List.getElem?_map, List.getElem?_eq_getElem hik] at hd
        cases hd
        have hdl : ((lsgL k)[i]).length = k := ((lsg_mem k _).mp (List.getElem_mem hik)).len
        have elt : ((lsgL k).take (i + 1)).map (· ++ [-1]) = ((lsgL k).take i).map (· ++ [-1]) ++ [(lsgL k)[i] ++ [-1]] := by
          rw [List.take_succ, List.getElem?_eq_getElem hik, List.map_append]
          rfl
        generalize (lsgL k)[i] = sg at dq hdl elt
        obtain ⟨xa, xs, rfl, hxa, dxs, lxs⟩ := tup_len dq
        rw [List.length_map, hdl] at lxs
        refine ⟨rfl, rdYes ⟨_, rfl, _, rfl, one, fun t ht => ?_⟩⟩
        have s4 := Same.new (o := .tup [.int (-1)]) ht
        refine rd_catA (same_sqt s4 hxa) (SqT.of upd_same) (by rw [lxs]; exact Nat.le_trans (show k + 1 ≤ 100 by omega) (by decide)) fun H5 c s5 hc => ?_
        have s45 := s4.trans s5
        have bD5 := s45 _ _ bD
        have kD : ∀ zs : List V, Kept D1 H5 (upd H5 D1 (.lst zs)) := fun zs b o n e => by rw [upd_ne n]; exact e
        have dy : Dq K H5 (.ref c) (sgD (sg ++ [-1])) := .tup hc (by rw [List.map_append]; exact (dxs.same s45).app (.cons (.int _) .nil))
        refine ⟨ws, bD5, Nat.lt_of_lt_of_le (show ws.length < 100 by omega) (by decide), fun b' o' e' => ?_, ws ++ [.ref c], upd_same, by rw [List.length_append, lw]; rfl, ?_⟩
        · rw [upd_ne (ne_of_none e' hD1)]
          exact s45 _ _ (s3 _ _ e')
        · rw [elt, List.map_append]
          exact (DqAll.but bD5 (kD _) (noLs_map sgD noL_sgD _) (dw.same s45)).app (.cons (Dq.but bD5 (kD _) (noL_sgD _) dy) .nil)
      rintro H5x ⟨s6, ws1, b1, lw1, dw1⟩
      rw [lu, ← lsg_len, List.take_length] at dw1
      refine ⟨_, rfl, l, rfl, ⟨_, SqL.of (s6 _ _ hl)⟩, fun D2 hD2 => ?_⟩
      refine lc_it (walk_list (K := K) (a := l) (xs := us)) (fun i H' => Same H5x H' ∧ ∃ ws, H' D2 = some (.lst ws) ∧ ws.length = i ∧ DqAll K H' ws ((((lsgL k).take i).map (· ++ [1])).map sgD)) ⟨Same.new hD2, [], upd_same, rfl, .nil⟩ (fun i H' hi p => SqL.of (p.1 _ _ (s6 _ _ hl))) ?_ ?_
      · rintro i z H3 H3x hi ⟨s3, ws, bD, lw, dw⟩ ⟨e3, hz⟩
        subst e3
        have hik : i < (lsgL k).length := by rw [lsg_len, ← lu]; exact hi
        obtain ⟨d, hd, dq⟩ := ((du.same s6).same s3).get hz
        rw [List.getElem?_map, List.getElem?_eq_getElem hik] at hd
        cases hd
        have hdl : ((lsgL k)[i]).length = k := ((lsg_mem k _).mp (List.getElem_mem hik)).len
        have elt : ((lsgL k).take (i + 1)).map (· ++ [1]) = ((lsgL k).take i).map (· ++ [1]) ++ [(lsgL k)[i] ++ [1]] := by
          rw [List.take_succ, List.getElem?_eq_getElem hik, List.map_append]
          rfl
        generalize (lsgL k)[i] = sg at dq hdl elt
        obtain ⟨xa, xs, rfl, hxa, dxs, lxs⟩ := tup_len dq
        rw [List.length_map, hdl] at lxs
        refine ⟨rfl, rdYes ⟨_, rfl, one, fun t ht => ?_⟩⟩
        have s4 := Same.new (o := .tup [.int (1)]) ht
        refine rd_catA (same_sqt s4 hxa) (SqT.of upd_same) (by rw [lxs]; exact Nat.le_trans (show k + 1 ≤ 100 by omega) (by decide)) fun H5 c s5 hc => ?_
        have s45 := s4.trans s5
        have bD5 := s45 _ _ bD
        have kD : ∀ zs : List V, Kept D2 H5 (upd H5 D2 (.lst zs)) := fun zs b o n e => by rw [upd_ne n]; exact e
        have dy : Dq K H5 (.ref c) (sgD (sg ++ [1])) := .tup hc (by rw [List.map_append]; exact (dxs.same s45).app (.cons (.int _) .nil))
        refine ⟨ws, bD5, Nat.lt_of_lt_of_le (show ws.length < 100 by omega) (by decide), fun b' o' e' => ?_, ws ++ [.ref c], upd_same, by rw [List.length_append, lw]; rfl, ?_⟩
        · rw [upd_ne (ne_of_none e' hD2)]
          exact s45 _ _ (s3 _ _ e')
        · rw [elt, List.map_append]
          exact (DqAll.but bD5 (kD _) (noLs_map sgD noL_sgD _) (dw.same s45)).app (.cons (Dq.but bD5 (kD _) (noL_sgD _) dy) .nil)
      rintro H6 ⟨s7, ws2, b2, lw2, dw2⟩
      rw [lu, ← lsg_len, List.take_length] at dw2
      refine ⟨D1, D2, ws1, ws2, rfl, rfl, s7 _ _ b1, b2, by rw [lw1, lw2]; exact Nat.le_trans (show us.length + us.length ≤ 100 by omega) (by decide), fun p hp => ?_⟩
      have s8 := Same.new (o := .lst (ws1 ++ ws2)) hp
      refine ⟨(s0.trans s6).trans (s7.trans s8), p, _, _, rfl, upd_same, ?_⟩
      show DqAll K _ _ (((lsgL k).map (· ++ [-1]) ++ (lsgL k).map (· ++ [1])).map sgD)
      rw [List.map_append]
      exact (dw1.same (s7.trans s8)).app (dw2.same s8)
    · obtain ⟨s0, l, us, o, rfl, hl, du⟩ := p
      exact ⟨_, rfl, q _ l us s0 hl du⟩
end
end Ca
set_option Elab.async false
set_option linter.all false
set_option maxRecDepth 100000
set_option maxHeartbeats 8000000
namespace Ca
open PySem L2
/-! ### whether some values keep all rows, by the law -/
abbrev NHv : List Str := ["_law_rows_here", "_law_many", "_law_turn", "_law_row", "_law_bound"]
def spHasV (K : PySem.W.Frag) : Sp := fun vs H Q _ => ∃ l us, ∃ ks : List FRow, ∃ n b : Nat, vs = [.ref l, .int (n : Nat)] ∧ SqL K H l us ∧ DqAll K H us (ks.map encD) ∧ (∀ k ∈ ks, k.1.length = n) ∧ ks.length ≤ 8 ∧ n ≤ 2 ∧ (∀ k ∈ ks, SmF b k) ∧ b ≤ 40000 ∧
  ∀ H' v, Same H H' → (v = true ↔ ∃ x, SatF ks x) → Q (.bl v) H'
theorem layHv : ∀ ns : List Int, PyData.canLayAll0 (ns.map PyData.int) = true
  | [] => rfl
  | n :: ns => by
    simp only [List.map_cons, PyData.canLayAll0, PyData.canLay0]
    rw [layHv ns]
    rfl
theorem depHv : ∀ ns : List Int, PyData.depthAll (ns.map PyData.int) = 0
  | [] => rfl
  | n :: ns => by
    simp only [List.map_cons, PyData.depthAll, PyData.depth]
    rw [depHv ns]
    rfl
theorem shapedHv (ns : List Int) : SeqAt.shaped (.list (ns.map PyData.int)) = true := by
  refine Bool.and_eq_true_iff.mpr ⟨by simp only [PyData.canLay0]; exact layHv ns, decide_eq_true ?_⟩
  simp only [PyData.depth]
  rw [depHv]
  decide
theorem found_len1 {ks : List FRow} {n : Nat} (h : ∀ k ∈ ks, k.1.length = n + 1) {p : FRow} (hp : FoundF ks p) : p.1.length = n := by
  rcases hp with ⟨r, hr, _, rfl⟩ | ⟨r, hr, t, ht, _, _, rfl⟩
  · show r.1.dropLast.length = n
    rw [List.length_dropLast, h r hr]
    rfl
  · show (mixI r.1 t.1).length = n
    unfold mixI
    rw [List.length_zipWith, List.length_dropLast, List.length_dropLast, h r hr, h t ht]
    exact Nat.min_self _
theorem sat_found {ks ms : List FRow} {n : Nat} (h : ∀ k ∈ ks, k.1.length = n + 1) (hm : ∀ p, p ∈ ms ↔ FoundF ks p) : (∃ x, SatF ms x) ↔ ∃ x, SatF ks x := by
  rw [fm_step h]
  constructor
  · rintro ⟨x, hx⟩
    exact ⟨x, fun p hp => hx p ((hm p).mpr hp)⟩
  · rintro ⟨x, hx⟩
    exact ⟨x, fun p hp => hx p ((hm p).mp hp)⟩
section
variable {P : Program} {w : World} {K : PySem.W.Frag} {mg : Str → Option Value} {base : Heap}
theorem scHv : FnScope NHv ["_law_rows_here", "_law_many"] (defScope sLawHasValues) := ⟨rfl, rfl, rfl, by decide +kernel, rfl, by decide +kernel, by decide +kernel⟩
theorem ok_hasV {f fL : Addr} {fd fdL : FuncData} (F : FnT K "_law_has_values" sLawHasValues f fd) (mrng : mg "range" = none)
    (gL : mg "_law_without_last" = some (.ref fL)) (GL : FnOk P w K mg base CX0 1 fL fdL ["_law_rows_here"] (spWl K)) (kL : PySem.W.keepIn K (.ref fL) = true) (bL : Binds K fdL ["_law_rows_here"] []) :
    FnOk P w K mg base CX0 2 f fd ["_law_rows_here", "_law_many"] (spHasV K) := by
  refine F.ok scHv (fun vs H Q E h => ?_) (fun cdv A outer s H vs Q E hr h => ?_)
  · obtain ⟨l, us, ks, n, b, rfl, _⟩ := h
    rfl
  · obtain ⟨l, us, ks, n, b, rfl, hl, du, hn, h8, n2, sm, hb, q⟩ := h
    have nd := scHv.nd
    refine ⟨_, PSs.nox (pss_cons (ps_for PassesOwn.never rfl (pi_range1 rfl mrng (pa_cons (pv 1) pa_nil)) (pg_name (i := 2) nd rfl (.inl rfl))
        (pss_one (ps_set (i := 0) nd rfl (.inl rfl) (pe_call GL hr rfl gL kL bL .nil pass0 (pa_cons (pv 0) pa_nil)))))
      (pss_one (ps_ret (pe_cmpR (op_eqD hr.units) (pe_lc (own := [("_law_row", 3), ("_law_bound", 4)]) (g := gTup K 2 (gCons (gName 3) (gCons (gName 4) gNil))) rfl nd (pi_list (pv 0))
          (blkOk_by (own := [("_law_row", 3), ("_law_bound", 4)]) (N := NHv) (sc := defScope sLawHasValues) (by decide +kernel))
          (fun _ _ _ _ _ => pgTt K rfl (pgs_cons (pg_name (i := 3) nd rfl (Or.inl rfl)) (pgs_cons (pg_name (i := 4) nd rfl (Or.inl rfl)) pgs_nil)))
          (fun _ _ _ _ _ => pts_one (pt_cmpR op_lt (pv 4) pe_int (nomark _)))
          (fun _ _ _ _ _ => pv 4)) (pe_lst pa_nil) (nomark _))))), ?_⟩
    refine ⟨_, rfl, _, rfl, by omega, by omega, ?_⟩
    refine for_it (walk_range (lo := 0) (n := ((n : Nat) : Int).toNat)) (fun k σ' H' => Same H H' ∧ ∃ (l' : Addr) (us' : List V) (ks' : List FRow) (o2 : Option V), σ' = [some (.ref l'), some (.int (n : Nat)), o2, none, none] ∧ SqL K H' l' us' ∧ DqAll K H' us' (ks'.map encD) ∧ (∀ k' ∈ ks', k'.1.length + k = n) ∧
        ks'.length ≤ 8 * 2 ^ (k * k) ∧ (k ≤ 1 → ks'.length ≤ 8 * 2 ^ k) ∧ (∀ k' ∈ ks', SmF ((b + 1) * 2 ^ k - 1) k') ∧ ((∃ x, SatF ks' x) ↔ ∃ x, SatF ks x))
      ⟨fun _ _ e => e, l, us, ks, none, rfl, hl, du, fun k' hk => by rw [hn k' hk]; rfl, by show ks.length ≤ 8; exact h8, fun _ => by show ks.length ≤ 8; exact h8, fun k' hk => by rw [show (b + 1) * 2 ^ 0 - 1 = b by omega]; exact sm k' hk, Iff.rfl⟩ (fun _ _ _ _ _ => trivial) ?_ (fun σ' H' y => ?_)
    · rintro k z _ H2 H2x hk ⟨s2, l', us', ks', o2, rfl, hl2, du2, hn2, _, hc2, sm2, it⟩ ⟨e2, hz⟩
      subst e2
      clear hz
      have k1 : k ≤ 1 := by omega
      have hn3 : ∀ k' ∈ ks', k'.1.length = (n - k - 1) + 1 := fun k' h' => by
        have := hn2 k' h'
        omega
      have p2 : 2 ^ k ≤ 2 := by rcases Nat.le_one_iff_eq_zero_or_eq_one.mp k1 with z | z <;> rw [z] <;> decide
      have h16 : ks'.length ≤ 16 := by have := hc2 k1; omega
      have b16 : (b + 1) * 2 ^ k ≤ 80002 := Nat.le_trans (Nat.mul_le_mul (show b + 1 ≤ 40001 by omega) p2) (by decide)
      refine ⟨_, rfl, l', us', ks', n - k - 1, (b + 1) * 2 ^ k - 1, rfl, hl2, du2, hn3, h16, sm2, by omega, by omega, fun H4 l4 us4 ks4 s4 hl4 du4 mem le4 => ?_⟩
      have fl := found_len h16
      refine ⟨s2.trans s4, l4, us4, ks4, _, rfl, hl4, du4, fun k' h' => ?_, ?_, fun h1 => ?_, fun k' h' => ?_, (sat_found hn3 mem).trans it⟩
      · have := found_len1 hn3 ((mem k').mp h')
        omega
      · rcases Nat.le_one_iff_eq_zero_or_eq_one.mp k1 with z | z
        · subst z
          have := fl.2 (by have := hc2 (by decide); omega)
          show ks4.length ≤ 8 * 2
          omega
        · subst z
          have := fl.1
          show ks4.length ≤ 8 * 2 ^ 4
          omega
      · have z : k = 0 := by omega
        subst z
        have := fl.2 (by have := hc2 (by decide); omega)
        show ks4.length ≤ 8 * 2
        omega
      · have sf := found_sm sm2 ((mem k').mp h')
        have e : (b + 1) * 2 ^ (k + 1) = 2 * ((b + 1) * 2 ^ k) := by rw [Nat.pow_succ, ← Nat.mul_assoc, Nat.mul_comm]
        have p : 0 < (b + 1) * 2 ^ k := Nat.mul_pos (by omega) (Nat.pow_pos (by decide))
        rw [e, show 2 * ((b + 1) * 2 ^ k) - 1 = 2 * ((b + 1) * 2 ^ k - 1) + 1 by omega]
        exact sf
    · obtain ⟨s2, l', us', ks', o2, rfl, hl2, du2, hn2, hc, _, _, it⟩ := y
      have en : ((n : Nat) : Int).toNat = n := rfl
      rw [en] at hn2 hc
      have hnil : ∀ k' ∈ ks', k'.1 = [] := fun k' h' => List.length_eq_zero_iff.mp (by have := hn2 k' h'; omega)
      have lu : us'.length = ks'.length := by
        have := du2.len
        rwa [List.length_map] at this
      have c128 : ks'.length ≤ 128 := by
        have : n * n ≤ 4 := Nat.mul_le_mul n2 n2
        exact Nat.le_trans hc (Nat.mul_le_mul (Nat.le_refl 8) (Nat.pow_le_pow_right (n := 2) (by decide) this))
      have fin : ∀ v : Bool, v = decide (ks'.filter (fun k => decide (k.2 < 0)) = []) → (v = true ↔ ∃ x, SatF ks x) := fun v hv => by
        rw [hv, ← it, fm_none hnil, decide_eq_true_eq, List.filter_eq_nil_iff]
        constructor
        · intro h p hp
          have := h p hp
          simp only [decide_eq_true_eq] at this
          omega
        · intro h p hp
          have := h p hp
          simp only [decide_eq_true_eq]
          omega
      have takeF : ∀ (i : Nat) (r : FRow), ks'[i]? = some r → (ks'.take (i + 1)).filter (fun k => decide (k.2 < 0)) = (ks'.take i).filter (fun k => decide (k.2 < 0)) ++ if r.2 < 0 then [r] else [] := fun i r hr0 => by
        rw [List.take_succ, hr0, List.filter_append]
        congr 1
        simp only [Option.toList, List.filter_cons, decide_eq_true_eq, List.filter_nil]
      refine ⟨_, rfl, l', rfl, ⟨_, hl2⟩, fun D hD => ?_⟩
      refine lc_it (walk_list (K := K) (a := l') (xs := us')) (fun i H2 => Same H' H2 ∧ H2 D = some (.lst ((((ks'.take i).filter (fun k => decide (k.2 < 0))).map Prod.snd).map V.int))) ⟨Same.new hD, upd_same⟩ (fun i H2 hi p => hl2.ext p.1) ?_ ?_
      · rintro i z H2 H2x hi ⟨s3, bD⟩ ⟨e2, hz⟩
        subst e2
        obtain ⟨d, hd, dq⟩ := (du2.same s3).get hz
        have hik : i < ks'.length := by omega
        rw [List.getElem?_map, List.getElem?_eq_getElem hik] at hd
        cases hd
        obtain ⟨a, t, rfl, h1, h2⟩ := pk_at dq
        have tk := takeF i _ (List.getElem?_eq_getElem hik)
        generalize ks'[i] = r at h1 h2 tk
        refine ⟨a, _, rfl, h1, rfl, _, _, rfl, _, _, rfl, rfl, ⟨rfl, ?_⟩⟩
        refine ⟨_, rfl, _, _, rfl, rfl, _, rfl, ?_⟩
        by_cases c : r.2 < 0
        · rw [decide_eq_true c]
          refine iteT ⟨_, rfl, _, bD, ?_, fun b' o e => ?_, ?_⟩
          · rw [List.length_map, List.length_map]
            exact Nat.lt_of_le_of_lt (Nat.le_trans (List.length_filter_le _ _) (by rw [List.length_take]; exact Nat.le_trans (Nat.min_le_right _ _) c128)) (by decide)
          · rw [upd_ne (ne_of_none e hD)]
            exact s3 _ _ e
          · rw [upd_same, tk, if_pos c, List.map_append, List.map_append]
            rfl
        · rw [decide_eq_false c]
          exact iteF ⟨s3, by rw [tk, if_neg c, List.append_nil]; exact bD⟩
      · rintro H2 ⟨s3, bD⟩
        rw [lu, List.take_length] at bD
        refine ⟨Nat.zero_le _, fun q1 h1 => ?_⟩
        have s4 := Same.new (o := .lst []) h1
        have dqi : ∀ ns : List Int, DpAll K (upd H2 q1 (.lst [])) (ns.map V.int) (ns.map .int) := fun ns => by
          induction ns with
          | nil => exact .nil
          | cons i ns ih => exact .cons (.int i) ih
        refine ⟨.list (((ks'.filter (fun k => decide (k.2 < 0))).map Prod.snd).map .int), .list [], .lst (SqL.of (s4 _ _ bD)) ?_, .lst (SqL.of upd_same) .nil, ?_, by decide +kernel, ?_⟩
        · exact dqi _
        · exact shapedHv _
        · refine q _ _ ((s2.trans s3).trans s4) (fin _ ?_)
          cases e : ks'.filter (fun k => decide (k.2 < 0)) with
          | nil => rfl
          | cons k ks => rfl
end
end Ca
set_option Elab.async false
set_option linter.all false
set_option maxRecDepth 100000
set_option maxHeartbeats 4000000
namespace Ca
open PySem PySem.Spec PyProof.Rows L2
/-! ### ==, != with [] and (), whatever is held -/
def rNilL (K : PySem.W.Frag) (neg : Bool) : R2 := fun x y H Q => ∃ a b xs, x = .ref a ∧ y = .ref b ∧ SqL K H a xs ∧ SqL K H b [] ∧ Q (.bl (if neg then !decide (xs = []) else decide (xs = []))) H
section
variable {X : Cx}
theorem vals_nil {us : List Value} (r : Vals [] us) : us = [] := by
  cases r
  rfl
theorem op_neNilL (hu : X.A.units < cLine) : OpR X (compareOp .NotEq) (rNilL X.K true) := by
  intro pins s σ H x y v u Q I rx ry h
  obtain ⟨a, b, xs, rfl, rfl, h1, h2, q⟩ := h
  cases rx
  cases ry
  obtain ⟨its, r, ⟨o, n, g1, g2, _, g3⟩, _⟩ := I.list h1
  obtain ⟨jts, r', ⟨o', n', k1, k2, _, k3⟩, _⟩ := I.list h2
  obtain rfl := vals_nil r'
  have ha : s.heap.IsList a its.toArray := ⟨o, g1, g2, n, g3⟩
  have hb : s.heap.IsList b ([] : List Value).toArray := ⟨o', k1, k2, n', k3⟩
  have l := r.length
  by_cases e : xs = []
  · subst e
    obtain rfl := vals_nil r
    exact SeqAt.RcNeAt.lists (A := X.A) (e := fun _ => true) ha hb rfl hu (fun j z _ => absurd z (Nat.not_lt_zero j)) X.prog X.w _ _ ⟨.bl _, H, I, rfl, q⟩
  · rw [decide_eq_false e] at q
    refine SeqAt.RcNeAt.lists_lengths (A := X.A) ha hb (bne_iff_ne.mpr fun z => e (List.eq_nil_of_length_eq_zero ?_)) hu X.prog X.w _ _ ⟨.bl _, H, I, rfl, q⟩
    rw [l]
    exact z
end
end Ca
set_option Elab.async false
set_option linter.all false
set_option maxRecDepth 100000
set_option maxHeartbeats 8000000
namespace Ca
open PySem L2
/-! ### whether there is a sure, or a possible answer, by the law -/
def spHas (K : PySem.W.Frag) : Sp := fun vs H Q _ => ∃ c u r l2, ∃ sure : Bool, ∃ (ns : List Str) (rs : List Rw) (us2 : List V) (more : List FRow), vs = [.ref c, .bl sure, .ref l2] ∧ H c = some (.lst [.ref u, .ref r]) ∧ Dq K H (.ref u) (folkD ns) ∧ Dq K H (.ref r) (rowsD rs) ∧ H l2 = some (.lst us2) ∧ DqAll K H us2 (more.map encD) ∧ (∀ k ∈ more, k.1.length = ns.length ∧ SmF 30 k) ∧
  (∀ r ∈ rs, isRowD (rowD r) ns.length = true) ∧ rs.length + ns.length + more.length ≤ 8 ∧ ns.length ≤ 2 ∧ ∀ H' v, Same H H' → (v = true ↔ ∃ x, OneV sure rs ns.length x ∧ SatF more x) → Q (.bl v) H'
abbrev NHa : List Str := ["_law_card_here", "_law_sure", "_law_more", "_law_many", "_law_s"]
section
variable {P : Program} {w : World} {K : PySem.W.Frag} {mg : Str → Option Value} {base : Heap}
theorem scHas : FnScope NHa ["_law_card_here", "_law_sure", "_law_more"] (defScope sLawHas) := ⟨rfl, rfl, rfl, by decide +kernel, rfl, by decide +kernel, by decide +kernel⟩
theorem ok_has {f fS fC fV : Addr} {fd fdS fdC fdV : FuncData} (F : FnT K "_law_has" sLawHas f fd) (mlen : mg "len" = none)
    (gS : mg "_law_signs" = some (.ref fS)) (GS : FnOk P w K mg base CX0 1 fS fdS ["_law_many"] (spLSg K)) (kS : PySem.W.keepIn K (.ref fS) = true) (bS : Binds K fdS ["_law_many"] [])
    (gC : mg "_law_case" = some (.ref fC)) (GC : FnOk P w K mg base CX0 1 fC fdC ["_law_card_here", "_law_signs_here", "_law_sure"] (spLCase K)) (kC : PySem.W.keepIn K (.ref fC) = true) (bC : Binds K fdC ["_law_card_here", "_law_signs_here", "_law_sure"] [])
    (gV : mg "_law_has_values" = some (.ref fV)) (GV : FnOk P w K mg base CX0 2 fV fdV ["_law_rows_here", "_law_many"] (spHasV K)) (kV : PySem.W.keepIn K (.ref fV) = true) (bV : Binds K fdV ["_law_rows_here", "_law_many"] []) :
    FnOk P w K mg base CX0 3 f fd ["_law_card_here", "_law_sure", "_law_more"] (spHas K) := by
  refine F.ok scHas (fun vs H Q E h => ?_) (fun cdv A outer s H vs Q E hr h => ?_)
  · obtain ⟨c, u, r, l2, sure, ns, rs, us2, more, rfl, _⟩ := h
    rfl
  · obtain ⟨c, u, r, l2, sure, ns, rs, us2, more, rfl, hc, du, dr, h2, d2, mo, hR, h8, m2, q⟩ := h
    have nd := scHas.nd
    have hr1 : Room 1 _ := hr.mono (by decide)
    refine ⟨_, PSs.nox (pss_cons (ps_set (i := 3) nd rfl (.inr rfl) (pe_callB (call_lenK K) (by rfl) mlen boot_len (pa_cons (pe_ix ix_list (pv 0) pe_int (fun _ _ => rfl)) pa_nil)))
      (pss_one (ps_ret (pe_cmpR (op_neNilL (Nat.lt_of_le_of_lt (Nat.le_add_right _ _) hr.units)) (pe_lc (own := [("_law_s", 4)]) (g := gName 4) rfl nd (pi_list (pe_call GS hr1 rfl gS kS bS .nil pass0 (pa_cons (pv 3) pa_nil)))
          (blkOk_by (own := [("_law_s", 4)]) (N := NHa) (sc := defScope sLawHas) (by decide +kernel))
          (fun _ _ _ _ _ => pg_name (i := 4) nd rfl (Or.inl rfl))
          (fun _ _ _ _ _ => pts_one (pt_val (pe_call GV hr rfl gV kV bV .nil pass0 (pa_cons (pe_op op_cat (pe_call GC hr1 rfl gC kC bC .nil pass0 (pa_cons (pv 0) (pa_cons (pv 4) (pa_cons (pv 1) pa_nil)))) (pv 2)) (pa_cons (pv 3) pa_nil)))))
          (fun _ _ _ _ _ => pv 4)) (pe_lst pa_nil) (nomark _))))), ?_⟩
    obtain ⟨u', us, e0, hus, _, ul⟩ := tup_len du
    cases e0
    rw [List.length_map] at ul
    generalize ns.length = m at *
    refine ⟨_, rfl, c, _, 0, _, rfl, rfl, SqL.of hc, atI_nat (j := 0) rfl, _, m, rfl, .inr ⟨_, hus, ul.symm⟩, ?_⟩
    refine ⟨_, rfl, m, rfl, by omega, fun H1 y vs s1 hy dvs => ⟨y, rfl, ⟨_, SqL.of hy⟩, fun D hD => ?_⟩⟩
    have lv : vs.length = (lsgL m).length := by
      have := dvs.len
      rwa [List.length_map] at this
    have l4 : (lsgL m).length ≤ 4 := by
      rw [lsg_len]
      exact Nat.pow_le_pow_right (n := 2) (by decide) m2
    have lm : more.length ≤ 8 := by omega
    have l2s : us2.length = more.length := by
      have := d2.len
      rwa [List.length_map] at this
    refine lc_it (walk_list (K := K) (a := y) (xs := vs)) (fun i H' => Same H1 H' ∧ ∃ ws, H' D = some (.lst ws) ∧ ws.length ≤ i ∧ (ws ≠ [] ↔ ∃ sg ∈ (lsgL m).take i, ∃ x, SatF (caseL sure sg rs ++ more) x)) ⟨Same.new hD, [], upd_same, Nat.le_refl _, by rw [List.take_zero]; exact ⟨fun z => absurd rfl z, fun ⟨_, z, _⟩ => nomatch z⟩⟩ (fun i H' hi p => SqL.of (p.1 _ _ hy)) ?_ ?_
    · rintro i z H2 H2x hi ⟨s2, ws, bD, lw, iw⟩ ⟨e2, hz⟩
      subst e2
      have hik : i < (lsgL m).length := by rw [← lv]; exact hi
      obtain ⟨d, hd, dq⟩ := (dvs.same s2).get hz
      rw [List.getElem?_map, List.getElem?_eq_getElem hik] at hd
      cases hd
      have so := (lsg_mem m _).mp (List.getElem_mem hik)
      have elt : (lsgL m).take (i + 1) = (lsgL m).take i ++ [(lsgL m)[i]] := by
        rw [List.take_succ, List.getElem?_eq_getElem hik]
        rfl
      generalize (lsgL m)[i] = sg at dq so elt
      have sl := so.len
      have s02 := s1.trans s2
      refine ⟨rfl, ?_⟩
      refine ⟨_, rfl, _, rfl, _, rfl, c, _, r, _, sure, sg, rs, m, rfl, s02 _ _ hc, dr.same s02, dq, so, hR, by omega, by omega, fun H3 y3 us3 s3 hy3 du3 => ?_⟩
      have l3 : us3.length = rs.length + m := by
        have := du3.len
        rw [List.length_map, case_len, sl] at this
        exact this
      refine ⟨_, rfl, y3, l2, us3, us2, rfl, rfl, hy3, s3 _ _ (s02 _ _ h2), Nat.le_trans (show us3.length + us2.length ≤ 100 by omega) (by decide), fun p hp => ?_⟩
      have s4 := Same.new (o := .lst (us3 ++ us2)) hp
      refine ⟨_, rfl, p, us3 ++ us2, caseL sure sg rs ++ more, m, 30, rfl, SqL.of upd_same, ?_, fun k hk => ?_, ?_, m2, fun k hk => ?_, by decide, fun H5 v s5 hv => ?_⟩
      · rw [List.map_append]
        exact (du3.same s4).app (d2.same ((s02.trans s3).trans s4))
      · rcases List.mem_append.mp hk with h | h
        · exact (case_sm so hR k h).1
        · exact (mo k h).1
      · rw [List.length_append, case_len, sl]
        omega
      · rcases List.mem_append.mp hk with h | h
        · obtain ⟨_, a1, a2⟩ := case_sm so hR k h
          have up : 2 ^ 14 ≤ 2 ^ 30 := Nat.pow_le_pow_right (by decide) (by decide)
          exact ⟨fun x hx => Nat.lt_of_lt_of_le (a1 x hx) up, Nat.lt_of_lt_of_le a2 up⟩
        · exact (mo k h).2
      have s25 := (s3.trans s4).trans s5
      have bD5 := s25 _ _ bD
      refine ⟨_, rfl, ?_⟩
      cases v
      · refine iteF ⟨s2.trans s25, ws, bD5, by omega, iw.trans ?_⟩
        have no : ¬ ∃ x, SatF (caseL sure sg rs ++ more) x := fun h => Bool.false_ne_true (hv.mpr h)
        rw [elt]
        constructor
        · rintro ⟨a, ha, h⟩
          exact ⟨a, List.mem_append_left _ ha, h⟩
        · rintro ⟨a, ha, h⟩
          rcases List.mem_append.mp ha with ha | ha
          · exact ⟨a, ha, h⟩
          · rw [List.mem_singleton.mp ha] at h
            exact (no h).elim
      · refine iteT ⟨_, rfl, ws, bD5, Nat.lt_of_le_of_lt (show ws.length ≤ 4 by omega) (by decide), fun b' o e => ?_, _, upd_same, by rw [List.length_append]; show ws.length + 1 ≤ i + 1; omega, ?_⟩
        · rw [upd_ne (ne_of_none e hD)]
          exact s25 _ _ (s2 _ _ e)
        · rw [elt]
          exact ⟨fun _ => ⟨sg, List.mem_append_right _ (List.mem_singleton.mpr rfl), hv.mp rfl⟩, fun _ z => absurd (List.append_eq_nil_iff.mp z).2 (List.cons_ne_nil _ _)⟩
    · rintro H2 ⟨s2, ws, bD, lw, iw⟩
      rw [lv, List.take_length] at iw
      refine ⟨Nat.zero_le _, fun q1 h1 => ?_⟩
      have s3 := Same.new (o := .lst []) h1
      refine ⟨D, q1, ws, rfl, rfl, SqL.of (s3 _ _ bD), SqL.of upd_same, q _ _ ((s1.trans s2).trans s3) ?_⟩
      show (!decide (ws = [])) = true ↔ _
      rw [← has_iff hR, ← iw]
      by_cases z : ws = []
      · simp [z]
      · simp [z]
end
end Ca
set_option Elab.async false
set_option linter.all false
set_option maxRecDepth 100000
set_option maxHeartbeats 8000000
namespace Ca
open PySem L2
/-! ### a system with bounds lowered -/
def lowR (by' : Int) (r : Rw) : Rw := ⟨r.name, r.parts, (r.bd.1 - by', r.bd.2 - by')⟩
theorem lines_low {rs : List Rw} {m : Nat} (h : Lines rs m) {n : Int} (n0 : 0 ≤ n) (n1 : n ≤ 1000) (hb : ∀ r ∈ rs, -2000 ≤ r.bd.1 ∧ r.bd.2 ≤ 8001) : Lines (rs.map (lowR n)) m := by
  refine ⟨by rw [List.length_map]; exact h.hi, fun r hr => ?_, ?_⟩
  · obtain ⟨r0, h0, rfl⟩ := List.mem_map.mp hr
    have ok := h.ok r0 h0
    obtain ⟨b1, b2⟩ := hb r0 h0
    have RP := rowS_pairs ok
    have bb := RP r0.bd (List.mem_append_right _ (List.mem_singleton.mpr rfl))
    have rn := row_name ok
    refine row_ok rn.1 rn.2 fun p hp => ?_
    rcases List.mem_append.mp hp with hp | hp
    · have := RP p (List.mem_append_left _ hp)
      exact two_ok this.1 this.2.1 this.2.2
    · rw [List.mem_singleton.mp hp]
      exact two_ok (show -10000 ≤ r0.bd.1 - n by omega) (show r0.bd.1 - n ≤ r0.bd.2 - n by omega) (show r0.bd.2 - n ≤ 10000 by omega)
  · have e : (rs.map (lowR n)).map Rw.name = rs.map Rw.name := by
      rw [List.map_map]
      rfl
    rw [e]
    exact h.nd
def spHard (K : PySem.W.Frag) : Sp := fun vs H Q _ => ∃ (l c u r : Addr) (ns : List Str) (rs : List Rw) (m : Nat), vs = [.ref l, .ref c] ∧ Urn H l ∧ c ≠ l ∧ H c = some (.lst [.ref u, .ref r]) ∧ Dq K H (.ref u) (folkD ns) ∧ Dq K H (.ref r) (rowsD rs) ∧ Lines rs m ∧ (∀ r ∈ rs, -2000 ≤ r.bd.1 ∧ r.bd.2 ≤ 8001) ∧
  ∀ H' c' u' r' n, Kept l H H' → Urn H' l → c' ≠ l → H' c' = some (.lst [.ref u', .ref r']) → Dq K H' (.ref u') (folkD ns) → Dq K H' (.ref r') (rowsD (rs.map (lowR n))) → Lines (rs.map (lowR n)) m → Q (.ref c') H'
abbrev NHd : List Str := ["_law_purse_here", "_law_card_here", "_law_by", "_law_rows_here", "_law_word", "_law_numbers_here", "_law_pair"]
section
variable {P : Program} {w : World} {K : PySem.W.Frag} {mg : Str → Option Value} {base : Heap}
theorem scHard : FnScope NHd ["_law_purse_here", "_law_card_here"] (defScope sLawHard) := ⟨rfl, rfl, rfl, by decide +kernel, rfl, by decide +kernel, by decide +kernel⟩
theorem ok_hard {f fD : Addr} {fd fdD : FuncData} (F : FnT K "_law_hard" sLawHard f fd) (mtup : mg "tuple" = none)
    (gD : mg "_law_draw" = some (.ref fD)) (GD : FnOk P w K mg base CX0 1 fD fdD ["_law_purse_here", "_law_size"] spDip) (kD : PySem.W.keepIn K (.ref fD) = true) (bD : Binds K fdD ["_law_purse_here", "_law_size"] []) :
    FnOk P w K mg base CX0 2 f fd ["_law_purse_here", "_law_card_here"] (spHard K) := by
  refine F.ok scHard (fun vs H Q E h => ?_) (fun cdv A outer s H vs Q E hr h => ?_)
  · obtain ⟨l, c, u, r, ns, rs, m, rfl, _⟩ := h
    rfl
  · obtain ⟨l, c, u, r, ns, rs, m, rfl, hU, ncl, hc, du, dr, hL, hb, q⟩ := h
    have nd := scHard.nd
    refine ⟨_, PSs.nox (pss_cons (ps_set (i := 2) nd rfl (.inr rfl) (pe_call GD hr rfl gD kD bD .nil pass0 (pa_cons (pv 0) (pa_cons pe_int pa_nil))))
      (pss_cons (ps_set (i := 3) nd rfl (.inl rfl) (pe_callTy call_tuple_of (by rfl) mtup (by decide +kernel) (pa_cons (pe_lc (own := [("_law_word", 4), ("_law_numbers_here", 5), ("_law_pair", 6)]) (g := gTup K 3 (gCons (gName 4) (gCons (gName 5) (gCons (gName 6) gNil)))) (tt := tYes) rfl nd (pi_tup (pe_ix ix_list (pv 1) pe_int (fun _ _ => rfl)))
          (blkOk_by (own := [("_law_word", 4), ("_law_numbers_here", 5), ("_law_pair", 6)]) (N := NHd) (sc := defScope sLawHard) (by decide +kernel))
          (fun _ _ _ _ _ => pgT K rfl (pgs_cons (pg_name (i := 4) nd rfl (Or.inl rfl)) (pgs_cons (pg_name (i := 5) nd rfl (Or.inl rfl)) (pgs_cons (pg_name (i := 6) nd rfl (Or.inl rfl)) pgs_nil)))) (fun _ _ _ _ _ => pts_nil)
          (fun _ _ _ _ _ => pe_tup (pa_cons (pv 4) (pa_cons (pv 5) (pa_cons (pe_tup (pa_cons (pe_op op_sub (pe_ix (ixT K) (pv 6) pe_int (fun _ _ => rfl)) (pv 2)) (pa_cons (pe_op op_sub (pe_ix (ixT K) (pv 6) pe_int (fun _ _ => rfl)) (pv 2)) pa_nil))) pa_nil))))) pa_nil)))
      (pss_one (ps_ret (pe_lst (pa_cons (pe_ix ix_list (pv 1) pe_int (fun _ _ => rfl)) (pa_cons (pv 3) pa_nil))))))), ?_⟩
    obtain ⟨zs, hzs⟩ := urn_lst hU
    refine ⟨_, rfl, l, 30, rfl, hU, by decide, by decide, fun H1 n k1 v1 n0 n1 => ?_⟩
    have hc1 := k1 _ _ ncl hc
    have du1 : Dq K H1 (.ref u) (folkD ns) := Dq.but hzs k1 (show noL (.tuple (ns.map .str)) = true from noLs_map PyData.str (fun _ => rfl) ns) du
    have dr1 : Dq K H1 (.ref r) (rowsD rs) := Dq.but hzs k1 (show noL (.tuple (rs.map rowD)) = true from noLs_map rowD noL_row rs) dr
    obtain ⟨r', xs, e0, hx, dx, hxl⟩ := tup_len dr1
    cases e0
    rw [List.length_map] at hxl
    have h6 := hL.hi
    obtain ⟨ul, hul⟩ := urn_lst v1
    refine ⟨_, rfl, c, _, 1, _, rfl, rfl, SqL.of hc1, atI_nat (j := 1) rfl, r, rfl, ⟨_, hx⟩, fun D hD => ?_⟩
    refine lc_it (walk_tup (K := K) (a := r) (xs := xs)) (fun k H' => Same H1 H' ∧ ∃ vs, H' D = some (.lst vs) ∧ vs.length = k ∧ DqAll K H' vs (((rs.take k).map (lowR n)).map rowD)) ⟨Same.new hD, [], upd_same, rfl, .nil⟩ (fun k H' hk y => same_sqt y.1 hx) ?_ ?_
    · rintro k z H2 H2x hk ⟨s2, vs, bD, lv, dvs⟩ ⟨e2, hz⟩
      subst e2
      have hk' : k < rs.length := by omega
      have dR := rows_get (dx.same s2) hk' hz
      obtain ⟨ra, v2, v3, rfl, hra, dv2, dv3, nm1⟩ := row_at dR
      obtain ⟨ba, rfl, hba⟩ := fr_at (f := rs[k].bd) dv3
      have takek : (rs.take (k + 1)).map (lowR n) = (rs.take k).map (lowR n) ++ [lowR n rs[k]] := by
        rw [List.take_succ, List.getElem?_eq_getElem hk', List.map_append]
        rfl
      have nn := (row_name (hL.ok _ (List.getElem_mem hk'))).1
      generalize rs[k] = rk at *
      refine ⟨ra, _, rfl, hra, rfl, _, _, rfl, _, _, rfl, _, _, rfl, rfl, ⟨rfl, rdYes ?_⟩⟩
      refine ⟨_, rfl, _, rfl, _, rfl, ba, _, 0, _, rfl, rfl, hba, atI_nat (j := 0) rfl, _, rfl, _, _, rfl, rfl, _, rfl, ba, _, 1, _, rfl, rfl, hba, atI_nat (j := 1) rfl, _, rfl, _, _, rfl, rfl, Nat.le_of_ble_eq_true rfl, fun g hg => ⟨Nat.le_of_ble_eq_true rfl, fun y hy => ?_⟩⟩
      have s3 := Same.new (o := .tup [.int (rk.bd.1 - n), .int (rk.bd.2 - n)]) hg
      have s4 := Same.new (o := .tup [.str rk.name, v2, .ref g]) hy
      have s34 := s3.trans s4
      have bD4 := s34 _ _ bD
      have kD : ∀ (G : Hp) (ws : List V), Kept D G (upd G D (.lst ws)) := fun G ws b o nb e => by rw [upd_ne nb]; exact e
      refine ⟨vs, bD4, Nat.lt_of_lt_of_le (show vs.length < 10 by omega) (by decide), fun b' o e => ?_, vs ++ [.ref y], upd_same, by rw [List.length_append, lv]; rfl, ?_⟩
      · rw [upd_ne (ne_of_none e hD)]
        exact s34 _ _ (s2 _ _ e)
      · rw [takek, List.map_append]
        refine (DqAll.but bD4 (kD _ _) (noLs_map rowD noL_row _) (dvs.same s34)).app (.cons (Dq.but bD4 (kD _ _) (noL_row _) ?_) .nil)
        exact .tup (SqT.of upd_same) (.cons (.str _ nm1) (.cons (dv2.same s34) (.cons ((show Dq K _ (.ref g) (strD (lowR n rk).bd) from strD_at upd_same).same s4) .nil)))
    · rintro H2 ⟨s2, vs, bD, lv, dvs⟩
      rw [hxl, List.take_length] at dvs
      refine ⟨D, _, rfl, .inl ⟨SqL.of bD, fun r2 hr2 => ?_⟩⟩
      have s3 := Same.new (o := .tup vs) hr2
      have s23 := s2.trans s3
      refine ⟨_, rfl, c, _, 0, _, rfl, rfl, SqL.of (s23 _ _ hc1), atI_nat (j := 0) rfl, _, rfl, Nat.le_of_ble_eq_true rfl, fun c2 hc2 => ?_⟩
      have s4 := Same.new (o := .lst [.ref u, .ref r2]) hc2
      have s34 := s3.trans s4
      have s24 := s23.trans s4
      have nl : c2 ≠ l := (ne_of_none (s23 _ _ hul) hc2).symm
      exact q _ c2 u r2 n (k1.trans s24.kept) (v1.same s24) nl upd_same (du1.same s24) (.tup (same_sqt s4 (SqT.of upd_same)) (dvs.same s34)) (lines_low hL n0 (by omega) hb)
end
end Ca
set_option Elab.async false
set_option linter.all false
set_option maxRecDepth 100000
set_option maxHeartbeats 4000000
namespace Ca
open PySem L2
/-! ### repr of data of wide numbers -/
mutual
def wideD : PyData → Bool
  | .none | .bool _ => true
  | .int i => decide (i.natAbs < 2 ^ 900)
  | .list ds | .tuple ds => wideDs ds
  | .str _ | .dict _ => false
def wideDs : List PyData → Bool
  | [] => true
  | d :: ds => wideD d && wideDs ds
end
mutual
def cntD : PyData → Nat
  | .list ds | .tuple ds => cntDs ds + 1
  | _ => 1
def cntDs : List PyData → Nat
  | [] => 0
  | d :: ds => cntD d + cntDs ds
end
theorem wid_log {i : Int} (h : i.natAbs < 2 ^ 900) : i.natAbs.log2 < 900 := by
  by_cases z : i.natAbs = 0
  · rw [z]
    decide
  · exact (Nat.log2_lt z).mpr h
mutual
theorem wide_of : ∀ d : PyData, wideD d = true → d.showable = true ∧ d.intsShort 272 = true ∧ d.canLay0 = true ∧ d.hasDict = false ∧ d.bulk + 1 ≤ cntD d
  | .none, _ => ⟨by simp only [PyData.showable], by simp only [PyData.intsShort], by simp only [PyData.canLay0], by simp only [PyData.hasDict], by simp only [PyData.bulk, cntD]; exact Nat.le_refl _⟩
  | .bool b, _ => ⟨by simp only [PyData.showable], by simp only [PyData.intsShort], by simp only [PyData.canLay0], by simp only [PyData.hasDict], by simp only [PyData.bulk, cntD]; exact Nat.le_refl _⟩
  | .int i, h => by
    simp only [wideD] at h
    have h' := of_decide_eq_true h
    have l := wid_log h'
    refine ⟨?_, ?_, by simp only [PyData.canLay0], by simp only [PyData.hasDict], ?_⟩
    · simp only [PyData.showable]
      exact decide_eq_true (by omega)
    · simp only [PyData.intsShort, PyData.shown]
      refine decide_eq_true ?_
      rw [PySem.ofString_length]
      exact PySem.int_text_length_le10 (a := i) (k := 271) (by decide) (Nat.lt_of_lt_of_le h' (by decide +kernel))
    · simp only [PyData.bulk, cntD]
      exact Nat.le_refl _
  | .str x, h => by simp only [wideD] at h; cases h
  | .dict x, h => by simp only [wideD] at h; cases h
  | .list ds, h => by
    simp only [wideD] at h
    obtain ⟨a, b, c, e, f⟩ := wide_ofs ds h
    refine ⟨by simp only [PyData.showable]; exact a, by simp only [PyData.intsShort]; exact b, by simp only [PyData.canLay0]; exact c, by simp only [PyData.hasDict]; exact e, ?_⟩
    simp only [PyData.bulk, cntD]
    omega
  | .tuple ds, h => by
    simp only [wideD] at h
    obtain ⟨a, b, c, e, f⟩ := wide_ofs ds h
    refine ⟨by simp only [PyData.showable]; exact a, by simp only [PyData.intsShort]; exact b, by simp only [PyData.canLay0]; exact c, by simp only [PyData.hasDict]; exact e, ?_⟩
    simp only [PyData.bulk, cntD]
    omega
theorem wide_ofs : ∀ ds : List PyData, wideDs ds = true → PyData.showableAll ds = true ∧ PyData.intsShortAll 272 ds = true ∧ PyData.canLayAll0 ds = true ∧ PyData.hasDictAll ds = false ∧ PyData.bulkAll ds ≤ cntDs ds
  | [], _ => ⟨by simp only [PyData.showableAll], by simp only [PyData.intsShortAll], by simp only [PyData.canLayAll0], by simp only [PyData.hasDictAll], by simp only [PyData.bulkAll, cntDs]; exact Nat.le_refl _⟩
  | d :: ds, h => by
    simp only [wideDs, Bool.and_eq_true] at h
    obtain ⟨a, b, c, e, f⟩ := wide_of d h.1
    obtain ⟨a', b', c', e', f'⟩ := wide_ofs ds h.2
    refine ⟨by simp only [PyData.showableAll, a, a', Bool.and_self], by simp only [PyData.intsShortAll, b, b', Bool.and_self], by simp only [PyData.canLayAll0, c, c', Bool.and_self], by simp only [PyData.hasDictAll, e, e', Bool.or_self], ?_⟩
    simp only [PyData.bulkAll, cntDs]
    have : 1 ≤ cntD d := by
      cases d <;> simp only [cntD] <;> omega
    omega
end
/-- data of wide numbers, not too many, can be shown -/
theorem good_wide {K : PySem.W.Frag} {H : Hp} {v : V} {d : PyData} (h : Dq K H v d) (hw : wideD d = true) (hc : cntD d ≤ 300) (hd : d.depth ≤ 10) : Good K H v d := by
  obtain ⟨a, b, c, e, f⟩ := wide_of d hw
  have sz := PyData.shown_le_bulk 272 (by decide) d (PyData.leavesShort_of_canLay0 272 _ c b)
  refine ⟨.dat (dp_of e h) (Bool.and_eq_true_iff.mpr ⟨c, decide_eq_true (by omega)⟩), a, by omega, Nat.le_trans sz ?_⟩
  have : (272 + 2) * d.bulk ≤ 274 * 300 := Nat.mul_le_mul (Nat.le_refl _) (by omega)
  exact Nat.le_trans (Nat.add_le_add_right this 272) (by decide)
theorem fr_wide {f : Int × Int} (h1 : f.1.natAbs < 2 ^ 900) (h2 : f.2.natAbs < 2 ^ 900) : wideD (frD f) = true ∧ cntD (frD f) = 3 ∧ (frD f).depth = 1 := by
  unfold frD
  simp only [wideD, wideDs, cntD, cntDs, PyData.depth, PyData.depthAll]
  exact ⟨by rw [decide_eq_true h1, decide_eq_true h2]; rfl, by trivial, by trivial⟩
theorem frs_wide : ∀ {fs : List (Int × Int)}, (∀ f ∈ fs, f.1.natAbs < 2 ^ 900 ∧ f.2.natAbs < 2 ^ 900) → wideDs (fs.map frD) = true ∧ cntDs (fs.map frD) = 3 * fs.length ∧ PyData.depthAll (fs.map frD) ≤ 1
  | [], _ => ⟨by simp only [List.map_nil, wideDs], by simp only [List.map_nil, cntDs]; rfl, by simp only [List.map_nil, PyData.depthAll]; exact Nat.zero_le _⟩
  | f :: fs, h => by
    obtain ⟨a, b, c⟩ := frs_wide (fs := fs) fun g hg => h g (List.mem_cons_of_mem _ hg)
    obtain ⟨x, y⟩ := h f List.mem_cons_self
    obtain ⟨a', b', c'⟩ := fr_wide x y
    refine ⟨by simp only [List.map_cons, wideDs, a, a', Bool.and_self], by simp only [List.map_cons, cntDs, b, b', List.length_cons]; omega, by simp only [List.map_cons, PyData.depthAll, c']; omega⟩
theorem good_frs {K : PySem.W.Frag} {H : Hp} {v : V} {fs : List (Int × Int)} (h : Dq K H v (frsD fs)) (hw : ∀ f ∈ fs, f.1.natAbs < 2 ^ 900 ∧ f.2.natAbs < 2 ^ 900) (hl : fs.length ≤ 90) : Good K H v (frsD fs) := by
  obtain ⟨a, b, c⟩ := frs_wide hw
  refine good_wide h ?_ ?_ ?_
  · show wideD (.tuple _) = true
    simp only [wideD]
    exact a
  · show cntD (.tuple _) ≤ 300
    simp only [cntD]
    omega
  · show PyData.depth (.tuple _) ≤ 10
    simp only [PyData.depth]
    omega
theorem good_none {K : PySem.W.Frag} {H : Hp} : Good K H .non .none := good_wide (.non) (by simp only [wideD]) (by simp only [cntD]; omega) (by simp only [PyData.depth]; omega)
end Ca
set_option Elab.async false
set_option linter.all false
set_option maxRecDepth 100000
set_option maxHeartbeats 4000000
namespace Ca
open PySem L2
/-! ### a wrong row, a wrong unknown in the midst -/
end Ca
set_option Elab.async false
set_option linter.all false
set_option maxRecDepth 100000
set_option maxHeartbeats 4000000
namespace Ca
open PySem L2
section
variable {P : Program} {w : World} {K : PySem.W.Frag} {mg : Str → Option Value} {base : Heap} {C fI : Addr} {fdI : FuncData}
end
end Ca
set_option Elab.async false
set_option linter.all false
set_option maxRecDepth 100000
set_option maxHeartbeats 4000000
namespace Ca
open PySem L2
section
variable {P : Program} {w : World} {K : PySem.W.Frag} {mg : Str → Option Value} {base : Heap} {C CI CU CR fI fII : Addr} {fdI fdII : FuncData}
end
end Ca
set_option Elab.async false
set_option linter.all false
set_option maxRecDepth 100000
set_option maxHeartbeats 4000000
namespace Ca
open PySem L2
/-! ### calls by keyword alone -/
section
variable {X : Cx} {k : Nat} {f C : Addr} {fd : FuncData} {ps ks : List Str} {sp : Sp} {x : Str} {p pos : Pos} {kws : List Keyword} {tk : TA} {g : List Value → List Value → List Value} {gV : List V → List V → List V}
/-- f(k = v, ..) -/
theorem pe_callK0 (F : FnOk X.prog X.w X.K X.mg X.base CX0 k f fd ps sp) (hr : Room k X.A) (hg : Gl X x) (hm : X.mg x = some (.ref f)) (hk : PySem.W.keepIn X.K (.ref f) = true) (hb : KBn X.K fd ps 0 ks g gV) (hkw : PK X kws tk)
    (hall : (backToKw pos (keywordEach kws X.env)).all (·.1.isSome) = true := by rfl) (hks : (backToKw pos (keywordEach kws X.env)).filterMap (·.1) = ks := by rfl) (hdb : (x == ("__debug__" : Str)) = false := by decide)
    (hpl : ((backTo pos (starEach [] X.env)).any (·.1) || (backToKw pos (keywordEach kws X.env)).any (·.1.isNone)) = false := by rfl) :
    PE X (.Call (.Name x p) [] kws pos) (tCallN 0 ks.length sp gV E0 tNil tk) := by
  refine ⟨fun pins s σ H Q I h => ?_⟩
  refine wpAny_Call_Name_kw (ld_glob I hg hm ?_ hdb)
  refine PySem.W.callWith_KW0 (h₀ := X.base) I.ok.mod.kin hk hall (thn (hkw.run pos pins s σ H _ I h) fun ws s1 ⟨zs, H1, I1, r, l1, l2, q⟩ => ?_) hpl
  rw [hks]
  exact ⟨I1.kIn, run_fnN F hr hb pass0 I1 .nil r l1 l2 q⟩
end
end Ca
set_option Elab.async false
set_option linter.all false
set_option maxRecDepth 100000
set_option maxHeartbeats 8000000
namespace Ca
open PySem L2
theorem zeros_cs2 (cs : List Int) : cs2 (zerosOf cs) = zerosOf (cs2 cs) := by
  unfold cs2 zerosOf
  rw [List.map_replicate, List.length_append, List.length_map, show ((-0 : Int)) = 0 from rfl, List.replicate_append_replicate]
theorem amt_small0 {ls : List (List Int × Int)} {cs : List Int} {t : Tb} {n : Nat} (st : StOf ls cs t) (L : Low ls.length n (VOf ls cs)) (hn : cs.length = n) {q : Nat} {p : Int × Int} (h : AmtOf n t ls.length q p) : FrOk 1000 p := by
  subst hn
  obtain ⟨S, rp, so, _⟩ := st
  obtain ⟨LD, LT⟩ := L S so
  rcases h with ⟨l, hl, _, rd⟩ | ⟨_, rfl⟩
  · obtain ⟨l1, l2⟩ := rd.le
    rw [rp.D] at l2
    rw [rp.T l _ (Nat.le_of_lt hl) (Nat.le_refl _)] at l1
    exact ⟨rd.pos, Nat.lt_of_le_of_lt l1 (LT l _ (Nat.le_of_lt hl) (Nat.le_refl _)), Nat.lt_of_le_of_lt l2 LD⟩
  · exact ⟨by show (0 : Int) < 1; decide, Nat.pow_pos (by decide), Nat.one_lt_two_pow (by decide)⟩
theorem amt_small {ls : List (List Int × Int)} {cs : List Int} {t : Tb} (st : StOf ls cs t) (L : Low ls.length cs.length (VOf ls cs)) {q : Nat} {p : Int × Int} (h : AmtOf cs.length t ls.length q p) : FrOk 1000 p := amt_small0 st L rfl h
/-! ### cheapest_sure, of rows in a tuple and costs in a list -/
def spSure (K : PySem.W.Frag) (d : Nat) : Sp := fun vs H Q _ => ∃ (x : V) (c : Addr) (rs : List Rw) (cs : List Int), vs = [x, .ref c] ∧ Dq K H x (rowsD rs) ∧ IntsAt H c cs ∧ (∀ r ∈ rs, isRowD (rowD r) cs.length = true) ∧ rs.length ≤ 8 ∧ 1 ≤ cs.length ∧ cs.length ≤ 3 ∧ (∀ c ∈ cs, c.natAbs ≤ 2 ^ 20) ∧ d ≠ 0 ∧ (d = 1 → cs = zerosOf cs) ∧
  ∀ H' y a w, Same H H' → SqT K H' y [a, w] → SureT K H' rs cs a w → Q (.ref y) H'
abbrev NCs : List Str := ["rows", "costs", "limits", "parts", "weights", "many", "answer", "row", "cost", "at"]
section
variable {P : Program} {w : World} {K : PySem.W.Frag} {mg : Str → Option Value} {base : Heap}
theorem scCs : FnScope NCs ["rows", "costs"] (defScope sCheapestSure) := ⟨rfl, rfl, rfl, by decide +kernel, rfl, by decide +kernel, by decide +kernel⟩
theorem ok_cheapSure {d : Nat} {f fL fC fM : Addr} {fd fdL fdC fdM : FuncData} (F : FnT K "cheapest_sure" sCheapestSure f fd) (mlst : mg "list" = none) (mtup : mg "tuple" = none) (mlen : mg "len" = none) (mrng : mg "range" = none)
    (gL : mg "sure_limit" = some (.ref fL)) (GL : FnOk P w K mg base CX0 1 fL fdL ["row"] (spSureLim K)) (kL : PySem.W.keepIn K (.ref fL) = true) (bL : Binds K fdL ["row"] [])
    (gC : mg "cheapest_amounts" = some (.ref fC)) (GC : FnOk P w K mg base CX0 6 fC fdC ["limits", "costs"] (spCheap K d)) (kC : PySem.W.keepIn K (.ref fC) = true) (bC : Binds K fdC ["limits", "costs"] [])
    (gM : mg "minus" = some (.ref fM)) (GM : FnOk P w K mg base CX0 3 fM fdM ["one", "other"] (spMinus K)) (kM : PySem.W.keepIn K (.ref fM) = true) (bM : Binds K fdM ["one", "other"] []) :
    FnOk P w K mg base CX0 7 f fd ["rows", "costs"] (spSure K d) := by
  refine F.ok scCs (fun vs H Q E h => ?_) (fun cdv A outer s H vs Q E hr h => ?_)
  · obtain ⟨x, c, rs, cs, rfl, _⟩ := h
    rfl
  · obtain ⟨x, c, rs, cs, rfl, dx, hc, hR, h8, m1, m3, hb, d0, d1, q⟩ := h
    have nd := scCs.nd
    have hr1 : Room 1 _ := hr.mono (by decide)
    have hr3 : Room 3 _ := hr.mono (by decide)
    refine ⟨_, PSs.nox (pss_cons (ps_cut (ps_setLc (i := 2) (own := [("row", 7)]) (g := gName 7) (tt := tYes) rfl nd rfl rfl (sw_true rfl rfl rfl (by decide +kernel)) (pi_tup (pv 0))
          (blkOk_by (own := [("row", 7)]) (N := NCs) (sc := defScope sCheapestSure) (by decide +kernel)) (fun _ _ _ _ _ => pg_name (i := 7) nd rfl (Or.inl rfl)) (fun _ _ _ _ _ => pts_nil)
          (fun _ _ _ _ _ => pe_call GL hr1 rfl gL kL bL .nil pass0 (pa_cons (pv 7) pa_nil))))
      (pss_cons (ps_cut (ps_asg (pe_call GC hr rfl gC kC bC .nil pass0 (pa_cons (pv 2) (pa_cons (pe_op op_cat (pe_callTy call_list_of (by rfl) mlst (by decide +kernel) (pa_cons (pv 1) pa_nil))
            (pe_lc (own := [("cost", 8)]) (g := gName 8) (tt := tYes) rfl nd (pi_list (pv 1)) (blkOk_by (own := [("cost", 8)]) (N := NCs) (sc := defScope sCheapestSure) (by decide +kernel)) (fun _ _ _ _ _ => pg_name (i := 8) nd rfl (Or.inl rfl)) (fun _ _ _ _ _ => pts_nil)
              (fun _ _ _ _ _ => pe_un un_neg (pv 8)))) pa_nil)))
          (pgTt K rfl (pgs_cons (pg_name (i := 3) nd rfl (.inr rfl)) (pgs_cons (pg_name (i := 4) nd rfl (.inl rfl)) pgs_nil)))))
      (pss_cons (ps_cut (ps_if (pt_cmpR op_isN (pv 3) pe_non (nomark _)) (pss_one (ps_ret (pe_tup (pa_cons pe_non (pa_cons (pe_callTy call_tuple_of (by rfl) mtup (by decide +kernel) (pa_cons (pv 4) pa_nil)) pa_nil))))) pss_nil))
      (pss_cons (ps_set (i := 5) nd rfl (.inr rfl) (pe_callB (call_len) (by rfl) mlen boot_len (pa_cons (pv 1) pa_nil)))
      (pss_cons (ps_cut (ps_set (i := 6) nd rfl (.inl rfl) (pe_callTy call_tuple_of (by rfl) mtup (by decide +kernel) (pa_cons (pe_lc (own := [("at", 9)]) (g := gName 9) (tt := tYes) rfl nd (pi_range1 rfl mrng (pa_cons (pv 5) pa_nil))
            (blkOk_by (own := [("at", 9)]) (N := NCs) (sc := defScope sCheapestSure) (by decide +kernel)) (fun _ _ _ _ _ => pg_name (i := 9) nd rfl (Or.inl rfl)) (fun _ _ _ _ _ => pts_nil)
            (fun _ _ _ _ _ => pe_call GM hr3 rfl gM kM bM .nil pass0 (pa_cons (pe_ix (ixLt K) (pv 3) (pv 9) (fun _ _ => rfl)) (pa_cons (pe_ix (ixLt K) (pv 3) (pe_op op_add (pv 9) (pv 5)) (fun _ _ => rfl)) pa_nil)))) pa_nil))))
      (pss_one (ps_ret (pe_tup (pa_cons (pv 6) (pa_cons (pe_ifExp (pt_cmpR op_isN (pv 4) pe_non (nomark _)) pe_non (pe_callTy call_tuple_of (by rfl) mtup (by decide +kernel) (pa_cons (pv 4) pa_nil))) pa_nil)))))))))), ?_⟩
    obtain ⟨xa, xs, rfl, hx, dxs, hxl⟩ := tup_len dx
    rw [List.length_map] at hxl
    refine ⟨fun σ' H' => ∃ p, σ' = [some (.ref xa), some (.ref c), some (.ref p), none, none, none, none, none, none, none] ∧ Same H H' ∧ LimsAt K H' p (rs.map sureL), ?_, ?_⟩
    · refine ⟨_, rfl, xa, rfl, ⟨_, hx⟩, fun D hD => ?_⟩
      refine lc_it (walk_tup (K := K) (a := xa) (xs := xs)) (fun k H' => Same H H' ∧ ∃ ps : List Addr, H' D = some (.lst (ps.map V.ref)) ∧ ps.length = k ∧ ∀ (i : Nat) (p : Addr) (l : List Int × Int), ps[i]? = some p → (rs.map sureL)[i]? = some l → ∃ q, SqT K H' p [.ref q, .int l.2] ∧ IntsAt H' q l.1)
        ⟨Same.new hD, [], upd_same, rfl, fun i p l h => nomatch (List.getElem?_nil.symm.trans h : (none : Option Addr) = some p)⟩ (fun k H' hk p => same_sqt p.1 hx) ?_ ?_
      · rintro k z H2 H2x hk ⟨s2, ps, bD, lps, ok⟩ ⟨e2, hz⟩
        subst e2
        have hkr : k < rs.length := by omega
        obtain ⟨d', hd, dq⟩ := (dxs.same s2).get hz
        rw [List.getElem?_map, List.getElem?_eq_getElem hkr] at hd
        cases hd
        refine ⟨rfl, rdYes ⟨_, rfl, z, rs[k], cs.length, rfl, dq, hR _ (List.getElem_mem hkr), m3, fun H3 y p s3 hy hp => ?_⟩⟩
        have bD3 := s3 _ _ bD
        have kn : KeptN D H3 (upd H3 D (.lst (ps.map V.ref ++ [.ref y]))) := fun b o ne e _ => by rw [upd_ne ne]; exact e
        have iup : ∀ {q : Addr} {r : Rw}, isRowD (rowD r) cs.length = true → IntsAt H3 q (sureL r).1 → IntsAt (upd H3 D (.lst (ps.map V.ref ++ [.ref y]))) q (sureL r).1 := fun {q r} hr' h => by
          have ne : q ≠ D := fun e => by
            subst e
            have e1 := h.symm.trans bD3
            injection e1 with e1
            injection e1 with e1
            have lp := (row_name hr').2
            have hne : (sureL r).1 ≠ [] := fun z => by
              have := congrArg List.length z
              rw [show (sureL r).1 = r.parts.map (·.2) ++ r.parts.map fun p => -p.1 from rfl, List.length_append, List.length_map, List.length_map, List.length_nil] at this
              omega
            cases hs : (sureL r).1 with
            | nil => exact hne hs
            | cons i t =>
              rw [hs] at e1
              cases ps with
              | nil => cases e1
              | cons a b => cases e1
          show upd _ _ _ _ = _
          rw [upd_ne ne]
          exact h
        refine ⟨_, bD3, ?_, fun b' o e => ?_, ps ++ [y], ?_, by rw [List.length_append, lps]; rfl, fun i p' l' h1 h2 => ?_⟩
        · rw [List.length_map, lps]
          exact Nat.lt_of_lt_of_le (show k < 10 by omega) (by decide)
        · rw [upd_ne (ne_of_none e hD)]
          exact s3 _ _ (s2 _ _ e)
        · rw [upd_same, List.map_append]
          rfl
        · have il : i < rs.length := by
            have := (List.getElem?_eq_some_iff.mp h2).1
            rwa [List.length_map] at this
          rw [List.getElem?_map, List.getElem?_eq_getElem il] at h2
          cases h2
          have hri := hR _ (List.getElem_mem il)
          by_cases hi : i < ps.length
          · rw [List.getElem?_append_left hi] at h1
            obtain ⟨q', g1, g2⟩ := ok i p' (sureL rs[i]) h1 (by rw [List.getElem?_map, List.getElem?_eq_getElem il]; rfl)
            exact ⟨q', sqt_butN bD3 kn (same_sqt s3 g1), iup hri (s3 _ _ g2)⟩
          · have hi' : i = ps.length := by
              have := (List.getElem?_eq_some_iff.mp h1).1
              rw [List.length_append] at this
              have e1 : [y].length = 1 := rfl
              omega
            subst hi'
            rw [List.getElem?_concat_length] at h1
            cases h1
            subst lps
            exact ⟨p, sqt_butN bD3 kn hy, iup hri hp⟩
      · rintro H2 ⟨s2, ps, bD, lps, ok⟩
        exact ⟨D, rfl, s2, ps, bD, by rw [lps, hxl, List.length_map], ok⟩
    rintro _ H1 ⟨p, rfl, s1, hp⟩
    have hc1 := s1 _ _ hc
    refine ⟨fun σ' H' => ∃ (y : Addr) (a w' : V), σ' = [some (.ref xa), some (.ref c), some (.ref p), some a, some w', none, none, none, none, none] ∧ Same H1 H' ∧ Told K H' (rs.map sureL) (cs2 cs) a w', ?_, ?_⟩
    · refine ⟨_, rfl, _, rfl, c, _, rfl, .inl (SqL.of hc1), fun p1 h1 => ?_⟩
      have w1 := Same.new (o := .lst (cs.map V.int)) h1
      refine ⟨_, rfl, c, rfl, ⟨_, SqL.of (w1 _ _ hc1)⟩, fun D hD => ?_⟩
      refine lc_it (walk_list (K := K) (a := c) (xs := cs.map V.int)) (fun k H' => Same (upd H1 p1 (.lst (cs.map V.int))) H' ∧ H' D = some (.lst (((cs.take k).map fun c => -c).map V.int))) ⟨Same.new hD, upd_same⟩ (fun k H' hk p' => SqL.of ((w1.trans p'.1) _ _ hc1)) ?_ ?_
      · rintro k z H2 H2x hk ⟨s2, bD⟩ ⟨e2, hz⟩
        subst e2
        have hkc : k < cs.length := by rw [← List.length_map (as := cs) (f := V.int)]; exact hk
        obtain rfl : z = .int cs[k] := by
          replace hz : (cs.map V.int)[k]? = some z := hz
          rw [List.getElem?_map, List.getElem?_eq_getElem hkc] at hz
          cases hz
          rfl
        refine ⟨rfl, rdYes ⟨_, rfl, _, rfl, _, bD, ?_, fun b' o e => ?_, ?_⟩⟩
        · rw [List.length_map, List.length_map, List.length_take]
          exact Nat.lt_of_le_of_lt (Nat.le_trans (Nat.min_le_left ..) (show k ≤ 10 by omega)) (by decide)
        · rw [upd_ne (ne_of_none e hD)]
          exact s2 _ _ e
        · rw [upd_same, List.take_succ, List.getElem?_eq_getElem hkc, List.map_append, List.map_append]
          rfl
      · rintro H2 ⟨s2, bD⟩
        rw [List.length_map, List.take_length] at bD
        refine ⟨p1, D, _, _, rfl, rfl, s2 _ _ upd_same, bD, ?_, fun p3 h3 => ?_⟩
        · rw [List.length_map, List.length_map, List.length_map]
          exact Nat.le_trans (show cs.length + cs.length ≤ 10 by omega) (by decide)
        have s3 := Same.new (o := .lst (cs.map V.int ++ (cs.map fun c => -c).map V.int)) h3
        have s13 := w1.trans (s2.trans s3)
        have hb21 : ∀ c ∈ cs, c.natAbs ≤ 2 ^ 21 := fun c h => Nat.le_trans (hb c h) (by decide)
        have lo0 := sure_low (cs := zerosOf cs) (m := cs.length) hR h8 (by rw [zeros_len]; exact m3) (fun c h => by rw [List.eq_of_mem_replicate h]; exact Nat.zero_le _)
        rw [zeros_cs2, zeros_len] at lo0
        refine ⟨p, p3, rs.map sureL, cs2 cs, rfl, hp.same s13, ?_, fun l hl => ?_, by rw [List.length_map]; omega, by rw [cs2_len]; omega, sure_low hR h8 m3 hb21, lo0, d0, fun e => cs2_zeros cs (d1 e), fun H' y a' w' s' hy tl => ⟨y, _, rfl, hy, rfl, _, _, rfl, _, _, rfl, rfl, y, a', w', rfl, s13.trans s', tl⟩⟩
        · show _ = some (HO.lst ((cs ++ cs.map fun c => -c).map V.int))
          rw [List.map_append]
          exact upd_same
        · obtain ⟨r, hr', rfl⟩ := List.mem_map.mp hl
          rw [cs2_len]
          show (r.parts.map (·.2) ++ r.parts.map fun p => -p.1).length = _
          rw [List.length_append, List.length_map, List.length_map, (row_name (hR r hr')).2]
    rintro _ H2 ⟨y, a, w', rfl, s2, told⟩
    have s12 := s1.trans s2
    have hc2 := s12 _ _ hc
    have two : 2 ≤ sizeLine := by decide
    rcases told with ⟨y1, t, i, rfl, rfl, sh, st, hi, neg, pos, vs, hv, lv, rv⟩ | told
    · refine ⟨fun _ _ => False, ?_, fun _ _ h => h.elim⟩
      obtain ⟨ws, lw, dw, kw⟩ := frs_build (R := fun k p => WgtOf (cs2 cs).length t i ((cs2 cs).length + k) p) vs 0 fun q' v h => by
        obtain ⟨p', d', r'⟩ := rv q' v h
        exact ⟨p', d', by rw [Nat.zero_add]; exact r'⟩
      refine ⟨_, rfl, rfl, _, rfl, ?_⟩
      rw [decide_eq_true rfl]
      refine iteT ⟨_, rfl, y1, vs, rfl, .inl ⟨SqL.of hv, fun tr htr => ⟨two, fun y' hy' => ?_⟩⟩⟩
      have w1 := Same.new (o := .tup vs) htr
      have w2 := Same.new (o := .tup [.non, .ref tr]) hy'
      refine q _ y' .non (.ref tr) (s12.trans (w1.trans w2)) (SqT.of upd_same) (.inl ⟨ws, t, i, rfl, .tup (same_sqt w2 (SqT.of upd_same)) (dw.same (w1.trans w2)), sh, st, hi, neg, pos, by rw [lw, lv], fun k p' h => ?_⟩)
      have := kw k p' h
      rwa [Nat.zero_add] at this
    have hb21 : ∀ c ∈ cs, c.natAbs ≤ 2 ^ 21 := fun c h => Nat.le_trans (hb c h) (by decide)
    have lo := sure_low (cs := cs) (m := cs.length) hR h8 m3 hb21
    have lo0 := sure_low (cs := zerosOf cs) (m := cs.length) hR h8 (by rw [zeros_len]; exact m3) (fun c h => by rw [List.eq_of_mem_replicate h]; exact Nat.zero_le _)
    rw [zeros_cs2, zeros_len] at lo0
    obtain ⟨y1, t, rfl, sh, am, sm, rest⟩ : ∃ (y1 : Addr) (t : Tb), a = .ref y1 ∧ Shp (rs.map sureL).length (cs2 cs).length t ∧ AmtsAt K H2 y1 (cs2 cs).length t (rs.map sureL).length ∧ (∀ q' p', AmtOf (cs2 cs).length t (rs.map sureL).length q' p' → FrOk 1000 p') ∧
        ((∃ y2, w' = .ref y2 ∧ StOf (rs.map sureL) (cs2 cs) t ∧ (∀ q, ¬ WrongT (rs.map sureL).length (cs2 cs).length t q) ∧ FrsAt K H2 y2 (rs.map sureL).length fun k p => WgtOf (cs2 cs).length t (rs.map sureL).length ((cs2 cs).length + k) p) ∨
         (∃ (t' : Tb) (j : Nat), w' = .non ∧ StOf (rs.map sureL) (zerosOf (cs2 cs)) t ∧ (∀ q, ¬ WrongT (rs.map sureL).length (cs2 cs).length t q) ∧ Shp (rs.map sureL).length (cs2 cs).length t' ∧ StOf (rs.map sureL) (cs2 cs) t' ∧ j < (cs2 cs).length ∧ tT t' (rs.map sureL).length j < 0 ∧ ∀ i, i < (rs.map sureL).length → tT t' i j ≤ 0)) := by
      rcases told with ⟨y1, y2, t, rfl, rfl, sh, st, no, am, fr⟩ | ⟨y1, t, t', j, rfl, rfl, sh, st, no, am, sh', st', hj, neg, col⟩
      · exact ⟨y1, t, rfl, sh, am, fun q' p' h => amt_small st lo h, .inl ⟨y2, rfl, st, no, fr⟩⟩
      · exact ⟨y1, t, rfl, sh, am, fun q' p' h => amt_small0 st lo0 (zeros_len _) h, .inr ⟨t', j, rfl, st, no, sh', st', hj, neg, col⟩⟩
    obtain ⟨vs, hv, lv, rv⟩ := am
    rw [cs2_len] at lv
    refine ⟨fun σ' H' => σ' = [some (.ref xa), some (.ref c), some (.ref p), some (.ref y1), some w', none, none, none, none, none] ∧ H' = H2, ?_, ?_⟩
    · refine ⟨_, rfl, rfl, _, rfl, ?_⟩
      rw [decide_eq_false (fun z => nomatch z)]
      exact iteF ⟨rfl, rfl⟩
    rintro _ H3 ⟨rfl, rfl⟩
    refine ⟨_, rfl, _, _, rfl, .inl ⟨_, SqL.of hc2, rfl⟩, ?_⟩
    refine ⟨fun σ' H' => ∃ (g : Addr) (fs : List (Int × Int)), σ' = [some (.ref xa), some (.ref c), some (.ref p), some (.ref y1), some w', some (.int ((cs.map V.int).length : Nat)), some (.ref g), none, none, none] ∧ Same H3 H' ∧ Dq K H' (.ref g) (frsD fs) ∧ SureA t (rs.map sureL).length cs.length fs, ?_, ?_⟩
    · have lc : (cs.map V.int).length = cs.length := List.length_map ..
      refine ⟨_, rfl, _, rfl, by omega, by omega, fun D hD => ?_⟩
      refine lc_it (walk_range (lo := 0) (n := (((cs.map V.int).length : Nat) : Int).toNat)) (fun k H' => Same H3 H' ∧ ∃ (us : List V) (fs : List (Int × Int)), H' D = some (.lst us) ∧ DqAll K H' us (fs.map frD) ∧ fs.length = k ∧ ∀ (q : Nat) (f : Int × Int), fs[q]? = some f → ∃ p1 p2, AmtOf (cs.length + cs.length) t (rs.map sureL).length q p1 ∧ AmtOf (cs.length + cs.length) t (rs.map sureL).length (q + cs.length) p2 ∧ Red (p1.1 * p2.2 + -p2.1 * p1.2) (p1.2 * p2.2) f.1 f.2)
        ⟨Same.new hD, [], [], upd_same, .nil, rfl, fun q f h => nomatch (List.getElem?_nil.symm.trans h : (none : Option (Int × Int)) = some f)⟩ (fun k H' hk p => trivial) ?_ ?_
      · rintro k z H4 H4x hk ⟨s4, us, fs, bD, du, lf, ok⟩ ⟨e4, hz⟩
        subst e4
        obtain rfl : z = .int ((k : Nat) : Int) := by
          rw [hz]
          show V.int (0 + ((k : Nat) : Int)) = _
          rw [Int.zero_add]
        have hkc : k < cs.length := by omega
        have k1 : k < vs.length := by omega
        have k2 : k + cs.length < vs.length := by omega
        obtain ⟨f1, d1', a1⟩ := rv k vs[k] (List.getElem?_eq_getElem k1)
        obtain ⟨f2, d2', a2⟩ := rv (k + cs.length) vs[k + cs.length] (List.getElem?_eq_getElem k2)
        have z1 := sm _ _ a1
        have z2 := sm _ _ a2
        rw [cs2_len] at a1 a2
        have up : ∀ {f : Int × Int}, FrOk 1000 f → FrOk 2000 f := fun h => ⟨h.pos, Nat.lt_of_lt_of_le h.t (Nat.pow_le_pow_right (by decide) (by decide)), Nat.lt_of_lt_of_le h.b (Nat.pow_le_pow_right (by decide) (by decide))⟩
        refine ⟨rfl, rdYes ⟨_, rfl, _, rfl, y1, _, ((k : Nat) : Int), _, rfl, rfl, SqL.of (s4 _ _ hv), atI_nat (j := k) (List.getElem?_eq_getElem k1), ?_⟩⟩
        refine ⟨_, rfl, _, rfl, _, rfl, _, _, rfl, rfl, y1, _, ((k : Nat) : Int) + (((cs.map V.int).length : Nat) : Int), _, rfl, rfl, SqL.of (s4 _ _ hv), (by rw [lc, show ((k : Nat) : Int) + ((cs.length : Nat) : Int) = ((k + cs.length : Nat) : Int) from (Int.natCast_add k cs.length).symm]; exact atI_nat (List.getElem?_eq_getElem k2)), ?_⟩
        refine ⟨vs[k], vs[k + cs.length], f1, f2, rfl, d1'.same s4, d2'.same s4, up z1, up z2, fun H5 y p' q' s5 dy rd => ?_⟩
        have bD5 := s5 _ _ bD
        have kn : KeptN D H5 (upd H5 D (.lst (us ++ [y]))) := fun b o ne e _ => by rw [upd_ne ne]; exact e
        have lu := du.len
        rw [List.length_map] at lu
        refine ⟨_, bD5, ?_, fun b' o e => ?_, us ++ [y], fs ++ [(p', q')], upd_same, ?_, by rw [List.length_append, lf]; rfl, fun i f hi => ?_⟩
        · exact Nat.lt_of_lt_of_le (show us.length < 10 by omega) (by decide)
        · rw [upd_ne (ne_of_none e hD)]
          exact s5 _ _ (s4 _ _ e)
        · exact (DrAll.but bD5 kn (drAll_of (noLs_map frD (fun _ => rfl) (fs ++ [(p', q')])) (by rw [List.map_append]; exact (du.same s5).app (.cons dy .nil)))).dq
        · by_cases hif : i < fs.length
          · rw [List.getElem?_append_left hif] at hi
            exact ok i f hi
          · have hi' : i = fs.length := by
              have := (List.getElem?_eq_some_iff.mp hi).1
              rw [List.length_append] at this
              have e1 : [(p', q')].length = 1 := rfl
              omega
            subst hi'
            rw [List.getElem?_concat_length] at hi
            cases hi
            subst lf
            exact ⟨f1, f2, a1, a2, rd⟩
      · rintro H4 ⟨s4, us, fs, bD, du, lf, ok⟩
        refine ⟨D, us, rfl, .inl ⟨SqL.of bD, fun tr htr => ?_⟩⟩
        have w1 := Same.new (o := .tup us) htr
        exact ⟨tr, fs, rfl, s4.trans w1, .tup (SqT.of upd_same) (du.same w1), by rw [lf]; exact Int.toNat_natCast _ |>.trans lc, ok⟩
    rintro _ H4 ⟨g, fs, rfl, s4, dg, sa⟩
    rcases rest with ⟨y2, rfl, st, no, vs2, hv2, lv2, rv2⟩ | ⟨t', j, rfl, st, no, sh', st', hj, neg, col⟩
    · obtain ⟨ws, lw, dw, kw⟩ := frs_build (R := fun k p => WgtOf (cs2 cs).length t (rs.map sureL).length ((cs2 cs).length + k) p) vs2 0 fun q' v h => by
        obtain ⟨p', d', r'⟩ := rv2 q' v h
        exact ⟨p', d', by rw [Nat.zero_add]; exact r'⟩
      refine ⟨_, rfl, _, rfl, rfl, _, rfl, ?_⟩
      rw [decide_eq_false (fun z => nomatch z)]
      refine iteF ⟨_, rfl, y2, vs2, rfl, .inl ⟨SqL.of (s4 _ _ hv2), fun tr htr => ⟨two, fun y' hy' => ?_⟩⟩⟩
      have w1 := Same.new (o := .tup vs2) htr
      have w2 := Same.new (o := .tup [.ref g, .ref tr]) hy'
      refine q _ y' (.ref g) (.ref tr) (s12.trans (s4.trans (w1.trans w2))) (SqT.of upd_same) (.inr (.inl ⟨fs, ws, t, dg.same (w1.trans w2), .tup (same_sqt w2 (SqT.of upd_same)) (dw.same (s4.trans (w1.trans w2))), sh, st, no, sa, by rw [lw, lv2], fun k p' h => ?_⟩))
      have := kw k p' h
      rwa [Nat.zero_add] at this
    · refine ⟨_, rfl, _, rfl, rfl, _, rfl, ?_⟩
      rw [decide_eq_true rfl]
      refine iteT ⟨two, fun y' hy' => ?_⟩
      have w2 := Same.new (o := .tup [.ref g, .non]) hy'
      exact q _ y' (.ref g) .non (s12.trans (s4.trans w2)) (SqT.of upd_same) (.inr (.inr ⟨fs, t, t', j, dg.same w2, rfl, sh, st, no, sa, sh', st', hj, neg, col⟩))
end
end Ca
set_option Elab.async false
set_option linter.all false
set_option maxRecDepth 100000
set_option maxHeartbeats 8000000
namespace Ca
open PySem L2
/-! ### cheapest_sure, of rows in a tuple and costs in a tuple -/
section
variable {P : Program} {w : World} {K : PySem.W.Frag} {mg : Str → Option Value} {base : Heap}
end
end Ca
set_option Elab.async false
set_option linter.all false
set_option maxRecDepth 100000
set_option maxHeartbeats 8000000
namespace Ca
open PySem L2
/-! ### how great told amounts and answers are -/
theorem Mild.lowB {ls : List (List Int × Int)} {cs : List Int} {E N : Nat} (h : Mild ls cs E) (hk : ((ls.length + 1) * E) ^ (cs.length + 1) < N) {S : Det.Sta} (ok : Det.Ok (VOf ls cs) ls.length cs.length S) : S.D.natAbs < N ∧ ∀ i j, i ≤ ls.length → j ≤ cs.length → (S.T i j).natAbs < N := by
  have k1 : 1 ≤ (ls.length + 1) * E := Nat.mul_pos (Nat.succ_pos _) h.one
  obtain ⟨d, t⟩ := Det.Ok.small ok k1 fun q => nrm_le (fun r => h.col q r) _ _
  exact ⟨Nat.lt_of_le_of_lt (Nat.le_trans d (Nat.pow_le_pow_right k1 (Nat.le_succ _))) hk, fun i j hi hj => Nat.lt_of_le_of_lt (t i j hi hj) hk⟩
theorem amt_few {ls : List (List Int × Int)} {cs : List Int} {t : Tb} {E N n : Nat} (hn : cs.length = n) (M : Mild ls cs E) (hk : ((ls.length + 1) * E) ^ (cs.length + 1) < N) (so : StOf ls cs t) (no : ∀ q, ¬ WrongT ls.length n t q) {q : Nat} {p : Int × Int} (h : AmtOf n t ls.length q p) : OfD t.D p ∧ 0 ≤ numD t.D p ∧ (numD t.D p).natAbs < N ∧ t.D.natAbs < N := by
  subst hn
  obtain ⟨S, rp, ok, _⟩ := so
  obtain ⟨bD, bT⟩ := M.lowB hk ok
  have tD : t.D.natAbs < N := by rw [rp.D]; exact bD
  rcases h with ⟨l, hl, hb, rd⟩ | ⟨_, rfl⟩
  · obtain ⟨d1, d2⟩ := num_of rd.pos rd.cop rd.cross
    have ge : 0 ≤ tT t l cs.length := Int.not_lt.mp fun g => no q (.inl ⟨l, hb, g⟩)
    have en : numD t.D p = tT t l cs.length := d2
    refine ⟨⟨rd.pos, d1, rd.cop⟩, by rw [en]; exact ge, ?_, tD⟩
    rw [en, rp.T l _ (Nat.le_of_lt hl) (Nat.le_refl _)]
    exact bT l _ (Nat.le_of_lt hl) (Nat.le_refl _)
  · have e : numD t.D (0, 1) = 0 := by
      unfold numD
      show (0 : Int) * _ = 0
      rw [Int.zero_mul]
    rw [e]
    exact ⟨⟨by show (0 : Int) < 1; decide, Int.one_dvd _, by decide⟩, Int.le_refl 0, Nat.lt_of_le_of_lt (Nat.zero_le _) tD, tD⟩
theorem poss_mildB {rs : List Rw} {sg cs : List Int} {m : Nat} (hR : ∀ r ∈ rs, isRowD (rowD r) m = true) (h8 : rs.length ≤ 8) (m3 : m ≤ 3) (so : SgOk sg m) (hl : cs.length = m) (hc : ∀ c ∈ cs, c.natAbs ≤ 2 ^ 21) : Mild (rs.map (pLim sg)) cs (2 ^ 21) ∧ (((rs.map (pLim sg)).length + 1) * 2 ^ 21) ^ (cs.length + 1) < 2 ^ 176 := by
  have M := poss_mild (rs := rs) (cs := List.replicate m 0) hR so List.length_replicate (fun c h => by rw [List.eq_of_mem_replicate h]; exact Nat.zero_le _)
  refine ⟨⟨M.one, M.l1, M.l2, hc⟩, ?_⟩
  have a : ((rs.map (pLim sg)).length + 1) * 2 ^ 21 ≤ 2 ^ 25 := by
    rw [List.length_map]
    exact Nat.le_trans (Nat.mul_le_mul_right _ (show rs.length + 1 ≤ 16 by omega)) (by decide)
  refine Nat.lt_of_le_of_lt (Nat.pow_le_pow_left a _) ?_
  rw [← Nat.pow_mul]
  refine Nat.pow_lt_pow_right (by decide) ?_
  have : 25 * (cs.length + 1) ≤ 25 * 4 := Nat.mul_le_mul_left _ (by omega)
  omega
/-- a fraction that may be told -/
def FewB (f : Int × Int) : Prop := 0 < f.2 ∧ f.1.natAbs < 2 ^ 176 ∧ f.2.natAbs < 2 ^ 176 ∧ Nat.gcd f.1.natAbs f.2.natAbs = 1
theorem possA_few {rs : List Rw} {sg cs : List Int} {m : Nat} {t : Tb} {fs : List (Int × Int)} (hR : ∀ r ∈ rs, isRowD (rowD r) m = true) (h8 : rs.length ≤ 8) (m3 : m ≤ 3) (sok : SgOk sg m) (hl : cs.length = m) (hc : ∀ c ∈ cs, c.natAbs ≤ 2 ^ 21)
    (so : StOf (rs.map (pLim sg)) cs t) (no : ∀ q, ¬ WrongT (rs.map (pLim sg)).length m t q) (pa : PossA t (rs.map (pLim sg)).length m sg fs) : fs.length = m ∧ ∀ f ∈ fs, FewB f := by
  obtain ⟨M, hk⟩ := poss_mildB hR h8 m3 sok hl hc
  refine ⟨pa.1, fun f hf => ?_⟩
  obtain ⟨q, hq⟩ := List.mem_iff_getElem?.mp hf
  obtain ⟨p, s, hs, am, rfl⟩ := pa.2 q f hq
  obtain ⟨o1, n1, s1, sD⟩ := amt_few hl M hk so no am
  have D0 := tD_pos so
  obtain ⟨t1, t2⟩ := o1.top D0
  have s1' : s = 1 ∨ s = -1 := sok.ok s (List.mem_of_getElem? hs)
  have e : (s * p.1).natAbs = p.1.natAbs := by
    rcases s1' with rfl | rfl
    · rw [Int.one_mul]
    · rw [show (-1 : Int) * p.1 = -p.1 by omega, Int.natAbs_neg]
  refine ⟨o1.pos, ?_, by show p.2.natAbs < _; omega, ?_⟩
  · show (s * p.1).natAbs < _
    rw [e]
    omega
  · show Nat.gcd (s * p.1).natAbs p.2.natAbs = 1
    rw [e]
    exact o1.cop
end Ca
set_option Elab.async false
set_option linter.all false
set_option maxRecDepth 100000
set_option maxHeartbeats 4000000
namespace Ca.Det
/-! ### an exchange is one only; so is the last state -/
section
variable {V : Nat → Col} {m n : Nat} {S S1 S2 S0 : Sta} {i j b f i' j' b' f' t t' : Nat}
theorem Step.wrongB (s : Step m n S S1 i j b f) (w : ByRow m n S i j b f) : Wrong m n S b := .inl ⟨i, s.hb, w.1⟩
theorem Step.wrongF (s : Step m n S S1 i j b f) (w : ByCol m n S i j b f) : Wrong m n S f := .inr ⟨j, s.hf, w.1⟩
theorem at_one {l : List Nat} {i j q : Nat} (nd : l.Nodup) (h1 : l[i]? = some q) (h2 : l[j]? = some q) : i = j :=
  (List.getElem?_inj (List.getElem?_eq_some_iff.mp h1).1 nd).mp (by rw [h1, h2])
theorem Step.one (o : Ok V m n S) (a : Step m n S S1 i j b f) (c : Step m n S S2 i' j' b' f') : S1 = S2 := by
  have hb := a.hb
  have hf := a.hf
  have hb' := c.hb
  have hf' := c.hf
  have mb := List.mem_of_getElem? hb
  have mf := List.mem_of_getElem? hf
  have mb' := List.mem_of_getElem? hb'
  have mf' := List.mem_of_getElem? hf'
  have key : i = i' ∧ j = j' ∧ b = b' ∧ f = f' := by
    rcases a.way with w | w <;> rcases c.way with w' | w'
    · have e1 : b = b' := Nat.le_antisymm (w.2.2.1 _ (c.wrongB w')) (w'.2.2.1 _ (a.wrongB w))
      subst e1
      have e2 := at_one o.bsnd hb hb'
      subst e2
      have e3 : f = f' := Nat.le_antisymm (w.2.2.2 j' f' hf' w'.2.1) (w'.2.2.2 j f hf w.2.1)
      subst e3
      exact ⟨rfl, at_one o.fsnd hf hf', rfl, rfl⟩
    · have e1 : b = f' := Nat.le_antisymm (w.2.2.1 _ (c.wrongF w')) (w'.2.2.1 _ (a.wrongB w))
      subst e1
      exact (o.apart mb mf').elim
    · have e1 : f = b' := Nat.le_antisymm (w.2.2.1 _ (c.wrongB w')) (w'.2.2.1 _ (a.wrongF w))
      subst e1
      exact (o.apart mb' mf).elim
    · have e1 : f = f' := Nat.le_antisymm (w.2.2.1 _ (c.wrongF w')) (w'.2.2.1 _ (a.wrongF w))
      subst e1
      have e2 := at_one o.fsnd hf hf'
      subst e2
      have e3 : b = b' := Nat.le_antisymm (w.2.2.2 i' b' hb' w'.2.1) (w'.2.2.2 i b hb w.2.1)
      subst e3
      exact ⟨at_one o.bsnd hb hb', rfl, rfl, rfl⟩
  obtain ⟨rfl, rfl, rfl, rfl⟩ := key
  rw [a.to, c.to]
def Final (m n : Nat) (S : Sta) : Prop := ∀ S' i j b f, ¬ Step m n S S' i j b f
theorem final_settled (h : ∀ q, ¬ Wrong m n S q) : Final m n S := fun S' i j b f s => by
  rcases s.way with w | w
  · exact h _ (s.wrongB w)
  · exact h _ (s.wrongF w)
theorem Reach.one (h : Reach V m n S0 t S1) (h' : Reach V m n S0 t' S2) (e : Final m n S1) (e' : Final m n S2) : S1 = S2 := by
  obtain ⟨s, a0, at', ao, as⟩ := h.ex
  obtain ⟨s', b0, bt, bo, bs⟩ := h'.ex
  have eq : ∀ u, u ≤ t → u ≤ t' → s u = s' u := fun u => by
    induction u with
    | zero => intro _ _; rw [a0, b0]
    | succ u ih =>
      intro h1 h2
      have e0 := ih (by omega) (by omega)
      obtain ⟨i, j, b, f, x⟩ := as u (by omega)
      obtain ⟨i', j', b', f', y⟩ := bs u (by omega)
      rw [← e0] at y
      exact Step.one (ao u (by omega)) x y
  rcases Nat.lt_trichotomy t t' with g | g | g
  · obtain ⟨i, j, b, f, y⟩ := bs t g
    rw [← eq t (Nat.le_refl _) (Nat.le_of_lt g), at'] at y
    exact (e _ _ _ _ _ y).elim
  · subst g
    rw [← at', ← bt]
    exact eq t (Nat.le_refl _) (Nat.le_refl _)
  · obtain ⟨i, j, b, f, y⟩ := as t' g
    rw [eq t' (Nat.le_of_lt g) (Nat.le_refl _), bt] at y
    exact (e' _ _ _ _ _ y).elim
end
end Ca.Det
namespace Ca
open PySem L2
theorem red1 {a b p q p' q' : Int} (h : Red a b p q) (h' : Red a b p' q') : p = p' ∧ q = q' := by
  obtain ⟨g, hg, e1, e2⟩ := h.ex
  obtain ⟨g', hg', e1', e2'⟩ := h'.ex
  have c : p * q' = p' * q := by
    refine Int.eq_of_mul_eq_mul_right (Int.ne_of_gt (Int.mul_pos hg hg')) ?_
    rw [show p * q' * (g * g') = (p * g) * (q' * g') from by rw [Int.mul_assoc, Int.mul_assoc, Int.mul_left_comm q'], show p' * q * (g * g') = (p' * g') * (q * g) from by rw [Int.mul_assoc, Int.mul_assoc, Int.mul_left_comm g', Int.mul_comm g g', Int.mul_left_comm q], e1, e2', e1', e2]
  have d1 : q.natAbs ∣ q'.natAbs := by
    refine Nat.Coprime.dvd_of_dvd_mul_left (m := p.natAbs) (show Nat.gcd q.natAbs p.natAbs = 1 by rw [Nat.gcd_comm]; exact h.cop) ?_
    rw [← Int.natAbs_mul, c, Int.natAbs_mul]
    exact Nat.dvd_mul_left _ _
  have d2 : q'.natAbs ∣ q.natAbs := by
    refine Nat.Coprime.dvd_of_dvd_mul_left (m := p'.natAbs) (show Nat.gcd q'.natAbs p'.natAbs = 1 by rw [Nat.gcd_comm]; exact h'.cop) ?_
    rw [← Int.natAbs_mul, ← c, Int.natAbs_mul]
    exact Nat.dvd_mul_left _ _
  have e := Nat.dvd_antisymm d1 d2
  have hq := h.pos
  have hq' := h'.pos
  have eq : q = q' := by omega
  subst eq
  exact ⟨Int.eq_of_mul_eq_mul_right (Int.ne_of_gt hq) c, rfl⟩
/-- two runs that end where nothing is wrong -/
theorem st_one {ls : List (List Int × Int)} {cs : List Int} {t t' : Tb} (h : StOf ls cs t) (h' : StOf ls cs t') (sh : Shp ls.length cs.length t) (sh' : Shp ls.length cs.length t') (no : ∀ q, ¬ WrongT ls.length cs.length t q) (no' : ∀ q, ¬ WrongT ls.length cs.length t' q) :
    ∃ S, Rep ls.length cs.length t S ∧ Rep ls.length cs.length t' S ∧ S.bs.Nodup ∧ S.bs.length = ls.length := by
  obtain ⟨S, rp, ok, τ, re⟩ := h
  obtain ⟨S', rp', ok', τ', re'⟩ := h'
  have e := re.one re' (Det.final_settled fun q w => no q ((rp.wrong sh).mpr w)) (Det.final_settled fun q w => no' q ((rp'.wrong sh').mpr w))
  subst e
  exact ⟨S, rp, rp', ok.bsnd, ok.bl⟩
theorem amt_one {n m : Nat} {t t' : Tb} {S : Det.Sta} {q : Nat} {p p' : Int × Int} (r : Rep m n t S) (r' : Rep m n t' S) (nd : S.bs.Nodup) (h : AmtOf n t m q p) (h' : AmtOf n t' m q p') : p = p' := by
  rcases h with ⟨l, hl, hq, rd⟩ | ⟨no, rfl⟩ <;> rcases h' with ⟨l', hl', hq', rd'⟩ | ⟨no', rfl⟩
  · rw [r.bs] at hq
    rw [r'.bs] at hq'
    have e := Det.at_one nd hq hq'
    subst e
    rw [r.T l n (Nat.le_of_lt hl) (Nat.le_refl _), r.D] at rd
    rw [r'.T l n (Nat.le_of_lt hl) (Nat.le_refl _), r'.D] at rd'
    obtain ⟨a, b⟩ := red1 rd rd'
    exact Prod.ext a b
  · exact (no' l hl (by rw [r'.bs, ← r.bs]; exact hq)).elim
  · exact (no l' hl' (by rw [r.bs, ← r'.bs]; exact hq')).elim
  · rfl
theorem possA_one {t t' : Tb} {S : Det.Sta} {k m : Nat} {sg : List Int} {fs fs' : List (Int × Int)} (r : Rep k m t S) (r' : Rep k m t' S) (nd : S.bs.Nodup) (h : PossA t k m sg fs) (h' : PossA t' k m sg fs') : fs = fs' := by
  refine List.ext_getElem (by rw [h.1, h'.1]) fun q h1 h2 => ?_
  obtain ⟨p, s, hs, am, e⟩ := h.2 q _ (List.getElem?_eq_getElem h1)
  obtain ⟨p', s', hs', am', e'⟩ := h'.2 q _ (List.getElem?_eq_getElem h2)
  rw [hs] at hs'
  cases hs'
  rw [e, e', amt_one r r' nd am am']
/-- the answer that is told with these signs, for costs of 0 -/
def PossDs (rs : List Rw) (m : Nat) (sg : List Int) (fs : List (Int × Int)) : Prop := ∃ t, Shp (rs.map (pLim sg)).length (sgCost sg (List.replicate m 0)).length t ∧ StOf (rs.map (pLim sg)) (sgCost sg (List.replicate m 0)) t ∧ (∀ q, ¬ WrongT (rs.map (pLim sg)).length (sgCost sg (List.replicate m 0)).length t q) ∧ PossA t (rs.map (pLim sg)).length (sgCost sg (List.replicate m 0)).length sg fs
/-- the first row of signs with an answer, and the answer -/
def PossD (rs : List Rw) (m : Nat) (fs : List (Int × Int)) : Prop := ∃ (k : Nat) (sg : List Int), (signsL m)[k]? = some sg ∧ (∀ (i : Nat) (sg' : List Int) (u : Nat → Rat), i < k → (signsL m)[i]? = some sg' → ¬ Feas (rs.map (pLim sg')) m u) ∧ (∃ u : Nat → Rat, Feas (rs.map (pLim sg)) m u) ∧ PossDs rs m sg fs
theorem possDs_one {rs : List Rw} {m : Nat} {sg : List Int} {fs fs' : List (Int × Int)} (h : PossDs rs m sg fs) (h' : PossDs rs m sg fs') : fs = fs' := by
  obtain ⟨t, sh, st, no, pa⟩ := h
  obtain ⟨t', sh', st', no', pa'⟩ := h'
  obtain ⟨S, r, r', nd, _⟩ := st_one st st' sh sh' no no'
  exact possA_one r r' nd pa pa'
theorem possD_one {rs : List Rw} {m : Nat} {fs fs' : List (Int × Int)} (h : PossD rs m fs) (h' : PossD rs m fs') : fs = fs' := by
  obtain ⟨k, sg, hk, no, ⟨u, fe⟩, d⟩ := h
  obtain ⟨k', sg', hk', no', ⟨u', fe'⟩, d'⟩ := h'
  have e : k = k' := by
    rcases Nat.lt_trichotomy k k' with g | g | g
    · exact (no' k sg u g hk fe).elim
    · exact g
    · exact (no k' sg' u' g hk' fe').elim
  subst e
  rw [hk] at hk'
  cases hk'
  exact possDs_one d d'
end Ca
set_option Elab.async false
set_option linter.all false
set_option maxRecDepth 100000
set_option maxHeartbeats 8000000
namespace Ca
open PySem L2
/-! ### costs of answers, least costs -/
/-- in lowest terms, of not too many digits -/
abbrev FrL (t : Int × Int) : Prop := FrOk 1100 t ∧ Nat.gcd t.1.natAbs t.2.natAbs = 1
def OptT (K : PySem.W.Frag) (H : Hp) (v : V) : Option (Int × Int) → Prop
  | none => v = .non
  | some t => Dq K H v (frD t) ∧ FrL t
theorem OptT.same {K : PySem.W.Frag} {H H' : Hp} {v : V} {o : Option (Int × Int)} (h : OptT K H v o) (s : Same H H') : OptT K H' v o := by
  cases o with
  | none => exact h
  | some t => exact ⟨h.1.same s, h.2⟩
def spAnyP (K : PySem.W.Frag) : Sp := fun vs H Q _ => ∃ x rs m, vs = [x, .int (m : Nat)] ∧ Dq K H x (rowsD rs) ∧ (∀ r ∈ rs, isRowD (rowD r) m = true) ∧ rs.length ≤ 8 ∧ 1 ≤ m ∧ m ≤ 3 ∧ ∀ H' v, Same H H' → ((v = .non ∧ ∀ z, ¬ PossV rs m z) ∨ ∃ fs, Dq K H' v (frsD fs) ∧ PossD rs m fs ∧ PossV rs m (frsQ fs) ∧ fs.length = m ∧ ∀ f ∈ fs, FewB f) → Q v H'
theorem frs_ref {K : PySem.W.Frag} {H : Hp} {v : V} {fs : List (Int × Int)} (h : Dq K H v (frsD fs)) : ∃ a, v = .ref a := by
  obtain ⟨a, _, e, _⟩ := tup_len h
  exact ⟨a, e⟩
section
variable {P : Program} {w : World} {K : PySem.W.Frag} {mg : Str → Option Value} {base : Heap}
abbrev NApo : List Str := ["rows", "many", "signs", "answer", "_"]
theorem scAp : FnScope NApo ["rows", "many"] (defScope sAnyPossible) := ⟨rfl, rfl, rfl, by decide +kernel, rfl, by decide +kernel, by decide +kernel⟩
theorem ok_anyP {f fS fC : Addr} {fd fdS fdC : FuncData} (F : FnT K "any_possible" sAnyPossible f fd)
    (gS : mg "sign_rows" = some (.ref fS)) (GS : FnOk P w K mg base CX0 1 fS fdS ["many"] (spSigns K)) (kS : PySem.W.keepIn K (.ref fS) = true) (bS : Binds K fdS ["many"] [])
    (gC : mg "cheapest_possible" = some (.ref fC)) (GC : FnOk P w K mg base CX0 7 fC fdC ["rows", "costs", "signs"] (spPossL K 1)) (kC : PySem.W.keepIn K (.ref fC) = true) (bC : Binds K fdC ["rows", "costs", "signs"] []) :
    FnOk P w K mg base CX0 8 f fd ["rows", "many"] (spAnyP K) := by
  refine F.ok scAp (fun vs H Q E h => ?_) (fun cdv A outer s H vs Q E hr h => ?_)
  · obtain ⟨x, rs, m, rfl, _⟩ := h
    rfl
  · obtain ⟨x, rs, m, rfl, dx, hR, h8, m1, m3, q⟩ := h
    have nd := scAp.nd
    have hr1 : Room 1 _ := hr.mono (by decide)
    refine ⟨_, PSs.nox (pss_cons (ps_for PassesOwn.never rfl (pi_list (pe_call GS hr1 rfl gS kS bS .nil pass0 (pa_cons (pv 1) pa_nil))) (pg_name (i := 2) nd rfl (.inl rfl))
        (pss_cons (ps_cut (ps_asg (pe_call GC hr rfl gC kC bC .nil pass0 (pa_cons (pv 0) (pa_cons (pe_op op_rep (pe_lst (pa_cons pe_int pa_nil)) (pv 1)) (pa_cons (pv 2) pa_nil))))
            (pgTt K rfl (pgs_cons (pg_name (i := 3) nd rfl (.inl rfl)) (pgs_cons (pg_name (i := 4) nd rfl (.inl rfl)) pgs_nil)))))
        (pss_one (ps_if (pt_cmpR op_notN (pv 3) pe_non (nomark _)) (pss_one (ps_ret (pv 3))) pss_nil))))
      (pss_one (ps_ret pe_non))), ?_⟩
    have hz : ∀ c ∈ List.replicate m (0 : Int), c.natAbs ≤ 2 ^ 20 := fun c h => by rw [List.eq_of_mem_replicate h]; exact Nat.zero_le _
    have lz : (List.replicate m (0 : Int)).length = m := List.length_replicate
    refine ⟨_, rfl, m, rfl, m3, fun H1 y us s1 hy du => ⟨y, rfl, ⟨_, SqL.of hy⟩, ?_⟩⟩
    have lu : us.length = 2 ^ m := by
      have := du.len
      rw [List.length_map, signs_len] at this
      exact this
    refine for_it (walk_list (K := K) (a := y) (xs := us)) (fun k σ' H' => Same H1 H' ∧ (∃ o2 o3 o4, σ' = [some x, some (.int (m : Nat)), o2, o3, o4]) ∧ ∀ i sg u, i < k → (signsL m)[i]? = some sg → ¬ Feas (rs.map (pLim sg)) m u)
      ⟨fun _ _ e => e, ⟨none, none, none, rfl⟩, fun i sg u h => absurd h (Nat.not_lt_zero _)⟩ (fun k σ' H' hk p => SqL.of (p.1 _ _ hy)) ?_ (fun σ' H' p => ?_)
    · rintro k z _ H2 H2x hk ⟨s2, ⟨o2, o3, o4, rfl⟩, hno⟩ ⟨e2, hz'⟩
      subst e2
      have s12 := s1.trans s2
      have hks : k < (signsL m).length := by rw [signs_len, ← lu]; exact hk
      obtain ⟨d, hd, dq⟩ := (du.same s2).get hz'
      rw [List.getElem?_map, List.getElem?_eq_getElem hks] at hd
      cases hd
      have so := sgOk_of (List.getElem_mem hks)
      have hgs : (signsL m)[k]? = some (signsL m)[k] := List.getElem?_eq_getElem hks
      generalize (signsL m)[k] = sg at dq so hgs
      refine ⟨fun σ' H' => ∃ a w', σ' = [some x, some (.int (m : Nat)), some z, some a, some w'] ∧ Same H1 H' ∧ PossT K H' rs sg (List.replicate m 0) a w', ?_, ?_⟩
      · refine ⟨_, rfl, (show 1 ≤ sizeLine by decide), fun p1 h1 => ⟨_, rfl, p1, (m : Nat), _, rfl, rfl, upd_same, by omega, by omega, ?_, fun p2 h2 => ?_⟩⟩
        · show 1 * ((m : Nat) : Int).toNat ≤ sizeLine
          rw [Int.toNat_natCast]
          exact Nat.le_trans (show 1 * m ≤ 100 by omega) (by decide)
        have s5 := Same.new (o := .lst [.int 0]) h1
        have s6 := Same.new (o := .lst (List.replicate ((m : Nat) : Int).toNat [V.int 0]).flatten) h2
        have s26 := s5.trans s6
        have ez : IntsAt (upd (upd H2x p1 (.lst [.int 0])) p2 (.lst (List.replicate ((m : Nat) : Int).toNat [V.int 0]).flatten)) p2 (List.replicate m 0) := by
          show upd _ _ _ _ = _
          rw [upd_same, Int.toNat_natCast]
          rw [List.map_replicate, List.flatten_replicate_singleton]
        refine ⟨_, rfl, x, z, p2, rs, sg, List.replicate m 0, rfl, dx.same (s12.trans s26), ez, dq.same s26, by rw [lz]; exact so, by rw [lz]; exact hR, h8, by rw [lz]; exact m1, by rw [lz]; exact m3, hz, by decide, fun _ => by unfold zerosOf; rw [lz], fun H3 y' a w' s3 hy' pt => ⟨y', _, rfl, hy', rfl, _, _, rfl, _, _, rfl, rfl, a, w', rfl, s2.trans (s26.trans s3), pt⟩⟩
      rintro _ H3 ⟨a, w', rfl, s3, pt⟩
      have cl : (sgCost sg (List.replicate m 0)).length = m := by rw [sgCost_len (by rw [so.len, lz]), lz]
      have clz : (zerosOf (sgCost sg (List.replicate m 0))).length = m := by rw [zeros_len, cl]
      have sgz : ∀ c ∈ sgCost sg (List.replicate m 0), c.natAbs ≤ 2 ^ 21 := (poss_mild (rs := rs) hR so lz (fun c h => by rw [List.eq_of_mem_replicate h]; exact Nat.zero_le _)).c
      have dd : ∀ {fs : List (Int × Int)} (t : Tb), Shp (rs.map (pLim sg)).length (sgCost sg (List.replicate m 0)).length t → StOf (rs.map (pLim sg)) (sgCost sg (List.replicate m 0)) t → (∀ q, ¬ WrongT (rs.map (pLim sg)).length (sgCost sg (List.replicate m 0)).length t q) → PossA t (rs.map (pLim sg)).length (sgCost sg (List.replicate m 0)).length sg fs → PossD rs m fs := fun t sh st no sa => by
        obtain ⟨u, fu, _⟩ := feas_of sh st no
        rw [cl] at fu
        exact ⟨k, sg, hgs, hno, ⟨u, fu⟩, t, sh, st, no, sa⟩
      rcases pt with ⟨ws, t, i, rfl, _, sh, st, hi, neg, pos, _⟩ | ⟨fs, ws, t, da, dw, sh, st, no, sa, _⟩ | ⟨fs, t, t', j, da, rfl, sh, st, no, sa, sh', so', hj, neg, col⟩
      · refine ⟨_, rfl, rfl, _, rfl, ?_⟩
        rw [decide_eq_true rfl]
        refine iteF ⟨s3, ⟨_, _, _, rfl⟩, fun i' sg' u hi' hsg' => ?_⟩
        by_cases c : i' < k
        · exact hno i' sg' u c hsg'
        · have : i' = k := by omega
          subst this
          rw [hgs] at hsg'
          cases hsg'
          exact poss_none cl sh st hi neg pos u
      · obtain ⟨ra, rfl⟩ := frs_ref da
        refine ⟨_, rfl, rfl, _, rfl, ?_⟩
        rw [decide_eq_false (fun z => nomatch z)]
        exact iteT ⟨_, rfl, q H3 _ (s1.trans s3) (.inr ⟨fs, da, dd t sh st no sa, poss_some cl hR so sh st no sa, possA_few hR h8 m3 so cl sgz st (by rw [← cl]; exact no) (by rw [← cl]; exact sa)⟩)⟩
      · obtain ⟨ra, rfl⟩ := frs_ref da
        refine ⟨_, rfl, rfl, _, rfl, ?_⟩
        rw [decide_eq_false (fun z => nomatch z)]
        have lz' := zeros_len (sgCost sg (List.replicate m 0))
        exact iteT ⟨_, rfl, q H3 _ (s1.trans s3) (.inr ⟨fs, da, dd t sh (by rw [← sgCost_zeros sg (List.replicate m 0) (by rw [so.len, lz]) (by unfold zerosOf; rw [lz])] at st; exact st) no sa, poss_some clz hR so (by rw [lz']; exact sh) st (by rw [lz']; exact no) (by rw [lz']; exact sa), possA_few hR h8 m3 so clz (fun c hc => by unfold zerosOf at hc; rw [List.eq_of_mem_replicate hc]; exact Nat.zero_le _) st (by rw [← cl]; exact no) (by rw [← cl]; exact sa)⟩)⟩
    · obtain ⟨s2, ⟨o2, o3, o4, rfl⟩, hno⟩ := p
      refine q H' .non (s1.trans s2) (.inl ⟨rfl, fun z hz' => ?_⟩)
      obtain ⟨i, sg, u, hi, fu, _⟩ := feas_of_poss hR hz'
      have il := (List.getElem?_eq_some_iff.mp hi).1
      rw [signs_len] at il
      exact hno i sg u (by rw [lu]; exact il) hi fu
/-- the least cost so far -/
def SoFar (K : PySem.W.Frag) (H : Hp) (rs : List Rw) (cs : List Int) (k : Nat) (lv : V) : Prop :=
  (lv = .non ∧ ∀ i sg u, i < k → (signsL cs.length)[i]? = some sg → ¬ Feas (rs.map (pLim sg)) cs.length u) ∨
  ∃ t, Dq K H lv (frD t) ∧ FrL t ∧ (∃ z, PossV rs cs.length z ∧ costQ cs z = frQ t) ∧ ∀ i sg u, i < k → (signsL cs.length)[i]? = some sg → Feas (rs.map (pLim sg)) cs.length u → frQ t ≤ costQ cs fun j => sgQ sg j * u j
theorem SoFar.same {K : PySem.W.Frag} {H H' : Hp} {rs : List Rw} {cs : List Int} {k : Nat} {lv : V} (h : SoFar K H rs cs k lv) (s : Same H H') : SoFar K H' rs cs k lv := by
  rcases h with h | ⟨t, d, h⟩
  · exact .inl h
  · exact .inr ⟨t, d.same s, h⟩
end
end Ca
set_option Elab.async false
set_option linter.all false
set_option maxRecDepth 100000
set_option maxHeartbeats 8000000
namespace Ca
open PySem L2
/-! ### common: a sure answer, None if there is none -/
def spCommon (K : PySem.W.Frag) (C : Addr) : Sp := fun vs H Q _ => ∃ (x : Addr) (ns : List Str) (rs : List Rw), vs = [.ref x] ∧ SysAt K C H x ns rs ∧ ∀ H' a w, Same H H' → SureT K H' rs (List.replicate ns.length 0) a w → Q a H'
section
variable {P : Program} {w : World} {K : PySem.W.Frag} {mg : Str → Option Value} {base : Heap} {C fUn pUn fRo pRo : Addr} {fdUn fdRo : FuncData}
theorem scCommon : FnScope ["system", "answer", "_"] ["system"] (defScope sCommon) := ⟨rfl, rfl, rfl, by decide +kernel, rfl, by decide +kernel, by decide +kernel⟩
theorem ok_common {f fK fC : Addr} {fd fdK fdC : FuncData} (F : FnT K "common" sCommon f fd) (S : SysC K C)
    (un : PropOf K C "unknowns" pUn fUn) (GUn : FnOk P w K mg base CX0 1 fUn fdUn ["self"] (spUnknowns C)) (bUn : Binds K fdUn ["self"] [])
    (ro : PropOf K C "rows" pRo fRo) (GRo : FnOk P w K mg base CX0 1 fRo fdRo ["self"] (spRows C)) (bRo : Binds K fdRo ["self"] [])
    (gK : mg "check_system" = some (.ref fK)) (GK : FnOk P w K mg base CX0 1 fK fdK ["system"] (spChkS K C)) (kK : PySem.W.keepIn K (.ref fK) = true) (bK : Binds K fdK ["system"] [])
    (gC : mg "cheapest_sure" = some (.ref fC)) (GC : FnOk P w K mg base CX0 7 fC fdC ["rows", "costs"] (spSure K 1)) (kC : PySem.W.keepIn K (.ref fC) = true) (bC : Binds K fdC ["rows", "costs"] []) :
    FnOk P w K mg base CX0 8 f fd ["system"] (spCommon K C) := by
  refine F.ok scCommon (fun vs H Q E h => ?_) (fun cdv A outer s H vs Q E hr h => ?_)
  · obtain ⟨x, ns, rs, rfl, _⟩ := h
    rfl
  · obtain ⟨x, ns, rs, rfl, hX, q⟩ := h
    have nd := scCommon.nd
    have hr1 : Room 1 _ := hr.mono (by decide)
    have hr2 : Room 2 _ := hr.mono (by decide)
    refine ⟨_, PSs.nox (pss_cons (ps_expr (pe_call GK hr1 rfl gK kK bK .nil pass0 (pa_cons (pv 0) pa_nil)))
      (pss_cons (ps_asg (pe_call GC hr rfl gC kC bC .nil pass0 (pa_cons (pe_prop (pv 0) S.cl ro GRo hr2 bRo .nil pass0 rfl)
          (pa_cons (pe_lc (own := [("_", 2)]) (g := gName 2) (tt := tYes) rfl nd (pi_tup (pe_prop (pv 0) S.cl un GUn hr2 bUn .nil pass0 rfl))
            (blkOk_by (own := [("_", 2)]) (N := ["system", "answer", "_"]) (sc := defScope sCommon) (by decide +kernel)) (fun _ _ _ _ _ => pg_name (i := 2) nd rfl (Or.inl rfl)) (fun _ _ _ _ _ => pts_nil) (fun _ _ _ _ _ => pe_int)) pa_nil)))
          (pgTt K rfl (pgs_cons (pg_name (i := 1) nd rfl (.inl rfl)) (pgs_cons (pg_name (i := 2) nd rfl (.inl rfl)) pgs_nil))))
      (pss_one (ps_ret (pv 1))))), ?_⟩
    obtain ⟨hN, hL, dx, tu, tr, ex, du, dr⟩ := id hX
    have n3 := hN.hi
    have n1 := hN.lo
    have r6 := hL.hi
    obtain ⟨ua, us, rfl, hu, _, ul⟩ := tup_len du
    rw [List.length_map] at ul
    refine ⟨_, rfl, x, ns, rs, rfl, hX, ?_⟩
    refine ⟨_, rfl, x, dx, _, rfl, ex, x, dx, .ref ua, tr, rfl, ex, ?_⟩
    refine ⟨_, rfl, x, dx, _, rfl, ex, x, dx, .ref ua, tr, rfl, ex, ua, rfl, ⟨_, hu⟩, fun D hD => ?_⟩
    refine lc_it (walk_tup (K := K) (a := ua) (xs := us)) (fun k H' => Same H H' ∧ H' D = some (.lst ((List.replicate k (0 : Int)).map V.int))) ⟨Same.new hD, upd_same⟩ (fun k H' hk p => same_sqt p.1 hu) ?_ ?_
    · rintro k z H2 H2x hk ⟨s2, bD⟩ ⟨e2, hz⟩
      subst e2
      refine ⟨rfl, rdYes ⟨_, bD, ?_, fun b' o e => ?_, ?_⟩⟩
      · rw [List.length_map, List.length_replicate]
        exact Nat.lt_of_lt_of_le (show k < 10 by omega) (by decide)
      · rw [upd_ne (ne_of_none e hD)]
        exact s2 _ _ e
      · rw [upd_same, List.replicate_succ', List.map_append]
        rfl
    · rintro H2 ⟨s2, bD⟩
      rw [ul] at bD
      refine ⟨tr, D, rs, List.replicate ns.length 0, rfl, dr.same s2, bD, fun r' hr' => by rw [List.length_replicate]; exact hL.ok r' hr', by omega, by rw [List.length_replicate]; exact n1, by rw [List.length_replicate]; exact n3, fun c hc => by rw [List.eq_of_mem_replicate hc]; exact Nat.zero_le _, by decide, fun _ => by unfold zerosOf; rw [List.length_replicate], fun H3 y a w s3 hy st => ?_⟩
      exact ⟨y, _, rfl, hy, rfl, _, _, rfl, _, _, rfl, rfl, _, rfl, q _ a w (s2.trans s3) st⟩
end
end Ca
set_option Elab.async false
set_option linter.all false
set_option maxRecDepth 100000
set_option maxHeartbeats 8000000
namespace Ca
open PySem L2
/-! ### costs -/
/-- an answer is told exactly where there is a sure one -/
theorem sure_has {K : PySem.W.Frag} {H : Hp} {rs : List Rw} {cs : List Int} {a w : V} (hR : ∀ r ∈ rs, isRowD (rowD r) cs.length = true) (st : SureT K H rs cs a w) : (a = .non ∧ ∀ z, ¬ SureV rs cs.length z) ∨ ∃ p, a = .ref p ∧ ∃ z, SureV rs cs.length z := by
  have hm : ∀ r ∈ rs, r.parts.length = cs.length := fun r hr => (row_name (hR r hr)).2
  rcases st with ⟨ws, t, i, rfl, _, sh, so, hi, neg, pos, _⟩ | ⟨fs, ws, t, da, dw, sh, so, no, sa, _⟩ | ⟨fs, t, t', j, da, rfl, sh, so, no, sa, sh', so', hj, neg, col⟩
  · exact .inl ⟨rfl, sure_none hm sh so hi neg pos⟩
  · obtain ⟨ra, rfl⟩ := frs_ref da
    exact .inr ⟨ra, rfl, _, (sure_least hR sh so no sa).1⟩
  · obtain ⟨ra, rfl⟩ := frs_ref da
    have lz := zeros_len (cs2 cs)
    have c2 := cs2_len cs
    exact .inr ⟨ra, rfl, _, sure_some (m := cs.length) (cs := zerosOf (cs2 cs)) (by rw [lz, c2]) hR (by rw [lz]; exact sh) so (by rw [lz]; exact no) sa⟩
def spPossible (K : PySem.W.Frag) (C : Addr) : Sp := fun vs H Q _ => ∃ x ns rs, vs = [.ref x] ∧ SysAt K C H x ns rs ∧ ∀ H' v, Same H H' → ((v = .non ∧ ∀ z, ¬ PossV rs ns.length z) ∨ ∃ fs, Dq K H' v (frsD fs) ∧ PossD rs ns.length fs ∧ PossV rs ns.length (frsQ fs) ∧ fs.length = ns.length ∧ ∀ f ∈ fs, FewB f) → Q v H'
section
variable {P : Program} {w : World} {K : PySem.W.Frag} {mg : Str → Option Value} {base : Heap} {C fUn pUn fRo pRo : Addr} {fdUn fdRo : FuncData}
theorem scPossible : FnScope ["system"] ["system"] (defScope sPossible) := ⟨rfl, rfl, rfl, by decide +kernel, rfl, by decide +kernel, by decide +kernel⟩
theorem ok_possible {f fK fA : Addr} {fd fdK fdA : FuncData} (F : FnT K "possible" sPossible f fd) (mlen : mg "len" = none) (S : SysC K C)
    (un : PropOf K C "unknowns" pUn fUn) (GUn : FnOk P w K mg base CX0 1 fUn fdUn ["self"] (spUnknowns C)) (bUn : Binds K fdUn ["self"] [])
    (ro : PropOf K C "rows" pRo fRo) (GRo : FnOk P w K mg base CX0 1 fRo fdRo ["self"] (spRows C)) (bRo : Binds K fdRo ["self"] [])
    (gK : mg "check_system" = some (.ref fK)) (GK : FnOk P w K mg base CX0 1 fK fdK ["system"] (spChkS K C)) (kK : PySem.W.keepIn K (.ref fK) = true) (bK : Binds K fdK ["system"] [])
    (gA : mg "any_possible" = some (.ref fA)) (GA : FnOk P w K mg base CX0 8 fA fdA ["rows", "many"] (spAnyP K)) (kA : PySem.W.keepIn K (.ref fA) = true) (bA : Binds K fdA ["rows", "many"] []) :
    FnOk P w K mg base CX0 9 f fd ["system"] (spPossible K C) := by
  refine F.ok scPossible (fun vs H Q E h => ?_) (fun cdv A outer s H vs Q E hr h => ?_)
  · obtain ⟨x, ns, rs, rfl, _⟩ := h
    rfl
  · obtain ⟨x, ns, rs, rfl, hX, q⟩ := h
    have hr1 : Room 1 _ := hr.mono (by decide)
    have hr2 : Room 2 _ := hr.mono (by decide)
    refine ⟨_, PSs.nox (pss_cons (ps_expr (pe_call GK hr1 rfl gK kK bK .nil pass0 (pa_cons (pv 0) pa_nil)))
      (pss_one (ps_ret (pe_call GA hr rfl gA kA bA .nil pass0 (pa_cons (pe_prop (pv 0) S.cl ro GRo hr2 bRo .nil pass0 rfl) (pa_cons (pe_callB call_len (by rfl) mlen boot_len (pa_cons (pe_prop (pv 0) S.cl un GUn hr2 bUn .nil pass0 rfl) pa_nil)) pa_nil)))))), ?_⟩
    obtain ⟨hN, hL, dx, tu, tr, ex, du, dr⟩ := id hX
    obtain ⟨ua, us, rfl, hu, _, ul⟩ := tup_len du
    rw [List.length_map] at ul
    have h6 := hL.hi
    refine ⟨_, rfl, x, ns, rs, rfl, hX, ?_⟩
    exact ⟨_, rfl, x, dx, _, rfl, ex, x, dx, .ref ua, tr, rfl, ex, _, rfl, x, dx, _, rfl, ex, x, dx, .ref ua, tr, rfl, ex, _, ns.length, rfl, .inr ⟨_, hu, ul.symm⟩, tr, rs, ns.length, rfl, dr, hL.ok, by omega, hN.lo, hN.hi, fun H' v s' h => q H' v s' h⟩
end
end Ca
set_option Elab.async false
set_option linter.all false
set_option maxRecDepth 100000
set_option maxHeartbeats 8000000
namespace Ca
open PySem L2
/-! ### what the law says of possible answers that are told -/
theorem law_poss {fs : List (Int × Int)} {m : Nat} {rs : List Rw} (hf : ∀ f ∈ fs, 0 < f.2) (hl : fs.length = m) (hR : ∀ r ∈ rs, isRowD (rowD r) m = true) (h : PossV rs m (frsQ fs)) : rs.all (possL fs) = true := by
  rw [List.all_eq_true]
  intro r hr
  have lm := (row_name (hR r hr)).2
  have RP := rowS_pairs (hR r hr)
  have hs := h (prow r) (List.mem_map_of_mem hr)
  have lc : (chosenF r.parts fs).length = fs.length := chosen_len (by omega)
  have e : minQ r fs = leastQ (prow r).lo (prow r).hi (frsQ fs) m := by
    unfold minQ dotF leastQ
    rw [lc, hl]
    refine qsum_congr _ fun j hj => ?_
    have hj1 : j < r.parts.length := by omega
    have hj2 : j < fs.length := by omega
    have e1 : (chosenF r.parts fs).getD j (0, 1) = (if fs[j].1 > 0 then r.parts[j].1 else r.parts[j].2, 1) := by
      rw [List.getD_eq_getElem?_getD, chosen_get hj1 hj2]
      rfl
    have e2 : fs.getD j (0, 1) = fs[j] := by
      rw [List.getD_eq_getElem?_getD, List.getElem?_eq_getElem hj2]
      rfl
    have e3 : r.parts.getD j (0, 0) = r.parts[j] := by
      rw [List.getD_eq_getElem?_getD, List.getElem?_eq_getElem hj1]
      rfl
    show qv ((chosenF r.parts fs).getD j (0, 1)) * qv (fs.getD j (0, 1)) = lessQ2 ((((r.parts.getD j (0, 0)).1 : Int) : Rat) * frsQ fs j) ((((r.parts.getD j (0, 0)).2 : Int) : Rat) * frsQ fs j)
    have ex : frsQ fs j = frQ fs[j] := by unfold frsQ; rw [e2]
    rw [e1, e2, e3, ex]
    have i1 : ((1 : Int) : Rat) = 1 := rfl
    have qn : ∀ n : Int, qv (n, 1) = (n : Rat) := fun n => by
      show ((n : Int) : Rat) / ((1 : Int) : Rat) = _
      rw [i1]
      grind
    rw [qn]
    show _ * frQ fs[j] = _
    have lohi : ((r.parts[j].1 : Int) : Rat) ≤ ((r.parts[j].2 : Int) : Rat) := by exact_mod_cast (RP _ (List.mem_append_left _ (List.getElem_mem hj1))).2.1
    have f2 := hf _ (List.getElem_mem hj2)
    unfold lessQ2
    split
    · rename_i g
      have pos : 0 ≤ frQ fs[j] := div_nonneg' (by omega) f2
      have m1 := Rat.mul_le_mul_of_nonneg_right lohi pos
      rw [if_pos m1]
    · rename_i g
      have neg : frQ fs[j] ≤ 0 := by
        have h1 : 0 ≤ -fs[j].1 := by omega
        have := div_nonneg' h1 f2
        rw [Rat.intCast_neg] at this
        unfold frQ
        have e5 : -((fs[j].1 : Int) : Rat) / ((fs[j].2 : Int) : Rat) = -(((fs[j].1 : Int) : Rat) / ((fs[j].2 : Int) : Rat)) := by grind
        rw [e5] at this
        grind
      have m1 := Rat.mul_le_mul_of_nonneg_right lohi (show 0 ≤ -frQ fs[j] by grind)
      split
      · rename_i g2
        have : ((r.parts[j].1 : Int) : Rat) * frQ fs[j] = ((r.parts[j].2 : Int) : Rat) * frQ fs[j] := by grind
        exact this.symm
      · rfl
  unfold possL
  rw [e]
  have i1 : ((1 : Int) : Rat) = 1 := rfl
  have qb : qv (r.bd.2, 1) = (prow r).bd := by
    show ((r.bd.2 : Int) : Rat) / ((1 : Int) : Rat) = ((r.bd.2 : Int) : Rat)
    rw [i1]
    grind
  rw [qb, decide_eq_false (Rat.not_lt.mpr hs)]
  rfl
theorem sure_is_poss {rs : List Rw} {m : Nat} {x : Nat → Rat} (hR : ∀ r ∈ rs, isRowD (rowD r) m = true) (h : SureV rs m x) : PossV rs m x := by
  intro r hr
  obtain ⟨r0, h0, rfl⟩ := List.mem_map.mp hr
  have hs := h (srow r0) (List.mem_map_of_mem h0)
  have RP := rowS_pairs (hR r0 h0)
  have hb : ((r0.bd.1 : Int) : Rat) ≤ ((r0.bd.2 : Int) : Rat) := by exact_mod_cast (RP _ (List.mem_append_right _ (List.mem_singleton.mpr rfl))).2.1
  have le : leastQ (prow r0).lo (prow r0).hi x m ≤ mostQ (srow r0).lo (srow r0).hi x m := by
    unfold leastQ mostQ
    refine qsum_le _ fun j hj => ?_
    show lessQ2 ((((r0.parts.getD j (0, 0)).1 : Int) : Rat) * x j) ((((r0.parts.getD j (0, 0)).2 : Int) : Rat) * x j) ≤ maxQ ((((r0.parts.getD j (0, 0)).1 : Int) : Rat) * x j) ((((r0.parts.getD j (0, 0)).2 : Int) : Rat) * x j)
    unfold lessQ2 maxQ
    split <;> grind
  exact Rat.le_trans le (Rat.le_trans hs hb)
end Ca
set_option Elab.async false
set_option linter.all false
set_option maxRecDepth 100000
set_option maxHeartbeats 8000000
namespace Ca
open PySem L2 LamX
/-! ### draws that end well, where tables of code objects may have grown -/
def spAllT (T : List (Addr × Str)) : Sp := fun vs H Q _ => ∃ l, vs = [.ref l] ∧ Urn H l ∧ Tabs T H ∧ ∀ H', KeptN l H H' → Urn H' l → Tabs T H' → Q (.bl true) H'
theorem tabs_on {T : List (Addr × Str)} {H H' : Hp} (t : Tabs T H) (s : Same H H') : Tabs T H' := t.ext fun b o e => s b o e
def spLawT (K : PySem.W.Frag) (T : List (Addr × Str)) : Sp := fun vs H Q _ => ∃ (a : Addr) (ns : List Int), vs = [.ref a] ∧ SqL K H a (ns.map V.int) ∧ Tabs T H ∧ ∀ H', Q (.bl true) H'
section
variable {P : Program} {w : World} {K : PySem.W.Frag} {mg : Str → Option Value} {base : Heap}
end
end Ca
set_option Elab.async false
set_option linter.all false
set_option maxRecDepth 100000
set_option maxHeartbeats 4000000
namespace Ca
open PySem L2 LamX
/-! ### data whose lists stand apart from some places -/
mutual
inductive DrP (K : PySem.W.Frag) (S : Addr → Prop) (H : Hp) : V → PyData → Prop
  | non : DrP K S H .non .none
  | bl (b : Bool) : DrP K S H (.bl b) (.bool b)
  | int (i : Int) : DrP K S H (.int i) (.int i)
  | str (x : Str) (h : x.length ≤ 1000) : DrP K S H (.str x) (.str x)
  | lst {a : Addr} {xs : List V} {ds : List PyData} : ¬ S a → SqL K H a xs → DrPs K S H xs ds → DrP K S H (.ref a) (.list ds)
  | tup {a : Addr} {xs : List V} {ds : List PyData} : SqT K H a xs → DrPs K S H xs ds → DrP K S H (.ref a) (.tuple ds)
  | dic {a : Addr} : H a = some (.dK []) → DrP K S H (.ref a) (.dict [])
inductive DrPs (K : PySem.W.Frag) (S : Addr → Prop) (H : Hp) : List V → List PyData → Prop
  | nil : DrPs K S H [] []
  | cons {v : V} {vs : List V} {d : PyData} {ds : List PyData} : DrP K S H v d → DrPs K S H vs ds → DrPs K S H (v :: vs) (d :: ds)
end
mutual
theorem DrP.but {K : PySem.W.Frag} {S : Addr → Prop} {H H' : Hp} {l : Addr} {ys : List V} (hS : S l) (hl : H l = some (.lst ys)) (k : KeptN l H H') : ∀ {d : PyData} {v : V}, DrP K S H v d → DrP K S H' v d
  | .none, _, h => by cases h; exact .non
  | .bool b, _, h => by cases h; exact .bl b
  | .int i, _, h => by cases h; exact .int i
  | .str x, _, h => by cases h with | str _ a => exact .str x a
  | .list ds, _, h => by
    cases h with
    | lst n a b => exact .lst n (sql_butN (fun z => n (z ▸ hS)) k a) (DrPs.but hS hl k b)
  | .tuple ds, _, h => by
    cases h with
    | tup a b => exact .tup (sqt_butN hl k a) (DrPs.but hS hl k b)
  | .dict ds, _, h => by
    cases h with
    | dic a => exact .dic (k _ _ (fun z => by rw [z, hl] at a; cases a) a fun _ z => nomatch z)
theorem DrPs.but {K : PySem.W.Frag} {S : Addr → Prop} {H H' : Hp} {l : Addr} {ys : List V} (hS : S l) (hl : H l = some (.lst ys)) (k : KeptN l H H') : ∀ {ds : List PyData} {vs : List V}, DrPs K S H vs ds → DrPs K S H' vs ds
  | [], _, h => by cases h; exact .nil
  | d :: ds, _, h => by
    cases h with
    | cons a b => exact .cons (DrP.but hS hl k a) (DrPs.but hS hl k b)
end
mutual
theorem DrP.extN {K : PySem.W.Frag} {S : Addr → Prop} {H H' : Hp} (k : ExtN H H') : ∀ {d : PyData} {v : V}, DrP K S H v d → DrP K S H' v d
  | .none, _, h => by cases h; exact .non
  | .bool b, _, h => by cases h; exact .bl b
  | .int i, _, h => by cases h; exact .int i
  | .str x, _, h => by cases h with | str _ a => exact .str x a
  | .list ds, _, h => by
    cases h with
    | lst n a b => exact .lst n (seqL_ext k a) (DrPs.extN k b)
  | .tuple ds, _, h => by
    cases h with
    | tup a b => exact .tup (seqT_ext k a) (DrPs.extN k b)
  | .dict ds, _, h => by
    cases h with
    | dic a => exact .dic (k _ _ a fun _ z => nomatch z)
theorem DrPs.extN {K : PySem.W.Frag} {S : Addr → Prop} {H H' : Hp} (k : ExtN H H') : ∀ {ds : List PyData} {vs : List V}, DrPs K S H vs ds → DrPs K S H' vs ds
  | [], _, h => by cases h; exact .nil
  | d :: ds, _, h => by
    cases h with
    | cons a b => exact .cons (DrP.extN k a) (DrPs.extN k b)
end
mutual
theorem DrP.sub {K : PySem.W.Frag} {S S' : Addr → Prop} {H : Hp} (i : ∀ a, S' a → S a) : ∀ {d : PyData} {v : V}, DrP K S H v d → DrP K S' H v d
  | .none, _, h => by cases h; exact .non
  | .bool b, _, h => by cases h; exact .bl b
  | .int i, _, h => by cases h; exact .int i
  | .str x, _, h => by cases h with | str _ a => exact .str x a
  | .list ds, _, h => by
    cases h with
    | lst n a b => exact .lst (fun z => n (i _ z)) a (DrPs.sub i b)
  | .tuple ds, _, h => by
    cases h with
    | tup a b => exact .tup a (DrPs.sub i b)
  | .dict ds, _, h => by
    cases h with
    | dic a => exact .dic a
theorem DrPs.sub {K : PySem.W.Frag} {S S' : Addr → Prop} {H : Hp} (i : ∀ a, S' a → S a) : ∀ {ds : List PyData} {vs : List V}, DrPs K S H vs ds → DrPs K S' H vs ds
  | [], _, h => by cases h; exact .nil
  | d :: ds, _, h => by
    cases h with
    | cons a b => exact .cons (DrP.sub i a) (DrPs.sub i b)
end
mutual
theorem DrP.dq {K : PySem.W.Frag} {S : Addr → Prop} {H : Hp} : ∀ {d : PyData} {v : V}, DrP K S H v d → Dq K H v d
  | .none, _, h => by cases h; exact .non
  | .bool b, _, h => by cases h; exact .bl b
  | .int i, _, h => by cases h; exact .int i
  | .str x, _, h => by cases h with | str _ a => exact .str x a
  | .list ds, _, h => by
    cases h with
    | lst n a b => exact .lst a (DrPs.dq b)
  | .tuple ds, _, h => by
    cases h with
    | tup a b => exact .tup a (DrPs.dq b)
  | .dict ds, _, h => by
    cases h with
    | dic a => exact .dic a
theorem DrPs.dq {K : PySem.W.Frag} {S : Addr → Prop} {H : Hp} : ∀ {ds : List PyData} {vs : List V}, DrPs K S H vs ds → DqAll K H vs ds
  | [], _, h => by cases h; exact .nil
  | d :: ds, _, h => by
    cases h with
    | cons a b => exact .cons (DrP.dq a) (DrPs.dq b)
end
theorem DrP.same {K : PySem.W.Frag} {S : Addr → Prop} {H H' : Hp} {d : PyData} {v : V} (h : DrP K S H v d) (s : Same H H') : DrP K S H' v d := h.extN (same_extN s)
theorem DrPs.same {K : PySem.W.Frag} {S : Addr → Prop} {H H' : Hp} {ds : List PyData} {vs : List V} (h : DrPs K S H vs ds) (s : Same H H') : DrPs K S H' vs ds := h.extN (same_extN s)
theorem DrPs.get {K : PySem.W.Frag} {S : Addr → Prop} {H : Hp} : ∀ {vs : List V} {ds : List PyData} {i : Nat} {v : V}, DrPs K S H vs ds → vs[i]? = some v → ∃ d, ds[i]? = some d ∧ DrP K S H v d
  | _, _, 0, _, .cons a _, e => by
    cases e
    exact ⟨_, rfl, a⟩
  | _, _, i + 1, _, .cons _ t, e => t.get (i := i) e
theorem DrPs.len {K : PySem.W.Frag} {S : Addr → Prop} {H : Hp} : ∀ {vs : List V} {ds : List PyData}, DrPs K S H vs ds → vs.length = ds.length
  | _, _, .nil => rfl
  | _, _, .cons _ t => congrArg Nat.succ t.len
theorem DrPs.app {K : PySem.W.Frag} {S : Addr → Prop} {H : Hp} : ∀ {vs ws : List V} {ds es : List PyData}, DrPs K S H vs ds → DrPs K S H ws es → DrPs K S H (vs ++ ws) (ds ++ es)
  | _, _, _, _, .nil, h => h
  | _, _, _, _, .cons a t, h => .cons a (t.app h)
end Ca
set_option Elab.async false
set_option linter.all false
set_option maxRecDepth 100000
set_option maxHeartbeats 8000000
namespace Ca
open PySem PySem.Spec PyProof.Rows L2 LamX
abbrev N25 : List Str := ["_law_purse_here", "_law_turn", "_law_card_here", "_law_mine", "_law_due", "_law_told"]
theorem sc25 : FnScope N25 ["_law_purse_here"] (defScope sLawRight) := ⟨rfl, rfl, rfl, by decide +kernel, rfl, by decide +kernel, by decide +kernel⟩
section
variable {P : Program} {w : World} {K : PySem.W.Frag} {mg : Str → Option Value} {base : Heap} {C : Addr}
theorem ok_right25 {f fC fH fM fA fPo fCo fK : Addr} {fd fdC fdH fdM fdA fdPo fdCo fdK : FuncData} (F : FnT K "_law_right" sLawRight f fd) (mrng : mg "range" = none) (mrep : mg "repr" = none)
    (gC : mg "_law_card" = some (.ref fC)) (GC : FnOk P w K mg base CX0 4 fC fdC ["_law_purse_here", "_law_most_unknowns", "_law_most_rows", "_law_size"] (spCard K)) (kC : PySem.W.keepIn K (.ref fC) = true) (bC : Binds K fdC ["_law_purse_here", "_law_most_unknowns", "_law_most_rows", "_law_size"] [])
    (gH : mg "_law_hard" = some (.ref fH)) (GH : FnOk P w K mg base CX0 2 fH fdH ["_law_purse_here", "_law_card_here"] (spHard K)) (kH : PySem.W.keepIn K (.ref fH) = true) (bH : Binds K fdH ["_law_purse_here", "_law_card_here"] [])
    (gM : mg "_law_made" = some (.ref fM)) (GM : FnOk P w K mg base CX0 7 fM fdM ["_law_card_here"] (spMadeP K C)) (kM : PySem.W.keepIn K (.ref fM) = true) (bM : Binds K fdM ["_law_card_here"] [])
    (gA : mg "_law_has" = some (.ref fA)) (GA : FnOk P w K mg base CX0 3 fA fdA ["_law_card_here", "_law_sure", "_law_more"] (spHas K)) (kA : PySem.W.keepIn K (.ref fA) = true) (bA : Binds K fdA ["_law_card_here", "_law_sure", "_law_more"] [])
    (gPo : mg "possible" = some (.ref fPo)) (GPo : FnOk P w K mg base CX0 9 fPo fdPo ["system"] (spPossible K C)) (kPo : PySem.W.keepIn K (.ref fPo) = true) (bPo : Binds K fdPo ["system"] []) (kbPo : KBn K fdPo ["system"] 0 ["system"] (fun _ ws => ws.reverse) (fun _ zs => zs.reverse))
    (gCo : mg "common" = some (.ref fCo)) (GCo : FnOk P w K mg base CX0 8 fCo fdCo ["system"] (spCommon K C)) (kCo : PySem.W.keepIn K (.ref fCo) = true) (bCo : Binds K fdCo ["system"] [])
    (gK : mg "_law_keeps" = some (.ref fK)) (GK : FnOk P w K mg base CX0 4 fK fdK ["_law_card_here", "_law_told", "_law_sure"] (spLKeeps K)) (kK : PySem.W.keepIn K (.ref fK) = true) (bK : Binds K fdK ["_law_card_here", "_law_told", "_law_sure"] []) :
    FnG P w K mg base 10 f fd ["_law_purse_here"] (spAllT []) := by
  refine fnG_of F sc25 (fun vs H Q E h => ?_) (fun cdv A outer s H vs Q hgd hr h => ?_)
  · obtain ⟨l, rfl, _⟩ := h
    rfl
  · obtain ⟨l, rfl, hU, _, q⟩ := h
    have nd := sc25.nd
    have hr2 : Room 2 _ := hr.mono (by decide)
    have hr3 : Room 3 _ := hr.mono (by decide)
    have hr4 : Room 4 _ := hr.mono (by decide)
    have hr7 : Room 7 _ := hr.mono (by decide)
    have hr8 : Room 8 _ := hr.mono (by decide)
    have hu := hr.un
    have hu' : (A.deeper (PyProof.Rows.envOfC "_law_right" (defScope sLawRight) s.heap.objs.size f cdv)).units + 200 < cLine := by omega
    refine ⟨_, PSs.nox (pss_cons (ps_for PassesOwn.never rfl (pi_range1 rfl mrng (pa_cons pe_int pa_nil)) (pg_name (i := 1) nd rfl (.inl rfl))
        (pss_cons (ps_cut (ps_set (i := 2) nd rfl (.inl rfl) (pe_call GC hr4 rfl gC kC bC .nil pass0 (pa_cons (pv 0) (pa_cons pe_int (pa_cons pe_int (pa_cons pe_int pa_nil)))))))
        (pss_cons (ps_cut (ps_set (i := 2) nd rfl (.inl rfl) (pe_ifExp (pt_cmpR op_gt (pv 1) pe_int (nomark _)) (pe_call GH hr2 rfl gH kH bH .nil pass0 (pa_cons (pv 0) (pa_cons (pv 2) pa_nil))) (pv 2))))
        (pss_cons (ps_cut (ps_par (i := 3) (j := 4) rfl nd rfl rfl (by decide) rfl rfl (pa_cons (pe_call GM hr7 rfl gM kM bM .nil pass0 (pa_cons (pv 2) pa_nil)) (pa_cons (pe_call GA hr3 rfl gA kA bA .nil pass0 (pa_cons (pv 2) (pa_cons pe_bl (pa_cons (pe_lst pa_nil) pa_nil)))) pa_nil)) rfl))
        (pss_cons (ps_cut (ps_set (i := 5) nd rfl (.inl rfl) (pe_call GPo hr rfl gPo kPo bPo .nil pass0 (pa_cons (pv 3) pa_nil))))
        (pss_cons (ps_cut (ps_if (PW.pt (pw_or (pt_cmpR op_ne (pe_callB (reprK K hgd hu') (by rfl) mrep PyProof.Rows.boot_repr (pa_cons (pe_callK0 GPo hr rfl gPo kPo kbPo (pk_cons (pv 3) pk_nil)) pa_nil)) (pe_callB (reprK K hgd hu') (by rfl) mrep PyProof.Rows.boot_repr (pa_cons (pv 5) pa_nil)) (nomark _))
            (pw_or1 (pt_cmpR op_ne (pe_cmpR op_notN (pv 5) pe_non (nomark _)) (pv 4) (nomark _))))) (pss_one (ps_ret pe_bl)) pss_nil))
        (pss_one (ps_if (PW.pt (pw_or (PW.pt (pw_and (pt_val (pv 4)) (pw_and1 (pt_not (pt_val (pe_call GK hr4 rfl gK kK bK .nil pass0 (pa_cons (pv 2) (pa_cons (pv 5) (pa_cons pe_bl pa_nil))))))))) (pw_or1 (PW.pt (pw_and (pt_not (pt_val (pv 4))) (pw_and1 (pt_cmpR op_notN (pe_call GCo hr8 rfl gCo kCo bCo .nil pass0 (pa_cons (pv 3) pa_nil)) pe_non (nomark _))))))))
          (pss_one (ps_ret pe_bl)) pss_nil))))))))
      (pss_one (ps_ret pe_bl))), ?_⟩
    refine ⟨_, rfl, by decide, by decide, ?_⟩
    refine for_it (walk_range (lo := 0) (n := ((3 : Int)).toNat)) (fun k σ' H' => (∃ o1 o2 o3 o4 o5, σ' = [some (.ref l), o1, o2, o3, o4, o5]) ∧ Kept l H H' ∧ Urn H' l)
      ⟨⟨_, _, _, _, _, rfl⟩, Kept.refl l H, hU⟩ (fun _ _ _ _ _ => trivial) ?_ (fun σ' H' p => ?_)
    · rintro k z _ H0 H0x hk ⟨⟨o1, o2, o3, o4, o5, rfl⟩, k0, u0⟩ ⟨e0, hz⟩
      subst e0
      have ez : z = .int ((k : Nat) : Int) := by
        rw [hz]
        show V.int (0 + ((k : Nat) : Int)) = _
        rw [Int.zero_add]
      subst ez
      clear hz
      -- the card
      refine ⟨fun σ' H' => ∃ (c u r : Addr) (rs : List Rw) (m : Nat), σ' = [some (.ref l), some (.int (k : Nat)), some (.ref c), o3, o4, o5] ∧ Kept l H H' ∧ Urn H' l ∧ c ≠ l ∧ H' c = some (.lst [.ref u, .ref r]) ∧ Dq K H' (.ref u) (folkD (folk3 m)) ∧ Dq K H' (.ref r) (rowsD rs) ∧ 1 ≤ m ∧ m ≤ 2 ∧ Lines rs m ∧ rs.length ≤ 5 ∧ ∀ r ∈ rs, -2000 ≤ r.bd.1 ∧ r.bd.2 ≤ 8001, ?_, ?_⟩
      · exact ⟨_, rfl, l, 2, 5, 6, rfl, u0, by decide, by decide, by decide, by decide, by decide, by decide, fun H1 c u r rs m k1 v1 hc ncl hc1 du dr m1 m2 hL r1 r2 nm => ⟨c, u, r, rs, m, rfl, k0.trans k1, v1, ncl, hc1, du, dr, m1, by omega, hL, by omega, fun r hr => by
          obtain ⟨i, hi⟩ := List.mem_iff_getElem?.mp hr
          exact (nm i r hi).2⟩⟩
      rintro _ H1 ⟨c, u, r, rs, m, rfl, k1, u1, ncl, hc1, du1, dr1, m1, m2, hL, h5, hbd⟩
      obtain ⟨hN, hNl⟩ := folk3_ok m1 (by omega : m ≤ 3)
      -- lowered
      refine ⟨fun σ' H' => ∃ (c u r : Addr) (rs : List Rw), σ' = [some (.ref l), some (.int (k : Nat)), some (.ref c), o3, o4, o5] ∧ Kept l H H' ∧ Urn H' l ∧ c ≠ l ∧ H' c = some (.lst [.ref u, .ref r]) ∧ Dq K H' (.ref u) (folkD (folk3 m)) ∧ Dq K H' (.ref r) (rowsD rs) ∧ Lines rs m ∧ rs.length ≤ 5, ?_, ?_⟩
      · refine ⟨_, rfl, _, _, rfl, rfl, _, rfl, ite2 (fun _ => ?_) (fun _ => ?_)⟩
        · exact ⟨_, rfl, _, rfl, l, c, u, r, folk3 m, rs, m, rfl, u1, ncl, hc1, du1, dr1, hL, hbd, fun H2 c' u' r' n k2 u2 nc hc' du' dr' hL' => ⟨c', u', r', _, rfl, k1.trans k2, u2, nc, hc', du', dr', hL', by rw [List.length_map]; exact h5⟩⟩
        · exact ⟨_, rfl, c, u, r, rs, rfl, k1, u1, ncl, hc1, du1, dr1, hL, h5⟩
      clear hc1 du1 dr1 hL h5 hbd ncl k1 u1
      rintro _ H1 ⟨c, u, r, rs, rfl, k1, u1, ncl, hc1, du1, dr1, hL, h5⟩
      have hL' : Lines rs (folk3 m).length := by rw [hNl]; exact hL
      -- the system, and what is due
      refine ⟨fun σ' H' => ∃ (x : Addr) (due : Bool), σ' = [some (.ref l), some (.int (k : Nat)), some (.ref c), some (.ref x), some (.bl due), o5] ∧ Same H1 H' ∧ SysAt K C H' x (folk3 m) rs ∧ (due = true ↔ ∃ z, PossV rs m z), ?_, ?_⟩
      · refine ⟨_, rfl, c, u, r, folk3 m, rs, rfl, hc1, du1, dr1, hN, hL', fun H2 x s2 X2 => ?_⟩
        refine ⟨_, rfl, Nat.zero_le _, fun l2 hl2 => ?_⟩
        have s3 := Same.new (o := .lst []) hl2
        have s23 := s2.trans s3
        refine ⟨c, u, r, l2, false, folk3 m, rs, [], [], rfl, s23 _ _ hc1, du1.same s23, dr1.same s23, upd_same, .nil, (fun k hk => by cases hk), hL'.ok, by rw [hNl]; show rs.length + m + 0 ≤ 8; omega, by rw [hNl]; exact m2, fun H4 v s4 hv => ?_⟩
        rw [hNl] at hv
        refine ⟨_, _, rfl, x, v, rfl, s23.trans s4, X2.same (s3.trans s4), hv.trans ⟨fun ⟨z, h, _⟩ => ⟨z, h⟩, fun ⟨z, h⟩ => ⟨z, h, fun p hp => by cases hp⟩⟩⟩
      rintro _ H2 ⟨x, due, rfl, s2, X2, hdue⟩
      -- what is told
      refine ⟨fun σ' H' => ∃ a : V, σ' = [some (.ref l), some (.int (k : Nat)), some (.ref c), some (.ref x), some (.bl due), some a] ∧ Same H2 H' ∧ ((a = .non ∧ ∀ z, ¬ PossV rs m z) ∨ ∃ fs, Dq K H' a (frsD fs) ∧ PossD rs m fs ∧ PossV rs m (frsQ fs) ∧ fs.length = m ∧ ∀ f ∈ fs, FewB f), ?_, ?_⟩
      · refine ⟨_, rfl, x, folk3 m, rs, rfl, X2, fun H3 a s3 ha => ?_⟩
        rw [hNl] at ha
        exact ⟨a, rfl, s3, ha⟩
      rintro _ H3 ⟨a, rfl, s3, ha⟩
      have s23 := s2.trans s3
      have X3 := X2.same s3
      have few : ∀ {fs : List (Int × Int)}, (∀ f ∈ fs, FewB f) → ∀ f ∈ fs, f.1.natAbs < 2 ^ 900 ∧ f.2.natAbs < 2 ^ 900 := fun h f hf => by
        obtain ⟨p1, p2, p3, p4⟩ := h f hf
        exact ⟨Nat.lt_of_lt_of_le p2 (Nat.pow_le_pow_right (by decide) (by decide)), Nat.lt_of_lt_of_le p3 (Nat.pow_le_pow_right (by decide) (by decide))⟩
      have hasd : due = true ↔ a ≠ .non := by
        rw [hdue]
        rcases ha with ⟨rfl, no⟩ | ⟨fs, da, pd, pv', lf, fw⟩
        · exact ⟨fun ⟨z, h⟩ => (no z h).elim, fun h => absurd rfl h⟩
        · obtain ⟨ra, rfl⟩ := frs_ref da
          exact ⟨(fun _ z => by cases z), fun _ => ⟨_, pv'⟩⟩
      -- asked again
      refine ⟨fun σ' H' => σ' = [some (.ref l), some (.int (k : Nat)), some (.ref c), some (.ref x), some (.bl due), some a] ∧ Same H3 H', ?_, ?_⟩
      · refine ⟨_, rfl, rfl, rfl, x, folk3 m, rs, rfl, X3, fun H4 a' s4 ha' => ?_⟩
        rw [hNl] at ha'
        have same : ∃ d, Good K H4 a' d ∧ Good K H4 a d := by
          rcases ha with ⟨rfl, no⟩ | ⟨fs, da, pd, pv', lf, fw⟩
          · rcases ha' with ⟨rfl, _⟩ | ⟨fs', _, _, pv', _⟩
            · exact ⟨_, good_none, good_none⟩
            · exact (no _ pv').elim
          · rcases ha' with ⟨rfl, no⟩ | ⟨fs', da', pd', _, _, _⟩
            · exact (no _ pv').elim
            · have e := possD_one pd' pd
              subst e
              exact ⟨_, good_frs da' (few fw) (by omega), good_frs (da.same s4) (few fw) (by omega)⟩
        obtain ⟨d, g1, g2⟩ := same
        refine ⟨a', d, rfl, g1.1, g1.2.1, g1.2.2.1, g1.2.2.2, ?_⟩
        refine ⟨_, rfl, ?_⟩
        refine ⟨a, d, rfl, g2.1, g2.2.1, g2.2.2.1, g2.2.2.2, ?_⟩
        refine ⟨rfl, _, rfl, ?_⟩
        rw [decide_eq_true rfl]
        refine iteF ⟨_, rfl, rfl, _, rfl, rfl, _, rfl, ?_⟩
        have e0 : (!decide (V.bl (!decide (a = V.non)) = V.bl due)) = false := by
          have e1 : (!decide (a = V.non)) = due := by
            cases due
            · have : a = .non := Classical.byContradiction fun z => Bool.false_ne_true (hasd.mpr z)
              rw [decide_eq_true this]
              rfl
            · rw [decide_eq_false (hasd.mp rfl)]
              rfl
          rw [e1, decide_eq_true rfl]
          rfl
        rw [e0]
        exact iteF ⟨rfl, s4⟩
      rintro _ H4 ⟨rfl, s4⟩
      have s24 := s23.trans s4
      have done : ∀ H', Same H4 H' → (∃ o1 o2 o3 o4 o5, [some (V.ref l), some (.int (k : Nat)), some (.ref c), some (.ref x), some (.bl due), some a] = [some (V.ref l), o1, o2, o3, o4, o5]) ∧ Kept l H H' ∧ Urn H' l := fun H' s' => ⟨⟨_, _, _, _, _, rfl⟩, k1.trans (s24.trans s').kept, u1.same (s24.trans s')⟩
      refine ⟨_, rfl, _, rfl, ?_⟩
      cases due
      · refine iteF ⟨_, rfl, _, rfl, iteT ?_⟩
        have ne : a = .non := Classical.byContradiction fun z => Bool.false_ne_true (hasd.mpr z)
        have no : ∀ z, ¬ PossV rs m z := fun z hz => Bool.false_ne_true (hdue.mpr ⟨z, hz⟩)
        refine ⟨_, rfl, x, folk3 m, rs, rfl, X3.same s4, fun H5 b w1 s5 st => ?_⟩
        have lz : (List.replicate (folk3 m).length (0 : Int)).length = m := by rw [List.length_replicate, hNl]
        have hb := sure_has (rs := rs) (by rw [lz]; exact hL.ok) st
        rw [lz] at hb
        rcases hb with ⟨rfl, _⟩ | ⟨p, rfl, z, hz⟩
        · exact ⟨rfl, _, rfl, iteF (done H5 s5)⟩
        · exact (no z (sure_is_poss hL.ok hz)).elim
      · refine iteT ?_
        rcases ha with ⟨rfl, no⟩ | ⟨fs, da, pd, pv', lf, fw⟩
        · obtain ⟨z, hz⟩ := hdue.mp rfl
          exact (no z hz).elim
        · have fr : ∀ f ∈ fs, FrS 300 f := fun f hf => by
            obtain ⟨p1, p2, p3, p4⟩ := fw f hf
            exact ⟨p1, Nat.lt_of_lt_of_le p2 (Nat.pow_le_pow_right (by decide) (by decide)), Nat.lt_of_lt_of_le p3 (Nat.pow_le_pow_right (by decide) (by decide)), p4⟩
          refine ⟨_, rfl, _, rfl, c, u, r, a, folk3 m, rs, fs, rfl, s24 _ _ hc1, du1.same s24, dr1.same s24, da.same s4, hL', by rw [hNl]; exact lf, by omega, fr, fun H5 s5 => ?_⟩
          rw [law_poss (fun f hf => (fr f hf).pos) lf hL.ok pv']
          refine ⟨_, rfl, iteF ?_⟩
          refine ⟨_, rfl, _, rfl, iteF (iteF ?_)⟩
          exact done H5 s5
    · obtain ⟨⟨o1, o2, o3, o4, o5, rfl⟩, k0, u0⟩ := p
      exact q H' k0.n u0 fun z hz => nomatch hz
end
end Ca
set_option Elab.async false
set_option linter.all false
set_option maxRecDepth 100000
set_option maxHeartbeats 8000000
namespace Ca
open PySem L2 LamX
/-! ### the law: draws by up to capP numbers -/
abbrev capP : Int := 4
abbrev NLp : List Str := ["_law_script", "_law_k"]
theorem scLawP : FnScope NLp ["_law_script"] (defScope sLaw) := ⟨rfl, rfl, rfl, by decide +kernel, rfl, by decide +kernel, by decide +kernel⟩
theorem fewP (n : Nat) : (2 : Int) ≤ (if (if capP < (n : Int) then capP else (n : Int)) > 2 then (if capP < (n : Int) then capP else (n : Int)) else 2) ∧ (if (if capP < (n : Int) then capP else (n : Int)) > 2 then (if capP < (n : Int) then capP else (n : Int)) else 2) ≤ 63 := by
  unfold capP
  split <;> split <;> omega
section
variable {P : Program} {w : World} {K : PySem.W.Frag} {mg : Str → Option Value} {base : Heap}
theorem ok_lawP {T : List (Addr × Str)} {j : Nat} (hj : 1 ≤ j) {f fR fU : Addr} {fd fdR fdU : FuncData} (F : FnT K "law" sLaw f fd)
    (gR : mg "_law_right" = some (.ref fR)) (GR : FnG P w K mg base j fR fdR ["_law_purse_here"] (spAllT T)) (kR : PySem.W.keepIn K (.ref fR) = true) (bR : Binds K fdR ["_law_purse_here"] [])
    (gU : mg "_law_purse" = some (.ref fU)) (GU : FnOk P w K mg base CX0 1 fU fdU ["_law_script", "_law_k"] (spPurse K)) (kU : PySem.W.keepIn K (.ref fU) = true) (bU : Binds K fdU ["_law_script", "_law_k"] [])
    (mrng : mg "range" = none) (mmax : mg "max" = none) (mmin : mg "min" = none) (mlen : mg "len" = none) :
    FnG P w K mg base (j + 1) f fd ["_law_script"] (spLawT K T) := by
  refine fnG_of F scLawP (fun vs H Q E h => ?_) (fun cdv A outer s H vs Q hgd hr h => ?_)
  · obtain ⟨a, ns, rfl, _⟩ := h
    rfl
  · obtain ⟨a, ns, rfl, hS, hT, q⟩ := h
    have nd := scLawP.nd
    have hr1 : Room 1 _ := hr.mono hj
    refine ⟨_, PSs.nox (pss_cons (ps_for PassesOwn.never rfl (pi_range1 rfl mrng (pa_cons (pe_callB (call_max2 rfl) (by rfl) mmax PyProof.Rows.boot_max (pa_cons pe_int (pa_cons (pe_callB (call_min2 rfl) (by rfl) mmin PyProof.Rows.boot_min (pa_cons (pe_callB call_len (by rfl) mlen boot_len (pa_cons (pv 0) pa_nil)) (pa_cons pe_int pa_nil))) pa_nil))) pa_nil)) (pg_name (i := 1) nd rfl (.inl rfl))
        (pss_one (ps_if (pt_not (pt_val (pe_callG GR hgd hr gR kR bR (pa_cons (pe_call GU hr1 rfl gU kU bU .nil pass0 (pa_cons (pv 0) (pa_cons (pv 1) pa_nil))) pa_nil)))) (pss_one (ps_ret pe_bl)) pss_nil)))
      (pss_one (ps_ret pe_bl))), ?_⟩
    refine ⟨_, rfl, _, _, rfl, .inl ⟨_, hS, rfl⟩, _, _, rfl, _, _, rfl, ?_⟩
    obtain ⟨hlo, hhi⟩ := fewP (ns.map V.int).length
    refine ⟨_, rfl, Int.le_trans (by decide) hlo, Int.lt_of_le_of_lt hhi (by decide), ?_⟩
    generalize (if (if capP < ((ns.map V.int).length : Int) then capP else ((ns.map V.int).length : Int)) > 2 then (if capP < ((ns.map V.int).length : Int) then capP else ((ns.map V.int).length : Int)) else 2) = jj at hlo hhi
    refine for_it (walk_range (lo := 0) (n := jj.toNat)) (fun k σ' H' => (∃ o1, σ' = [some (.ref a), o1]) ∧ ExtN H H' ∧ Tabs T H') ⟨⟨_, rfl⟩, ExtN.refl _, hT⟩ (fun _ _ _ _ _ => trivial) ?_ (fun σ' H' p => q H')
    · rintro k z _ _ H3 hk ⟨⟨o1, rfl⟩, e3, t3⟩ ⟨rfl, hz⟩
      have ez : z = .int ((k : Nat) : Int) := by
        rw [hz]
        show V.int (0 + ((k : Nat) : Int)) = _
        rw [Int.zero_add]
      subst ez
      refine ⟨_, rfl, _, rfl, a, ns, k, rfl, by omega, seqL_ext e3 hS, fun H4 l hl s4 u4 => ⟨l, rfl, u4, tabs_on t3 s4, fun H5 k5 u5 t5 => ⟨_, rfl, iteF ⟨⟨_, rfl⟩, fun b o e n => ?_, t5⟩⟩⟩⟩
      have e1 := e3 _ _ e n
      exact k5 _ _ (ne_of_none e1 hl) (s4 _ _ e1) n
end
end Ca
set_option Elab.async false
set_option linter.all false
set_option maxRecDepth 100000
set_option maxHeartbeats 0
namespace Ca
open PySem PySem.Spec PyProof.Rows L2
open LamX
section
variable {P : Program} {w : World} {K : PySem.W.Frag} {h : Heap} {mg : Str → Option Value}

theorem factsk25 (X : K.In h) (G : h.Ns mainGlobals mg) {f : Addr} (hfa : mg "law" = some (.ref f)) (c : Saysk25 h K) :
    ∃ fd : FuncData, (∀ (s : Shared) (v : Value), BindsTo s fd ⟨[v], []⟩ [("_law_script", v)]) ∧ ∀ (base : Heap), FnG P w K mg base 11 f fd ["_law_script"] (spLawT K []) := by
  have d := c.d
  have gl : ∀ (i : Nat) {x : Str}, fask25[i]? = some (.glo x) → mg x = some (.ref (He.ga K x)) := fun i x q => He.glo_ok X G (d.fact i q)
  have fr : ∀ (i : Nat) {x : Str}, fask25[i]? = some (.free x) → mg x = none := fun i x q => He.free_ok X G (d.fact i q)
  have it : ∀ (i : Nat) {x : Str} {z : Int}, fask25[i]? = some (.int x z) → ∃ t, mg x = some (.int z t) := fun i x z q => He.int_ok X G (d.fact i q)
  have st : ∀ (i : Nat) {x z : Str}, fask25[i]? = some (.str x z) → ∃ t, mg x = some (.str z t) := fun i x z q => He.str_ok X G (d.fact i q)
  obtain ⟨fdIsInteger, FIsInteger⟩ := d.def_ 0 (d := topD "is_integer" sIsInteger) rfl
  obtain ⟨fdIsTupleOf, FIsTupleOf⟩ := d.def_ 1 (d := topD "is_tuple_of" sIsTupleOf) rfl
  obtain ⟨fdIsName, FIsName⟩ := d.def_ 2 (d := topD "is_name" sIsName) rfl
  obtain ⟨fdIsUnknown, FIsUnknown⟩ := d.def_ 3 (d := topD "is_unknown" sIsUnknown) rfl
  obtain ⟨fdIsStretch, FIsStretch⟩ := d.def_ 4 (d := topD "is_stretch" sIsStretch) rfl
  obtain ⟨fdIsRow, FIsRow⟩ := d.def_ 5 (d := topD "is_row" sIsRow) rfl
  obtain ⟨fdCheckUnknowns, FCheckUnknowns⟩ := d.def_ 6 (d := topD "check_unknowns" sCheckUnknowns) rfl
  obtain ⟨fdCheckRows, FCheckRows⟩ := d.def_ 7 (d := topD "check_rows" sCheckRows) rfl
  obtain ⟨fdLineOf, FLineOf⟩ := d.def_ 8 (d := topD "line_of" sLineOf) rfl
  obtain ⟨fdLawPurse, FLawPurse⟩ := d.def_ 9 (d := topD "_law_purse" sLawPurse) rfl
  obtain ⟨fdLawDraw, FLawDraw⟩ := d.def_ 10 (d := topD "_law_draw" sLawDraw) rfl
  obtain ⟨fdLawPick, FLawPick⟩ := d.def_ 11 (d := topD "_law_pick" sLawPick) rfl
  obtain ⟨fdLawRight, FLawRight⟩ := d.def_ 12 (d := topD "_law_right" sLawRight) rfl
  obtain ⟨fdLaw, FLaw⟩ := d.def_ 13 (d := topD "law" sLaw) rfl
  obtain ⟨fdFraction, FFraction⟩ := d.def_ 14 (d := topD "fraction" sFraction) rfl
  obtain ⟨fdPlus, FPlus⟩ := d.def_ 15 (d := topD "plus" sPlus) rfl
  obtain ⟨fdFirstTable, FFirstTable⟩ := d.def_ 16 (d := topD "first_table" sFirstTable) rfl
  obtain ⟨fdLineBehind, FLineBehind⟩ := d.def_ 17 (d := topD "line_behind" sLineBehind) rfl
  obtain ⟨fdExchanged, FExchanged⟩ := d.def_ 18 (d := topD "exchanged" sExchanged) rfl
  obtain ⟨fdFirstPlace, FFirstPlace⟩ := d.def_ 19 (d := topD "first_place" sFirstPlace) rfl
  obtain ⟨fdFirstWrong, FFirstWrong⟩ := d.def_ 20 (d := topD "first_wrong" sFirstWrong) rfl
  obtain ⟨fdNextExchange, FNextExchange⟩ := d.def_ 21 (d := topD "next_exchange" sNextExchange) rfl
  obtain ⟨fdSettled, FSettled⟩ := d.def_ 22 (d := topD "settled" sSettled) rfl
  obtain ⟨fdAmountsIn, FAmountsIn⟩ := d.def_ 23 (d := topD "amounts_in" sAmountsIn) rfl
  obtain ⟨fdWeightsIn, FWeightsIn⟩ := d.def_ 24 (d := topD "weights_in" sWeightsIn) rfl
  obtain ⟨fdCheapestAmounts, FCheapestAmounts⟩ := d.def_ 25 (d := topD "cheapest_amounts" sCheapestAmounts) rfl
  obtain ⟨fdOpposite, FOpposite⟩ := d.def_ 26 (d := topD "opposite" sOpposite) rfl
  obtain ⟨fdMinus, FMinus⟩ := d.def_ 27 (d := topD "minus" sMinus) rfl
  obtain ⟨fdCheckSystem, FCheckSystem⟩ := d.def_ 28 (d := topD "check_system" sCheckSystem) rfl
  obtain ⟨fdSignRows, FSignRows⟩ := d.def_ 29 (d := topD "sign_rows" sSignRows) rfl
  obtain ⟨fdPossibleLimit, FPossibleLimit⟩ := d.def_ 30 (d := topD "possible_limit" sPossibleLimit) rfl
  obtain ⟨fdCheapestPossible, FCheapestPossible⟩ := d.def_ 31 (d := topD "cheapest_possible" sCheapestPossible) rfl
  obtain ⟨fdAnyPossible, FAnyPossible⟩ := d.def_ 32 (d := topD "any_possible" sAnyPossible) rfl
  obtain ⟨fdPossible, FPossible⟩ := d.def_ 33 (d := topD "possible" sPossible) rfl
  obtain ⟨fdSureLimit, FSureLimit⟩ := d.def_ 34 (d := topD "sure_limit" sSureLimit) rfl
  obtain ⟨fdCheapestSure, FCheapestSure⟩ := d.def_ 35 (d := topD "cheapest_sure" sCheapestSure) rfl
  obtain ⟨fdCommon, FCommon⟩ := d.def_ 36 (d := topD "common" sCommon) rfl
  obtain ⟨fdLawLow, FLawLow⟩ := d.def_ 37 (d := topD "_law_low" sLawLow) rfl
  obtain ⟨fdLawPlus, FLawPlus⟩ := d.def_ 38 (d := topD "_law_plus" sLawPlus) rfl
  obtain ⟨fdLawTimes, FLawTimes⟩ := d.def_ 39 (d := topD "_law_times" sLawTimes) rfl
  obtain ⟨fdLawIsLess, FLawIsLess⟩ := d.def_ 40 (d := topD "_law_is_less" sLawIsLess) rfl
  obtain ⟨fdLawStretch, FLawStretch⟩ := d.def_ 41 (d := topD "_law_stretch" sLawStretch) rfl
  obtain ⟨fdLawCard, FLawCard⟩ := d.def_ 42 (d := topD "_law_card" sLawCard) rfl
  obtain ⟨fdLawMade, FLawMade⟩ := d.def_ 43 (d := topD "_law_made" sLawMade) rfl
  obtain ⟨fdLawSigns, FLawSigns⟩ := d.def_ 44 (d := topD "_law_signs" sLawSigns) rfl
  obtain ⟨fdLawCase, FLawCase⟩ := d.def_ 45 (d := topD "_law_case" sLawCase) rfl
  obtain ⟨fdLawWithoutLast, FLawWithoutLast⟩ := d.def_ 46 (d := topD "_law_without_last" sLawWithoutLast) rfl
  obtain ⟨fdLawHasValues, FLawHasValues⟩ := d.def_ 47 (d := topD "_law_has_values" sLawHasValues) rfl
  obtain ⟨fdLawHas, FLawHas⟩ := d.def_ 48 (d := topD "_law_has" sLawHas) rfl
  obtain ⟨fdLawIsFraction, FLawIsFraction⟩ := d.def_ 49 (d := topD "_law_is_fraction" sLawIsFraction) rfl
  obtain ⟨fdLawAreFractions, FLawAreFractions⟩ := d.def_ 50 (d := topD "_law_are_fractions" sLawAreFractions) rfl
  obtain ⟨fdLawSum, FLawSum⟩ := d.def_ 51 (d := topD "_law_sum" sLawSum) rfl
  obtain ⟨fdLawKeeps, FLawKeeps⟩ := d.def_ 52 (d := topD "_law_keeps" sLawKeeps) rfl
  obtain ⟨fdLawHard, FLawHard⟩ := d.def_ 53 (d := topD "_law_hard" sLawHard) rfl
  obtain ⟨fdMInit, FMInit⟩ := d.def_ 54 (d := memD "__init__" "System.__init__" mSystemInit [.adr e0A]) rfl
  obtain ⟨fdMLen, FMLen⟩ := d.def_ 55 (d := memD "__len__" "System.__len__" mSystemLen []) rfl
  obtain ⟨fdMBool, FMBool⟩ := d.def_ 56 (d := memD "__bool__" "System.__bool__" mSystemBool []) rfl
  obtain ⟨fdMStr, FMStr⟩ := d.def_ 57 (d := memD "__str__" "System.__str__" mSystemStr []) rfl
  obtain ⟨fdMEq, FMEq⟩ := d.def_ 58 (d := memD "__eq__" "System.__eq__" mSystemEq []) rfl
  have c0 := c.b
  obtain ⟨bG, c0⟩ := an c0
  obtain ⟨bZ, c0⟩ := an c0
  obtain ⟨bO, c0⟩ := an c0
  have mgcd := gcd_ok X G bG
  have gZ := gl 55 (x := "ZERO") rfl
  have gO := gl 56 (x := "ONE") rfl
  obtain ⟨p1, c1⟩ := an c0
  obtain ⟨p2, c1⟩ := an c1
  obtain ⟨p3, c1⟩ := an c1
  obtain ⟨em, c1⟩ := an c1
  obtain ⟨b1, c1⟩ := an c1
  obtain ⟨b2, c1⟩ := an c1
  obtain ⟨b3, c1⟩ := an c1
  obtain ⟨b4, c1⟩ := an c1
  obtain ⟨b5, c1⟩ := an c1
  obtain ⟨b6, c1⟩ := an c1
  obtain ⟨b7, c1⟩ := an c1
  obtain ⟨b8, b9⟩ := an c1
  obtain ⟨pU, okU⟩ := pr_ok p1
  obtain ⟨pR, okR⟩ := pr_ok p2
  obtain ⟨pN, okN⟩ := pr_ok p3
  obtain ⟨fdU, FU⟩ := fun_at c.u okU
  obtain ⟨fdR, FR⟩ := fun_at c.r okR
  obtain ⟨fdN, FN⟩ := fun_at c.n okN
  have B : Bn mg := ⟨fr 64 rfl, fr 65 rfl, fr 66 rfl, fr 67 rfl, fr 68 rfl, fr 69 rfl, fr 70 rfl, fr 71 rfl⟩
  have Bx : Bm mg := ⟨fr 72 rfl, fr 73 rfl, fr 74 rfl⟩
  have Bq : Bi mg := ⟨fr 69 rfl, fr 65 rfl, fr 78 rfl, fr 79 rfl⟩
  have C : Cn mg := ⟨st 61 rfl, st 62 rfl, it 60 rfl, st 63 rfl, it 57 rfl, it 58 rfl, it 59 rfl⟩
  have S : SysC K (sysA K) := ⟨He.cls_ok (d.fact 84 (f := .cls "System") rfl), He.noat_ok (d.fact 85 (f := .noat "System" "_unknowns") rfl), He.noat_ok (d.fact 86 (f := .noat "System" "_rows") rfl)⟩
  have mLen := He.meth_ok (d.fact 88 (f := .meth "System" "__len__") rfl)
  have mBool := He.meth_ok (d.fact 89 (f := .meth "System" "__bool__") rfl)
  have mStr := He.meth_ok (d.fact 90 (f := .meth "System" "__str__") rfl)
  have mEq := He.meth_ok (d.fact 91 (f := .meth "System" "__eq__") rfl)
  have E1 : SysE K (sysA K) _ _ _ _ _ _ _ _ _ _ _ := { mkr := He.mkr_ok (d.fact 87 (f := .mkr "System") rfl), eq := mEq.at_, eqf := mEq.fn, ne := isF_ok b1, ob := of_decide_eq_true b2, str := mStr.at_, strf := mStr.fn, len := mLen.at_, lenf := mLen.fn, bool := mBool.at_, boolf := mBool.fn, un := pU, ro := pR, na := pN }
  have hodd : ∀ t : String, t ∈ tyNames → PySem.W.kitOne K (.type t) (.ref (sysA K)) = some false ∧ PySem.W.notFirst K (sysA K) (.type t) = true := fun t ht => by
    obtain ⟨z1, z2⟩ := an (List.all_eq_true.mp b9 t ht)
    exact ⟨of_decide_eq_true z1, z2⟩
  have I : SysI K (sysA K) := { ha := isF_ok b3, hn := isF_ok b4, ht := of_decide_eq_true b5, hm := of_decide_eq_true b6, own := of_decide_eq_true b7, nf := b8, odd := hodd }
  have gIsInteger := gl 0 (x := "is_integer") rfl
  have gIsTupleOf := gl 1 (x := "is_tuple_of") rfl
  have gIsName := gl 2 (x := "is_name") rfl
  have gIsUnknown := gl 3 (x := "is_unknown") rfl
  have gIsStretch := gl 4 (x := "is_stretch") rfl
  have gIsRow := gl 5 (x := "is_row") rfl
  have gCheckUnknowns := gl 6 (x := "check_unknowns") rfl
  have gCheckRows := gl 7 (x := "check_rows") rfl
  have gLineOf := gl 8 (x := "line_of") rfl
  have gLawPurse := gl 9 (x := "_law_purse") rfl
  have gLawDraw := gl 10 (x := "_law_draw") rfl
  have gLawPick := gl 11 (x := "_law_pick") rfl
  have gLawRight := gl 12 (x := "_law_right") rfl
  have gLaw := gl 13 (x := "law") rfl
  have gFraction := gl 14 (x := "fraction") rfl
  have gPlus := gl 15 (x := "plus") rfl
  have gFirstTable := gl 16 (x := "first_table") rfl
  have gLineBehind := gl 17 (x := "line_behind") rfl
  have gExchanged := gl 18 (x := "exchanged") rfl
  have gFirstPlace := gl 19 (x := "first_place") rfl
  have gFirstWrong := gl 20 (x := "first_wrong") rfl
  have gNextExchange := gl 21 (x := "next_exchange") rfl
  have gSettled := gl 22 (x := "settled") rfl
  have gAmountsIn := gl 23 (x := "amounts_in") rfl
  have gWeightsIn := gl 24 (x := "weights_in") rfl
  have gCheapestAmounts := gl 25 (x := "cheapest_amounts") rfl
  have gOpposite := gl 26 (x := "opposite") rfl
  have gMinus := gl 27 (x := "minus") rfl
  have gCheckSystem := gl 28 (x := "check_system") rfl
  have gSignRows := gl 29 (x := "sign_rows") rfl
  have gPossibleLimit := gl 30 (x := "possible_limit") rfl
  have gCheapestPossible := gl 31 (x := "cheapest_possible") rfl
  have gAnyPossible := gl 32 (x := "any_possible") rfl
  have gPossible := gl 33 (x := "possible") rfl
  have gSureLimit := gl 34 (x := "sure_limit") rfl
  have gCheapestSure := gl 35 (x := "cheapest_sure") rfl
  have gCommon := gl 36 (x := "common") rfl
  have gLawLow := gl 37 (x := "_law_low") rfl
  have gLawPlus := gl 38 (x := "_law_plus") rfl
  have gLawTimes := gl 39 (x := "_law_times") rfl
  have gLawIsLess := gl 40 (x := "_law_is_less") rfl
  have gLawStretch := gl 41 (x := "_law_stretch") rfl
  have gLawCard := gl 42 (x := "_law_card") rfl
  have gLawMade := gl 43 (x := "_law_made") rfl
  have gLawSigns := gl 44 (x := "_law_signs") rfl
  have gLawCase := gl 45 (x := "_law_case") rfl
  have gLawWithoutLast := gl 46 (x := "_law_without_last") rfl
  have gLawHasValues := gl 47 (x := "_law_has_values") rfl
  have gLawHas := gl 48 (x := "_law_has") rfl
  have gLawIsFraction := gl 49 (x := "_law_is_fraction") rfl
  have gLawAreFractions := gl 50 (x := "_law_are_fractions") rfl
  have gLawSum := gl 51 (x := "_law_sum") rfl
  have gLawKeeps := gl 52 (x := "_law_keeps") rfl
  have gLawHard := gl 53 (x := "_law_hard") rfl
  have gS := gl 54 (x := "System") rfl
  have e := hfa.symm.trans gLaw
  cases e
  have bL := FunD.bindsA (ps := ["_law_script"]) FLaw fun _ _ _ _ _ _ us hl => match us, hl with | [_], _ => rfl
  have hx := c.e
  have x0 := hx
  refine ⟨fdLaw, fun s v => bL s [v] rfl, fun base => ?_⟩
  have nIsInteger : Binds K fdIsInteger ["value"] [] := FIsInteger.bindsN fun _ _ _ _ _ _ us hl => match us, hl with | [_], _ => rfl
  have nIsTupleOf : Binds K fdIsTupleOf ["value", "many"] [] := FIsTupleOf.bindsN fun _ _ _ _ _ _ us hl => match us, hl with | [_, _], _ => rfl
  have nIsName : Binds K fdIsName ["value"] [] := FIsName.bindsN fun _ _ _ _ _ _ us hl => match us, hl with | [_], _ => rfl
  have nIsUnknown : Binds K fdIsUnknown ["value"] [] := FIsUnknown.bindsN fun _ _ _ _ _ _ us hl => match us, hl with | [_], _ => rfl
  have nIsStretch : Binds K fdIsStretch ["value"] [] := FIsStretch.bindsN fun _ _ _ _ _ _ us hl => match us, hl with | [_], _ => rfl
  have nIsRow : Binds K fdIsRow ["value", "many"] [] := FIsRow.bindsN fun _ _ _ _ _ _ us hl => match us, hl with | [_, _], _ => rfl
  have nCheckUnknowns : Binds K fdCheckUnknowns ["unknowns"] [] := FCheckUnknowns.bindsN fun _ _ _ _ _ _ us hl => match us, hl with | [_], _ => rfl
  have nCheckRows : Binds K fdCheckRows ["rows", "many"] [] := FCheckRows.bindsN fun _ _ _ _ _ _ us hl => match us, hl with | [_, _], _ => rfl
  have nLineOf : Binds K fdLineOf ["row"] [] := FLineOf.bindsN fun _ _ _ _ _ _ us hl => match us, hl with | [_], _ => rfl
  have nLawPurse : Binds K fdLawPurse ["_law_script", "_law_k"] [] := FLawPurse.bindsN fun _ _ _ _ _ _ us hl => match us, hl with | [_, _], _ => rfl
  have nLawDraw : Binds K fdLawDraw ["_law_purse_here", "_law_size"] [] := FLawDraw.bindsN fun _ _ _ _ _ _ us hl => match us, hl with | [_, _], _ => rfl
  have nLawPick : Binds K fdLawPick ["_law_purse_here", "_law_menu"] [] := FLawPick.bindsN fun _ _ _ _ _ _ us hl => match us, hl with | [_, _], _ => rfl
  have nLawRight : Binds K fdLawRight ["_law_purse_here"] [] := FLawRight.bindsN fun _ _ _ _ _ _ us hl => match us, hl with | [_], _ => rfl
  have nFraction : Binds K fdFraction ["top", "bottom"] [] := FFraction.bindsN fun _ _ _ _ _ _ us hl => match us, hl with | [_, _], _ => rfl
  have nPlus : Binds K fdPlus ["one", "other"] [] := FPlus.bindsN fun _ _ _ _ _ _ us hl => match us, hl with | [_, _], _ => rfl
  have nFirstTable : Binds K fdFirstTable ["limits", "costs"] [] := FFirstTable.bindsN fun _ _ _ _ _ _ us hl => match us, hl with | [_, _], _ => rfl
  have nLineBehind : Binds K fdLineBehind ["line", "pivots", "column", "bottom"] [] := FLineBehind.bindsN fun _ _ _ _ _ _ us hl => match us, hl with | [_, _, _, _], _ => rfl
  have nExchanged : Binds K fdExchanged ["table", "row", "column"] [] := FExchanged.bindsN fun _ _ _ _ _ _ us hl => match us, hl with | [_, _, _], _ => rfl
  have nFirstPlace : Binds K fdFirstPlace ["numbers", "marks"] [] := FFirstPlace.bindsN fun _ _ _ _ _ _ us hl => match us, hl with | [_, _], _ => rfl
  have nFirstWrong : Binds K fdFirstWrong ["table"] [] := FFirstWrong.bindsN fun _ _ _ _ _ _ us hl => match us, hl with | [_], _ => rfl
  have nNextExchange : Binds K fdNextExchange ["table"] [] := FNextExchange.bindsN fun _ _ _ _ _ _ us hl => match us, hl with | [_], _ => rfl
  have nSettled : Binds K fdSettled ["table"] [] := FSettled.bindsN fun _ _ _ _ _ _ us hl => match us, hl with | [_], _ => rfl
  have nAmountsIn : Binds K fdAmountsIn ["table", "many"] [] := FAmountsIn.bindsN fun _ _ _ _ _ _ us hl => match us, hl with | [_, _], _ => rfl
  have nWeightsIn : Binds K fdWeightsIn ["table", "row", "many"] [] := FWeightsIn.bindsN fun _ _ _ _ _ _ us hl => match us, hl with | [_, _, _], _ => rfl
  have nCheapestAmounts : Binds K fdCheapestAmounts ["limits", "costs"] [] := FCheapestAmounts.bindsN fun _ _ _ _ _ _ us hl => match us, hl with | [_, _], _ => rfl
  have nOpposite : Binds K fdOpposite ["one"] [] := FOpposite.bindsN fun _ _ _ _ _ _ us hl => match us, hl with | [_], _ => rfl
  have nMinus : Binds K fdMinus ["one", "other"] [] := FMinus.bindsN fun _ _ _ _ _ _ us hl => match us, hl with | [_, _], _ => rfl
  have nCheckSystem : Binds K fdCheckSystem ["system"] [] := FCheckSystem.bindsN fun _ _ _ _ _ _ us hl => match us, hl with | [_], _ => rfl
  have nSignRows : Binds K fdSignRows ["many"] [] := FSignRows.bindsN fun _ _ _ _ _ _ us hl => match us, hl with | [_], _ => rfl
  have nPossibleLimit : Binds K fdPossibleLimit ["row", "signs"] [] := FPossibleLimit.bindsN fun _ _ _ _ _ _ us hl => match us, hl with | [_, _], _ => rfl
  have nCheapestPossible : Binds K fdCheapestPossible ["rows", "costs", "signs"] [] := FCheapestPossible.bindsN fun _ _ _ _ _ _ us hl => match us, hl with | [_, _, _], _ => rfl
  have nAnyPossible : Binds K fdAnyPossible ["rows", "many"] [] := FAnyPossible.bindsN fun _ _ _ _ _ _ us hl => match us, hl with | [_, _], _ => rfl
  have nPossible : Binds K fdPossible ["system"] [] := FPossible.bindsN fun _ _ _ _ _ _ us hl => match us, hl with | [_], _ => rfl
  have nSureLimit : Binds K fdSureLimit ["row"] [] := FSureLimit.bindsN fun _ _ _ _ _ _ us hl => match us, hl with | [_], _ => rfl
  have nCheapestSure : Binds K fdCheapestSure ["rows", "costs"] [] := FCheapestSure.bindsN fun _ _ _ _ _ _ us hl => match us, hl with | [_, _], _ => rfl
  have nCommon : Binds K fdCommon ["system"] [] := FCommon.bindsN fun _ _ _ _ _ _ us hl => match us, hl with | [_], _ => rfl
  have nLawLow : Binds K fdLawLow ["_law_top", "_law_bottom"] [] := FLawLow.bindsN fun _ _ _ _ _ _ us hl => match us, hl with | [_, _], _ => rfl
  have nLawPlus : Binds K fdLawPlus ["_law_one_here", "_law_two_here"] [] := FLawPlus.bindsN fun _ _ _ _ _ _ us hl => match us, hl with | [_, _], _ => rfl
  have nLawTimes : Binds K fdLawTimes ["_law_one_here", "_law_two_here"] [] := FLawTimes.bindsN fun _ _ _ _ _ _ us hl => match us, hl with | [_, _], _ => rfl
  have nLawIsLess : Binds K fdLawIsLess ["_law_one_here", "_law_two_here"] [] := FLawIsLess.bindsN fun _ _ _ _ _ _ us hl => match us, hl with | [_, _], _ => rfl
  have nLawStretch : Binds K fdLawStretch ["_law_purse_here", "_law_size"] [] := FLawStretch.bindsN fun _ _ _ _ _ _ us hl => match us, hl with | [_, _], _ => rfl
  have nLawCard : Binds K fdLawCard ["_law_purse_here", "_law_most_unknowns", "_law_most_rows", "_law_size"] [] := FLawCard.bindsN fun _ _ _ _ _ _ us hl => match us, hl with | [_, _, _, _], _ => rfl
  have nLawMade : Binds K fdLawMade ["_law_card_here"] [] := FLawMade.bindsN fun _ _ _ _ _ _ us hl => match us, hl with | [_], _ => rfl
  have nLawSigns : Binds K fdLawSigns ["_law_many"] [] := FLawSigns.bindsN fun _ _ _ _ _ _ us hl => match us, hl with | [_], _ => rfl
  have nLawCase : Binds K fdLawCase ["_law_card_here", "_law_signs_here", "_law_sure"] [] := FLawCase.bindsN fun _ _ _ _ _ _ us hl => match us, hl with | [_, _, _], _ => rfl
  have nLawWithoutLast : Binds K fdLawWithoutLast ["_law_rows_here"] [] := FLawWithoutLast.bindsN fun _ _ _ _ _ _ us hl => match us, hl with | [_], _ => rfl
  have nLawHasValues : Binds K fdLawHasValues ["_law_rows_here", "_law_many"] [] := FLawHasValues.bindsN fun _ _ _ _ _ _ us hl => match us, hl with | [_, _], _ => rfl
  have nLawHas : Binds K fdLawHas ["_law_card_here", "_law_sure", "_law_more"] [] := FLawHas.bindsN fun _ _ _ _ _ _ us hl => match us, hl with | [_, _, _], _ => rfl
  have nLawIsFraction : Binds K fdLawIsFraction ["_law_told"] [] := FLawIsFraction.bindsN fun _ _ _ _ _ _ us hl => match us, hl with | [_], _ => rfl
  have nLawAreFractions : Binds K fdLawAreFractions ["_law_told", "_law_many"] [] := FLawAreFractions.bindsN fun _ _ _ _ _ _ us hl => match us, hl with | [_, _], _ => rfl
  have nLawSum : Binds K fdLawSum ["_law_numbers_here", "_law_told"] [] := FLawSum.bindsN fun _ _ _ _ _ _ us hl => match us, hl with | [_, _], _ => rfl
  have nLawKeeps : Binds K fdLawKeeps ["_law_card_here", "_law_told", "_law_sure"] [] := FLawKeeps.bindsN fun _ _ _ _ _ _ us hl => match us, hl with | [_, _, _], _ => rfl
  have nLawHard : Binds K fdLawHard ["_law_purse_here", "_law_card_here"] [] := FLawHard.bindsN fun _ _ _ _ _ _ us hl => match us, hl with | [_, _], _ => rfl
  have nMLen : Binds K fdMLen ["self"] [] := FMLen.bindsN fun _ _ _ _ _ _ us hl => match us, hl with | [_], _ => rfl
  have nMBool : Binds K fdMBool ["self"] [] := FMBool.bindsN fun _ _ _ _ _ _ us hl => match us, hl with | [_], _ => rfl
  have nMStr : Binds K fdMStr ["self"] [] := FMStr.bindsN fun _ _ _ _ _ _ us hl => match us, hl with | [_], _ => rfl
  have nMEq : Binds K fdMEq ["self", "other"] [] := FMEq.bindsN fun _ _ _ _ _ _ us hl => match us, hl with | [_, _], _ => rfl
  have nU : Binds K fdU ["self"] [] := FU.bindsN fun _ _ _ _ _ _ us hl => match us, hl with | [_], _ => rfl
  have nR : Binds K fdR ["self"] [] := FR.bindsN fun _ _ _ _ _ _ us hl => match us, hl with | [_], _ => rfl
  have nN : Binds K fdN ["self"] [] := FN.bindsN fun _ _ _ _ _ _ us hl => match us, hl with | [_], _ => rfl
  obtain ⟨ds, vd, nI⟩ := FMInit.binds1 (ps := ["self", "unknowns", "rows"]) 3 1 (List.cons_ne_nil _ _) rfl fun T kV doc pm an cdv ct us its h1 h2 => match us, its, h1, h2 with | [_, _, _], [_], _, _ => ⟨_, rfl, rfl⟩
  obtain ⟨ds2, vd2, nI0⟩ := FMInit.binds1 (ps := ["self", "unknowns", "rows"]) 2 0 (List.cons_ne_nil _ _) rfl fun T kV doc pm an cdv ct us its h1 h2 => match us, its, h1, h2 with | [_, _], [_], _, _ => ⟨_, rfl, rfl⟩
  have GIsInteger := ok_isInteger (P := P) (w := w) (mg := mg) (base := base) FIsInteger B
  have GIsTupleOf := ok_isTupleOf (P := P) (w := w) (mg := mg) (base := base) FIsTupleOf B
  have GIsName := ok_isName (P := P) (w := w) (mg := mg) (base := base) FIsName B C
  have GIsUnknown := ok_isUnknown (P := P) (w := w) (mg := mg) (base := base) FIsUnknown C gIsName GIsName FIsName.kp nIsName
  have GIsStretch := ok_isStretch (P := P) (w := w) (mg := mg) (base := base) FIsStretch C gIsTupleOf GIsTupleOf FIsTupleOf.kp nIsTupleOf gIsInteger GIsInteger FIsInteger.kp nIsInteger
  have GIsRow := ok_isRow (P := P) (w := w) (mg := mg) (base := base) FIsRow B gIsTupleOf GIsTupleOf FIsTupleOf.kp nIsTupleOf gIsName GIsName FIsName.kp nIsName gIsStretch GIsStretch FIsStretch.kp nIsStretch
  have GCheckUnknowns := ok_checkU (P := P) (w := w) (mg := mg) (base := base) FCheckUnknowns B C gIsUnknown GIsUnknown FIsUnknown.kp nIsUnknown
  have GCheckRows := ok_checkR (P := P) (w := w) (mg := mg) (base := base) FCheckRows B C gIsRow GIsRow FIsRow.kp nIsRow
  have GLineOf := ok_line (P := P) (w := w) (mg := mg) (base := base) FLineOf B
  have GI := ok_init (P := P) (w := w) (mg := mg) (base := base) FMInit B S gCheckUnknowns GCheckUnknowns FCheckUnknowns.kp nCheckUnknowns gCheckRows GCheckRows FCheckRows.kp nCheckRows
  have GLen := ok_len (P := P) (w := w) (mg := mg) (base := base) FMLen B S
  have GBool := ok_bool (P := P) (w := w) (mg := mg) (base := base) FMBool
  have GStr := ok_str (P := P) (w := w) (mg := mg) (base := base) FMStr S gLineOf GLineOf FLineOf.kp nLineOf
  have GEq := ok_eq (P := P) (w := w) (mg := mg) (base := base) FMEq B S I gS
  have GU := ok_unknowns (P := P) (w := w) (mg := mg) (base := base) FU S
  have GR := ok_rows (P := P) (w := w) (mg := mg) (base := base) FR S
  have GN := ok_names (P := P) (w := w) (mg := mg) (base := base) FN B S
  have GLawPurse := ok_purse (P := P) (w := w) (mg := mg) (base := base) (fun_of FLawPurse) Bq
  have GLawDraw := ok_draw (P := P) (w := w) (mg := mg) (base := base) (fun_of FLawDraw) Bq
  have GLawPick := ok_pick (P := P) (w := w) (mg := mg) (base := base) (fun_of FLawPick) Bq gLawDraw GLawDraw FLawDraw.kp nLawDraw
  obtain ⟨fdTI, FTI⟩ := d.def_ 59 (d := memT "__init__" "Table.__init__" mTableInit) rfl
  have gTable := gl 92 (x := "Table") rfl
  have TK : TabK K (He.ga K "Table") := ⟨He.cls_ok (d.fact 93 (f := .cls "Table") rfl), He.noat_ok (d.fact 94 (f := .noat "Table" "lines") rfl), He.noat_ok (d.fact 95 (f := .noat "Table" "bottom") rfl), He.noat_ok (d.fact 96 (f := .noat "Table" "basic") rfl), He.noat_ok (d.fact 97 (f := .noat "Table" "free") rfl)⟩
  have mkT := He.mkr_ok (d.fact 98 (f := .mkr "Table") rfl)
  have nTI : Binds K fdTI ["self", "lines", "bottom", "basic", "free"] [] := FTI.bindsN fun _ _ _ _ _ _ us hl => match us, hl with | [_, _, _, _, _], _ => rfl
  have GTI := ok_tabInit (P := P) (w := w) (mg := mg) (base := base) FTI TK
  have GFraction := ok_fraction (P := P) (w := w) (mg := mg) (base := base) FFraction mgcd
  have GPlus := ok_plus (P := P) (w := w) (mg := mg) (base := base) FPlus gFraction GFraction FFraction.kp nFraction
  have GLineBehind := ok_behind (P := P) (w := w) (mg := mg) (base := base) FLineBehind (fr 73 rfl)
  have GExchanged := ok_exchanged (P := P) (w := w) (mg := mg) (base := base) FExchanged TK (fr 75 rfl) gTable mkT gLineBehind GLineBehind FLineBehind.kp nLineBehind GTI nTI
  have GFirstPlace := ok_firstPlace (P := P) (w := w) (mg := mg) (base := base) FFirstPlace (fr 73 rfl) (fr 77 rfl)
  have GFirstWrong := ok_firstWrong (P := P) (w := w) (mg := mg) (base := base) FFirstWrong TK (fr 73 rfl) (fr 77 rfl)
  have GNextExchange := ok_next (P := P) (w := w) (mg := mg) (base := base) FNextExchange TK gFirstWrong GFirstWrong FFirstWrong.kp nFirstWrong gFirstPlace GFirstPlace FFirstPlace.kp nFirstPlace
  have GSettled := ok_settled (P := P) (w := w) (mg := mg) (base := base) FSettled gNextExchange GNextExchange FNextExchange.kp nNextExchange gExchanged GExchanged FExchanged.kp nExchanged
  have GFirstTable := ok_firstTable (P := P) (w := w) (mg := mg) (base := base) FFirstTable (fr 75 rfl) (fr 72 rfl) (fr 69 rfl) gTable mkT GTI nTI
  have GAmountsIn := ok_amounts (P := P) (w := w) (mg := mg) (base := base) FAmountsIn TK (fr 73 rfl) (fr 72 rfl) gZ (ze_ok bZ) gFraction GFraction FFraction.kp nFraction
  have GWeightsIn := ok_weights (P := P) (w := w) (mg := mg) (base := base) FWeightsIn TK (fr 73 rfl) (fr 72 rfl) (fr 69 rfl) gZ (ze_ok bZ) gO (one_ok bO) gFraction GFraction FFraction.kp nFraction
  have GCheapAll := ok_cheap (P := P) (w := w) (mg := mg) (base := base) FCheapestAmounts (fr 69 rfl) gCheapestAmounts nCheapestAmounts gSettled GSettled FSettled.kp nSettled gFirstTable GFirstTable FFirstTable.kp nFirstTable gAmountsIn GAmountsIn FAmountsIn.kp nAmountsIn gWeightsIn GWeightsIn FWeightsIn.kp nWeightsIn
  cases vd
  cases vd2 with
  | cons vr vrr =>
  cases vrr
  have GOpposite := ok_opp (P := P) (w := w) (mg := mg) (base := base) FOpposite
  have GMinus := ok_minus (P := P) (w := w) (mg := mg) (base := base) FMinus gPlus GPlus FPlus.kp nPlus gOpposite GOpposite FOpposite.kp nOpposite
  have GSureLimit := ok_sureLim (P := P) (w := w) (mg := mg) (base := base) FSureLimit
  have GCheckSystem := ok_chkS (P := P) (w := w) (mg := mg) (base := base) FCheckSystem B S I gS
  have GSureL := ok_cheapSure (d := 1) (P := P) (w := w) (mg := mg) (base := base) FCheapestSure (fr 75 rfl) (fr 68 rfl) (fr 69 rfl) (fr 72 rfl) gSureLimit GSureLimit FSureLimit.kp nSureLimit gCheapestAmounts ((GCheapAll 1).mono (by decide)) FCheapestAmounts.kp nCheapestAmounts gMinus GMinus FMinus.kp nMinus
  have GCommon := ok_common (P := P) (w := w) (mg := mg) (base := base) FCommon S pU GU nU pR GR nR gCheckSystem GCheckSystem FCheckSystem.kp nCheckSystem gCheapestSure GSureL FCheapestSure.kp nCheapestSure
  have GSignRows := ok_signRows (P := P) (w := w) (mg := mg) (base := base) FSignRows (fr 72 rfl)
  have GPossibleLimit := ok_possLim (P := P) (w := w) (mg := mg) (base := base) FPossibleLimit (fr 73 rfl)
  have GPossL := ok_cheapPossL (d := 1) (P := P) (w := w) (mg := mg) (base := base) FCheapestPossible (fr 68 rfl) (fr 73 rfl) gPossibleLimit GPossibleLimit FPossibleLimit.kp nPossibleLimit gCheapestAmounts ((GCheapAll 1).mono (by decide)) FCheapestAmounts.kp nCheapestAmounts
  have GAnyPossible := ok_anyP (P := P) (w := w) (mg := mg) (base := base) FAnyPossible gSignRows GSignRows FSignRows.kp nSignRows gCheapestPossible GPossL FCheapestPossible.kp nCheapestPossible
  have GPossible := ok_possible (P := P) (w := w) (mg := mg) (base := base) FPossible (fr 69 rfl) S pU GU nU pR GR nR gCheckSystem GCheckSystem FCheckSystem.kp nCheckSystem gAnyPossible GAnyPossible FAnyPossible.kp nAnyPossible
  have GLawLow := ok_lowP (P := P) (w := w) (mg := mg) (base := base) FLawLow (fr 78 rfl) (fr 65 rfl)
  have GLawStretch := ok_strP (P := P) (w := w) (mg := mg) (base := base) FLawStretch gLawDraw GLawDraw FLawDraw.kp nLawDraw gLawPick GLawPick FLawPick.kp nLawPick
  have GLawCard := ok_card (P := P) (w := w) (mg := mg) (base := base) FLawCard (fr 68 rfl) (fr 72 rfl) (fr 67 rfl) gLawDraw GLawDraw FLawDraw.kp nLawDraw gLawPick GLawPick FLawPick.kp nLawPick gLawStretch GLawStretch FLawStretch.kp nLawStretch
  have GLawMade := ok_madeP (P := P) (w := w) (mg := mg) (base := base) FLawMade E1.mkr gS GI nI
  have GLawSigns := ok_lsg (P := P) (w := w) (mg := mg) (base := base) FLawSigns (fr 72 rfl)
  have GLawCase := ok_lCase (P := P) (w := w) (mg := mg) (base := base) FLawCase (fr 73 rfl) (fr 68 rfl) (fr 72 rfl) (fr 69 rfl)
  have GLawWithoutLast := ok_wl (P := P) (w := w) (mg := mg) (base := base) FLawWithoutLast (fr 68 rfl) (fr 73 rfl) (fr 82 rfl) (fr 83 rfl)
  have GLawHasValues := ok_hasV (P := P) (w := w) (mg := mg) (base := base) FLawHasValues (fr 72 rfl) gLawWithoutLast GLawWithoutLast FLawWithoutLast.kp nLawWithoutLast
  have GLawHas := ok_has (P := P) (w := w) (mg := mg) (base := base) FLawHas (fr 69 rfl) gLawSigns GLawSigns FLawSigns.kp nLawSigns gLawCase GLawCase FLawCase.kp nLawCase gLawHasValues GLawHasValues FLawHasValues.kp nLawHasValues
  have GLawPlus := ok_lPlus (P := P) (w := w) (mg := mg) (base := base) FLawPlus gLawLow GLawLow FLawLow.kp nLawLow
  have GLawTimes := ok_lTimes (P := P) (w := w) (mg := mg) (base := base) FLawTimes gLawLow GLawLow FLawLow.kp nLawLow
  have GLawIsLess := ok_lLess (P := P) (w := w) (mg := mg) (base := base) FLawIsLess
  have GLawIsFraction := ok_lIsF (P := P) (w := w) (mg := mg) (base := base) FLawIsFraction B gLawLow GLawLow FLawLow.kp nLawLow
  have GLawAreFractions := ok_lAreF (P := P) (w := w) (mg := mg) (base := base) FLawAreFractions B gLawIsFraction GLawIsFraction FLawIsFraction.kp nLawIsFraction
  have GLawSum := ok_sumL (P := P) (w := w) (mg := mg) (base := base) FLawSum (fr 73 rfl) gLawPlus GLawPlus FLawPlus.kp nLawPlus gLawTimes GLawTimes FLawTimes.kp nLawTimes
  have GLawKeeps := ok_lKeeps (P := P) (w := w) (mg := mg) (base := base) FLawKeeps B (fr 73 rfl) gLawAreFractions GLawAreFractions FLawAreFractions.kp nLawAreFractions gLawIsLess GLawIsLess FLawIsLess.kp nLawIsLess gLawSum GLawSum FLawSum.kp nLawSum
  have GLawHard := ok_hard (P := P) (w := w) (mg := mg) (base := base) FLawHard (fr 68 rfl) gLawDraw GLawDraw FLawDraw.kp nLawDraw
  have kPossible : KBn K fdPossible ["system"] 0 ["system"] (fun _ ws => ws.reverse) (fun _ zs => zs.reverse) := kb_all FPossible fun _ _ _ _ _ _ us ws h1 h2 => match us, ws, h1, h2 with | [], [_], _, _ => rfl
  have GLawRight := ok_right25 (P := P) (w := w) (mg := mg) (base := base) FLawRight (fr 72 rfl) (fr 74 rfl) gLawCard GLawCard FLawCard.kp nLawCard gLawHard GLawHard FLawHard.kp nLawHard gLawMade GLawMade FLawMade.kp nLawMade gLawHas GLawHas FLawHas.kp nLawHas gPossible GPossible FPossible.kp nPossible kPossible gCommon GCommon FCommon.kp nCommon gLawKeeps GLawKeeps FLawKeeps.kp nLawKeeps
  exact ok_lawP (by decide) FLaw gLawRight GLawRight FLawRight.kp nLawRight gLawPurse GLawPurse FLawPurse.kp nLawPurse (fr 72 rfl) (fr 76 rfl) (fr 77 rfl) (fr 69 rfl)
end
end Ca
open PySem PySem.W PySem.Calls PyProof.Rows
theorem PySem.Challenge.cw_commonanswer_k25_whole_possible_by_signs_holds : PySem.Challenge.rw_commonanswer_k25_whole_possible_by_signs.Holds := by
  w_on; o_law
  refine HandSHeadRun.head_imp (r := Ca.rowk25) (q := view Ca.rowk25.prog [0, 86]) (H := Ca.hkk25) (ob := Ca.obk25) (M := 20000) (loose := Ca.namesk25) (d := HandSHeadRun.topDef Ca.rowk25.prog 86) (kwd := []) Ca.obk25_eq
    Ca.runk25 (by kernel_rfl) (by kernel_rfl) (by kernel_rfl) (by rfl) (by first | assumption | decide +kernel) (by decide +kernel) ⟨rfl, rfl, rfl, rfl, rfl, by decide +kernel⟩ ?hw ?hc
  case hw => w_witness2
  case hc =>
    refine Att.attach_call (l := PySem.Challenge.rw_commonanswer_k25_whole_possible_by_signs) (n := 63) rfl (by kernel_rfl) fun w s₀ s₁ mg mb fa o pm cd doc a vs ns G Y ho hd hcd hmg hobj hints hlen hg => ?_
    obtain ⟨K, KX, c⟩ := Y
    have hmg' : mg ("law" : PySem.Str) = some (.ref fa) := by
      rw [← show (HandSHeadRun.topDef Ca.rowk25.prog 86).name = ("law" : PySem.Str) by kernel_rfl]
      exact hmg
    obtain ⟨fd, hb, hF⟩ := Ca.factsk25 (P := (PySem.Challenge.rw_commonanswer_k25_whole_possible_by_signs).prog) (w := w) KX G.T.g hmg' c
    exact Ca.lawGT (k := 11) (cs := []) KX G.T.g G.T.b G.T.builtins G.T.nolimit hg (fun p hp => nomatch hp) (fun p hp => nomatch hp) (fun p hp => nomatch hp) G.T.bmain hobj hints (Nat.le_trans hlen (by decide)) ⟨rfl, by decide, by decide⟩
      (fun base _ _ _ => hF base) hb (fun H hB hS => ⟨a, ns, rfl, hS, (show LamX.Tabs [] H from fun p hp => by cases hp), fun _ => rfl⟩)
