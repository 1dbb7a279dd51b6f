import PyProof.Rows.All
import Wide.All
import OpenK.AllK
import Wide.FinOn
import HandS.ForMost
import HandS.ForExc
import HandS.More
import HandS.Evl
import HandS.Defaults
import HandS.IsInst
import HandS.HeadEnd
import PyProof.ReprRoads
import HandS.ExcInit
import HandS.ExcIs
import HandS.MakeKw
import KE.KExcIs
import KE.KExcInit
import HandS.Text
import HandS.Iter
import HandS.Walk
import HandS.TupAny
import HandS.Deep
import HandS.Style
import KE.SortKeyHeap
import KE.SortData
import KE.GoesMore
import PyProof.Draws
import PyProof.EnumMake
import HandS.DictComp
import HandS.Conv
import HandS.Lambda
import HandS.List
import KE.KSortKey
import HandS.EndTab
import HandS.HeadHook4
import HandS.NestedK
import HandS.ExcField
import HandS.TryMany
import PyProof.InstSpecial
import HandS.ClsMeth
import HandS.Property
import HandS.MakeKwOnly
import HandS.RaiseMore
import HandS.Head0
import PyProof.StrLawsRepr
import PyProof.Rows.StrCase
import PyProof.Rows.TupDisplay
import PyProof.P3In
import HandS.SortKw
import PyProof.InstNe
import HandS.DictEq
import HandS.NoneIn
import HandS.Strs
import PyProof.EqKinds
import HandS.Dict
import HandS.FStr
import HandS.Comp
import HandS.TupLen
import HandS.TupMul
import OpenK.KMeth
import KE.DataCmp
import KE.LtData
import KE.KDictPairs
import HandS.HeadHook1
import HandS.Set
import HandS.SetFor
import PyProof.Rows.SortShellAny
import HandS.HeadNt
import HandS.Head1
import HandS.Head2
import PySem.Challenge.RW_wakesayings_k21_whole_sayings_by_own_lis
set_option Elab.async false
set_option linter.all false
set_option maxRecDepth 100000
set_option maxHeartbeats 4000000
namespace Lw
open PySem PySem.Spec PyProof.Rows L2
/-! ### what a def keeps, called where no repr is under way -/
structure FnG (P : Program) (w : World) (K : PySem.W.Frag) (mg : Str → Option Value) (base : Heap) (CX : CXT) (k : Nat) (f : Addr) (fd : FuncData) (ps : List Str) (sp : Sp) : Prop where
  len : ∀ vs H Q E, sp vs H Q E → vs.length = ps.length
  go : ∀ {A : Around} {outer : List Env} {s : Shared} {H : Hp} {args : Args} {us : List Value} {vs : List V} {Q : VK} {E : XK},
    A.guards = some [] → Room k A → Env0 P w K mg base A outer s H → BindsTo s fd args (ps.zip us) → Vals vs us → sp vs H Q E →
    codeAny (model P w) A (.call (.ref f) args) (CR CX outer P w H s Q E) s
section
variable {P : Program} {w : World} {K : PySem.W.Frag} {mg : Str → Option Value} {base : Heap} {CX : CXT}
theorem FnG.up {j k : Nat} {f : Addr} {fd : FuncData} {ps : List Str} {sp : Sp} (F : FnG P w K mg base CX j f fd ps sp) (h : j ≤ k) : FnG P w K mg base CX k f fd ps sp :=
  ⟨F.len, fun g r => F.go g (r.mono h)⟩
/-- a def by its body: the body's reading, at a place where no repr is under way -/
theorem fnG {x qual : Str} {params : Arguments} {body : List Stmt} {scope : Scope} {dvs : List V} {kws : List (Str × V)} {f : Addr} {fd : FuncData} {N ps : List Str} {k : Nat} {sp : Sp}
    (F : FunD K x qual params body scope dvs kws f fd) (S : FnScope N ps scope) (len : ∀ vs H Q E, sp vs H Q E → vs.length = ps.length)
    (walk : ∀ (cdv : Value) (A : Around) (outer : List Env) (s : Shared) (H : Hp) (vs : List V) (Q : VK) (E : XK), A.guards = some [] → Room k (A.deeper (envOfC qual scope s.heap.objs.size f cdv)) → sp vs H Q E →
      ∃ t, PSs (cxOf CX P w K mg base N qual scope f cdv A outer s H E) body t ∧ t { nx := fun _ H' => Q .non H', rt := Q } (start N vs) H) :
    FnG P w K mg base CX (k + 1) f fd ps sp := by
  obtain ⟨_, _, dV, kV, doc, pm, an, cdv, ct, osl, rfl, lk, hcd, _, _⟩ := F.ex
  refine ⟨len, ?_⟩
  intro A outer s H args us vs Q E hg hr e0 hb rv hsp
  have hsz : (us.length = ps.length) := by
    rw [← rv.length]
    exact len _ _ _ _ hsp
  have kIn : K.In s.heap := e0.mod.kin.keeps fun b o e => (e0.bs b o e).1
  have noL : s.heap.NoLimit := e0.mod.nolimit.keeps fun b o e => (e0.bs b o e).1
  refine codeAny_call_function hr.depth (kIn _ _ lk) rfl S.co S.gen rfl (PySem.W.codeRec_of kIn hcd) (hb _ _ _ _ ?_)
  refine wpAny_newFunctionEnv_cells S.kind ?_ ?_
  · rintro ⟨n, v⟩ hm
    cases S.par n (List.of_mem_zip hm).1 with
    | inl q => exact .inl q
    | inr q => exact .inr ⟨q, PySem.W.cellsFrom_some _ _ _ (.inl q)⟩
  · rintro env rfl s1 x
    refine ⟨noL.keeps x.toInCall.keep, codeAny_func ?_⟩
    obtain ⟨t, ht, hq⟩ := walk cdv A outer s H vs Q E hg (hr.deeper _) hsp
    refine wpAny_mono (ht.run [] s1 (start N vs) H _ (inv_start S hr.hd e0 (len _ _ _ _ hsp) rv x) hq) (fun fl s2 hs => ?_) fun _ _ z => z
    cases fl with
    | ret u => exact match hs with
      | ⟨v, _, H', J, r, q⟩ => ⟨v, H', J.os, J.bare, J.base, J.hok, r, q⟩
    | next => exact match hs with
      | ⟨_, H', J, q⟩ => ⟨V.non, H', J.os, J.bare, J.base, J.hok, rfl, q⟩
    | brk => exact match hs with
      | ⟨_, _, _, q⟩ => q.elim
    | cont => exact match hs with
      | ⟨_, _, _, q⟩ => q.elim
/-! ### a def of the top, as its callers see it -/
def Cal (P : Program) (w : World) (K : PySem.W.Frag) (mg : Str → Option Value) (base : Heap) (CX : CXT) (k : Nat) (x : Str) (ps : List Str) (sp : Sp) : Prop :=
  ∃ f fd, mg x = some (.ref f) ∧ PySem.W.keepIn K (.ref f) = true ∧ Binds K fd ps [] ∧ FnG P w K mg base CX k f fd ps sp
end
section
variable {X : Cx} {CX : CXT} {k : Nat} {x : Str} {ps : List Str} {sp : Sp} {p pos : Pos} {e : Expr} {es : List Expr} {t : TA} {E : XK}
theorem runG {pins : List (Addr × Obj)} {σ : L2.St} {H : Hp} {s : Shared} {Q : VK} {f : Addr} {fd : FuncData} {us : List Value} {vs : List V} (F : FnG X.prog X.w X.K X.mg X.base CX k f fd ps sp) (hg : X.A.guards = some []) (hr : Room k X.A) (hb : Binds X.K fd ps [])
    (hx : Passes CX X E) (I : Inv X pins σ H s) (r : Vals vs us) (h : sp vs H Q E) : wpAny (model X.prog X.w) X.A (call (.ref f) us) (EP X pins σ Q) X.xe s := by
  have hl : (us ++ []).length = ps.length := by
    rw [List.append_nil, ← r.length]
    exact F.len _ _ _ _ h
  have bt := hb s us I.kIn hl
  rw [List.append_nil] at bt
  refine wpAny_call (codeAny_mono (F.go hg hr I.env0 bt r h) fun r s2 hq => ?_)
  cases r with
  | error er => exact hx pins σ H s er s2 I hq
  | ok fl =>
    cases fl with
    | ret u => exact I.after hq
    | next => exact hq.elim
    | brk => exact hq.elim
    | cont => exact hq.elim
theorem pe_calX (C : Cal X.prog X.w X.K X.mg X.base CX k x ps sp) {j : Nat} (gd : X.A.guards = some []) (hr : Room j X.A) (hx : Passes CX X E) (ha : PA X (e :: es) t) (hj : k ≤ j := by decide) (hg : Gl X x := by rfl) (hdb : (x == ("__debug__" : Str)) = false := by decide)
    (he : starEach (e :: es) X.env = (false, eval e X.env) :: starEach es X.env := by rfl) (hpl : (backTo pos (starEach es X.env)).any (·.1) = false := by rfl) :
    PE X (.Call (.Name x p) (e :: es) [] pos) (tCall sp [] E t) := by
  obtain ⟨f, fd, hm, hk, hb, F⟩ := C
  constructor
  intro pins s σ H Q I h
  refine wpAny_Call_Name_kw (ld_glob I hg hm ?_ hdb)
  refine PySem.W.callWith_K (h₀ := X.base) I.ok.mod.kin hk (thn (ha.run pos pins s σ H _ I h) fun us s1 hh => ?_) he hpl
  obtain ⟨vs, H1, I1, r, q⟩ := hh
  rw [List.append_nil] at q
  exact ⟨I1.kIn, runG F gd (hr.mono hj) hb hx I1 r q⟩
/-- .. that lets no error out -/
theorem pe_cal (C : Cal X.prog X.w X.K X.mg X.base CX0 k x ps sp) {j : Nat} (gd : X.A.guards = some []) (hr : Room j X.A) (ha : PA X (e :: es) t) (hj : k ≤ j := by decide) (hg : Gl X x := by rfl) (hdb : (x == ("__debug__" : Str)) = false := by decide)
    (he : starEach (e :: es) X.env = (false, eval e X.env) :: starEach es X.env := by rfl) (hpl : (backTo pos (starEach es X.env)).any (·.1) = false := by rfl) :
    PE X (.Call (.Name x p) (e :: es) [] pos) (tCall sp [] E0 t) := pe_calX C gd hr pass0 ha hj hg hdb he hpl
end
/-! ### the law's own call -/
/-- what the law's heap holds at the entry: the script, locked -/
def scr (a : Addr) (o : Obj) (ns : List Int) : Hp := fun b => if b = a then some (.frz o (.lst (ns.map V.int))) else none
theorem scr_at {a : Addr} {o : Obj} {ns : List Int} : scr a o ns a = some (.frz o (.lst (ns.map V.int))) := if_pos rfl
theorem scr_off {a b : Addr} {o : Obj} {ns : List Int} (h : b ≠ a) : scr a o ns b = none := if_neg h
theorem lawG {P : Program} {w : World} {K : PySem.W.Frag} {mg mb : Str → Option Value} {k : Nat} {fa a : Addr} {fd : FuncData} {x : Str} {sp : Sp} {s : Shared} {vs : List Value} {ns : List Int}
    (KX : K.In s.heap) (hns : s.heap.Ns mainGlobals mg) (hb : s.heap.Ns builtinsNs mb) (hbb : ∀ x : Str, x ≠ "__name__" → mb x = bootBuiltins x) (hlim : s.heap.NoLimit) (hgen : s.gens = #[])
    (ha : s.heap.get? a = some { cls := .type "list", data := .seq vs.toArray }) (hi : IntsAre vs ns) (hl : ns.length ≤ sizeLine) (hr : Room k callerA)
    (F : ∀ base : Heap, K.In base → base.Ns mainGlobals mg → FnG P w K mg base CX0 k fa fd [x] sp) (hbind : ∀ (s : Shared) (u : Value), BindsTo s fd ⟨[u], []⟩ [(x, u)])
    (hsp : ∀ H : Hp, SqL K H a (ns.map V.int) → sp [.ref a] H (fun v _ => v = .bl true) E0) :
    codeAny (model P w) callerA (.call (.ref fa) ⟨[.ref a], []⟩) (fun r s' => r = .ok (.ret (.bool true)) ∧ OldK s.heap s'.heap ∧ s'.os = s.os ∧ AllBare s'.gens) s := by
  have rv := vals_ints hi
  -- a heap H that tracks nothing but what is locked
  have go : ∀ H : Hp, SqL K H a (ns.map V.int) → HOk P w H s.heap → (∀ b u, H b = some u → b = a ∧ K.lookup a = none ∧ ∃ o xs, u = .frz o (.lst xs)) →
      codeAny (model P w) callerA (.call (.ref fa) ⟨[.ref a], []⟩) (fun r s' => r = .ok (.ret (.bool true)) ∧ OldK s.heap s'.heap ∧ s'.os = s.os ∧ AllBare s'.gens) s := by
    intro H hS hok hH
    have free : ∀ b, b ≠ a → H b = none := fun b n => by
      cases q : H b with
      | none => rfl
      | some u => exact absurd (hH b u q).1 n
    have notDict : ∀ {b : Addr} {o : Obj} {es : Array DictEntry} {n : Nat}, s.heap.get? b = some o → o.data = .dict es n → H b = none := fun {b o es n} e d => free b fun z => by
      rw [z, ha] at e
      cases e
      cases d
    have nsB : ∀ {b : Addr} {m : Str → Option Value}, s.heap.Ns b m → (hidT s.heap H).Ns b m := fun {b m} z => by
      obtain ⟨o, es, n, e, d, r⟩ := z
      exact ⟨o, es, n, hidT_get e (notDict e d), d, r⟩
    have KB : K.In (hidT s.heap H) := fun b o e => hidT_get (KX b o e) (by
      cases q : H b with
      | none => rfl
      | some u =>
        obtain ⟨rfl, n, _⟩ := hH b u q
        rw [n] at e
        cases e)
    have md : Mod K mg (hidT s.heap H) := ⟨KB, nsB hns, ⟨mb, nsB hb, hbb⟩, by
      obtain ⟨m, z1, z2⟩ := hlim
      exact ⟨m, nsB z1, z2⟩⟩
    have e0 : Env0 P w K mg (hidT s.heap H) callerA [] s H := ⟨rfl, md, fun b o e => of_hidT e, Nat.le_of_eq (hidT_size _ _), trivial, fun b z => absurd z (List.not_mem_nil), hok, .of_eq hgen⟩
    refine codeAny_mono ((F _ KB (nsB hns)).go (vs := [.ref a]) (us := [.ref a]) rfl hr e0 (hbind s (.ref a)) (.cons rfl .nil) (hsp H hS)) fun r s2 h => ?_
    cases r with
    | error er => exact h.elim
    | ok fl =>
      cases fl with
      | next => exact h.elim
      | brk => exact h.elim
      | cont => exact h.elim
      | ret u =>
        obtain ⟨v, H2, os, bare, un, hok2, rv2, rfl⟩ := h
        obtain rfl : u = Value.bool true := rv2
        refine ⟨rfl, OldK.of_keep fun b o e => ?_, os, bare⟩
        cases q : H b with
        | none => exact un.keep b o e q List.not_mem_nil List.not_mem_nil
        | some u =>
          obtain ⟨rfl, _, ob, xs, rfl⟩ := hH b u q
          have z1 := (hok b _ q).1
          have z2 := (hok2 b _ (un.frzs b ob _ q)).1
          rw [z1] at e
          cases e
          exact z2
  cases hk : K.lookup a with
  | some o =>
    have e := KX a o hk
    rw [ha] at e
    cases e
    exact go (fun _ => none) (.inr ⟨_, vs.toArray, _, hk, rfl, rfl, rfl, by rw [List.size_toArray, hi.length]; exact hl, by simpa using rv⟩) (fun _ _ z => nomatch z) (fun _ _ z => nomatch z)
  | none =>
    refine go (scr a { cls := .type "list", data := .seq vs.toArray } ns) (.inl (.inr ⟨_, scr_at⟩)) (fun b u z => ?_) (fun b u z => ?_)
    · by_cases q : b = a
      · subst q
        rw [scr_at] at z
        cases z
        exact ⟨ha, by rw [List.length_map]; exact hl, vs, _, rv, ha⟩
      · rw [scr_off q] at z
        cases z
    · by_cases q : b = a
      · subst q
        rw [scr_at] at z
        cases z
        exact ⟨rfl, hk, _, _, rfl⟩
      · rw [scr_off q] at z
        cases z
/-- the end of a law's row: its promise, from the facts that the head tells -/
theorem walkG {l : PySem.W.OpenLaw} {n k : Nat} {q : Program} {loose : List Str} {XP : (Str → Option Value) → Heap → Prop} {YP : World → Heap → Prop} {d : DefRec} {x : Str}
    (hn : l.most = some n) (hn2 : n ≤ sizeLine) (hdf : d.params.defaults = []) (hr : Room k callerA)
    (F : ∀ (w : World) (mg : Str → Option Value) (fa : Addr) (h : Heap), YP w h → h.Ns mainGlobals mg → mg d.name = some (.ref fa) →
      ∃ (K : PySem.W.Frag) (fd : FuncData) (sp : Sp), K.In h ∧ (∀ (s : Shared) (u : Value), BindsTo s fd ⟨[u], []⟩ [(x, u)]) ∧
        (∀ (H : Hp) (a : Addr) (ns : List Int), ns.length ≤ n → SqL K H a (ns.map V.int) → sp [.ref a] H (fun v _ => v = .bl true) E0) ∧
        ∀ base : Heap, K.In base → base.Ns mainGlobals mg → FnG l.prog w K mg base CX0 k fa fd [x] sp) :
    PySem.W.WalkO q loose XP YP l.row.toRowW d [] (fun f vs => PySem.call f vs) := by
  refine Att.attach_call hn hdf fun w s₀ s₁ mg mb fa o pm cd doc a vs ns G Y ho hd hcd hmg hobj hints hlen hg => ?_
  obtain ⟨K, fd, sp, KX, hb, hsp, hF⟩ := F w mg fa _ Y G.T.g hmg
  exact lawG KX G.T.g G.T.b G.T.builtins G.T.nolimit hg hobj hints (Nat.le_trans hlen hn2) hr hF hb fun H hS => hsp H a ns hlen hS
/-! ### the pot: a list of two numbers that a draw changes -/
/-- a heap at which a pot stands at p -/
def Po (p : Addr) (H : Hp) : Prop := ∃ i j : Int, H p = some (.lst [.int i, .int j]) ∧ 0 ≤ i ∧ 0 ≤ j ∧ j < 2147483648
/-- all that was tracked, but the pot, stands -/
def Xp (p : Addr) (H H' : Hp) : Prop := (∀ a o, a ≠ p → H a = some o → H' a = some o) ∧ Po p H'
theorem Xp.refl {p : Addr} {H : Hp} (h : Po p H) : Xp p H H := ⟨fun _ _ _ e => e, h⟩
theorem Xp.trans {p : Addr} {H H1 H2 : Hp} (a : Xp p H H1) (b : Xp p H1 H2) : Xp p H H2 := ⟨fun c o n e => b.1 c o n (a.1 c o n e), b.2⟩
theorem Po.some {p : Addr} {H : Hp} (h : Po p H) : ∃ o, H p = some o := ⟨_, h.choose_spec.choose_spec.1⟩
/-- a new object beside the pot -/
theorem Xp.new {p q : Addr} {H : Hp} {o : HO} (h : Po p H) (hq : H q = none) : Xp p H (upd H q o) := by
  obtain ⟨i, j, e, r⟩ := h
  refine ⟨fun a u _ ea => ?_, i, j, ?_, r⟩
  · rw [upd_ne (ne_of_none ea hq)]
    exact ea
  · rw [upd_ne (ne_of_none e hq)]
    exact e
theorem Xp.snew {p q : Addr} {H H1 : Hp} {o : HO} (x : Xp p H H1) (hq : H1 q = none) : Xp p H (upd H1 q o) := x.trans (.new x.2 hq)
theorem Xp.same {p : Addr} {H H1 H2 : Hp} (x : Xp p H H1) (s : Same H1 H2) : Xp p H H2 := by
  obtain ⟨h, i, j, e, r⟩ := x
  exact ⟨fun a o n ea => s _ _ (h a o n ea), i, j, s _ _ e, r⟩
/-- what is seen of a list, a tuple that isn't the pot -/
theorem Xp.at {p : Addr} {H H' : Hp} (x : Xp p H H') {a : Addr} {o : HO} (e : H a = some o) (n : a ≠ p) : H' a = some o := x.1 a o n e
/-- a draw: some number below the size -/
def spDraw : Sp := fun vs H Q _ => ∃ (p : Addr) (n : Int), vs = [.ref p, .int n] ∧ Po p H ∧ 0 < n ∧ n < 1073741824 ∧
  ∀ (d : Int) (H' : Hp), 0 ≤ d → d < n → Xp p H H' → Q (.int d) H'
/-- one of a list, at any place -/
def spPick (K : PySem.W.Frag) : Sp := fun vs H Q _ => ∃ (p l : Addr) (xs : List V), vs = [.ref p, .ref l] ∧ Po p H ∧ H l = some (.lst xs) ∧ l ≠ p ∧ 0 < xs.length ∧ xs.length < 100000 ∧
  ∀ (v : V) (H' : Hp), v ∈ xs → Xp p H H' → Q v H'
/-- a new pot -/
def spPot (K : PySem.W.Frag) : Sp := fun vs H Q _ => ∃ (a : Addr) (ns : List Int) (k : Int), vs = [.ref a, .int k] ∧ SqL K H a (ns.map V.int) ∧ ns.length ≤ 63 ∧ 0 ≤ k ∧ k ≤ 63 ∧
  ∀ (p : Addr) (H' : Hp), H p = none → Same H H' → Po p H' → Q (.ref p) H'
theorem atI_mem {xs : List V} {d : Int} (h0 : 0 ≤ d) (h1 : d < xs.length) : ∃ v, atI xs d = some v ∧ v ∈ xs := by
  obtain ⟨n, rfl⟩ := Int.eq_ofNat_of_zero_le h0
  have hn : n < xs.length := by omega
  exact ⟨xs[n], atI_nat (List.getElem?_eq_getElem hn), List.getElem_mem hn⟩
end Lw
namespace Lw
open PySem PySem.Spec PyProof.Rows L2
/-! ### what a value shows by repr -/
/-- wherever H is kept, v is read as d; no dict stands at sys.modules -/
def Rw (P : Program) (w : World) (H : Hp) (v : V) (d : PyData) : Prop :=
  ∀ h : Heap, HOk P w H h → ∀ u : Value, RelV v u → ∃ as, Reads h u d as ∧ (d.hasDict = true → sysModules ∉ as)
section
variable {P : Program} {w : World} {H H' : Hp}
theorem rw_non : Rw P w H .non .none := fun h _ u r => by
  cases (show u = Value.none from r)
  exact ⟨_, .none, fun z => nomatch z⟩
theorem rw_bl (b : Bool) : Rw P w H (.bl b) (.bool b) := fun h _ u r => by
  cases (show u = Value.bool b from r)
  exact ⟨_, .bool b, fun z => nomatch z⟩
theorem rw_int (i : Int) : Rw P w H (.int i) (.int i) := fun h _ u r => by
  obtain ⟨t, rfl⟩ := (show ∃ t, u = Value.int i t from r)
  exact ⟨_, .int i t, fun z => nomatch z⟩
theorem rw_str (x : Str) : Rw P w H (.str x) (.str x) := fun h _ u r => by
  obtain ⟨t, rfl⟩ := (show ∃ t, u = Value.str x t from r)
  exact ⟨_, .str x t, fun z => nomatch z⟩
theorem rw_all {h : Heap} (hok : HOk P w H h) : ∀ {vs : List V} {ds : List PyData} {us : List Value}, Paired (Rw P w H) vs ds → Vals vs us → ∃ as, ReadsAll h us ds as
  | _, _, _, .nil, .nil => ⟨_, .nil⟩
  | _, _, _, .cons r t, .cons q s => by
    obtain ⟨as, r1, _⟩ := r h hok _ q
    obtain ⟨bs, r2⟩ := rw_all hok t s
    exact ⟨_, .cons r1 r2⟩
theorem rw_lst {a : Addr} {vs : List V} {ds : List PyData} (e : H a = some (.lst vs)) (hp : Paired (Rw P w H) vs ds) (nd : PyData.hasDictAll ds = false) : Rw P w H (.ref a) (.list ds) := fun h hok u r => by
  cases (show u = Value.ref a from r)
  obtain ⟨_, its, n, rv, ho⟩ : vs.length ≤ sizeLine ∧ ∃ (its : List Value) (n : Nat), Vals vs its ∧ h.get? a = some { cls := .type "list", data := .seq its.toArray n } := hok a _ e
  obtain ⟨as, ra⟩ := rw_all hok hp rv
  exact ⟨_, .list ho rfl rfl ra, fun z => by rw [PyData.hasDict, nd] at z; cases z⟩
theorem rw_tup {a : Addr} {vs : List V} {ds : List PyData} (e : H a = some (.tup vs)) (hp : Paired (Rw P w H) vs ds) (nd : PyData.hasDictAll ds = false) : Rw P w H (.ref a) (.tuple ds) := fun h hok u r => by
  cases (show u = Value.ref a from r)
  obtain ⟨_, its, rv, o, ho, hc, n, hd⟩ : vs.length ≤ sizeLine ∧ ∃ its : List Value, Vals vs its ∧ IsTup h a its.toArray := hok a _ e
  obtain ⟨as, ra⟩ := rw_all hok hp rv
  exact ⟨_, .tuple ho hc hd ra, fun z => by rw [PyData.hasDict, nd] at z; cases z⟩
end
/-! a dict with plain values -/
def kD : Key → PyData
  | .inl i => .int i
  | .inr x => .str x
def vD : V → Option PyData
  | .non => some .none
  | .bl b => some (.bool b)
  | .int i => some (.int i)
  | .str x => some (.str x)
  | _ => none
theorem vD_reads {h : Heap} {v : V} {d : PyData} {u : Value} (e : vD v = some d) (r : RelV v u) : Reads h u d [] := by
  cases v with
  | non =>
    cases (show u = Value.none from r)
    cases e
    exact .none
  | bl b =>
    cases (show u = Value.bool b from r)
    cases e
    exact .bool b
  | int i =>
    obtain ⟨t, rfl⟩ := (show ∃ t, u = Value.int i t from r)
    cases e
    exact .int i t
  | str x =>
    obtain ⟨t, rfl⟩ := (show ∃ t, u = Value.str x t from r)
    cases e
    exact .str x t
  | _ => cases e
section
variable {P : Program} {w : World} {H H' : Hp}
theorem kv_reads {h : Heap} : ∀ {kvs : List (Key × V)} {ds : List PyData} {vs : List (Key × Value)} {es : List DictEntry}, kvs.map (fun q => vD q.2) = ds.map some → KV kvs vs → Pairs (mixKind P w) es vs →
    ReadsAll h (es.map (·.key)) ((kvs.zipWith (fun q d => (kD q.1, d)) ds).map (·.1)) [] ∧ ReadsAll h (es.map (·.val)) ((kvs.zipWith (fun q d => (kD q.1, d)) ds).map (·.2)) []
  | [], [], _, _, _, .nil, .nil => ⟨.nil, .nil⟩
  | [], _ :: _, _, _, e, _, _ => by cases e
  | _ :: _, [], _, _, e, _, _ => by cases e
  | (k, v) :: kvs, d :: ds, _, _, e, .cons (b := q) ⟨e1, rv⟩ t, .cons (e := en) h1 h2 t2 => by
    injection e with e2 e3
    obtain ⟨z1, z2⟩ := kv_reads (h := h) e3 t t2
    have rk : Reads h en.key (kD k) [] := by
      have e1' : k = q.1 := e1
      rw [← e1'] at h1
      rcases keyIs_shape (show keyIs k en.key = true from h1) with ⟨i, t, rfl, e⟩ | ⟨x, t, rfl, e⟩
      · rw [e]
        exact .int i t
      · rw [e]
        exact .str x t
    have rv' : Reads h en.val d [] := by
      rw [h2]
      exact vD_reads e2 rv
    exact ⟨.cons rk z1, .cons rv' z2⟩
theorem rw_dk {a : Addr} {kvs : List (Key × V)} {ds : List PyData} (e : H a = some (.dK kvs)) (hv : kvs.map (fun q => vD q.2) = ds.map some) : Rw P w H (.ref a) (.dict (kvs.zipWith (fun q d => (kD q.1, d)) ds)) := fun h hok u r => by
  cases (show u = Value.ref a from r)
  obtain ⟨_, hs, vs, kv, o, es, ep, ho, hx, hd, _, hp, _⟩ : kvs.length ≤ sizeLine ∧ (a == sysModules) = false ∧ ∃ vs, KV kvs vs ∧ h.DictOf (mixKind P w) a vs := hok a _ e
  obtain ⟨z1, z2⟩ := kv_reads (h := h) hv kv hp
  refine ⟨_, .dict ho hx.1 hd z1 z2, fun _ z => ?_⟩
  have z' : sysModules = a := by simpa using z
  rw [← z'] at hs
  simp at hs
/-! the rule -/
theorem rk_all {h : Heap} (hok : HOk P w H h) : ∀ {vs : List V} {ds : List PyData} {us : List Value}, Paired (Rw P w H) vs ds → Vals vs us → PyData.showableAll ds = true → (∀ t ∈ PyData.shownAll ds, t.length ≤ sizeLine) →
    ∃ bs, ReadAtMost h (PyData.depthAll ds) bs ∧ ReprAllK P w bs h (PyData.depthAll ds) us (PyData.shownAll ds)
  | _, _, _, .nil, .nil, _, _ => ⟨[], (fun _ z => nomatch z), by simp only [PyData.shownAll]; exact .nil⟩
  | _, _, _, .cons (b := d) (l₂ := ds) r t, .cons q s, hs, hz => by
    have hs' : d.showable = true ∧ PyData.showableAll ds = true := by simpa [PyData.showableAll] using hs
    obtain ⟨as, r1, hd⟩ := r h hok _ q
    obtain ⟨b1, m1, k1⟩ := ReprK.of_reads (prog := P) (w := w) r1 hs'.1 hd (hz _ (by simp only [PyData.shownAll]; exact List.mem_cons_self ..))
    obtain ⟨b2, m2, k2⟩ := rk_all hok t s hs'.2 (fun t ht => hz t (by simp only [PyData.shownAll]; exact List.mem_cons_of_mem _ ht))
    refine ⟨b1 ++ b2, ?_, ?_⟩
    · simp only [PyData.depthAll]
      exact (m1.mono (Nat.le_max_left _ _)).append (m2.mono (Nat.le_max_right _ _))
    · simp only [PyData.depthAll, PyData.shownAll]
      exact .cons ((k1.more fun b z => List.mem_append_left _ z).level_le (Nat.le_max_left _ _)) (k2.more_le (fun b z => List.mem_append_right _ z) (Nat.le_max_right _ _))
end
/-- repr of a list -/
def rReprL (P : Program) (w : World) : List V → Hp → VK → Prop := fun xs H Q => ∃ (p : Addr) (vs : List V) (ds : List PyData), xs = [.ref p] ∧ H p = some (.lst vs) ∧ Paired (Rw P w H) vs ds ∧
  PyData.showableAll ds = true ∧ (listText (PyData.shownAll ds)).length ≤ sizeLine ∧ PyData.depthAll ds ≤ 40 ∧ Q (.str (listText (PyData.shownAll ds))) H
theorem call_reprL {X : Cx} (gd : X.A.guards = some []) (hu : X.A.units + 64 < cLine) : CallR X (.builtin "repr") (rReprL X.prog X.w) := by
  intro pins s σ H xs us Q I r h
  obtain ⟨p, vs, ds, rfl, e, hp, hs, hz, hd, q⟩ := h
  cases r with
  | cons rx rr =>
    cases rr
    cases rx
    obtain ⟨_, its, n, rv, ho⟩ : vs.length ≤ sizeLine ∧ ∃ (its : List Value) (n : Nat), Vals vs its ∧ s.heap.get? p = some { cls := .type "list", data := .seq its.toArray n } := I.hok p _ e
    obtain ⟨as, ra⟩ := rw_all I.hok hp rv
    obtain ⟨bs, hb, hk⟩ := rk_all (P := X.prog) (w := X.w) I.hok hp rv hs fun t ht => Nat.le_trans (listText_mem_le ht) hz
    have hna : p ∉ bs := not_mem_of_deeper (.list ho rfl rfl ra) (by simp only [PyData.depth]; omega) hb
    have ty : s.TypeIs (.ref p) "list" := ⟨_, ho, rfl⟩
    refine call_repr_slot (by omega) ty F.slot_list_repr.toG ?_
    have fin : ∀ h' u tk, (∀ b o, s.heap.get? b = some o → h'.get? b = some o) → EP X pins σ Q (.str (listText (PyData.shownAll ds)) u) { s with heap := h', toks := tk } :=
      fun h' u tk k => ⟨.str (listText (PyData.shownAll ds)), H, I.kept k, ⟨u, rfl⟩, q⟩
    cases its with
    | nil =>
      cases rv
      cases hp
      simp only [PyData.shownAll, listText_nil] at fin
      exact call_list_repr_empty ty ho rfl ⟨_, _, rfl, fin s.heap _ _ fun _ _ z => z⟩
    | cons x l =>
      exact call_list_reprK ho rfl rfl hna (by simpa using hk.length_eq) (fun i y z => hk.item i y (by simpa using z)) gd (fun b _ => Clear.nil b) (by show X.A.in1.units + _ < cLine; show X.A.units + 1 + _ < cLine; omega) (fun _ _ z => z) (fun h' u tk k => ⟨_, _, rfl, fin h' u tk k⟩) hz
end Lw
/-! ### an exception class of the program's own, called with values by position and by name -/
namespace LwX
open PySem PySem.W PySem.Calls PySem.HandSPX
open Builtin Builtin.ObjectAttr
section
variable {M : Model} {prog : Program} {w : World} {A : Around} {E : Value → Shared → Prop} {R : Result → Shared → Prop} {h : Heap} {g : Array GenState} {d : Drawn} {t : Nat} {os : OsState}
variable {nm q : Str} {C N : Addr} {bs bm bB : List Value} {hdct : Bool} {sn : List Str} {sub : List Value} {ab : Bool} {col : Option Bool} {dd : Option Addr} {k0 k1 k2 k3 k5 : Option Value} {B nI iI : String}
variable {pos : List Value} {kw : List (Str × Value)}
theorem chkK (F : ExcBaseFacts B nI iI bB) (hT : ∀ X : String, bm.contains (.type X) = bB.contains (.type X)) {Q : Unit → Shared → Prop}
    (hC : h.get? C = some (excClassObj nm q C N bs bm hdct sn sub ab col dd k0 k1 k2 k3 k5 nI)) (hq : Q () ⟨h, g, d, t, os⟩) : wpAny M A (checkBuiltinCall nI ⟨.ref C :: pos, kw⟩) Q E ⟨h, g, d, t, os⟩ := by
  have cB : (Value.ref C :: bm).contains (.type B) = true := by rw [List.contains_cons, hT, F.hasB, Bool.or_true]
  have ns := F.noStar
  simp only [checkBuiltinCall, F.newKind, F.newSplit, F.newRow]
  repeat (first
    | refine wpAny_loadPart_at hC ?_
    | (refine wpAny_isSubtype_exc hC ?_; rw [cB])
    | refine wpAny_staticBase_exc hC ?_
    | refine wpAny_madeBy_exc hC ?_
    | simp only [bne_self_eq_false, Bool.false_eq_true, if_false]
    | wp_step)
  exact hq
theorem newK (F : ExcBaseFacts B nI iI bB) (hT : ∀ X : String, bm.contains (.type X) = bB.contains (.type X))
    (hC : h.get? C = some (excClassObj nm q C N bs bm hdct sn sub ab col dd k0 k1 k2 k3 k5 nI)) (hz : pos.length ≤ sizeLine)
    (hq : R (.ok (.ret (.ref (h.objs.size + 1)))) ⟨(h.push (W.kdv_tup pos)).push (excO C h.objs.size), g, d, t, os⟩) :
    codeAny (model prog w) A (.builtin nI ⟨.ref C :: pos, kw⟩) R ⟨h, g, d, t, os⟩ := by
  have ends := F.ends
  have cB : (Value.ref C :: bm).contains (.type B) = true := by rw [List.contains_cons, hT, F.hasB, Bool.or_true]
  have cA : (Value.ref C :: bm).contains (.type "AttributeError") = false := by rw [List.contains_cons, hT, F.noAttr]; rfl
  have cN : (Value.ref C :: bm).contains (.type "NameError") = false := by rw [List.contains_cons, hT, F.noName]; rfl
  have hrest : pos.length ≤ sizeLine := hz
  refine codeAny_builtinAt F.entry ?_
  unfold Builtin.«BaseException.__new__»
  refine wpAt_bind ?_
  show wpAt _ _ _ (stack >>= _) _ _ _
  refine wpAt_bind (wpAt_stack fun p below => wpAt_of_wpAny ?_)
  wp_walk
  refine wpAt_of_wpAny ?_
  rw [F.owner]
  repeat (first
    | with_reducible refine wpAny_madeHere_exc F.canon hC ?_
    | with_reducible refine wpAny_loadPart_at hC ?_
    | (with_reducible refine wpAny_isSubtype_exc hC ?_; first | rw [cB] | rw [cA] | rw [cN])
    | wp_step)
  show R _ _
  rw [Heap.size_push]
  exact hq
theorem tcK (F : ExcBaseFacts B nI iI bB) (hT : ∀ X : String, bm.contains (.type X) = bB.contains (.type X)) {fI : Addr} {Q : Fin → Shared → Prop}
    (hC : h.get? C = some (excClassObj nm q C N bs bm hdct sn sub ab col dd k0 k1 k2 k3 k5 nI))
    (hi : W.Looks (model prog w) h (typeLookup (.ref C) "__init__") (some (.ref fI))) (hb : ∀ self, W.Looks (model prog w) h (bindSpecial (.ref fI) self) (.ref fI, [self])) (hz : pos.length ≤ sizeLine)
    (hq : codeAny (model prog w) A (.call (.ref fI) ⟨.ref (h.objs.size + 1) :: pos, kw⟩)
      (fun r s' => match r with | .ok (.ret v) => v = .none ∧ Q (.done (.ret (.ref (h.objs.size + 1)))) s' | .ok _ => False | .error e => E e s')
      ⟨(h.push (W.kdv_tup pos)).push (excO C h.objs.size), g, d, t, os⟩) :
    wpAny (model prog w) A (Builtin.«type.__call__» ⟨.ref C :: pos, kw⟩) Q E ⟨h, g, d, t, os⟩ := by
  have hrest : pos.length ≤ sizeLine := hz
  repeat (first
    | with_reducible refine wpAny_loadPart_at hC ?_
    | with_reducible refine wpAny_madeBy_exc hC ?_
    | wp_step)
  refine codeAny_call_builtin_code (Code.quiet_builtin _ F.quiet) (chkK F hT hC ?_)
  refine newK F hT hC hz ?_
  show wpAny _ _ _ _ _ _
  have k : ∀ b o, h.get? b = some o → ((h.push (W.kdv_tup pos)).push (excO C h.objs.size)).get? b = some o := fun b o e => Heap.get?_push_of_some _ (Heap.get?_push_of_some _ e)
  have hC1 := k _ _ hC
  have made : ((h.push (W.kdv_tup pos)).push (excO C h.objs.size)).get? (h.objs.size + 1) = some (excO C h.objs.size) := by heap_get
  have cC : (Value.ref C :: bm).contains (.ref C) = true := by simp
  have i1 := hi.keeps k
  have b1 := (hb (.ref (h.objs.size + 1))).keeps k
  unfold isInstance
  repeat (first
    | with_reducible refine wpAny_loadPart_at made ?_
    | (with_reducible refine wpAny_isSubtype_exc hC1 ?_; rw [cC])
    | wp_step)
  show wpAny _ _ (typeLookup (.ref C) _) _ _ _
  refine i1.at ?_
  refine wpAny_holding (wpAny_bind (b1.at ?_))
  refine wpAny_bind (wpAny_call (codeAny_mono hq fun r s' z => ?_))
  rcases r with e | (v | _ | _ | _)
  all_goals (first | exact z | exact z.elim | skip)
  obtain ⟨rfl, z⟩ := z
  first
    | exact wpAny_pure (wpAny_pure z)
    | (wp_walk; exact z)
theorem callK (F : ExcBaseFacts B nI iI bB) (hT : ∀ X : String, bm.contains (.type X) = bB.contains (.type X)) {fI : Addr}
    (hC : h.get? C = some (excClassObj nm q C N bs bm hdct sn sub ab col dd k0 k1 k2 k3 k5 nI))
    (hi : W.Looks (model prog w) h (typeLookup (.ref C) "__init__") (some (.ref fI))) (hb : ∀ self, W.Looks (model prog w) h (bindSpecial (.ref fI) self) (.ref fI, [self])) (hz : pos.length ≤ sizeLine)
    (hq : codeAny (model prog w) (A.under (.builtin "type.__call__" ⟨.ref C :: pos, kw⟩)) (.call (.ref fI) ⟨.ref (h.objs.size + 1) :: pos, kw⟩) (W.InitBack (h.objs.size + 1) R)
      ⟨(h.push (W.kdv_tup pos)).push (excO C h.objs.size), g, d, t, os⟩) :
    codeAny (model prog w) A (.call (.ref C) ⟨pos, kw⟩) R ⟨h, g, d, t, os⟩ := by
  have f1 := tc_lookup
  have f2 := tc_bind (.ref C)
  have ty : (⟨h, g, d, t, os⟩ : Shared).TypeIs (.ref C) "type" := ⟨_, hC, rfl⟩
  refine codeAny_of_tree ?_
  show wpAny _ _ (callAny (.ref C) _) _ _ _
  repeat (any_goals (first
    | assumption
    | with_reducible refine wpAny_loadPart_at hC ?_
    | wp_step))
  refine ⟨rfl, ?_⟩
  refine codeAny_call_builtin_at (Code.quiet_builtin _ (by decide +kernel)) entry_typeCall (wpAny_check_type_call_sub hC (tcK F hT hC hi hb hz ?_))
  refine codeAny_mono hq fun r s' z => ?_
  rcases r with e | (v | _ | _ | _) <;> exact z
end
end LwX
namespace LwX
open PySem PySem.W PySem.Calls
open Builtin Builtin.ObjectAttr
/-! ### what the top tells of an exception class -/
structure XC (K : Frag) (C : Addr) : Prop where
  base : ∃ (B nI iI : String) (bB : List Value), ExcBaseFacts B nI iI bB ∧ StoreFacts B bB "object.__setattr__" "object" ∧ excInitIn K C bB nI = true ∧ excOver K C bB = true
  hd : hasDictIn K C = true
  kp : keepIn K (.ref C) = true
  sa : findIn K (.ref C) "__setattr__" = some (some (.builtin "object.__setattr__"))
  ga : findIn K (.ref C) "__getattribute__" = some (some (.builtin "BaseException.__getattribute__"))
  gg : findIn K (.ref C) "__getattr__" = some none
  sub : subIn K (.ref C) (.type "BaseException") = some true
  ty : typeIn K (.ref C) = some (.type "type")
  cl : findIn K (.ref C) "__class__" = some (some (.builtin "object.__class__"))
  gt : specialIn K (.builtin "object.__class__") "__get__" = some (some (.builtin "getset_descriptor.__get__"))
  tk : takesIn K (.builtin "object.__class__") = some true
  mo : mroIn K C (.type "object") = some true
/-- a class whose attribute f is the instances' own -/
structure XF (K : Frag) (C : Addr) (f : Str) : Prop where
  no : findIn K (.ref C) f = some none
  tk : takerIn K C f = some none
/-- the mro of the built-in base -/
def bmOf (B : String) : List Value := [.type B, .type "Exception", .type "BaseException", .type "object"]
def baseB (K : Frag) (C : Addr) : Bool :=
  (excInitIn K C (bmOf "ValueError") "ValueError.__new__" && excOver K C (bmOf "ValueError")) || ((excInitIn K C (bmOf "LookupError") "LookupError.__new__" && excOver K C (bmOf "LookupError")) ||
  ((excInitIn K C (bmOf "RuntimeError") "RuntimeError.__new__" && excOver K C (bmOf "RuntimeError")) || (excInitIn K C (bmOf "ArithmeticError") "ArithmeticError.__new__" && excOver K C (bmOf "ArithmeticError"))))
def xcB (K : Frag) (C : Addr) : Bool := baseB K C && (hasDictIn K C && (keepIn K (.ref C) && (decide (findIn K (.ref C) "__setattr__" = some (some (.builtin "object.__setattr__"))) &&
  (decide (findIn K (.ref C) "__getattribute__" = some (some (.builtin "BaseException.__getattribute__"))) && (decide (findIn K (.ref C) "__getattr__" = some none) && (decide (subIn K (.ref C) (.type "BaseException") = some true) &&
  (decide (typeIn K (.ref C) = some (.type "type")) && (decide (findIn K (.ref C) "__class__" = some (some (.builtin "object.__class__"))) && (decide (specialIn K (.builtin "object.__class__") "__get__" = some (some (.builtin "getset_descriptor.__get__"))) &&
  (decide (takesIn K (.builtin "object.__class__") = some true) && decide (mroIn K C (.type "object") = some true)))))))))))
def xfB (K : Frag) (C : Addr) (f : Str) : Bool := decide (findIn K (.ref C) f = some none) && decide (takerIn K C f = some none)
theorem xf_ok {K : Frag} {C : Addr} {f : Str} (h : xfB K C f = true) : XF K C f := by
  obtain ⟨h1, h2⟩ := Bool.and_eq_true_iff.mp h
  exact ⟨of_decide_eq_true h1, of_decide_eq_true h2⟩
theorem xc_ok {K : Frag} {C : Addr} (h : xcB K C = true) : XC K C := by
  obtain ⟨h1, h⟩ := Bool.and_eq_true_iff.mp h
  obtain ⟨h2, h⟩ := Bool.and_eq_true_iff.mp h
  obtain ⟨h3, h⟩ := Bool.and_eq_true_iff.mp h
  obtain ⟨h4, h⟩ := Bool.and_eq_true_iff.mp h
  obtain ⟨h5, h⟩ := Bool.and_eq_true_iff.mp h
  obtain ⟨h6, h⟩ := Bool.and_eq_true_iff.mp h
  obtain ⟨h7, h⟩ := Bool.and_eq_true_iff.mp h
  obtain ⟨h8, h⟩ := Bool.and_eq_true_iff.mp h
  obtain ⟨h9, h⟩ := Bool.and_eq_true_iff.mp h
  obtain ⟨h10, h⟩ := Bool.and_eq_true_iff.mp h
  obtain ⟨h11, h12⟩ := Bool.and_eq_true_iff.mp h
  refine ⟨?_, h2, h3, of_decide_eq_true h4, of_decide_eq_true h5, of_decide_eq_true h6, of_decide_eq_true h7, of_decide_eq_true h8, of_decide_eq_true h9, of_decide_eq_true h10, of_decide_eq_true h11, of_decide_eq_true h12⟩
  unfold baseB at h1
  rcases Bool.or_eq_true_iff.mp h1 with z | h1
  · obtain ⟨z1, z2⟩ := Bool.and_eq_true_iff.mp z
    exact ⟨_, _, _, _, F.excBase_ValueError, F.store_ValueError, z1, z2⟩
  rcases Bool.or_eq_true_iff.mp h1 with z | h1
  · obtain ⟨z1, z2⟩ := Bool.and_eq_true_iff.mp z
    exact ⟨_, _, _, _, F.excBase_LookupError, F.store_LookupError, z1, z2⟩
  rcases Bool.or_eq_true_iff.mp h1 with z | z
  · obtain ⟨z1, z2⟩ := Bool.and_eq_true_iff.mp z
    exact ⟨_, _, _, _, F.excBase_RuntimeError, F.store_RuntimeError, z1, z2⟩
  · obtain ⟨z1, z2⟩ := Bool.and_eq_true_iff.mp z
    exact ⟨_, _, _, _, F.excBase_ArithmeticError, F.store_ArithmeticError, z1, z2⟩
/-! ### self.f = v, the first one and a further one -/
section
variable {prog : Program} {w : World} {A : Around} {R : Result → Shared → Prop} {K : Frag} {x C dx : Addr} {f : Str} {tk : Tok} {v : Value}
variable {hp : Heap} {g : Array GenState} {d : Drawn} {t : Nat} {os : OsState} {fv : Array Value} {t0 : Addr}
theorem osaN (T : XC K C) (F : XF K C f) (X : K.In hp) (hx : hp.get? x = some (PySem.HandSPX.excO C t0))
    (hq : ∀ h' tk' dx, (∀ b o, b ≠ x → hp.get? b = some o → h'.get? b = some o) → hp.objs.size ≤ dx → dx ≠ x → h'.get? x = some { cls := .ref C, dict := some dx, data := .fields #[.ref t0, .none, .none, .none, .bool false, .none] } →
      h'.Ns1 dx (fun y => if y = f then some v else none) → R (.ok (.ret .none)) ⟨h', g, d, tk', os⟩) :
    codeAny (model prog w) A (.call (.builtin "object.__setattr__") ⟨[.ref x, .str f tk, v], []⟩) R ⟨hp, g, d, t, os⟩ := by
  obtain ⟨B, nI, iI, bB, _, SF, _, ov⟩ := T.base
  have I : InstAt hp x (PySem.HandSPX.excO C t0) C none := ⟨hx, rfl, rfl, trivial⟩
  refine osa_openX (s := ⟨hp, g, d, t, os⟩) SF X I ov F.tk fun b => ?_
  show wpAny _ _ (storeInOwnDict (.ref x) (.ref C) (.str f tk) f v b) _ _ _
  obtain ⟨cd, hc, hh⟩ := any_some T.hd
  have Lc : Looks (model prog w) hp (classData C) cd := looks_clsIn X hc
  have nx : x ≠ hp.objs.size := Nat.ne_of_lt (Heap.lt_size hx)
  obtain ⟨nm, bs, mro, ns, qn, hd, sn, sb, ab, col, del⟩ := cd
  dsimp only at hh
  subst hh
  unfold storeInOwnDict ownDictForStores
  repeat (first
    | with_reducible refine PySem.HandSPX.store_in_new ?_ ?_
    | with_reducible refine wpAny_loadPart_at hx ?_
    | with_reducible refine Lc.at ?_
    | wp_step)
  · exact ⟨_, #[], _, (Heap.get?_update_ne _ _ _ _ nx.symm).trans (Heap.get?_push_at rfl rfl), rfl, fun e he => absurd he (by simp), fun _ => rfl⟩
  · intro h' tk' hn' hs
    have hx1 : (hp.push { cls := .type "dict", data := .dict #[] }).get? x = some (PySem.HandSPX.excO C t0) := Heap.get?_push_of_some _ hx
    refine hq h' tk' hp.objs.size (fun b o hb ho => ?_) (Nat.le_refl _) nx.symm ?_ hn'
    · exact (hs.2 b (Nat.ne_of_lt (Heap.lt_size ho))).trans ((Heap.get?_update_ne _ _ _ _ hb).trans (Heap.get?_push_of_some _ ho))
    · exact (hs.2 x nx).trans (Heap.get?_update_self _ hx1 rfl)
theorem osaD {m0 : Str → Option Value} {nl : List Str} (T : XC K C) (F : XF K C f) (X : K.In hp) (hx : hp.get? x = some { cls := .ref C, dict := some dx, data := .fields fv }) (hns : hp.Ns1 dx m0) (hw : Within m0 nl) (hz : nl.length ≤ 1000)
    (hq : ∀ h' tk', (∀ b o, b ≠ dx → hp.get? b = some o → h'.get? b = some o) → h'.Ns1 dx (fun y => if y = f then some v else m0 y) → R (.ok (.ret .none)) ⟨h', g, d, tk', os⟩) :
    codeAny (model prog w) A (.call (.builtin "object.__setattr__") ⟨[.ref x, .str f tk, v], []⟩) R ⟨hp, g, d, t, os⟩ := by
  obtain ⟨B, nI, iI, bB, _, SF, _, ov⟩ := T.base
  obtain ⟨oD, _, _, hoD, _, _⟩ := hns.count hw
  have I : InstAt hp x { cls := .ref C, dict := some dx, data := .fields fv } C (some oD) := ⟨hx, rfl, rfl, hoD⟩
  refine osa_openX (s := ⟨hp, g, d, t, os⟩) SF X I ov F.tk fun b => ?_
  show wpAny _ _ (storeInOwnDict (.ref x) (.ref C) (.str f tk) f v b) _ _ _
  obtain ⟨cd, hc, hh⟩ := any_some T.hd
  have Lc : Looks (model prog w) hp (classData C) cd := looks_clsIn X hc
  obtain ⟨nm, bs, mro, ns, qn, hd, sn, sb, ab, col, del⟩ := cd
  dsimp only at hh
  subst hh
  unfold storeInOwnDict ownDictForStores
  repeat (first
    | with_reducible refine PySem.OEX.store_in_old hns hw hz ?_
    | with_reducible refine wpAny_loadPart_at hx ?_
    | with_reducible refine Lc.at ?_
    | wp_step)
  intro h' tk' hn' hs
  exact hq h' tk' (fun b o hb ho => (hs.2 b hb).trans ho) hn'
end
end LwX
namespace Lw
open PySem PySem.Spec PyProof.Rows L2
open LwX (XC XF)
/-! ### self.f = v in an exception's own __init__ -/
section
variable {X : Cx} {pins : List (Addr × Obj)} {σ : L2.St} {H : Hp} {s : Shared} {a C dx : Addr} {f : Str} {y : V} {u : Value} {fs : List (Str × V)} {Q : Unit → Shared → Prop} {E : Value → Shared → Prop} {A : Around}
theorem xst_new (T : XC X.K C) (F : XF X.K C f) (I : Inv X pins σ H s) (e : H a = some (exo a C none)) (ry : RelV y u)
    (h : ∀ dx s', H dx = none → dx ≠ a → Inv X pins σ (upd (upd H dx (exd dx [(f, y)])) a (exo a C (some dx))) s' → Q () s') : wpAny (model X.prog X.w) A (setAttr (.ref a) f u) Q E s := by
  obtain ⟨t1, ho⟩ := exo_at I.hok e
  obtain ⟨hp, g, d, t, os⟩ := s
  refine PySem.W.set_plain I.kIn (ox := { cls := .ref C, dict := none, data := .fields #[.ref t1, .none, .none, .none, .bool false, .none] }) (od := none) ⟨ho, rfl, rfl, trivial⟩ T.sa ?_
  refine LwX.osaN T F I.kIn ho fun h2 tk2 dx k dn dne hx hn => ?_
  have free : H dx = none := I.hok.fresh dn
  have old : ∀ {b : Addr} {o : Obj}, hp.get? b = some o → b ≠ dx := fun {b o} q => Nat.ne_of_lt (Nat.lt_of_lt_of_le (Heap.lt_size q) dn)
  have off : ∀ {b : Addr}, H b = none → b ≠ a := fun {b} n z => by
    rw [z, e] at n
    cases n
  have un : Un X.fs [] H (upd (upd H dx (exd dx [(f, y)])) a (exo a C (some dx))) hp h2 := {
    keep := fun b o q n _ _ => k b o (off n) q
    slot := fun b o q n _ _ => ⟨o.slots, k b o (off n) q⟩
    free := fun b o q n _ => by
      rw [upd_ne (off n), upd_ne (old q)]
      exact n
    there := fun b o q _ => by
      by_cases hb : b = a
      · exact ⟨_, hb ▸ hx⟩
      · exact ⟨o, k b o hb q⟩
    tups := fun b xs q => by
      rw [upd_ne (at_ne e q exo_tup), upd_ne (ne_of_none q free)]
      exact q
    frzs := fun b o v q => by
      rw [upd_ne (at_ne e q exo_frz), upd_ne (ne_of_none q free)]
      exact q
    tbls := fun b ps q => ⟨#[], by
      rw [upd_ne (at_ne e q exo_tbl), upd_ne (ne_of_none q free), q]
      simp⟩ }
  refine h dx _ free dne (I.un (t' := tk2) un fun b o q => ?_)
  by_cases hb : b = a
  · subst hb
    rw [upd_same] at q
    cases q
    exact exo_ok hx
  rw [upd_ne hb] at q
  by_cases hd : b = dx
  · subst hd
    rw [upd_same] at q
    cases q
    exact exd_ok hn (relO_put (fs := []) ry fun _ => True.intro)
  rw [upd_ne hd] at q
  refine (I.hok b o q).stay (fun c v hc z => k c v ?_ z) (fun c hc => ?_) (fun c xs hc => ?_)
  · rcases hc with rfl | hc
    · exact hb
    · exact at_ne e hc exo_own
  · rw [upd_ne (at_ne e hc exo_own), upd_ne (ne_of_none hc free)]
    exact hc
  · rw [upd_ne (at_ne e hc exo_tup), upd_ne (ne_of_none hc free)]
    exact hc
theorem xst_old (T : XC X.K C) (F : XF X.K C f) (I : Inv X pins σ H s) (e : H a = some (exo a C (some dx))) (ed : H dx = some (exd dx fs)) (hl : fs.length ≤ 900) (ry : RelV y u)
    (h : ∀ s', Inv X pins σ (upd H dx (exd dx ((f, y) :: fs))) s' → Q () s') : wpAny (model X.prog X.w) A (setAttr (.ref a) f u) Q E s := by
  obtain ⟨t1, ho⟩ := exo_at I.hok e
  obtain ⟨mA, hns, rel⟩ := exd_at I.hok ed
  have hw := within_of rel
  obtain ⟨hp, g, d, t, os⟩ := s
  obtain ⟨oD, _, _, hoD, _, _⟩ := hns.count hw
  refine PySem.W.set_plain I.kIn (ox := { cls := .ref C, dict := some dx, data := .fields #[.ref t1, .none, .none, .none, .bool false, .none] }) (od := some oD) ⟨ho, rfl, rfl, hoD⟩ T.sa ?_
  refine LwX.osaD T F I.kIn ho hns hw (by rw [List.length_map]; omega) fun h2 tk2 k hn => ?_
  obtain ⟨o2, es2, ep2, e2, r2⟩ := hn
  exact h _ (I.write (t' := tk2) (x := dx) (e := dx) (o := exd dx ((f, y) :: fs)) (by rw [ed]; exact True.intro) (.inl rfl) k ⟨o2, e2⟩ (exd_ok ⟨o2, es2, ep2, e2, r2⟩ (relO_put ry rel)))
end
/-- self.f = e: the reading -/
def tXst (K : PySem.W.Frag) (f : Str) (to te : TE) : TS := fun D σ H => te σ H fun y H1 => to σ H1 fun x H2 => ∃ a C : Addr, x = .ref a ∧ XC K C ∧ XF K C f ∧
  ((H2 a = some (exo a C none) ∧ ∀ dx, H2 dx = none → dx ≠ a → D.nx σ (upd (upd H2 dx (exd dx [(f, y)])) a (exo a C (some dx)))) ∨
    ∃ (dx : Addr) (fs : List (Str × V)), H2 a = some (exo a C (some dx)) ∧ H2 dx = some (exd dx fs) ∧ fs.length ≤ 900 ∧ D.nx σ (upd H2 dx (exd dx ((f, y) :: fs))))
theorem ps_xst {X : Cx} {o e : Expr} {to te : TE} {f : Str} {p' pos : Pos} (ho : PE X o to) (he : PE X e te) (hs : swapsWith e (some (.Attribute o f p')) pos.line X.env = pure false := by rfl) : PS X (.Assign [.Attribute o f p'] e pos) (tXst X.K f to te) := by
  constructor
  intro pins s σ H D I h
  refine plainObj_wpAny_Assign_Attribute (thn (he.run pins s σ H _ I h) fun v s1 h1 => ?_) hs
  obtain ⟨y, H1, I1, r1, q1⟩ := h1
  refine thn (ho.run pins s1 σ H1 _ I1 q1) fun u s2 h2 => ?_
  obtain ⟨x, H2, I2, r2, a, C, rfl, T, F, q⟩ := h2
  obtain rfl : u = Value.ref a := r2
  rcases q with ⟨ea, q⟩ | ⟨dx, fs, ea, ed, hl, q⟩
  · exact xst_new T F I2 ea r1 fun dx s3 n ne J => ⟨σ, _, J, q dx n ne⟩
  · exact xst_old T F I2 ea ed hl r1 fun s3 J => ⟨σ, _, J, q⟩
/-! ### an exception as a value -/
/-- at a: an exception of the class at C whose own attributes are fs -/
def Xo (H : Hp) (a C : Addr) (fs : List (Str × V)) : Prop := (fs = [] ∧ H a = some (exo a C none)) ∨ ∃ d, H a = some (exo a C (some d)) ∧ H d = some (exd d fs)
theorem Xo.same {H H' : Hp} {a C : Addr} {fs : List (Str × V)} (x : Xo H a C fs) (s : Same H H') : Xo H' a C fs := by
  rcases x with ⟨e, h⟩ | ⟨d, h1, h2⟩
  · exact .inl ⟨e, s _ _ h⟩
  · exact .inr ⟨d, s _ _ h1, s _ _ h2⟩
/-- e.f -/
def tXat (K : PySem.W.Frag) (f : Str) (te : TE) : TE := fun σ H Q => te σ H fun x H1 => ∃ (a C : Addr) (fs : List (Str × V)) (v : V), x = .ref a ∧ Xo H1 a C fs ∧ XC K C ∧ XF K C f ∧ fs.lookup f = some v ∧ Q v H1
theorem pe_xat {X : Cx} {e : Expr} {te : TE} {f : Str} {pos : Pos} (he : PE X e te) (hb : attributeBase e f X.env (eval e X.env) = eval e X.env := by rfl) : PE X (.Attribute e f pos) (tXat X.K f te) := by
  constructor
  intro pins s σ H Q I h
  refine attr_of hb (thn (he.run pins s σ H _ I h) fun u s1 hh => ?_)
  obtain ⟨x, H1, I1, rx, a, C, fs, v, rfl, xo, T, F, l, q⟩ := hh
  obtain rfl : u = Value.ref a := rx
  rcases xo with ⟨rfl, _⟩ | ⟨d, h1, h2⟩
  · cases l
  · obtain ⟨t1, ho⟩ := exo_at I1.hok h1
    obtain ⟨mA, hns, hr⟩ := exd_at I1.hok h2
    obtain ⟨od, hod, hl⟩ := lookIn_ns hns
    obtain ⟨w', hw, rw'⟩ := RelO.some_of (v := v) (o := mA f) (by rw [← l]; exact hr f)
    have J : PySem.W.InstAt s1.heap a { cls := .ref C, dict := some d, data := .fields #[.ref t1, .none, .none, .none, .bool false, .none] } C (some od) := ⟨ho, rfl, rfl, hod⟩
    exact HandSPX.exc_get I1.kIn J T.ga T.gg T.sub (PySem.W.findObj_own T.hd F.no rfl (by rw [hl, hw])) (handed_of rw') ⟨v, H1, I1.tok _, rw', q⟩
/-- isinstance(e, c) of such a value -/
def rIsX (K : PySem.W.Frag) : List V → Hp → VK → Prop := fun xs H Q => ∃ (a C : Addr) (fs : List (Str × V)) (c : V) (cv : Value) (b : Bool), xs = [.ref a, c] ∧ Xo H a C fs ∧ XC K C ∧ (∀ u, RelV c u → u = cv) ∧ PySem.W.kitOne K (.ref C) cv = some b ∧ Q (.bl b) H
theorem call_isX {X : Cx} : CallR X (.builtin "isinstance") (rIsX X.K) := by
  intro pins s σ H xs us Q I r h
  obtain ⟨a, C, fs, c, cv, b, rfl, xo, T, hcv, e, q⟩ := h
  cases r with
  | cons rx rr =>
    cases rr with
    | cons rt rr =>
      cases rr
      cases rx
      have ec := hcv _ rt
      subst ec
      obtain ⟨ox, od, J⟩ : ∃ (ox : Obj) (od : Option Obj), PySem.W.InstAt s.heap a ox C od := by
        rcases xo with ⟨_, h1⟩ | ⟨d, h1, h2⟩
        · obtain ⟨t1, ho⟩ := exo_at I.hok h1
          exact ⟨_, none, ho, rfl, rfl, trivial⟩
        · obtain ⟨t1, ho⟩ := exo_at I.hok h1
          obtain ⟨mA, hns, _⟩ := exd_at I.hok h2
          obtain ⟨od, hod, _⟩ := lookIn_ns hns
          exact ⟨_, some od, ho, rfl, rfl, hod⟩
      have hcl : (PySem.W.clsIn X.K C).isSome = true := by
        obtain ⟨cd, hc, _⟩ := PySem.W.any_some T.hd
        rw [hc]
        rfl
      exact PySem.W.kia_one (PySem.W.kitx_exc hcl T.ga T.gg T.sub T.cl T.gt T.tk T.mo) I.kIn J e (fun z => nomatch z) fun tk => ⟨.bl b, H, I.kept (t' := tk) fun _ _ z => z, rfl, q⟩
/-! ### C(e, ..), C(f = e, ..) -/
/-- a class of the top with an __init__ of its own -/
structure XCls (P : Program) (w : World) (K : PySem.W.Frag) (mg : Str → Option Value) (base : Heap) (k : Nat) (x : Str) (C : Addr) (ps : List Str) (sp : Sp) : Prop where
  g : mg x = some (.ref C)
  xc : XC K C
  ini : ∃ fI fd, PySem.W.findIn K (.ref C) "__init__" = some (some (.ref fI)) ∧ PySem.W.typeIn K (.ref fI) = some (.type "function") ∧ FnG P w K mg base CX0 k fI fd ps sp ∧ Binds K fd ps [] ∧
    ∀ (us ws : List Value) (s : Shared), us.length = 1 → ws.length = (ps.drop 1).length → BindsTo s fd ⟨us, (ps.drop 1).reverse.zip ws⟩ (ps.zip (us ++ ws.reverse))
theorem Vals.reverse : ∀ {xs : List V} {us : List Value}, Vals xs us → Vals xs.reverse us.reverse
  | _, _, .nil => .nil
  | _, _, .cons r t => by
    rw [List.reverse_cons, List.reverse_cons]
    exact L2.Vals.append (Vals.reverse t) (.cons r .nil)
section
variable {X : Cx} {k : Nat} {x : Str} {C : Addr} {ps : List Str} {sp : Sp} {p pos : Pos} {e : Expr} {es : List Expr} {kws : List Keyword} {t tk : TA}
/-- the promise of C(..): an exception at a, not yet filled, then its __init__ -/
def xmk (C : Addr) (sp : Sp) (vs : List V) (H : Hp) (Q : VK) : Prop := ∀ a, H a = none → sp (.ref a :: vs) (upd H a (exo a C none)) (fun v H2 => v = .non ∧ Q (.ref a) H2) E0
theorem run_xmk {pins : List (Addr × Obj)} {σ : L2.St} {H : Hp} {s : Shared} {Q : VK} {us : List Value} {kw : List (Str × Value)} {vs : List V} {bs : List Value} {fI : Addr} {fd : FuncData} (T : XC X.K C)
    (hi : PySem.W.findIn X.K (.ref C) "__init__" = some (some (.ref fI))) (ti : PySem.W.typeIn X.K (.ref fI) = some (.type "function")) (F : FnG X.prog X.w X.K X.mg X.base CX0 k fI fd ps sp) (gd : X.A.guards = some []) (hr : Room (k + 1) X.A)
    (I : Inv X pins σ H s) (hz : us.length ≤ sizeLine) (r : Vals vs bs) (hb : ∀ (s : Shared) (a : Addr), X.K.In s.heap → BindsTo s fd ⟨.ref a :: us, kw⟩ (ps.zip (.ref a :: bs))) (h : xmk C sp vs H Q) :
    wpAny (model X.prog X.w) X.A (call (.ref C) us kw) (EP X pins σ Q) X.xe s := by
  obtain ⟨B, nI, iI, bB, FB, _, q, _⟩ := T.base
  obtain ⟨hp, g, dr, tok, os⟩ := s
  obtain ⟨nm, N, qn, bs', bm, hdct, sn, sub, ab, col, dd, k0, k1, k2, k3, k5, hC, hT⟩ := PySem.W.excInit_of (h := hp) I.kIn q
  have hsz : hp.objs.size ≤ hp.objs.size + 1 := Nat.le_succ _
  have hn : H (hp.objs.size + 1) = none := I.hok.fresh hsz
  have hq := h (hp.objs.size + 1) hn
  have kk : ∀ b o, hp.get? b = some o → ((hp.push (PySem.W.kdv_tup us)).push (PySem.HandSPX.excO C hp.objs.size)).get? b = some o := fun b o z => Heap.get?_push_of_some _ (Heap.get?_push_of_some _ z)
  have made : ((hp.push (PySem.W.kdv_tup us)).push (PySem.HandSPX.excO C hp.objs.size)).get? (hp.objs.size + 1) = some (PySem.HandSPX.excO C hp.objs.size) := by heap_get
  have I2 : Inv X pins σ (upd H (hp.objs.size + 1) (exo (hp.objs.size + 1) C none)) ⟨(hp.push (PySem.W.kdv_tup us)).push (PySem.HandSPX.excO C hp.objs.size), g, dr, tok, os⟩ :=
    I.laid (t' := tok) (a := hp.objs.size + 1) (o := exo (hp.objs.size + 1) C none) kk hsz (exo_ok made)
  refine wpAny_call (LwX.callK FB hT hC (PySem.W.looks_findIn I.kIn hi) (fun self => PySem.W.bind_fn I.kIn self ti) hz
    (codeAny_mono (F.go (vs := .ref (hp.objs.size + 1) :: vs) (us := .ref (hp.objs.size + 1) :: bs) ?_ (hr.make C us kw) (I2.env0.make C us kw) (hb _ _ I2.kIn) (.cons rfl r) hq) fun r s2 hq2 => ?_))
  · simp [Around.under, pushGuards, gd, Code.guards, Code.isGuard, guardIds]
  · cases r with
    | error er => exact hq2.elim
    | ok fl =>
      cases fl with
      | next => exact hq2.elim
      | brk => exact hq2.elim
      | cont => exact hq2.elim
      | ret u =>
        obtain ⟨v, H3, I3, rv, rfl, q3⟩ := I2.after hq2
        exact ⟨rv, ⟨.ref (hp.objs.size + 1), H3, I3, rfl, q3⟩⟩
def tXmk (C : Addr) (sp : Sp) (t : TA) : TE := fun σ H Q => t σ H fun vs H1 => vs.length ≤ 1000 ∧ xmk C sp vs H1 Q
theorem pe_xmk (T : XCls X.prog X.w X.K X.mg X.base k x C ps sp) {j : Nat} (gd : X.A.guards = some []) (hr : Room j X.A) (ha : PA X (e :: es) t) (hj : k + 1 ≤ j := by decide) (hg : Gl X x := by rfl) (hdb : (x == ("__debug__" : Str)) = false := by decide)
    (he : starEach (e :: es) X.env = (false, eval e X.env) :: starEach es X.env := by rfl) (hpl : (backTo pos (starEach es X.env)).any (·.1) = false := by rfl) :
    PE X (.Call (.Name x p) (e :: es) [] pos) (tXmk C sp t) := by
  obtain ⟨fI, fd, hi, ti, F, hb, _⟩ := T.ini
  constructor
  intro pins s σ H Q I h
  refine wpAny_Call_Name_kw (ld_glob I hg T.g ?_ hdb)
  refine PySem.W.callWith_K (h₀ := X.base) I.ok.mod.kin T.xc.kp (thn (ha.run pos pins s σ H _ I h) fun us s1 hh => ?_) he hpl
  obtain ⟨vs, H1, I1, r, hz, q⟩ := hh
  refine ⟨I1.kIn, run_xmk T.xc hi ti F gd (hr.mono hj) I1 (by show us.length ≤ sizeLine; rw [← r.length, sizeLine_eq]; omega) r (fun s a hk => ?_) q⟩
  have hl : (Value.ref a :: us ++ []).length = ps.length := by
    rw [List.append_nil, List.length_cons, ← r.length]
    have := F.len _ _ _ _ (q (s1.heap.objs.size + 1) (I1.hok.fresh (Nat.le_succ _)))
    rw [← this]
    rfl
  have z := hb s (.ref a :: us) hk hl
  rw [List.append_nil] at z
  exact z
theorem pe_xmk0 (T : XCls X.prog X.w X.K X.mg X.base k x C ps sp) {j : Nat} (gd : X.A.guards = some []) (hr : Room j X.A) (hj : k + 1 ≤ j := by decide) (hg : Gl X x := by rfl) (hdb : (x == ("__debug__" : Str)) = false := by decide) :
    PE X (.Call (.Name x p) [] [] pos) (tXmk C sp tNil) := by
  obtain ⟨fI, fd, hi, ti, F, hb, _⟩ := T.ini
  constructor
  intro pins s σ H Q I h
  obtain ⟨_, q⟩ := h
  refine wpAny_Call_Name_kw (ld_glob I hg T.g ?_ hdb)
  refine PySem.W.callWith_K0 I.kIn T.xc.kp (run_xmk T.xc hi ti F gd (hr.mono hj) I (Nat.zero_le _) .nil (fun s3 a hk => ?_) q)
  have hl : ([Value.ref a] ++ []).length = ps.length := F.len _ _ _ _ (q s.heap.objs.size (I.hok.fresh (Nat.le_refl _)))
  exact hb s3 [.ref a] hk hl
/-- with all values by name, in the other sequence -/
def tXmkK (C : Addr) (sp : Sp) (tk : TA) : TE := fun σ H Q => tk σ H fun vs H1 => xmk C sp vs.reverse H1 Q
theorem pe_xmkK (T : XCls X.prog X.w X.K X.mg X.base k x C ps sp) {j : Nat} (gd : X.A.guards = some []) (hr : Room j X.A) (hkw : PK X kws tk) (hj : k + 1 ≤ j := by decide) (hg : Gl X x := by rfl) (hdb : (x == ("__debug__" : Str)) = false := by decide)
    (hall : (backToKw pos (keywordEach kws X.env)).all (·.1.isSome) = true := by rfl) (hks : (backToKw pos (keywordEach kws X.env)).filterMap (·.1) = (ps.drop 1).reverse := by rfl)
    (hpl : ((backTo pos (starEach [] X.env)).any (·.1) || (backToKw pos (keywordEach kws X.env)).any (·.1.isNone)) = false := by rfl) :
    PE X (.Call (.Name x p) [] kws pos) (tXmkK C sp tk) := by
  obtain ⟨fI, fd, hi, ti, F, _, hb⟩ := T.ini
  constructor
  intro pins s σ H Q I h
  refine wpAny_Call_Name_kw (ld_glob I hg T.g ?_ hdb)
  refine PySem.W.callWith_KW0 (h₀ := X.base) I.ok.mod.kin T.xc.kp hall ?_ hpl
  refine thn (hkw.run pos pins s σ H _ I h) fun ws s2 hh => ?_
  obtain ⟨zs, H2, I2, rz, q⟩ := hh
  refine ⟨I2.kIn, ?_⟩
  rw [hks]
  have hl : zs.length = (ps.drop 1).length := by
    have z := F.len _ _ _ _ (q (s2.heap.objs.size + 1) (I2.hok.fresh (Nat.le_succ _)))
    rw [List.length_cons, List.length_reverse] at z
    rw [List.length_drop]
    omega
  refine run_xmk (us := []) (bs := ws.reverse) T.xc hi ti F gd (hr.mono hj) I2 (Nat.zero_le _) (Vals.reverse rz) (fun s a hk => ?_) q
  exact hb [.ref a] ws s rfl (rz.length.symm.trans hl)
end
end Lw
namespace Lw
open PySem PySem.Spec PyProof.Rows L2 Evl
open LwX (XC XF)
section
variable {K : PySem.W.Frag} {σ : L2.St} {H H' : Hp} {ta tb te : TE} {xs ys : List V}
/-! ### lists put together, repeated -/
theorem el_cat (ha : EvL ta σ H xs) (hb : EvL tb σ H ys) (hz : xs.length + ys.length ≤ 100000) : EvL (tOp rCat ta tb) σ H (xs ++ ys) := fun H1 e Q q =>
  ha H1 e _ fun p H2 hp e2 hl => hb H2 (e.trans e2) _ fun r H3 hr e3 hl3 => ⟨p, r, xs, ys, rfl, rfl, e3 _ _ hl, hl3, sz_of hz, fun t ht => q t _ (fresh_back (e2.trans e3) ht) ((e2.trans e3).trans (Ex.new ht)) upd_same⟩
/-- the first one stands already -/
theorem el_catV {p : Addr} (ha : Ev ta σ H (.ref p)) (hp : H p = some (.lst xs)) (hb : EvL tb σ H ys) (hz : xs.length + ys.length ≤ 100000) : EvL (tOp rCat ta tb) σ H (xs ++ ys) := fun H1 e Q q =>
  ha H1 e _ fun H2 e2 => hb H2 (e.trans e2) _ fun r H3 hr e3 hl3 => ⟨p, r, xs, ys, rfl, rfl, e3 _ _ (e2 _ _ (e _ _ hp)), hl3, sz_of hz, fun t ht => q t _ (fresh_back (e2.trans e3) ht) ((e2.trans e3).trans (Ex.new ht)) upd_same⟩
theorem flatten_rep1 (n : Nat) (v : V) : (List.replicate n [v]).flatten = List.replicate n v := by
  induction n with
  | zero => rfl
  | succ n ih => rw [List.replicate_succ, List.flatten_cons, ih, List.replicate_succ]; rfl
/-- [v] * n -/
theorem el_rep1 {v : V} {n : Nat} (ha : EvL ta σ H [v]) (hb : ∀ H1, Ex H H1 → Ev tb σ H1 (.int (n : Int))) (hz : n ≤ 100000) : EvL (tOp rRep ta tb) σ H (List.replicate n v) := fun H1 e Q q =>
  ha H1 e _ fun p H2 hp e2 hl => hb H2 (e.trans e2) H2 (Ex.refl _) _ fun H3 e3 => ⟨p, (n : Int), [v], rfl, rfl, e3 _ _ hl, by omega, by omega, by
    show 1 * (n : Int).toNat ≤ sizeLine
    rw [Nat.one_mul, Int.toNat_natCast]
    exact sz_of hz, fun t ht => by
    rw [Int.toNat_natCast, flatten_rep1]
    exact q t _ (fresh_back (e2.trans e3) ht) ((e2.trans e3).trans (Ex.new ht)) upd_same⟩
/-- two lists of plain data compared, both new -/
theorem ev_neD {d e : PyData} (ha : EvL ta σ H xs) (hb : EvL tb σ H ys) (hd : ∀ H1 p, Ex H H1 → H1 p = some (.lst xs) → Dp K H1 (.ref p) d) (he : ∀ H1 p, Ex H H1 → H1 p = some (.lst ys) → Dp K H1 (.ref p) e)
    (sd : SeqAt.shaped d = true) (se : SeqAt.shaped e = true) : Ev (tOp (rNeD K) ta tb) σ H (.bl (!PyData.eqv d e)) := fun H1 e1 Q q =>
  ha H1 e1 _ fun p H2 hp e2 hl => hb H2 (e1.trans e2) _ fun r H3 hr e3 hl3 => ⟨d, e, hd H3 p (e1.trans (e2.trans e3)) (e3 _ _ hl), he H3 r (e1.trans (e2.trans e3)) hl3, sd, se, q H3 (e2.trans e3)⟩
/-! ### loops over enumerate(xs) -/
theorem for_enum {a : Addr} {xs : List V} {g : TG} {tb : TS} {D : Ends} (Pv : Nat → L2.St → Hp → Prop) (h0 : Pv 0 σ H) (hl : ∀ i σ H, i ≤ xs.length → Pv i σ H → SqL K H a xs)
    (hs : ∀ i x σ H T, xs[i]? = some x → Pv i σ H → H T = none → g (.ref T) σ (upd H T (.tup [.int (i : Nat), x])) fun σ2 H2 => tb { D with nx := Pv (i + 1), ct := Pv (i + 1), bk := D.nx } σ2 H2) (hd : ∀ σ H, Pv xs.length σ H → D.nx σ H) :
    ∃ W : Nat → Nat → L2.St → Hp → Prop, (∃ m, W 0 m σ H) ∧ ∀ i m σ H, W i m σ H →
      ((Ite K a).stop i H ∧ D.nx σ H) ∨ ((Ite K a).go i H ∧ ∃ N : L2.St → Hp → Prop, (∀ σ' H', N σ' H' → ∃ m', m' < m ∧ W (i + 1) m' σ' H') ∧ ∀ x H', (Ite K a).yld i H x H' → g x σ H' fun σ2 H2 => tb { D with nx := N, ct := N, bk := D.nx } σ2 H2) := by
  refine ⟨fun i m σ H => i + m = xs.length ∧ Pv i σ H, ⟨xs.length, by omega, h0⟩, ?_⟩
  rintro i m σ H ⟨em, p⟩
  have q := hl i σ H (by omega) p
  by_cases c : i < xs.length
  · refine .inr ⟨⟨xs, xs[i], q, List.getElem?_eq_getElem c⟩, Pv (i + 1), fun σ' H' p' => ⟨m - 1, by omega, by omega, p'⟩, fun x H' y => ?_⟩
    obtain ⟨T, z, rfl, hT, rfl, hz⟩ := y
    exact hs i z σ H T (hz xs q) p hT
  · have e : i = xs.length := by omega
    subst e
    exact .inl ⟨⟨xs, q, Nat.le_refl _⟩, hd σ H p⟩
end
/-! ### what an exception's __init__ does -/
def spI0 (C : Addr) : Sp := fun vs H Q _ => ∃ a : Addr, vs = [.ref a] ∧ H a = some (exo a C none) ∧ Q .non H
def spI1 (f : Str) (C : Addr) : Sp := fun vs H Q _ => ∃ (a : Addr) (v : V), vs = [.ref a, v] ∧ H a = some (exo a C none) ∧ ∀ dx, H dx = none → dx ≠ a → Q .non (upd (upd H dx (exd dx [(f, v)])) a (exo a C (some dx)))
def spI2 (f g : Str) (C : Addr) : Sp := fun vs H Q _ => ∃ (a : Addr) (v w : V), vs = [.ref a, v, w] ∧ H a = some (exo a C none) ∧
  ∀ dx, H dx = none → dx ≠ a → Q .non (upd (upd (upd H dx (exd dx [(f, v)])) a (exo a C (some dx))) dx (exd dx [(g, w), (f, v)]))
theorem xmk0 {C : Addr} {H : Hp} {Q : VK} (k : ∀ a H', Ex H H' → Xo H' a C [] → Q (.ref a) H') : xmk C (spI0 C) [] H Q := fun a ha =>
  ⟨a, rfl, upd_same, rfl, k a _ (Ex.new ha) (.inl ⟨rfl, upd_same⟩)⟩
theorem off_upd {H : Hp} {a d : Addr} {o : HO} (h : upd H a o d = none) : H d = none ∧ d ≠ a := by
  by_cases z : d = a
  · rw [z, upd_same] at h
    cases h
  · rw [upd_ne z] at h
    exact ⟨h, z⟩
theorem xmk1 {C : Addr} {H : Hp} {f : Str} {v : V} {Q : VK} (k : ∀ a H', Ex H H' → Xo H' a C [(f, v)] → Q (.ref a) H') : xmk C (spI1 f C) [v] H Q := fun a ha => by
  refine ⟨a, v, rfl, upd_same, fun dx hd hne => ⟨rfl, ?_⟩⟩
  obtain ⟨hd', _⟩ := off_upd hd
  refine k a _ (fun b o e => ?_) (.inr ⟨dx, upd_same, ?_⟩)
  · rw [upd_ne (ne_of_none e ha), upd_ne (ne_of_none e hd'), upd_ne (ne_of_none e ha)]
    exact e
  · rw [upd_ne hne]
    exact upd_same
theorem xmk2 {C : Addr} {H : Hp} {f g : Str} {v w : V} {Q : VK} (k : ∀ a H', Ex H H' → Xo H' a C [(g, w), (f, v)] → Q (.ref a) H') : xmk C (spI2 f g C) [v, w] H Q := fun a ha => by
  refine ⟨a, v, w, rfl, upd_same, fun dx hd hne => ⟨rfl, ?_⟩⟩
  obtain ⟨hd', _⟩ := off_upd hd
  refine k a _ (fun b o e => ?_) (.inr ⟨dx, ?_, upd_same⟩)
  · rw [upd_ne (ne_of_none e hd'), upd_ne (ne_of_none e ha), upd_ne (ne_of_none e hd'), upd_ne (ne_of_none e ha)]
    exact e
  · rw [upd_ne hne.symm]
    exact upd_same
section
variable {P : Program} {w : World} {K : PySem.W.Frag} {mg : Str → Option Value} {base : Heap} {C fI : Addr} {fd : FuncData} {qual : Str} {params : Arguments} {scope : Scope}
/-- the body: self.f = f -/
theorem init1 {f : Str} {q1 q2 q3 q4 : Pos} (F : FunD K "__init__" qual params [.Assign [.Attribute (.Name "self" q1) f q2] (.Name f q3) q4] scope [] [] fI fd) (S : FnScope ["self", f] ["self", f] scope) (T : XC K C) (A : XF K C f)
    (l1 : scope.names.lookup ("self" : Str) = some .local) (l2 : scope.names.lookup f = some .local) (n1 : (f == ("__debug__" : Str)) = false) (n2 : (f == ("__classdict__" : Str)) = false) :
    FnG P w K mg base CX0 1 fI fd ["self", f] (spI1 f C) := by
  refine fnG F S (fun vs H Q E h => ?_) (fun cdv A' outer s H vs Q E gd hr h => ?_)
  · obtain ⟨a, v, rfl, _⟩ := h
    rfl
  · obtain ⟨a, v, rfl, ha, q⟩ := h
    refine ⟨_, PSs.nox (pss_one (ps_xst (pv 0 rfl (.inl l1)) (pv 1 rfl (.inl l2) n1 n2))), ?_⟩
    exact ⟨v, rfl, .ref a, rfl, a, C, rfl, T, A, .inl ⟨ha, fun dx hd ne => q dx hd ne⟩⟩
/-- self.f = f; self.g = g -/
theorem init2 {f g : Str} {q1 q2 q3 q4 r1 r2 r3 r4 : Pos} (F : FunD K "__init__" qual params [.Assign [.Attribute (.Name "self" q1) f q2] (.Name f q3) q4, .Assign [.Attribute (.Name "self" r1) g r2] (.Name g r3) r4] scope [] [] fI fd)
    (S : FnScope ["self", f, g] ["self", f, g] scope) (T : XC K C) (A : XF K C f) (B : XF K C g)
    (l1 : scope.names.lookup ("self" : Str) = some .local) (l2 : scope.names.lookup f = some .local) (l3 : scope.names.lookup g = some .local) (n1 : (f == ("__debug__" : Str)) = false) (n2 : (f == ("__classdict__" : Str)) = false)
    (n3 : (g == ("__debug__" : Str)) = false) (n4 : (g == ("__classdict__" : Str)) = false) :
    FnG P w K mg base CX0 1 fI fd ["self", f, g] (spI2 f g C) := by
  refine fnG F S (fun vs H Q E h => ?_) (fun cdv A' outer s H vs Q E gd hr h => ?_)
  · obtain ⟨a, v, w, rfl, _⟩ := h
    rfl
  · obtain ⟨a, v, w', rfl, ha, q⟩ := h
    refine ⟨_, PSs.nox (pss_cons (ps_xst (pv 0 rfl (.inl l1)) (pv 1 rfl (.inl l2) n1 n2)) (pss_one (ps_xst (pv 0 rfl (.inl l1)) (pv 2 rfl (.inl l3) n3 n4)))), ?_⟩
    refine ⟨v, rfl, .ref a, rfl, a, C, rfl, T, A, .inl ⟨ha, fun dx hd ne => ?_⟩⟩
    exact ⟨w', rfl, .ref a, rfl, a, C, rfl, T, B, .inr ⟨dx, _, upd_same, by rw [upd_ne ne]; exact upd_same, (by show 1 ≤ 900; decide), q dx hd ne⟩⟩
/-- pass -/
theorem init0 {q1 : Pos} (F : FunD K "__init__" qual params [.Pass q1] scope [] [] fI fd) (S : FnScope ["self"] ["self"] scope) : FnG P w K mg base CX0 1 fI fd ["self"] (spI0 C) := by
  refine fnG F S (fun vs H Q E h => ?_) (fun cdv A' outer s H vs Q E gd hr h => ?_)
  · obtain ⟨a, rfl, _⟩ := h
    rfl
  · obtain ⟨a, rfl, ha, q⟩ := h
    exact ⟨_, PSs.nox (pss_one ps_pass), q⟩
/-- how values by name are bound -/
theorem kbound {x : Str} {body : List Stmt} {ps : List Str} (F : FunD K x qual params body scope [] [] fI fd)
    (h : ∀ (kV doc pm : Value) (an : Option Addr) (cdv ct : Value) (us ws : List Value), us.length = 1 → ws.length = (ps.drop 1).length →
      bindArgs (PySem.W.fnOf x qual params body scope .none kV doc pm an cdv ct) ⟨us, (ps.drop 1).reverse.zip ws⟩ = pure (ps.zip (us ++ ws.reverse)))
    (us ws : List Value) (s : Shared) (h1 : us.length = 1) (h2 : ws.length = (ps.drop 1).length) : BindsTo s fd ⟨us, (ps.drop 1).reverse.zip ws⟩ (ps.zip (us ++ ws.reverse)) := by
  obtain ⟨oc, od, dV, kV, doc, pm, an, cdv, ct, osl, rfl, lk, hcd, hD, hK⟩ := F.ex
  rcases hD with ⟨_, rfl⟩ | ⟨e, _⟩
  · exact .of_eq (h kV doc pm an cdv ct us ws h1 h2)
  · exact absurd rfl e
end
end Lw
namespace Lw
open PySem PySem.Spec PyProof.Rows L2 Evl
/-! ### small data beside a pot -/
/-- data whose text is short -/
def Rok (d : PyData) : Prop := d.showable = true ∧ d.shown.length ≤ 2500 ∧ d.depth ≤ 10
/-- v is such data, whatever is drawn later -/
def Sm (P : Program) (w : World) (p : Addr) (H : Hp) (v : V) : Prop := ∃ d, Rok d ∧ ∀ H', Xp p H H' → Rw P w H' v d
section
variable {P : Program} {w : World} {p : Addr} {H H' : Hp} {σ : L2.St}
theorem Sm.on {v : V} (s : Sm P w p H v) (x : Xp p H H') : Sm P w p H' v := by
  obtain ⟨d, h, r⟩ := s
  exact ⟨d, h, fun H2 y => r H2 (x.trans y)⟩
theorem sm_int {i : Int} (h : i.natAbs.log2 < 1920) : Sm P w p H (.int i) := by
  refine ⟨.int i, ⟨by simpa [PyData.showable] using h, ?_, by simp [PyData.depth]⟩, fun H' _ => rw_int i⟩
  have := int_text_len_1921 h
  simp only [PyData.shown]
  exact Nat.le_trans this (by decide)
theorem log_of {i : Int} {k : Nat} (h : i.natAbs < 2 ^ k) (hk : k ≤ 1900) : i.natAbs.log2 < 1920 := by
  by_cases z : i.natAbs = 0
  · rw [z]
    decide
  · have := (Nat.log2_lt z).mpr h
    omega
theorem sm_small {i : Int} (h0 : -(2 ^ 120) < i) (h1 : i < 2 ^ 120) : Sm P w p H (.int i) := sm_int (log_of (k := 120) (by omega) (by decide))
theorem sm_bl (b : Bool) : Sm P w p H (.bl b) := by
  refine ⟨.bool b, ⟨rfl, ?_, by simp [PyData.depth]⟩, fun H' _ => rw_bl b⟩
  cases b
  · decide +kernel
  · decide +kernel
theorem sm_non : Sm P w p H .non := ⟨.none, ⟨rfl, by decide +kernel, by simp [PyData.depth]⟩, fun H' _ => rw_non⟩
theorem sm_str (x : Str) (h : (reprText x).length ≤ 2500) : Sm P w p H (.str x) := ⟨.str x, ⟨rfl, by simpa only [PyData.shown] using h, by simp [PyData.depth]⟩, fun H' _ => rw_str x⟩
theorem sm_obj {a : Addr} {o : HO} {d : PyData} (hr : Rok d) (n : a ≠ p) (e : H a = some o) (f : ∀ H', H' a = some o → Rw P w H' (.ref a) d) : Sm P w p H (.ref a) := ⟨d, hr, fun H' x => f H' (x.1 a o n e)⟩
/-! expressions, argument lists that give small data -/
def SmE (P : Program) (w : World) (p : Addr) (σ : L2.St) (te : TE) : Prop := ∀ H, Po p H → ∀ Q : VK, (∀ v H', Xp p H H' → Sm P w p H' v → Q v H') → te σ H Q
def SmA (P : Program) (w : World) (p : Addr) (σ : L2.St) (n : Nat) (ta : TA) : Prop := ∀ H, Po p H → ∀ Q : List V → Hp → Prop, (∀ vs H', Xp p H H' → vs.length = n → (∀ v ∈ vs, Sm P w p H' v) → Q vs H') → ta σ H Q
theorem sa_nil : SmA P w p σ 0 tNil := fun H hp Q q => q [] H (.refl hp) rfl (fun _ z => nomatch z)
theorem sa_cons {n : Nat} {te : TE} {ta : TA} (h : SmE P w p σ te) (hr : SmA P w p σ n ta) : SmA P w p σ (n + 1) (tCons te ta) := fun H hp Q q =>
  h H hp _ fun v H1 x1 s1 => hr H1 x1.2 _ fun vs H2 x2 hl hs => q _ H2 (x1.trans x2) (by rw [List.length_cons, hl]) fun u hu => by
    rcases List.mem_cons.mp hu with rfl | hu
    · exact s1.on x2
    · exact hs u hu
theorem se_c {v : V} (h : ∀ H, Sm P w p H v) : SmE P w p σ (tC v) := fun H hp Q q => q v H (.refl hp) (h H)
/-- a display of constants -/
def CA (ta : TA) (vs : List V) : Prop := ∀ (σ : L2.St) (H : Hp) (Q : List V → Hp → Prop), Q vs H → ta σ H Q
theorem ca_nil : CA tNil [] := fun _ _ _ q => q
theorem ca_cons {v : V} {ta : TA} {vs : List V} (h : CA ta vs) : CA (tCons (tC v) ta) (v :: vs) := fun σ H Q q => h σ H _ q
theorem se_tup {ta : TA} {vs : List V} {ds : List PyData} (h : CA ta vs) (hr : Rok (.tuple ds)) (hz : vs.length ≤ 100000) (hd : ∀ H, Paired (Rw P w H) vs ds) (nd : PyData.hasDictAll ds = false) : SmE P w p σ (tTup ta) := fun H hp Q q =>
  h σ H _ ⟨sz_of hz, fun t ht => q _ _ (Xp.new hp ht) (sm_obj hr (by
    obtain ⟨o, e⟩ := hp.some
    exact (ne_of_none e ht).symm) upd_same fun H' e => rw_tup e (hd H') nd)⟩
theorem se_lst {ta : TA} {vs : List V} {ds : List PyData} (h : CA ta vs) (hr : Rok (.list ds)) (hz : vs.length ≤ 100000) (hd : ∀ H, Paired (Rw P w H) vs ds) (nd : PyData.hasDictAll ds = false) : SmE P w p σ (tLst ta) := fun H hp Q q =>
  h σ H _ ⟨sz_of hz, fun t ht => q _ _ (Xp.new hp ht) (sm_obj hr (by
    obtain ⟨o, e⟩ := hp.some
    exact (ne_of_none e ht).symm) upd_same fun H' e => rw_lst e (hd H') nd)⟩
end
section
variable {P : Program} {w : World} {p : Addr} {H H' : Hp} {σ : L2.St} {D : Ends} {tz : TS} {ta : TA} {i j n : Nat}
/-- a list of small data given to a name -/
theorem s_lstSm (h : SmA P w p σ n ta) (hp : Po p H) (hn : n ≤ 100000) (k : ∀ vs H1 l, Xp p H H1 → vs.length = n → (∀ v ∈ vs, Sm P w p H1 v) → H1 l = some (.lst vs) → l ≠ p → tz D (σ.set i (some (.ref l))) H1) : tSeq (tAsg (tLst ta) (gName i)) tz D σ H :=
  h H hp _ fun vs H1 x hl hs => ⟨sz_of (by omega), fun l nl => by
    have y := x.snew (o := .lst vs) nl
    refine k vs _ l y hl (fun v hv => (hs v hv).on (.new x.2 nl)) upd_same ?_
    obtain ⟨o, e⟩ := x.2.some
    exact (ne_of_none e nl).symm⟩
/-- .. one more list behind it -/
theorem s_catSm {l : Addr} {us : List V} {tj : TE} (hj : ∀ H (Q : VK), Q (.ref l) H → tj σ H Q) (e : H l = some (.lst us)) (hlp : l ≠ p) (hu : ∀ v ∈ us, Sm P w p H v) (h : SmA P w p σ n ta) (hp : Po p H) (hn : us.length + n ≤ 100000)
    (k : ∀ vs H1 l, Xp p H H1 → vs.length = us.length + n → (∀ v ∈ vs, Sm P w p H1 v) → H1 l = some (.lst vs) → l ≠ p → tz D (σ.set i (some (.ref l))) H1) : tSeq (tAsg (tOp rCat tj (tLst ta)) (gName i)) tz D σ H := by
  refine hj H _ (h H hp _ fun vs H1 x hl hs => ⟨sz_of (by omega), fun l2 n2 => ?_⟩)
  have e1 : (upd H1 l2 (.lst vs)) l = some (.lst us) := by
    rw [upd_ne (ne_of_none (x.1 l _ hlp e) n2)]
    exact x.1 l _ hlp e
  refine ⟨l, l2, us, vs, rfl, rfl, e1, upd_same, sz_of (by omega), fun l3 n3 => ?_⟩
  have y := x.snew (o := .lst vs) n2
  have y3 := y.snew (o := .lst (us ++ vs)) n3
  refine k _ _ l3 y3 (by rw [List.length_append, hl]) (fun v hv => ?_) upd_same ?_
  · rcases List.mem_append.mp hv with hv | hv
    · exact (hu v hv).on y3
    · exact ((hs v hv).on (.new x.2 n2)).on (.new y.2 n3)
  · obtain ⟨o, eo⟩ := y.2.some
    exact (ne_of_none eo n3).symm
end
/-- the texts of small lists -/
theorem lst_rok {ds : List PyData} (h : ∀ d ∈ ds, Rok d) (hn : ds.length ≤ 1000) : PyData.showableAll ds = true ∧ (listText (PyData.shownAll ds)).length ≤ sizeLine ∧ PyData.depthAll ds ≤ 40 := by
  have key : ∀ ds : List PyData, (∀ d ∈ ds, Rok d) → PyData.showableAll ds = true ∧ ((PyData.shownAll ds).map (·.length)).sum ≤ 2500 * ds.length ∧ (PyData.shownAll ds).length = ds.length ∧ PyData.depthAll ds ≤ 10 := by
    intro ds
    induction ds with
    | nil => intro _; exact ⟨rfl, by simp [PyData.shownAll], by simp [PyData.shownAll], by simp [PyData.depthAll]⟩
    | cons d ds ih =>
      intro h
      obtain ⟨a, b, c, e⟩ := ih fun x hx => h x (List.mem_cons_of_mem _ hx)
      obtain ⟨h1, h2, h3⟩ := h d (List.mem_cons_self ..)
      refine ⟨by simp [PyData.showableAll, h1, a], ?_, by simp [PyData.shownAll, c], by simp only [PyData.depthAll]; omega⟩
      simp only [PyData.shownAll, List.map_cons, List.sum_cons, List.length_cons]
      omega
  obtain ⟨a, b, c, e⟩ := key ds h
  refine ⟨a, ?_, by omega⟩
  have := listText_len_le (PyData.shownAll ds)
  rw [sizeLine_eq]
  omega
end Lw
namespace Lw
open PySem PySem.Spec PyProof.Rows L2 Evl
/-! ### repr of any small value, of a list of such -/
def rReprV (P : Program) (w : World) : List V → Hp → VK → Prop := fun xs H Q => ∃ (v : V) (d : PyData), xs = [v] ∧ Rw P w H v d ∧ Rok d ∧ Q (.str d.shown) H
def rRepr (P : Program) (w : World) : List V → Hp → VK → Prop := fun xs H Q => rReprL P w xs H Q ∨ rReprV P w xs H Q
theorem call_reprV {X : Cx} (gd : X.A.guards = some []) (hu : X.A.units + 64 < cLine) : CallR X (.builtin "repr") (rReprV X.prog X.w) := by
  intro pins s σ H xs us Q I r h
  obtain ⟨v, d, rfl, hr, ⟨h1, h2, h3⟩, q⟩ := h
  cases r with
  | cons rx rr =>
    cases rr
    rename_i u
    have hz : d.shown.length ≤ sizeLine := by rw [sizeLine_eq]; omega
    obtain ⟨as, rd, hm⟩ := hr s.heap I.hok u rx
    have fin : ∀ h' t tk, (∀ b o, s.heap.get? b = some o → h'.get? b = some o) → EP X pins σ Q (.str d.shown t) { s with heap := h', toks := tk } :=
      fun h' t tk k => ⟨.str d.shown, H, I.kept k, ⟨t, rfl⟩, q⟩
    cases u with
    | ref a => exact repr_of_reads' rd h1 hm gd (by omega) (fun _ _ z => z) (fun h' t tk k => fin h' t tk k) hz
    | none =>
      cases rd
      simp only [PyData.shown] at fin
      exact PySem.P.repr_of_none (fin _ _ _ fun _ _ z => z)
    | bool b =>
      cases rd
      simp only [PyData.shown] at fin
      refine PySem.P.repr_of_bool ?_
      cases b
      · exact fin _ _ _ fun _ _ z => z
      · exact fin _ _ _ fun _ _ z => z
    | int i t =>
      cases rd
      simp only [PyData.shown] at fin
      exact PySem.P.repr_of_int (by simpa [PyData.showable] using h1) (fin _ _ _ fun _ _ z => z)
    | str x t =>
      cases rd
      simp only [PyData.shown] at fin hz
      exact PySem.P.repr_of_str (fin _ _ _ fun _ _ z => z) hz
    | _ => cases rd
theorem call_repr {X : Cx} (gd : X.A.guards = some []) (hu : X.A.units + 64 < cLine) : CallR X (.builtin "repr") (rRepr X.prog X.w) := by
  intro pins s σ H xs us Q I r h
  rcases h with h | h
  · exact call_reprL gd hu pins s σ H xs us Q I r h
  · exact call_reprV gd hu pins s σ H xs us Q I r h
section
variable {P : Program} {w : World} {K : PySem.W.Frag} {σ : L2.St} {H : Hp} {te : TE} {xs : List V} {ds : List PyData}
theorem ev_reprL (h : EvL te σ H xs) (hd : ∀ H1, Ex H H1 → Paired (Rw P w H1) xs ds) (hr : ∀ d ∈ ds, Rok d) (hn : ds.length ≤ 1000) : Ev (tCB (rRepr P w) (tCons te tNil)) σ H (.str (listText (PyData.shownAll ds))) := fun H1 e Q q =>
  h H1 e _ fun p H2 hp e2 hl => by
    obtain ⟨a, b, c⟩ := lst_rok hr hn
    exact .inl ⟨p, xs, ds, rfl, hl, hd H2 (e.trans e2), a, b, c, q H2 e2⟩
theorem ev_reprV {v : V} {d : PyData} (h : Ev te σ H v) (hd : ∀ H1, Ex H H1 → Rw P w H1 v d) (hr : Rok d) : Ev (tCB (rRepr P w) (tCons te tNil)) σ H (.str d.shown) := fun H1 e Q q =>
  h H1 e _ fun H2 e2 => .inr ⟨v, d, rfl, hd H2 (e.trans e2), hr, q H2 e2⟩
end
/-! ### lists of truths -/
theorem dpa_bools {K : PySem.W.Frag} {H : Hp} : ∀ bs : List Bool, DpAll K H (bs.map V.bl) (bs.map PyData.bool)
  | [] => .nil
  | b :: bs => .cons (.bl b) (dpa_bools bs)
theorem dp_bools {K : PySem.W.Frag} {H : Hp} {p : Addr} {bs : List Bool} (h : H p = some (.lst (bs.map V.bl))) : Dp K H (.ref p) (.list (bs.map PyData.bool)) := .lst (SqL.of h) (dpa_bools bs)
theorem lay_bools : ∀ bs : List Bool, PyData.canLayAll0 (bs.map PyData.bool) = true ∧ PyData.depthAll (bs.map PyData.bool) = 0
  | [] => ⟨rfl, rfl⟩
  | b :: bs => by
    obtain ⟨h1, h2⟩ := lay_bools bs
    exact ⟨by simp [PyData.canLayAll0, PyData.canLay0, h1], by simp [PyData.depthAll, PyData.depth, h2]⟩
theorem shaped_bools (bs : List Bool) : SeqAt.shaped (.list (bs.map PyData.bool)) = true := by
  obtain ⟨h1, h2⟩ := lay_bools bs
  simp [SeqAt.shaped, PyData.canLay0, PyData.depth, h1, h2]
theorem eqv_bools (bs : List Bool) : PyData.eqv (.list (bs.map PyData.bool)) (.list (bs.map PyData.bool)) = true := by
  obtain ⟨h1, _⟩ := lay_bools bs
  exact SeqAt.eqv_refl _ (by simp [PyData.canLay0, h1])
section
variable {K : PySem.W.Frag} {σ : L2.St} {H : Hp} {ta tb : TE}
/-- two new lists of the same truths are not unlike -/
theorem ev_sameB {bs : List Bool} {xs ys : List V} (ha : EvL ta σ H xs) (hb : EvL tb σ H ys) (hx : xs = bs.map V.bl) (hy : ys = bs.map V.bl) : Ev (tOp (rNeD K) ta tb) σ H (.bl false) := by
  subst hx hy
  have z := ev_neD (K := K) ha hb (d := .list (bs.map PyData.bool)) (e := .list (bs.map PyData.bool)) (fun H1 p _ h => dp_bools h) (fun H1 p _ h => dp_bools h) (shaped_bools bs) (shaped_bools bs)
  rw [eqv_bools bs] at z
  exact z
theorem given_all (n : Nat) (v : Nat → V) : given n (fun _ => true) v = (List.range n).map v := by
  unfold given
  rw [List.filter_eq_self.mpr (fun _ _ => rfl)]
theorem et_yes : EvT tYes σ H true := fun H1 e Q q => q H1 (Ex.refl H1)
end
/-- parts of a list -/
theorem cut_to (xs : List V) (n : Nat) (h : n ≤ xs.length) : cutV xs none (some (n : Int)) = xs.take n := by
  unfold cutV
  rw [show HT.sIx xs.length xs.length (some (n : Int)) = min n xs.length from HT.sIx_nat _ _ n, HT.sIx_none]
  rw [Nat.min_eq_left h, List.drop_zero, Nat.sub_zero]
theorem cut_mid (xs : List V) (m n : Nat) (h : n ≤ xs.length) (hm : m ≤ n) : cutV xs (some (m : Int)) (some (n : Int)) = (xs.drop m).take (n - m) := by
  unfold cutV
  rw [show HT.sIx xs.length xs.length (some (n : Int)) = min n xs.length from HT.sIx_nat _ _ n, show HT.sIx xs.length 0 (some (m : Int)) = min m xs.length from HT.sIx_nat _ _ m]
  rw [Nat.min_eq_left h, Nat.min_eq_left (Nat.le_trans hm h)]
/-! ### the rules whose readings name what the top has written, K said -/
section
variable {X : Cx} {K : PySem.W.Frag}
theorem op_inK (h : X.K = K := by rfl) : OpR X (compareOp .In) (rIn K false) := h ▸ op_in_seq
theorem op_notInK (h : X.K = K := by rfl) : OpR X (compareOp .NotIn) (rIn K true) := h ▸ op_notIn_seq
theorem ix_listK (h : X.K = K := by rfl) : IxR X (rIxL K) := h ▸ ix_list
theorem ix_tupK (h : X.K = K := by rfl) : IxR X (rIxT K) := h ▸ ix_tup
theorem sl_listK (h : X.K = K := by rfl) : SlR X (rSlL K) := h ▸ sl_list
theorem op_neDK (hu : X.A.units + 64 < cLine) (h : X.K = K := by rfl) : OpR X (compareOp .NotEq) (rNeD K) := h ▸ op_neD hu
theorem op_eqDK (hu : X.A.units + 64 < cLine) (h : X.K = K := by rfl) : OpR X (compareOp .Eq) (rEqD K) := h ▸ op_eqD hu
theorem call_isXK (h : X.K = K := by rfl) : CallR X (.builtin "isinstance") (rIsX K) := h ▸ call_isX
theorem cr_allK (hc : X.calm = true := by rfl) (h : X.K = K := by rfl) : CallR X (.builtin "all") (rAll K) := h ▸ cr_all hc
theorem call_lenK (h : X.K = K := by rfl) : CallR X (.builtin "len") (rLenS K) := by
  subst h
  exact call_len_seq
theorem call_reprK {P : Program} {w : World} (gd : X.A.guards = some []) (hu : X.A.units + 64 < cLine) (h : X.prog = P := by rfl) (h2 : X.w = w := by rfl) : CallR X (.builtin "repr") (rRepr P w) := by
  subst h h2
  exact call_repr gd hu
theorem pe_xatK {e : Expr} {te : TE} {f : Str} {pos : Pos} (he : PE X e te) (h : X.K = K := by rfl) (hb : attributeBase e f X.env (eval e X.env) = eval e X.env := by rfl) : PE X (.Attribute e f pos) (tXat K f te) := h ▸ pe_xat he hb
theorem pi_listK {tg e : Expr} {te : TE} (he : PE X e te) (h : X.K = K := by rfl) : PI X tg e (iList K te) := by
  subst h
  exact pi_list he
end
end Lw
namespace Lw
open PySem PySem.Spec PyProof.Rows L2 Evl TL
/-! ### letters -/
/-- the sign's place in the alphabet -/
def abc : List Nat := (List.range 26).map (97 + ·)
def sgn (c : Nat) : Str := ⟨#[c]⟩
/-- a letter: one to eight signs of the alphabet -/
def isL (s : Str) : Bool := (1 ≤ s.cps.toList.length && s.cps.toList.length ≤ 8) && s.cps.toList.all fun c => 97 ≤ c && c ≤ 122
theorem isL_iff {s : Str} : isL s = true ↔ (1 ≤ s.cps.toList.length ∧ s.cps.toList.length ≤ 8) ∧ ∀ c ∈ s.cps.toList, 97 ≤ c ∧ c ≤ 122 := by
  unfold isL
  rw [Bool.and_eq_true, Bool.and_eq_true, decide_eq_true_iff, decide_eq_true_iff, List.all_eq_true]
  exact ⟨fun ⟨a, b⟩ => ⟨a, fun c hc => by
    obtain ⟨x, y⟩ := Bool.and_eq_true_iff.mp (b c hc)
    exact ⟨of_decide_eq_true x, of_decide_eq_true y⟩⟩, fun ⟨a, b⟩ => ⟨a, fun c hc => Bool.and_eq_true_iff.mpr ⟨decide_eq_true (b c hc).1, decide_eq_true (b c hc).2⟩⟩⟩
theorem tl_sgn (c : Nat) : (sgn c).cps.toList = [c] := rfl
theorem sgn_inj {c d : Nat} (h : sgn c = sgn d) : c = d := by
  have e : (sgn c).cps.toList = (sgn d).cps.toList := by rw [h]
  rw [tl_sgn, tl_sgn] at e
  injection e
theorem isL_sgn {c : Nat} (h : 97 ≤ c) (h2 : c ≤ 122) : isL (sgn c) = true := isL_iff.mpr ⟨by rw [tl_sgn]; exact ⟨Nat.le_refl 1, (by decide : 1 ≤ 8)⟩, fun d hd => by
  rw [tl_sgn] at hd
  cases List.mem_singleton.mp hd
  exact ⟨h, h2⟩⟩
theorem len_cps (s : Str) : s.length = s.cps.toList.length := by simp [Str.length]
theorem isL_len {s : Str} (h : isL s = true) : 1 ≤ s.length ∧ s.length ≤ 8 := by
  rw [len_cps]
  exact (isL_iff.mp h).1
theorem tl_app (x y : Str) : (x ++ y).cps.toList = x.cps.toList ++ y.cps.toList := tl_append x y
theorem isL_app {s : Str} {c : Nat} (h : isL s = true) (hl : s.length < 8) (h1 : 97 ≤ c) (h2 : c ≤ 122) : isL (s ++ sgn c) = true := by
  obtain ⟨⟨a, b⟩, d⟩ := isL_iff.mp h
  rw [len_cps] at hl
  refine isL_iff.mpr ⟨?_, fun e he => ?_⟩
  · rw [tl_app, List.length_append, tl_sgn]
    exact ⟨by omega, by show s.cps.toList.length + 1 ≤ 8; omega⟩
  · rw [tl_app, tl_sgn] at he
    rcases List.mem_append.mp he with z | z
    · exact d e z
    · cases List.mem_singleton.mp z
      exact ⟨h1, h2⟩
/-- signs put together -/
theorem isL_join {cs : List Nat} (h : ∀ c ∈ cs, 97 ≤ c ∧ c ≤ 122) (h1 : 1 ≤ cs.length) (h8 : cs.length ≤ 8) : isL (Str.join (Str.ofString "") (cs.map sgn)) = true := by
  have e : ∀ cs : List Nat, joinL [] ((cs.map sgn).map tl) = cs := fun cs => by
    induction cs with
    | nil => rfl
    | cons c r ih =>
      cases r with
      | nil => rfl
      | cons d r =>
        show [c] ++ ([] ++ joinL [] (([d] : List Nat) :: (r.map sgn).map tl)) = _
        have ih2 : joinL [] (([d] : List Nat) :: (r.map sgn).map tl) = d :: r := ih
        rw [ih2]
        rfl
  have z : tl (Str.join (Str.ofString "") (cs.map sgn)) = cs := by
    rw [tl_join, show tl (Str.ofString "") = [] from rfl, e]
  refine isL_iff.mpr ⟨?_, fun c hc => ?_⟩
  · rw [show (Str.join (Str.ofString "") (cs.map sgn)).cps.toList = cs from z]
    exact ⟨h1, h8⟩
  · rw [show (Str.join (Str.ofString "") (cs.map sgn)).cps.toList = cs from z] at hc
    exact h c hc
/-! ### a list without repeats within another is no longer -/
theorem nodup_le {α : Type} [DecidableEq α] : ∀ {l m : List α}, l.Nodup → (∀ x ∈ l, x ∈ m) → l.length ≤ m.length
  | [], _, _, _ => Nat.zero_le _
  | x :: l, m, h, hs => by
    obtain ⟨hx, hl⟩ := List.nodup_cons.mp h
    have mx : x ∈ m := hs x List.mem_cons_self
    have z := nodup_le (m := m.erase x) hl fun y hy => (List.mem_erase_of_ne (fun e => hx (by rw [← e]; exact hy))).mpr (hs y (List.mem_cons_of_mem _ hy))
    rw [List.length_erase_of_mem mx] at z
    have : 0 < m.length := List.length_pos_of_mem mx
    show l.length + 1 ≤ m.length
    omega
theorem inV_str {x : Str} {xs : List Str} : inV (.str x) (xs.map V.str) = decide (x ∈ xs) := by
  unfold inV
  induction xs with
  | nil => rfl
  | cons y r ih =>
    rw [List.map_cons, List.any_cons, ih]
    by_cases h : y = x
    · subst h
      simp [eqV]
    · simp [eqV, h, Ne.symm h]
theorem flat_str (xs : List Str) : (xs.map V.str).all flatV = true := by
  rw [List.all_map]
  exact List.all_eq_true.mpr fun _ _ => rfl
theorem dpa_str {K : PySem.W.Frag} {H : Hp} : ∀ xs : List Str, DpAll K H (xs.map V.str) (xs.map PyData.str)
  | [] => .nil
  | x :: xs => .cons (.str x) (dpa_str xs)
end Lw
namespace Lw
open PySem PySem.Spec PyProof.Rows L2 Evl TL
theorem strOk_of {s : Str} (h : isL s = true) : PyData.strOk s = true := by
  obtain ⟨_, d⟩ := isL_iff.mp h
  show s.cps.all (· < 0x110000) = true
  rw [← Array.all_toList]
  exact List.all_eq_true.mpr fun c hc => decide_eq_true (by have := d c hc; omega)
theorem lay_strs : ∀ {xs : List Str}, (∀ x ∈ xs, PyData.strOk x = true) → PyData.canLayAll0 (xs.map PyData.str) = true ∧ PyData.depthAll (xs.map PyData.str) = 0
  | [], _ => ⟨rfl, rfl⟩
  | x :: xs, h => by
    obtain ⟨h1, h2⟩ := lay_strs fun y hy => h y (List.mem_cons_of_mem _ hy)
    exact ⟨by simp [PyData.canLayAll0, PyData.canLay0, h1, h x List.mem_cons_self], by simp [PyData.depthAll, PyData.depth, h2]⟩
theorem shaped_strs {xs : List Str} (h : ∀ x ∈ xs, PyData.strOk x = true) : SeqAt.shaped (.list (xs.map PyData.str)) = true := by
  obtain ⟨h1, h2⟩ := lay_strs h
  simp [SeqAt.shaped, PyData.canLay0, PyData.depth, h1, h2]
theorem shaped_strsT {xs : List Str} (h : ∀ x ∈ xs, PyData.strOk x = true) : SeqAt.shaped (.tuple (xs.map PyData.str)) = true := by
  obtain ⟨h1, h2⟩ := lay_strs h
  simp [SeqAt.shaped, PyData.canLay0, PyData.depth, h1, h2]
theorem tt_if {b : Bool} {p q : Prop} (h1 : b = true → p) (h2 : b = false → q) : if b = true then p else q := by
  cases b
  · exact h2 rfl
  · exact h1 rfl
end Lw
namespace Lw
open PySem PySem.Spec PyProof.Rows L2 Evl TL
section
variable {X : Cx} {K : PySem.W.Frag}
def rJoin (K : PySem.W.Frag) : V → List V → Hp → VK → Prop := fun x xs H Q => ∃ a p, ∃ ys : List Str, x = .str a ∧ xs = [.ref p] ∧ (SqL K H p (ys.map V.str) ∨ SqT K H p (ys.map V.str)) ∧ (ys.map (·.length)).sum + ys.length * a.length ≤ 16777216 ∧ Q (.str (Txt.join a ys)) H
theorem pe_joinK {o e : Expr} {to te : TE} {apos pos : Pos} (ho : PE X o to) (he : PE X e te) (h : X.K = K := by rfl) (hs : starEach [e] X.env = [(false, eval e X.env)] := by rfl) (hbase : attributeBase o "join" X.env (eval o X.env) = eval o X.env := by rfl) (hline : (apos.endLine == pos.line) = true := by rfl) :
    PE X (.Call (.Attribute o "join" apos) [e] [] pos) (tM1 (rJoin K) to te) := by
  subst h
  exact pe_join ho he hs hbase hline
end
end Lw
namespace Lw
open PySem PySem.Spec PyProof.Rows L2 Evl TL
theorem Xp.back {p D : Addr} {H H1 : Hp} (x : Xp p H H1) (hD : H1 D = none) : H D = none := by
  have ne : D ≠ p := fun e => by
    obtain ⟨o, ho⟩ := x.2.some
    rw [e, ho] at hD
    cases hD
  cases e : H D with
  | none => rfl
  | some o =>
    rw [x.1 _ _ ne e] at hD
    cases hD
theorem Xp.own {p D : Addr} {H H3 : Hp} {o : HO} (x : Xp p H H3) (hD : H D = none) (ne : D ≠ p) : Xp p H (upd H3 D o) := by
  refine ⟨fun a u na ea => ?_, ?_⟩
  · rw [upd_ne (ne_of_none ea hD)]
    exact x.1 a u na ea
  · obtain ⟨i, j, e, r⟩ := x.2
    exact ⟨i, j, by rw [upd_ne ne.symm]; exact e, r⟩
theorem sum_sgn : ∀ cs : List Nat, ((cs.map sgn).map (·.length)).sum = cs.length
  | [] => rfl
  | c :: cs => by
    rw [List.map_cons, List.map_cons, List.sum_cons, sum_sgn cs, List.length_cons, show (sgn c).length = 1 from rfl]
    omega
theorem tand_raw {t u : TT} {σ : L2.St} {H : Hp} {Q : Bool → Hp → Prop} (h : t σ H fun b H1 => if b = true then u σ H1 Q else Q false H1) : tAnd t u σ H Q := h
end Lw
namespace Lw
open PySem PySem.Spec PyProof.Rows L2 Evl TL
theorem atI_end {xs : List Str} (h : xs ≠ []) : ∃ s, s ∈ xs ∧ atI (xs.map V.str) (-1) = some (.str s) := by
  refine ⟨xs.getLast h, List.getLast_mem h, ?_⟩
  have e : xs = xs.dropLast ++ [xs.getLast h] := (List.dropLast_concat_getLast h).symm
  have z := L2.atI_last (xs.dropLast.map V.str) (V.str (xs.getLast h))
  have e2 : xs.map V.str = xs.dropLast.map V.str ++ [V.str (xs.getLast h)] := by
    conv => lhs; rw [e]
    rw [List.map_append]
    rfl
  rw [e2]
  exact z
end Lw
namespace Lw
open PySem PySem.Spec PyProof.Rows L2 Evl TL
/-- the first n letters of one sign -/
def firsts (n : Nat) : List Str := (List.range n).map fun j => sgn (97 + j)
theorem firsts_succ (n : Nat) : firsts (n + 1) = firsts n ++ [sgn (97 + n)] := by
  unfold firsts
  rw [List.range_succ, List.map_append]
  rfl
theorem firsts_len (n : Nat) : (firsts n).length = n := by
  unfold firsts
  rw [List.length_map, List.length_range]
theorem firsts_nodup (n : Nat) : (firsts n).Nodup := by
  unfold firsts
  have z : (List.range n).Pairwise (fun a b => a ≠ b) := List.nodup_range
  refine List.pairwise_map.mpr (z.imp fun {a b} h (e : sgn (97 + a) = sgn (97 + b)) => h ?_)
  have := sgn_inj e
  omega
theorem firsts_isL {n : Nat} (h : n ≤ 26) {s : Str} (hs : s ∈ firsts n) : isL s = true := by
  obtain ⟨j, hj, rfl⟩ := List.mem_map.mp hs
  have := List.mem_range.mp hj
  exact isL_sgn (by omega) (by omega)
end Lw
namespace Lw
open PySem PySem.Spec PyProof.Rows L2 Evl TL
section
variable {X : Cx} {K : PySem.W.Frag}
theorem call_isiK1 (h : X.K = K := by rfl) : CallR X (.builtin "isinstance") (rIsi K) := h ▸ call_isi
theorem pi_tupK {tg e : Expr} {te : TE} (he : PE X e te) (h : X.K = K := by rfl) : PI X tg e (iTup K te) := by
  subst h
  exact pi_tup he
theorem ix_tupK2 (h : X.K = K := by rfl) : IxR X (rIxT K) := h ▸ ix_tup
end
/-- what a value tells when it is asked whether it is a letter -/
inductive LB (K : PySem.W.Frag) (H : Hp) : V → Bool → Prop
  | str (s : Str) (h : s.length ≤ 100000) : LB K H (.str s) (isL s)
  | oth {v : V} {t : String} (h : TyX K H v (.type t)) (hn : kitB t "str" = some false) : LB K H v false
theorem kitB_str : kitB "str" "str" = some true := rfl
theorem isL_app0 (s : Str) : isL s = ((decide (1 ≤ s.length) && decide (s.length ≤ 8)) && s.cps.toList.all fun c => decide (97 ≤ c) && decide (c ≤ 122)) := by
  unfold isL
  rw [len_cps]
end Lw
namespace Lw
open PySem PySem.Spec PyProof.Rows L2 Evl TL
section
variable {K : PySem.W.Frag} {σ : L2.St} {H : Hp} {te tz : TE}
/-- over the signs of a text -/
theorem el_lcS {z : Str} {j : Nat} {vs : List Nat} (v : Nat → V) (h : Ev tz σ H (.str z)) (hz : z.cps.size ≤ 40000) (hw : ∀ x, wipe ((wipe σ vs).set j (some x)) vs = wipe σ vs)
    (he : ∀ (i c : Nat) H1, Ex H H1 → z.cps[i]? = some c → Ev te ((wipe σ vs).set j (some (.str ⟨#[c]⟩))) H1 (v i)) :
    EvL (tLc (iStr tz) (gName j) tYes te vs) σ H ((List.range z.cps.size).map v) := fun H0 e Q q => h H0 e _ fun H1 e1 => ⟨z, rfl, fun Dl hD =>
  lc_it walk_str (Cw H1 (fun _ => true) v Dl) ⟨hD, Ex.new hD, upd_same⟩ (fun _ _ _ _ => trivial) (fun i x H' H'' hi p y => by
    obtain ⟨rfl, c, hc, rfl⟩ := y
    exact ⟨hw _, cw_turn p (by omega) et_yes (fun _ => he i c H1 (e.trans e1) hc)⟩) (fun H' p => q Dl H' (fresh_back e1 p.1) (e1.trans p.2.1) (by rw [← given_all]; exact p.2.2))⟩
/-- over a tuple -/
theorem el_lcT {a : Addr} {xs : List V} {j : Nat} {vs : List Nat} (v : Nat → V) (h : Ev tz σ H (.ref a)) (hx : SqT K H a xs) (hz : xs.length ≤ 40000) (hw : ∀ x, wipe ((wipe σ vs).set j (some x)) vs = wipe σ vs)
    (he : ∀ (i : Nat) (x : V) H1, Ex H H1 → xs[i]? = some x → Ev te ((wipe σ vs).set j (some x)) H1 (v i)) :
    EvL (tLc (iTup K tz) (gName j) tYes te vs) σ H ((List.range xs.length).map v) := fun H0 e Q q => h H0 e _ fun H1 e1 => ⟨a, rfl, ⟨xs, ex_t (e.trans e1) hx⟩, fun Dl hD =>
  lc_it walk_tup (Cw H1 (fun _ => true) v Dl) ⟨hD, Ex.new hD, upd_same⟩ (fun i H' _ p => ex_t ((e.trans e1).trans p.2.1) hx) (fun i x H' H'' hi p y => by
    obtain ⟨rfl, hy⟩ := y
    exact ⟨hw _, cw_turn p (by omega) et_yes (fun _ => he i x H1 (e.trans e1) hy)⟩) (fun H' p => q Dl H' (fresh_back e1 p.1) (e1.trans p.2.1) (by rw [← given_all]; exact p.2.2))⟩
theorem ev_all {bs : List Bool} {xs : List V} (h : EvL te σ H xs) (hx : xs = bs.map V.bl) : Ev (tCB (rAll K) (tCons te tNil)) σ H (.bl (bs.all id)) := fun H1 e Q q => h H1 e _ fun p H2 _ e2 hl => ⟨p, bs, rfl, SqL.of (by rw [← hx]; exact hl), q H2 e2⟩
theorem ev_isi {v : V} {t cls : String} {b : Bool} (h : Ev te σ H v) (ht : ∀ H1, Ex H H1 → TyX K H1 v (.type t)) (hk : kitB t cls = some b) : Ev (tCB (rIsi K) (tCons te (tCons (tC (.ty cls)) tNil))) σ H (.bl b) := fun H1 e Q q =>
  h H1 e _ fun H2 e2 => ⟨v, .ty cls, .type t, .type cls, b, rfl, .ty cls, ht H2 (e.trans e2), hk, q H2 e2⟩
def rLenStr : List V → Hp → VK → Prop := fun xs H Q => ∃ z, xs = [.str z] ∧ z.length ≤ sizeLine ∧ Q (.int z.length) H
theorem ev_lenS {z : Str} (h : Ev te σ H (.str z)) (hz : z.length ≤ 100000) : Ev (tCB (fun xs H Q => ∃ z, xs = [V.str z] ∧ z.length ≤ sizeLine ∧ Q (V.int z.length) H) (tCons te tNil)) σ H (.int (z.length : Int)) := fun H1 e Q q =>
  h H1 e _ fun H2 e2 => ⟨z, rfl, sz_of hz, q H2 e2⟩
theorem et_chainI {f g : Int → Int → Bool} {ta tb tc : TE} {i j k : Int} (ha : Ev ta σ H (.int i)) (hb : Ev tb σ H (.int j)) (hc : Ev tc σ H (.int k)) :
    EvT (tTest (tChain (rI0 fun i j => V.bl (f i j)) (rI0 fun i j => V.bl (g i j)) ta tb tc)) σ H (f i j && g j k) := fun H1 e Q q => ha H1 e _ fun H2 e2 => hb H2 (e.trans e2) _ fun H3 e3 => ⟨i, j, rfl, rfl, f i j, rfl, by
    revert q
    cases f i j with
    | true => exact fun q => hc H3 ((e.trans e2).trans e3) _ fun H4 e4 => ⟨j, k, rfl, rfl, g j k, rfl, q H4 ((e2.trans e3).trans e4)⟩
    | false => exact fun q => ⟨false, rfl, q H3 (e2.trans e3)⟩⟩
end
theorem tyx_mono {K : PySem.W.Frag} {H H1 : Hp} {v : V} {t : Value} (e : Ex H H1) (h : TyX K H v t) : TyX K H1 v t := by
  cases h with
  | base b =>
    refine .base ?_
    cases b with
    | non => exact .non
    | bl y => exact .bl y
    | int i => exact .int i
    | str y => exact .str y
    | flt y => exact .flt y
    | lst ea => exact .lst (e _ _ ea)
    | frz ea => exact .frz (e _ _ ea)
    | tup ea => exact .tup (e _ _ ea)
    | dK ea => exact .dK (e _ _ ea)
    | dT ea => exact .dT (e _ _ ea)
    | ins ea cl ha hn htk hm => exact .ins (e _ _ ea) cl ha hn htk hm
  | byt b => exact .byt b
  | set ea => exact .set (e _ _ ea)
  | kList ea c => exact .kList ea c
  | kTuple ea c => exact .kTuple ea c
  | kDict ea c => exact .kDict ea c
  | fTuple ea => exact .fTuple (e _ _ ea)
  | fDict ea => exact .fDict (e _ _ ea)
end Lw
namespace Lw
open PySem PySem.Spec PyProof.Rows L2 Evl TL
theorem range_get {α β : Type} (l : List α) (d : α) (g : α → β) : (List.range l.length).map (fun i => g (l.getD i d)) = l.map g := by
  refine List.ext_getElem (by simp) fun i h1 h2 => ?_
  rw [List.getElem_map, List.getElem_map, List.getElem_range]
  have hi : i < l.length := by simpa using h2
  congr 1
  rw [List.getD_eq_getElem?_getD, List.getElem?_eq_getElem hi]
  rfl
def rLeS : R2 := fun x y H Q => ∃ i j, x = .str i ∧ y = .str j ∧ Q (.bl (!decide (j.cps.toList < i.cps.toList))) H
def leS (a b : Str) : Bool := !decide (b.cps.toList < a.cps.toList)
theorem ev_chainS {σ : L2.St} {H : Hp} {ta tb tc : TE} {a b c : Str} (ha : Ev ta σ H (.str a)) (hb : Ev tb σ H (.str b)) (hc : Ev tc σ H (.str c)) :
    Ev (tChain (fun x y H Q => ∃ i j, x = V.str i ∧ y = V.str j ∧ Q (V.bl !decide (j.cps.toList < i.cps.toList)) H) (fun x y H Q => ∃ i j, x = V.str i ∧ y = V.str j ∧ Q (V.bl !decide (j.cps.toList < i.cps.toList)) H) ta tb tc) σ H (.bl (leS a b && leS b c)) := fun H1 e Q q => ha H1 e _ fun H2 e2 => hb H2 (e.trans e2) _ fun H3 e3 => ⟨a, b, rfl, rfl, leS a b, rfl, by
    revert q
    cases leS a b with
    | true => exact fun q => hc H3 ((e.trans e2).trans e3) _ fun H4 e4 => ⟨b, c, rfl, rfl, q H4 ((e2.trans e3).trans e4)⟩
    | false => exact fun q => q H3 (e2.trans e3)⟩
theorem lt_one (c d : Nat) : decide (([c] : List Nat) < [d]) = decide (c < d) := by
  refine decide_eq_decide.mpr ?_
  simp [List.cons_lt_cons_iff]
theorem leS_sgn (c d : Nat) : leS (sgn c) (sgn d) = decide (c ≤ d) := by
  unfold leS
  rw [tl_sgn, tl_sgn, lt_one]
  by_cases h : c ≤ d
  · rw [decide_eq_true h, decide_eq_false (by omega)]
    rfl
  · rw [decide_eq_false h, decide_eq_true (by omega)]
    rfl
end Lw
namespace Lw
open PySem PySem.Spec PyProof.Rows L2 Evl TL
section
variable {K : PySem.W.Frag} {σ : L2.St} {H : Hp} {te : TE}
theorem ev_lenT {p : Addr} {xs : List V} (ha : Ev te σ H (.ref p)) (h : SqT K H p xs) : Ev (tCB (rLenS K) (tCons te tNil)) σ H (.int (xs.length : Int)) := fun H1 e Q q =>
  ha H1 e _ fun H2 e2 => ⟨p, xs, rfl, .inr (ex_t (e.trans e2) h), q H2 e2⟩
end
/-- what a value tells when it is asked whether it is a word -/
inductive WB (K : PySem.W.Frag) (H : Hp) : V → Bool → Prop
  | tup {a : Addr} {vs : List V} {bs : List Bool} (h : SqT K H a vs) (ht : TyX K H (.ref a) (.type "tuple")) (hl : vs.length ≤ 40000) (hb : Paired (LB K H) vs bs) : WB K H (.ref a) (decide (vs.length ≤ 3) && bs.all id)
  | oth {v : V} {t : String} (h : TyX K H v (.type t)) (hn : kitB t "tuple" = some false) : WB K H v false
theorem lb_mono {K : PySem.W.Frag} {H H1 : Hp} {v : V} {b : Bool} (e : Ex H H1) (h : LB K H v b) : LB K H1 v b := by
  cases h with
  | str s hs => exact .str s hs
  | oth ht hn => exact .oth (tyx_mono e ht) hn
theorem paired_mono {α β : Type} {R S : α → β → Prop} (h : ∀ a b, R a b → S a b) : ∀ {xs : List α} {ys : List β}, Paired R xs ys → Paired S xs ys
  | _, _, .nil => .nil
  | _, _, .cons r t => .cons (h _ _ r) (paired_mono h t)
end Lw
namespace Lw
open PySem PySem.Spec PyProof.Rows L2 Evl TL
section
variable {X : Cx} {K : PySem.W.Frag}
/-- a statement that is not reached -/
def tDead : TS := fun _ _ _ => False
theorem ps_dead {st : Stmt} : PS X st tDead := ⟨fun _ _ _ _ _ _ h => h.elim⟩
theorem op_catAK (h : X.K = K := by rfl) : OpR X (binaryOp .Add) (rCatA K) := h ▸ op_catA
theorem sl_tupAK (h : X.K = K := by rfl) : SlR X (rSlA K) := h ▸ sl_tupA
theorem pt_truthK {a : Expr} {ta : TE} (ha : PE X a ta) (h : X.K = K := by rfl) (he : ∀ whole, isTrue a X.env whole = (do let v ← whole; standAt a.pos; holding [v] (truthy v)) := by intro _; rfl) :
    PT X a (fun σ H Q => ta σ H fun x H' => ∃ k, TruV K x H' k ∧ Q k H') := by
  subst h
  exact pt_truth ha he
end
theorem tyx_tup {K : PySem.W.Frag} {H : Hp} {a : Addr} {xs : List V} (h : SqT K H a xs) : TyX K H (.ref a) (.type "tuple") := by
  rcases h with (h | ⟨o, h⟩) | ⟨o, its, n, h, c, _⟩
  · exact .base (.tup h)
  · exact .fTuple h
  · exact .kTuple h c
/-- a tuple of texts -/
def Wd (_ : PySem.W.Frag) (H : Hp) (v : V) (ys : List Str) : Prop := ∃ a, v = .ref a ∧ H a = some (.tup (ys.map V.str))
/-- such a tuple that is a word -/
def isW (ys : List Str) : Bool := decide (ys.length ≤ 3) && ys.all isL
theorem isW_iff {ys : List Str} : isW ys = true ↔ ys.length ≤ 3 ∧ ∀ y ∈ ys, isL y = true := by
  unfold isW
  rw [Bool.and_eq_true, decide_eq_true_iff, List.all_eq_true]
theorem wd_mono {K : PySem.W.Frag} {H H1 : Hp} {v : V} {ys : List Str} (e : Ex H H1) (h : Wd K H v ys) : Wd K H1 v ys := by
  obtain ⟨a, rfl, h⟩ := h
  exact ⟨a, rfl, e _ _ h⟩
theorem sqt_xp {K : PySem.W.Frag} {p a : Addr} {H H1 : Hp} {xs : List V} (hp : Po p H) (x : Xp p H H1) (h : SqT K H a xs) : SqT K H1 a xs := by
  obtain ⟨i, j, e, _⟩ := hp
  rcases h with (h | ⟨o, h⟩) | h
  · refine .inl (.inl (x.1 _ _ (fun z => ?_) h))
    rw [z, e] at h
    cases h
  · refine .inl (.inr ⟨o, x.1 _ _ (fun z => ?_) h⟩)
    rw [z, e] at h
    cases h
  · exact .inr h
theorem wd_xp {K : PySem.W.Frag} {p : Addr} {H H1 : Hp} {v : V} {ys : List Str} (hp : Po p H) (x : Xp p H H1) (h : Wd K H v ys) : Wd K H1 v ys := by
  obtain ⟨a, rfl, h⟩ := h
  obtain ⟨i, j, e, _⟩ := hp
  exact ⟨a, rfl, x.1 _ _ (fun z => by rw [z, e] at h; cases h) h⟩
theorem isL_short {s : Str} (h : isL s = true) : s.length ≤ 100000 := Nat.le_trans (isL_len h).2 (by decide)
theorem lbs_of {K : PySem.W.Frag} {H : Hp} : ∀ {ys : List Str}, (∀ y ∈ ys, y.length ≤ 100000) → Paired (LB K H) (ys.map V.str) (ys.map isL)
  | [], _ => .nil
  | y :: ys, h => .cons (.str y (h y List.mem_cons_self)) (lbs_of fun z hz => h z (List.mem_cons_of_mem _ hz))
theorem wb_of {K : PySem.W.Frag} {H : Hp} {v : V} {ys : List Str} (h : Wd K H v ys) (hs : ∀ y ∈ ys, y.length ≤ 100000) (hl : ys.length ≤ 40000) : WB K H v (isW ys) := by
  obtain ⟨a, rfl, h⟩ := h
  have h := SqT.of (K := K) h
  have z := WB.tup h (tyx_tup h) (by rw [List.length_map]; exact hl) (lbs_of (H := H) hs)
  rw [List.length_map, List.all_map] at z
  exact z
theorem wb_word {K : PySem.W.Frag} {H : Hp} {v : V} {ys : List Str} (h : Wd K H v ys) (hw : isW ys = true) : WB K H v true := by
  obtain ⟨h3, hl⟩ := isW_iff.mp hw
  have z := wb_of h (fun y hy => isL_short (hl y hy)) (by omega)
  rw [hw] at z
  exact z
/-- an expression that gives such a tuple -/
def EvW (K : PySem.W.Frag) (te : TE) (σ : L2.St) (H : Hp) (ys : List Str) : Prop := ∀ H1, Ex H H1 → ∀ Q : VK, (∀ v H2, Ex H1 H2 → Wd K H2 v ys → Q v H2) → te σ H1 Q
section
variable {K : PySem.W.Frag} {σ : L2.St} {H : Hp} {te ta tb : TE} {xs ys : List Str}
theorem ew_of {v : V} (h : Ev te σ H v) (hw : Wd K H v ys) : EvW K te σ H ys := fun H1 e Q q => h H1 e _ fun H2 e2 => q v H2 e2 (wd_mono (e.trans e2) hw)
theorem ew_cat (ha : EvW K ta σ H xs) (hb : EvW K tb σ H ys) (hz : xs.length + ys.length ≤ 100000) : EvW K (tOp (rCatA K) ta tb) σ H (xs ++ ys) := fun H1 e Q q =>
  ha H1 e _ fun v H2 e2 ⟨a, ea, hx⟩ => hb H2 (e.trans e2) _ fun u H3 e3 ⟨b, eb, hy⟩ => by
    refine ⟨a, b, xs.map V.str, ys.map V.str, ea, eb, SqT.of (e3 _ _ hx), SqT.of hy, by rw [List.length_map, List.length_map]; exact sz_of hz, fun z => ?_, fun z1 z => ?_, fun z1 z2 p hp => ?_⟩
    · have : xs = [] := List.map_eq_nil_iff.mp z
      subst this
      exact q _ H3 (e2.trans e3) ⟨b, rfl, hy⟩
    · have : ys = [] := List.map_eq_nil_iff.mp z
      subst this
      rw [List.append_nil] at q
      exact q _ H3 (e2.trans e3) ⟨a, rfl, e3 _ _ hx⟩
    · exact q _ _ ((e2.trans e3).trans (Ex.new hp)) ⟨p, rfl, by rw [List.map_append]; exact upd_same⟩
/-- a beginning -/
theorem ew_to {n : Nat} {to th : TO} (ha : EvW K ta σ H xs) (h1 : EvO to σ H none) (h2 : EvO th σ H (some (n : Int))) (hn : n ≤ xs.length) : EvW K (tSl (rSlA K) ta to th) σ H (xs.take n) := fun H1 e Q q =>
  ha H1 e _ fun v H2 e2 ⟨a, ea, hx⟩ => h1 H2 (e.trans e2) _ fun H3 e3 => h2 H3 ((e.trans e2).trans e3) _ fun H4 e4 => by
    have hx4 := (e3.trans e4) _ _ hx
    have e14 := (e2.trans e3).trans e4
    refine ⟨a, xs.map V.str, ea, SqT.of hx4, fun z => ?_, fun z p hp => ?_⟩
    · have z2 : HT.sIx (xs.map V.str).length (xs.map V.str).length (some (n : Int)) = (xs.map V.str).length := z.2
      rw [HT.sIx_nat, List.length_map, Nat.min_eq_left hn] at z2
      rw [z2, List.take_length] at q
      exact q _ H4 e14 ⟨a, rfl, hx4⟩
    · refine q _ _ (e14.trans (Ex.new hp)) ⟨p, rfl, ?_⟩
      rw [← List.map_take.symm, ← cut_to (xs.map V.str) n (by rw [List.length_map]; exact hn)] 
      exact upd_same
end
end Lw
namespace Lw
open PySem PySem.Spec PyProof.Rows L2 Evl TL
section
variable {K : PySem.W.Frag} {σ : L2.St} {H : Hp} {te ta : TE} {ys : List Str} {tz : TS} {D : Ends}
theorem q_asgW {i : Nat} (h : EvW K te σ H ys) (k : ∀ v H1, Ex H H1 → Wd K H1 v ys → tz D (σ.set i (some v)) H1) : tSeq (tAsg te (gName i)) tz D σ H := h H (Ex.refl H) _ fun v H1 e hw => k v H1 e hw
theorem s_retW (h : EvW K te σ H ys) (k : ∀ v H1, Ex H H1 → Wd K H1 v ys → D.rt v H1) : tRet te D σ H := h H (Ex.refl H) _ fun v H1 e hw => k v H1 e hw
/-- a list of such tuples -/
def LW (K : PySem.W.Frag) (H : Hp) (l : Addr) (ws : List (List Str)) : Prop := ∃ us, H l = some (.lst us) ∧ Paired (Wd K H) us ws
theorem lw_mono {H1 : Hp} {l : Addr} {ws : List (List Str)} (e : Ex H H1) (h : LW K H l ws) : LW K H1 l ws := by
  obtain ⟨us, h1, h2⟩ := h
  exact ⟨us, e _ _ h1, paired_mono (fun _ _ r => wd_mono e r) h2⟩
def EvLW (K : PySem.W.Frag) (te : TE) (σ : L2.St) (H : Hp) (ws : List (List Str)) : Prop := ∀ H1, Ex H H1 → ∀ Q : VK, (∀ l H2, H1 l = none → Ex H1 H2 → LW K H2 l ws → Q (.ref l) H2) → te σ H1 Q
theorem paired_app {α β : Type} {R : α → β → Prop} : ∀ {xs xs2 : List α} {ys ys2 : List β}, Paired R xs ys → Paired R xs2 ys2 → Paired R (xs ++ xs2) (ys ++ ys2)
  | _, _, _, _, .nil, h => h
  | _, _, _, _, .cons r t, h => .cons r (paired_app t h)
/-- a list of n such tuples, put together turn by turn -/
theorem elw_R1 {ta : TA} {j : Nat} {vs : List Nat} {n : Nat} (f : Nat → List Str) (h : EvA ta σ H [.int (n : Int)]) (hn : n ≤ 40000) (hw : ∀ x, wipe ((wipe σ vs).set j (some x)) vs = wipe σ vs)
    (he : ∀ (i : Nat) H1, Ex H H1 → i < n → EvW K te ((wipe σ vs).set j (some (.int (i : Int)))) H1 (f i)) : EvLW K (tLc (iRng1 ta) (gName j) tYes te vs) σ H ((List.range n).map f) := fun H0 e Q q => h H0 e _ fun H1 e1 => ⟨n, rfl, by omega, by omega, fun Dl hD =>
  lc_range (lo := 0) (n := n) (fun i H' => Ex H1 H' ∧ LW K H' Dl ((List.range i).map f)) ⟨Ex.new hD, [], upd_same, .nil⟩ (fun i H' hi p => by
    obtain ⟨p1, us, p2, p3⟩ := p
    have e0 : (0 : Int) + (i : Int) = (i : Int) := Int.zero_add _
    show wipe ((wipe σ vs).set j (some (.int ((0 : Int) + (i : Int))))) vs = wipe σ vs ∧ tYes ((wipe σ vs).set j (some (.int ((0 : Int) + (i : Int))))) H' fun b H3 => if b = true then te ((wipe σ vs).set j (some (.int ((0 : Int) + (i : Int))))) H3 fun y H4 => ∃ acc, H4 Dl = some (.lst acc) ∧ acc.length < sizeLine ∧ (Ex H1 (upd H4 Dl (.lst (acc ++ [y]))) ∧ LW K (upd H4 Dl (.lst (acc ++ [y]))) Dl ((List.range (i + 1)).map f)) else (Ex H1 H3 ∧ LW K H3 Dl ((List.range (i + 1)).map f))
    rw [e0]
    refine ⟨hw _, ?_⟩
    show te ((wipe σ vs).set j (some (.int (i : Int)))) H' fun y H4 => ∃ acc, H4 Dl = some (.lst acc) ∧ acc.length < sizeLine ∧ (Ex H1 (upd H4 Dl (.lst (acc ++ [y]))) ∧ LW K (upd H4 Dl (.lst (acc ++ [y]))) Dl ((List.range (i + 1)).map f))
    refine he i H' ((e.trans e1).trans p1) hi H' (Ex.refl H') _ fun y H4 e4 hy => ?_
    have hl := Paired.length p3
    rw [List.length_map, List.length_range] at hl
    -- what is tracked, but the new list, stands
    have keep : ∀ {v : V} {zs : List Str}, Wd K H4 v zs → Wd K (upd H4 Dl (.lst (us ++ [y]))) v zs := fun {v zs} hz => by
      obtain ⟨a, rfl, hz⟩ := hz
      refine ⟨a, rfl, ?_⟩
      have hd := e4 _ _ p2
      rw [upd_ne (fun q => by rw [q, hd] at hz; cases hz)]
      exact hz
    refine ⟨us, e4 _ _ p2, sz_lt (by omega), Ex.mut (p1.trans e4) hD, us ++ [y], upd_same, ?_⟩
    rw [List.range_succ, List.map_append]
    exact paired_app (paired_mono (fun _ _ r => keep (wd_mono e4 r)) p3) (.cons (keep hy) .nil)) (fun H' p => q Dl H' (fresh_back e1 hD) (e1.trans p.1) p.2)⟩
end
end Lw
namespace Lw
open PySem PySem.Spec PyProof.Rows L2 Evl TL
section
variable {P : Program} {w : World} {K : PySem.W.Frag} {σ : L2.St} {H : Hp} {te ta : TE} {ys : List Str}
def wD (ys : List Str) : PyData := .tuple (ys.map PyData.str)
theorem rw_strs : ∀ {ys : List Str}, Paired (Rw P w H) (ys.map V.str) (ys.map PyData.str)
  | [] => .nil
  | y :: ys => .cons (rw_str y) (rw_strs (ys := ys))
theorem nodict_strs : ∀ ys : List Str, PyData.hasDictAll (ys.map PyData.str) = false
  | [] => rfl
  | y :: ys => by
    have := nodict_strs ys
    simp [PyData.hasDictAll, PyData.hasDict, this]
theorem rw_word {v : V} (h : Wd K H v ys) : Rw P w H v (wD ys) := by
  obtain ⟨a, rfl, h⟩ := h
  exact rw_tup h rw_strs (nodict_strs ys)
theorem rws_words {us : List V} {ws : List (List Str)} (h : Paired (Wd K H) us ws) : Paired (Rw P w H) us (ws.map wD) := by
  induction h with
  | nil => exact .nil
  | cons r t ih => exact .cons (rw_word r) ih
/-- repr of a list of such tuples -/
theorem ev_reprLW {ws : List (List Str)} (h : EvLW K te σ H ws) (hr : ∀ d ∈ ws.map wD, Rok d) (hn : ws.length ≤ 1000) : Ev (tCB (rRepr P w) (tCons te tNil)) σ H (.str (listText (PyData.shownAll (ws.map wD)))) := fun H1 e Q q =>
  h H1 e _ fun p H2 hp e2 hl => by
    obtain ⟨us, h1, h2⟩ := hl
    obtain ⟨a, b, c⟩ := lst_rok hr (by rw [List.length_map]; exact hn)
    exact .inl ⟨p, us, ws.map wD, rfl, h1, rws_words h2, a, b, c, q H2 e2⟩
theorem ev_reprLWv {l : Addr} {ws : List (List Str)} (h : Ev te σ H (.ref l)) (hl : LW K H l ws) (hr : ∀ d ∈ ws.map wD, Rok d) (hn : ws.length ≤ 1000) : Ev (tCB (rRepr P w) (tCons te tNil)) σ H (.str (listText (PyData.shownAll (ws.map wD)))) := fun H1 e Q q =>
  h H1 e _ fun H2 e2 => by
    obtain ⟨us, h1, h2⟩ := lw_mono (e.trans e2) hl
    obtain ⟨a, b, c⟩ := lst_rok hr (by rw [List.length_map]; exact hn)
    exact .inl ⟨l, us, ws.map wD, rfl, h1, rws_words h2, a, b, c, q H2 e2⟩
end
end Lw
namespace Lw
open PySem PySem.Spec PyProof.Rows L2 Evl TL
/-- the text of a word -/
def tx (ys : List Str) : Str := if ys = [] then "-" else Str.join "." ys
theorem tx_ne {ys : List Str} (h : ys ≠ []) : tx ys = Str.join "." ys := if_neg h
/-- its beginnings -/
def begs (ys : List Str) : List (List Str) := (List.range (ys.length + 1)).map fun i => ys.take i
theorem join_head {ys : List Str} (h : ys ≠ []) (hw : isW ys = true) : ∃ c r, (Str.join "." ys).cps.toList = c :: r ∧ 97 ≤ c ∧ c ≤ 122 := by
  cases ys with
  | nil => exact absurd rfl h
  | cons y ys =>
    have hy := (isW_iff.mp hw).2 y List.mem_cons_self
    obtain ⟨⟨h1, _⟩, h2⟩ := isL_iff.mp hy
    have e : tl (Str.join "." (y :: ys)) = joinL (tl ".") ((y :: ys).map tl) := tl_join "." (y :: ys)
    cases q : y.cps.toList with
    | nil =>
      rw [q] at h1
      exact absurd h1 (by decide)
    | cons c r =>
      have hc := h2 c (by rw [q]; exact List.mem_cons_self)
      have q2 : tl y = c :: r := q
      cases ys with
      | nil => exact ⟨c, r, by show tl _ = _; rw [e]; exact q2, hc⟩
      | cons z zs =>
        refine ⟨c, r ++ (tl "." ++ joinL (tl ".") ((z :: zs).map tl)), ?_, hc⟩
        show tl _ = _
        rw [e]
        show tl y ++ (tl "." ++ joinL (tl ".") ((z :: zs).map tl)) = _
        rw [q2]
        rfl
theorem tx_dash {ys : List Str} (h : ys ≠ []) (hw : isW ys = true) : tx ys ≠ "-" := fun e => by
  rw [tx_ne h] at e
  obtain ⟨c, r, hc, h1, _⟩ := join_head h hw
  rw [e] at hc
  have : ("-" : Str).cps.toList = [45] := rfl
  rw [this] at hc
  injection hc with hc _
  omega
theorem split_word {ys : List Str} (h : ys ≠ []) (hw : isW ys = true) : Txt.split (Str.join "." ys) "." = ys := by
  have z := split_join (y := ".") (s := 46) (S := []) rfl (by decide +kernel) h (fun p hp hm => by
    have := (isL_iff.mp ((isW_iff.mp hw).2 p hp)).2 46 hm
    omega)
  rw [TL.join_eq] at z
  exact z
theorem sum_le : ∀ {ys : List Str}, (∀ y ∈ ys, y.length ≤ 8) → (ys.map (·.length)).sum ≤ 8 * ys.length
  | [], _ => Nat.zero_le _
  | y :: ys, h => by
    have h1 := sum_le (ys := ys) fun z hz => h z (List.mem_cons_of_mem _ hz)
    have h2 := h y List.mem_cons_self
    rw [List.map_cons, List.sum_cons, List.length_cons]
    omega
section
variable {K : PySem.W.Frag} {σ : L2.St} {H : Hp} {te ta : TE} {ys : List Str} {D : Ends}
theorem ev_joinW (h : EvW K te σ H ys) (hw : isW ys = true) : Ev (tM1 (rJoin K) (tC (.str ".")) te) σ H (.str (Str.join "." ys)) := fun H1 e Q q => ⟨⟨_, rfl⟩, h H1 e _ fun v H2 e2 ⟨a, ea, hv⟩ => by
  obtain ⟨h3, hl⟩ := isW_iff.mp hw
  have z := sum_le fun y hy => (isL_len (hl y hy)).2
  have z1 : Str.length "." = 1 := rfl
  subst ea
  refine ⟨_, a, ys, rfl, rfl, .inr (SqT.of hv), by rw [z1]; omega, ?_⟩
  rw [TL.join_eq]
  exact q H2 e2⟩
theorem et_truW {v : V} (h : Ev te σ H v) (hv : Wd K H v ys) : EvT (fun σ H Q => te σ H fun x H' => ∃ k, TruV K x H' k ∧ Q k H') σ H (!ys.isEmpty) := fun H1 e Q q => h H1 e _ fun H2 e2 => by
  obtain ⟨a, ea, hv2⟩ := wd_mono (e.trans e2) hv
  subst ea
  refine ⟨!ys.isEmpty, .inr (.inl ⟨ys.map V.str, SqT.of hv2, ?_⟩), q H2 e2⟩
  cases ys <;> rfl
theorem ev_lenW {v : V} (h : Ev te σ H v) (hv : Wd K H v ys) : Ev (tCB (rLenS K) (tCons te tNil)) σ H (.int (ys.length : Int)) := fun H1 e Q q => h H1 e _ fun H2 e2 => by
  obtain ⟨a, ea, hv2⟩ := wd_mono (e.trans e2) hv
  refine ⟨a, ys.map V.str, by rw [ea], .inr (SqT.of hv2), ?_⟩
  rw [List.length_map]
  exact q H2 e2
theorem s_retLW {ws : List (List Str)} (h : EvLW K te σ H ws) (k : ∀ l H1, H l = none → Ex H H1 → LW K H1 l ws → D.rt (.ref l) H1) : tRet te D σ H := h H (Ex.refl H) _ k
end
end Lw
namespace Lw
open PySem PySem.Spec PyProof.Rows L2 Evl TL
theorem len_app (x y : Str) : (x ++ y).length = x.length + y.length := by
  rw [len_cps, len_cps, len_cps, tl_app, List.length_append]
theorem join_len : ∀ {ys : List Str}, (∀ y ∈ ys, y.length ≤ 8) → (Str.join "." ys).length ≤ 9 * ys.length
  | [], _ => Nat.zero_le _
  | [y], h => by
    have := h y List.mem_cons_self
    show y.length ≤ 9 * 1
    omega
  | y :: z :: r, h => by
    have h1 := join_len (ys := z :: r) fun u hu => h u (List.mem_cons_of_mem _ hu)
    have h2 := h y List.mem_cons_self
    show (y ++ "." ++ Str.join "." (z :: r)).length ≤ _
    rw [len_app, len_app, show Str.length "." = 1 from rfl]
    rw [List.length_cons]
    omega
theorem word_len {ys : List Str} (hw : isW ys = true) : (Str.join "." ys).length ≤ 27 := by
  obtain ⟨h3, hl⟩ := isW_iff.mp hw
  have := join_len fun y hy => (isL_len (hl y hy)).2
  omega
end Lw
namespace Lw
open PySem PySem.Spec PyProof.Rows L2 Evl TL
section
variable {K : PySem.W.Frag} {σ : L2.St} {H : Hp}
theorem ev_chainI {f g : Int → Int → Bool} {ta tb tc : TE} {i j k : Int} (ha : Ev ta σ H (.int i)) (hb : Ev tb σ H (.int j)) (hc : Ev tc σ H (.int k)) :
    Ev (tChain (rI0 fun i j => V.bl (f i j)) (rI0 fun i j => V.bl (g i j)) ta tb tc) σ H (.bl (f i j && g j k)) := fun H1 e Q q => ha H1 e _ fun H2 e2 => hb H2 (e.trans e2) _ fun H3 e3 => ⟨i, j, rfl, rfl, f i j, rfl, by
    revert q
    cases f i j with
    | true => exact fun q => hc H3 ((e.trans e2).trans e3) _ fun H4 e4 => ⟨j, k, rfl, rfl, q H4 ((e2.trans e3).trans e4)⟩
    | false => exact fun q => q H3 (e2.trans e3)⟩
theorem rv_inSign {c : Nat} {z : Str} : RV (fun x y H Q => ∃ (c : Nat) (z : Str), x = V.str ⟨#[c]⟩ ∧ y = V.str z ∧ Q (.bl (decide (c ∈ z.cps.toList))) H) (.str ⟨#[c]⟩) (.str z) H (.bl (decide (c ∈ z.cps.toList))) :=
  fun H1 e Q q => ⟨c, z, rfl, rfl, q H1 (Ex.refl H1)⟩
end
end Lw
namespace Lw
open PySem PySem.Spec PyProof.Rows L2 Evl TL
/-- texts, each behind a dot -/
def glue (ys : List Str) : Str := ys.foldl (fun s y => s ++ "." ++ y) ""
theorem tl_glue_from : ∀ (ys : List Str) (s : Str), tl (ys.foldl (fun s y => s ++ "." ++ y) s) = tl s ++ (ys.map fun y => 46 :: tl y).flatten
  | [], s => by simp
  | y :: ys, s => by
    rw [List.foldl_cons, tl_glue_from ys, tl_append, tl_append, List.map_cons, List.flatten_cons, List.append_assoc, List.append_assoc]
    rfl
theorem glue_succ {ys : List Str} {i : Nat} {y : Str} (h : ys[i]? = some y) : glue (ys.take (i + 1)) = glue (ys.take i) ++ "." ++ y := by
  obtain ⟨hi, e⟩ := List.getElem?_eq_some_iff.mp h
  rw [← List.take_concat_get hi, e, List.concat_eq_append]
  unfold glue
  rw [List.foldl_append]
  rfl
theorem join_flat : ∀ {ys : List Str}, ys ≠ [] → 46 :: joinL [46] (ys.map tl) = (ys.map fun y => 46 :: tl y).flatten
  | [], h => absurd rfl h
  | [y], _ => by
    show 46 :: tl y = (46 :: tl y) ++ []
    rw [List.append_nil]
  | y :: z :: r, _ => by
    have ih := join_flat (ys := z :: r) (fun e => nomatch e)
    show 46 :: (tl y ++ ([46] ++ joinL [46] ((z :: r).map tl))) = (46 :: tl y) ++ ((z :: r).map fun y => 46 :: tl y).flatten
    rw [← ih]
    rfl
theorem glue_cut {ys : List Str} (h : ys ≠ []) : cutS (glue ys) (some 1) none = Str.join "." ys := by
  refine ext_tl ?_
  have e : tl (glue ys) = 46 :: joinL [46] (ys.map tl) := by
    rw [join_flat h]
    show tl (ys.foldl (fun s y => s ++ "." ++ y) "") = _
    rw [tl_glue_from]
    rfl
  have n : (glue ys).length = (tl (glue ys)).length := len_tl _
  show (((tl (glue ys)).drop (HT.sIx (glue ys).length 0 (some ((1 : Nat) : Int)))).take (HT.sIx (glue ys).length (glue ys).length none - HT.sIx (glue ys).length 0 (some ((1 : Nat) : Int)))) = tl (Str.join "." ys)
  rw [HT.sIx_nat, HT.sIx_none, n, e, tl_join]
  rw [show min 1 (46 :: joinL [46] (ys.map tl)).length = 1 from Nat.min_eq_left (by rw [List.length_cons]; omega)]
  show ((joinL [46] (ys.map tl)).take ((joinL [46] (ys.map tl)).length + 1 - 1)) = _
  rw [Nat.add_sub_cancel, List.take_length]
  rfl
theorem glue_len : ∀ {ys : List Str}, (∀ y ∈ ys, y.length ≤ 8) → (glue ys).length ≤ 9 * ys.length := by
  intro ys h
  have e : tl (glue ys) = (ys.map fun y => 46 :: tl y).flatten := by
    show tl (ys.foldl (fun s y => s ++ "." ++ y) "") = _
    rw [tl_glue_from]
    rfl
  rw [len_tl, e]
  clear e
  induction ys with
  | nil => exact Nat.zero_le _
  | cons y ys ih =>
    have h1 := ih fun z hz => h z (List.mem_cons_of_mem _ hz)
    have h2 := h y List.mem_cons_self
    rw [len_tl] at h2
    rw [List.map_cons, List.flatten_cons, List.length_append, List.length_cons, List.length_cons]
    omega
/-- what stands aheadW of what: by the number of letters, then by the first unequal ones -/
def lexW : List Str → List Str → Bool
  | x :: xs, y :: ys => if x = y then lexW xs ys else decide (x.cps.toList < y.cps.toList)
  | _, _ => false
def aheadW (xs ys : List Str) : Bool := if xs.length = ys.length then lexW xs ys else decide (xs.length < ys.length)
theorem lexW_step {xs ys : List Str} {i : Nat} {x y : Str} (hx : xs[i]? = some x) (hy : ys[i]? = some y) : lexW (xs.drop i) (ys.drop i) = if x = y then lexW (xs.drop (i + 1)) (ys.drop (i + 1)) else decide (x.cps.toList < y.cps.toList) := by
  obtain ⟨h1, e1⟩ := List.getElem?_eq_some_iff.mp hx
  obtain ⟨h2, e2⟩ := List.getElem?_eq_some_iff.mp hy
  rw [List.drop_eq_getElem_cons h1, List.drop_eq_getElem_cons h2, e1, e2]
  rfl
end Lw
namespace Lw
open PySem PySem.Spec PyProof.Rows L2 Evl TL
theorem rv_ltS {x y : Str} {H : Hp} : RV (fun x y H Q => ∃ i j, x = V.str i ∧ y = V.str j ∧ Q (V.bl (decide (i.cps.toList < j.cps.toList))) H) (.str x) (.str y) H (.bl (decide (x.cps.toList < y.cps.toList))) :=
  fun H1 e Q q => ⟨x, y, rfl, rfl, q H1 (Ex.refl H1)⟩
theorem ev_atW {K : PySem.W.Frag} {σ : L2.St} {H : Hp} {ta tb : TE} {a : Addr} {i : Nat} {x : Str} {xs : List Str} (ha : Ev ta σ H (.ref a)) (hb : Ev tb σ H (.int (i : Int))) (h : H a = some (.tup (xs.map V.str))) (hx : xs[i]? = some x) : Ev (tOp (rIxT K) ta tb) σ H (.str x) :=
  ev_op ha hb (rv_ixT (SqT.of h) (atI_nat (by rw [List.getElem?_map, hx]; rfl)))
end Lw
namespace Lw
open PySem PySem.Spec PyProof.Rows L2 Evl TL
theorem paired_take {α β : Type} {R : α → β → Prop} : ∀ (n : Nat) {xs : List α} {ys : List β}, Paired R xs ys → Paired R (xs.take n) (ys.take n)
  | 0, _, _, _ => by rw [List.take_zero, List.take_zero]; exact .nil
  | _ + 1, _, _, .nil => .nil
  | n + 1, _, _, .cons r t => .cons r (paired_take n t)
theorem paired_drop {α β : Type} {R : α → β → Prop} : ∀ (n : Nat) {xs : List α} {ys : List β}, Paired R xs ys → Paired R (xs.drop n) (ys.drop n)
  | 0, _, _, h => h
  | _ + 1, _, _, .nil => .nil
  | n + 1, _, _, .cons r t => paired_drop n t
theorem cut_from (xs : List V) (n : Nat) (h : n ≤ xs.length) : cutV xs (some (n : Int)) none = xs.drop n := by
  unfold cutV
  rw [show HT.sIx xs.length 0 (some (n : Int)) = min n xs.length from HT.sIx_nat _ _ n, HT.sIx_none, Nat.min_eq_left h]
  rw [List.take_of_length_le (by rw [List.length_drop]; omega)]
theorem given_count {β : Type} (l : List β) (d : β) (g : β → Bool) (v : Nat → V) : (given l.length (fun i => g (l.getD i d)) v).length = (l.filter g).length := by
  unfold given
  rw [List.length_map]
  have e : l = (List.range l.length).map (fun i => l.getD i d) := by
    have z := range_get l d (fun x => x)
    rw [List.map_id''] at z
    · exact z.symm
    · intro x
      rfl
  conv => rhs; rw [e]
  rw [List.filter_map, List.length_map]
  rfl
/-- a word put into a list of different ones, behind those that stand aheadW of it -/
def insW (fs : List (List Str)) (w : List Str) : List (List Str) := if w ∈ fs then fs else fs.take (fs.filter (aheadW · w)).length ++ [w] ++ fs.drop (fs.filter (aheadW · w)).length
def srtW (ws : List (List Str)) : List (List Str) := ws.foldl insW []
theorem srtW_succ {ws : List (List Str)} {i : Nat} {w : List Str} (h : ws[i]? = some w) : srtW (ws.take (i + 1)) = insW (srtW (ws.take i)) w := by
  obtain ⟨hi, e⟩ := List.getElem?_eq_some_iff.mp h
  rw [← List.take_concat_get hi, e, List.concat_eq_append]
  unfold srtW
  rw [List.foldl_append]
  rfl
theorem insW_mem {fs : List (List Str)} {w u : List Str} : u ∈ insW fs w ↔ u ∈ fs ∨ u = w := by
  unfold insW
  split
  · rename_i h
    exact ⟨.inl, fun z => z.elim id fun e => e ▸ h⟩
  · have e : fs.take (fs.filter (aheadW · w)).length ++ fs.drop (fs.filter (aheadW · w)).length = fs := List.take_append_drop _ _
    constructor
    · intro z
      rcases List.mem_append.mp z with z | z
      · rcases List.mem_append.mp z with z | z
        · exact .inl (List.mem_of_mem_take z)
        · exact .inr (List.mem_singleton.mp z)
      · exact .inl (List.mem_of_mem_drop z)
    · rintro (z | z)
      · rw [← e] at z
        rcases List.mem_append.mp z with z | z
        · exact List.mem_append_left _ (List.mem_append_left _ z)
        · exact List.mem_append_right _ z
      · exact List.mem_append_left _ (List.mem_append_right _ (List.mem_singleton.mpr z))
theorem insW_len (fs : List (List Str)) (w : List Str) : (insW fs w).length ≤ fs.length + 1 := by
  unfold insW
  split
  · omega
  · rw [List.length_append, List.length_append, List.length_take, List.length_drop]
    have := List.length_filter_le (aheadW · w) fs
    show min _ _ + 1 + _ ≤ _
    omega
theorem srtW_mem {ws : List (List Str)} {u : List Str} : u ∈ srtW ws ↔ u ∈ ws := by
  have key : ∀ (ws fs : List (List Str)), u ∈ ws.foldl insW fs ↔ u ∈ fs ∨ u ∈ ws := fun ws => by
    induction ws with
    | nil => intro fs; simp
    | cons w ws ih =>
      intro fs
      rw [List.foldl_cons, ih, insW_mem, List.mem_cons, or_assoc]
  unfold srtW
  rw [key]
  simp
theorem srtW_len (ws : List (List Str)) : (srtW ws).length ≤ ws.length := by
  have key : ∀ (ws fs : List (List Str)), (ws.foldl insW fs).length ≤ fs.length + ws.length := fun ws => by
    induction ws with
    | nil => intro fs; exact Nat.le_refl _
    | cons w ws ih =>
      intro fs
      have h1 := ih (insW fs w)
      have h2 := insW_len fs w
      rw [List.foldl_cons, List.length_cons]
      omega
  have z := key ws []
  rw [List.length_nil, Nat.zero_add] at z
  exact z
/-! ### == of such tuples -/
theorem eqvAll_strs : ∀ xs ys : List Str, PyData.eqvAll (xs.map PyData.str) (ys.map PyData.str) = decide (xs = ys)
  | [], [] => rfl
  | [], _ :: _ => rfl
  | _ :: _, [] => rfl
  | x :: xs, y :: ys => by
    rw [List.map_cons, List.map_cons]
    unfold PyData.eqvAll
    rw [eqvAll_strs xs ys]
    by_cases h : x = y
    · subst h
      by_cases h2 : xs = ys
      · subst h2
        simp [PyData.eqv]
      · simp [PyData.eqv, h2]
    · simp [PyData.eqv, h]
theorem eqv_wD (xs ys : List Str) : PyData.eqv (wD xs) (wD ys) = decide (xs = ys) := by
  unfold wD
  unfold PyData.eqv
  exact eqvAll_strs xs ys
theorem dp_word {K : PySem.W.Frag} {H : Hp} {v : V} {ys : List Str} (h : Wd K H v ys) : Dp K H v (wD ys) := by
  obtain ⟨a, rfl, h⟩ := h
  exact .tup (SqT.of h) (dpa_str ys)
theorem dpa_words {K : PySem.W.Frag} {H : Hp} {us : List V} {ws : List (List Str)} (h : Paired (Wd K H) us ws) : DpAll K H us (ws.map wD) := by
  induction h with
  | nil => exact .nil
  | cons r t ih => exact .cons (dp_word r) ih
theorem shaped_wD {ys : List Str} (h : isW ys = true) : SeqAt.shaped (wD ys) = true := shaped_strsT fun x hx => strOk_of ((isW_iff.mp h).2 x hx)
theorem shaped_wDs {ws : List (List Str)} (h : ∀ w ∈ ws, isW w = true) : SeqAt.shaped (.list (ws.map wD)) = true := by
  have key : ∀ ws : List (List Str), (∀ w ∈ ws, isW w = true) → PyData.canLayAll0 (ws.map wD) = true ∧ PyData.depthAll (ws.map wD) ≤ 1 := fun ws => by
    induction ws with
    | nil => intro _; exact ⟨rfl, Nat.zero_le _⟩
    | cons w ws ih =>
      intro h
      obtain ⟨h1, h2⟩ := ih fun y hy => h y (List.mem_cons_of_mem _ hy)
      have hw := h w List.mem_cons_self
      obtain ⟨l1, l2⟩ := lay_strs fun x hx => strOk_of ((isW_iff.mp hw).2 x hx)
      constructor
      · simp [PyData.canLayAll0, PyData.canLay0, wD, l1, h1]
      · simp [PyData.depthAll, PyData.depth, wD, l2]
        exact Nat.max_le.mpr ⟨Nat.le_refl _, h2⟩
  obtain ⟨h1, h2⟩ := key ws h
  simp [SeqAt.shaped, PyData.canLay0, PyData.depth, h1]
  omega
end Lw
theorem L2.Room.u65 {k : Nat} {A : PySem.Around} (r : L2.Room k A) : A.units + 65 < PySem.cLine := by
  have := r.un
  omega
namespace Lw
open PySem PySem.Spec PyProof.Rows L2 Evl TL
theorem op_notInDK {X : Cx} {K : PySem.W.Frag} (hu : X.A.units + 65 < cLine) (h : X.K = K := by rfl) : OpR X (compareOp .NotIn) (rNotInD K) := h ▸ op_notInD hu
theorem any_wD (ws : List (List Str)) (w : List Str) : ((ws.map wD).any fun z => PyData.eqv z (wD w)) = decide (w ∈ ws) := by
  induction ws with
  | nil => rfl
  | cons u ws ih =>
    rw [List.map_cons, List.any_cons, ih, eqv_wD]
    by_cases h : u = w
    · subst h
      simp
    · simp [h, Ne.symm h]
section
variable {K : PySem.W.Frag} {σ : L2.St} {H : Hp} {ta tb : TE}
theorem ev_niW {v : V} {w : List Str} {l : Addr} {us : List V} {ws : List (List Str)} (ha : Ev ta σ H v) (hb : Ev tb σ H (.ref l)) (hv : Wd K H v w) (hl : H l = some (.lst us)) (hp : Paired (Wd K H) us ws) (hw : isW w = true) (hws : ∀ u ∈ ws, isW u = true) :
    Ev (tOp (rNotInD K) ta tb) σ H (.bl (!decide (w ∈ ws))) := ev_op ha hb (rv_val fun H1 e Q q =>
  ⟨wD w, ws.map wD, dp_word (wd_mono e hv), .lst (SqL.of (e _ _ hl)) (dpa_words (paired_mono (fun _ _ r => wd_mono e r) hp)), shaped_wD hw, shaped_wDs hws, by rw [any_wD]; exact q⟩)
end
end Lw
namespace Lw
open PySem PySem.Spec PyProof.Rows L2 Evl TL
/-- a def that is also called by names alone, in the other sequence -/
def CalR (P : Program) (w : World) (K : PySem.W.Frag) (mg : Str → Option Value) (base : Heap) (CX : CXT) (k : Nat) (x : Str) (ps : List Str) (sp : Sp) : Prop :=
  ∃ f fd, mg x = some (.ref f) ∧ PySem.W.keepIn K (.ref f) = true ∧ (∀ (ws : List Value) (s : Shared), ws.length = ps.length → BindsTo s fd ⟨[], ps.reverse.zip ws⟩ (ps.zip ws.reverse)) ∧ FnG P w K mg base CX k f fd ps sp
def tCallR (sp : Sp) (tk : TA) : TE := fun σ H Q => tk σ H fun vs H1 => sp vs.reverse H1 Q E0
section
variable {X : Cx} {CX : CXT} {k : Nat} {x : Str} {ps : List Str} {sp : Sp} {p pos : Pos} {kws : List Keyword} {tk : TA} {E : XK}
theorem pe_calR (C : CalR X.prog X.w X.K X.mg X.base CX0 k x ps sp) {j : Nat} (gd : X.A.guards = some []) (hr : Room j X.A) (hkw : PK X kws tk) (hj : k ≤ j := by decide) (hg : Gl X x := by rfl) (hdb : (x == ("__debug__" : Str)) = false := by decide)
    (hall : (backToKw pos (keywordEach kws X.env)).all (·.1.isSome) = true := by rfl) (hks : (backToKw pos (keywordEach kws X.env)).filterMap (·.1) = ps.reverse := by rfl)
    (hpl : ((backTo pos (starEach [] X.env)).any (·.1) || (backToKw pos (keywordEach kws X.env)).any (·.1.isNone)) = false := by rfl) :
    PE X (.Call (.Name x p) [] kws pos) (tCallR sp tk) := by
  obtain ⟨f, fd, hm, hk, hb, F⟩ := C
  constructor
  intro pins s σ H Q I h
  refine wpAny_Call_Name_kw (ld_glob I hg hm ?_ hdb)
  refine PySem.W.callWith_KW0 (h₀ := X.base) I.ok.mod.kin hk hall ?_ hpl
  refine thn (hkw.run pos pins s σ H _ I h) fun ws s2 hh => ?_
  obtain ⟨zs, H2, I2, rz, q⟩ := hh
  refine ⟨I2.kIn, ?_⟩
  rw [hks]
  have hl : zs.length = ps.length := by
    have z := F.len _ _ _ _ q
    rw [List.length_reverse] at z
    exact z
  refine wpAny_call (codeAny_mono (F.go gd (hr.mono hj) I2.env0 (hb ws s2 (rz.length.symm.trans hl)) (Vals.reverse rz) q) fun r s3 hq => ?_)
  cases r with
  | error er => exact pass0 pins σ _ s2 er s3 I2 hq
  | ok fl =>
    cases fl with
    | ret u => exact I2.after hq
    | next => exact hq.elim
    | brk => exact hq.elim
    | cont => exact hq.elim
end
section
variable {K : PySem.W.Frag} {σ : L2.St} {H : Hp} {te : TE} {tk : TA} {sp : Sp} {v z : V} {vs : List V}
theorem ev_callR (h : EvA tk σ H vs) (hs : SpV sp vs.reverse H z) : Ev (tCallR sp tk) σ H z := fun H1 e Q q => h H1 e _ fun H2 e2 => hs H2 (e.trans e2) _ (fun H3 e3 => q H3 (e2.trans e3)) E0
end
end Lw
namespace Lw
open PySem PySem.Spec PyProof.Rows L2 Evl TL
theorem jl_le : ∀ ts : List Str, (Str.join ", " ts).length ≤ (ts.map fun t => t.length + 2).sum
  | [] => Nat.zero_le _
  | [t] => by
    show t.length ≤ (t.length + 2) + 0
    omega
  | t :: u :: r => by
    have ih := jl_le (u :: r)
    show (t ++ ", " ++ Str.join ", " (u :: r)).length ≤ (t.length + 2) + ((u :: r).map fun t => t.length + 2).sum
    rw [len_app, len_app, show Str.length ", " = 2 from rfl]
    omega
theorem rok_wD {ys : List Str} (h : isW ys = true) : Rok (wD ys) := by
  obtain ⟨h3, hl⟩ := isW_iff.mp h
  have r1 : ∀ y ∈ ys, (PySem.reprText y).length + 2 ≤ 84 := fun y hy => by
    have h1 := isL_len (hl y hy)
    have h2 := PySem.StrLaws.reprText_len y fun c hc => by
      have := (isL_iff.mp (hl y hy)).2 c hc
      omega
    omega
  have sum : ∀ zs : List Str, (∀ y ∈ zs, (PySem.reprText y).length + 2 ≤ 84) → ((zs.map PySem.reprText).map fun t => t.length + 2).sum ≤ 84 * zs.length := fun zs => by
    induction zs with
    | nil => intro _; exact Nat.zero_le _
    | cons z zs ih =>
      intro hz
      have i1 := ih fun y hy => hz y (List.mem_cons_of_mem _ hy)
      have i2 := hz z List.mem_cons_self
      rw [List.map_cons, List.map_cons, List.sum_cons, List.length_cons]
      omega
  have e : (wD ys).shown = tupleText (ys.map PySem.reprText) := by
    unfold wD
    rw [PyData.shown, PyData.shownAll_strs]
  refine ⟨?_, ?_, ?_⟩
  · unfold wD
    rw [PyData.showable]
    clear h h3 hl r1 sum e
    induction ys with
    | nil => rfl
    | cons y ys ih => simp [PyData.showableAll, PyData.showable, ih]
  · rw [e]
    have j := jl_le (ys.map PySem.reprText)
    have s := sum ys r1
    unfold tupleText
    rw [len_app, len_app, show Str.length "(" = 1 from rfl]
    split
    · rw [show Str.length ",)" = 2 from rfl]
      omega
    · rw [show Str.length ")" = 1 from rfl]
      omega
  · unfold wD
    rw [PyData.depth]
    have := (lay_strs fun x hx => strOk_of (hl x hx)).2
    rw [this]
    omega
theorem roks_wD {ws : List (List Str)} (h : ∀ w ∈ ws, isW w = true) : ∀ d ∈ ws.map wD, Rok d := fun d hd => by
  obtain ⟨w, hw, rfl⟩ := List.mem_map.mp hd
  exact rok_wD (h w hw)
theorem isW_take {ys : List Str} (h : isW ys = true) (n : Nat) : isW (ys.take n) = true := by
  obtain ⟨h3, hl⟩ := isW_iff.mp h
  exact isW_iff.mpr ⟨by rw [List.length_take]; omega, fun y hy => hl y (List.mem_of_mem_take hy)⟩
theorem begs_isW {ys : List Str} (h : isW ys = true) : ∀ w ∈ begs ys, isW w = true := fun w hw => by
  obtain ⟨i, _, rfl⟩ := List.mem_map.mp hw
  exact isW_take h i
theorem begs_len (ys : List Str) : (begs ys).length = ys.length + 1 := by
  unfold begs
  rw [List.length_map, List.length_range]
end Lw
namespace Lw
open PySem PySem.Spec PyProof.Rows L2 Evl TL
theorem q_asgLW {K : PySem.W.Frag} {σ : L2.St} {H : Hp} {te : TE} {tz : TS} {D : Ends} {i : Nat} {ws : List (List Str)} (h : EvLW K te σ H ws) (k : ∀ l H1, H l = none → Ex H H1 → LW K H1 l ws → tz D (σ.set i (some (.ref l))) H1) : tSeq (tAsg te (gName i)) tz D σ H := h H (Ex.refl H) _ k
end Lw
namespace Lw
open PySem PySem.Spec PyProof.Rows L2 Evl TL
/-- a list that changes leaves tuples and other lists of them -/
theorem wd_upd {K : PySem.W.Frag} {H : Hp} {l : Addr} {xs : List V} {o : HO} {v : V} {ys : List Str} (hl : H l = some (.lst xs)) (h : Wd K H v ys) : Wd K (upd H l o) v ys := by
  obtain ⟨a, rfl, h⟩ := h
  refine ⟨a, rfl, ?_⟩
  rw [upd_ne (fun q => by rw [q, hl] at h; cases h)]
  exact h
theorem lw_upd {K : PySem.W.Frag} {H : Hp} {l r : Addr} {xs : List V} {o : HO} {ws : List (List Str)} (hl : H l = some (.lst xs)) (hr : r ≠ l) (h : LW K H r ws) : LW K (upd H l o) r ws := by
  obtain ⟨us, h1, h2⟩ := h
  exact ⟨us, by rw [upd_ne hr]; exact h1, paired_mono (fun _ _ z => wd_upd hl z) h2⟩
end Lw
namespace Lw
open PySem PySem.Spec PyProof.Rows L2 Evl TL
/-! ### the order of words -/
theorem lexW_irr : ∀ xs : List Str, lexW xs xs = false
  | [] => rfl
  | x :: xs => by
    show (if x = x then lexW xs xs else decide (x.cps.toList < x.cps.toList)) = false
    rw [if_pos rfl, lexW_irr xs]
theorem lexW_trans : ∀ {xs ys zs : List Str}, lexW xs ys = true → lexW ys zs = true → lexW xs zs = true
  | [], _, _, h, _ => by cases h
  | _ :: _, [], _, h, _ => by cases h
  | _ :: _, _ :: _, [], _, h => by cases h
  | x :: xs, y :: ys, z :: zs, h1, h2 => by
    have h1 : (if x = y then lexW xs ys else decide (x.cps.toList < y.cps.toList)) = true := h1
    have h2 : (if y = z then lexW ys zs else decide (y.cps.toList < z.cps.toList)) = true := h2
    show (if x = z then lexW xs zs else decide (x.cps.toList < z.cps.toList)) = true
    by_cases e1 : x = y
    · subst e1
      rw [if_pos rfl] at h1
      by_cases e2 : x = z
      · subst e2
        rw [if_pos rfl] at h2 ⊢
        exact lexW_trans h1 h2
      · rw [if_neg e2] at h2 ⊢
        exact h2
    · rw [if_neg e1] at h1
      have l1 := of_decide_eq_true h1
      by_cases e2 : y = z
      · subst e2
        rw [if_neg e1]
        exact h1
      · rw [if_neg e2] at h2
        have l2 := of_decide_eq_true h2
        have l3 : x.cps.toList < z.cps.toList := List.lt_trans l1 l2
        have e3 : x ≠ z := fun e => by
          rw [e] at l3
          exact List.lt_irrefl _ l3
        rw [if_neg e3]
        exact decide_eq_true l3
theorem lt_conn {a b : List Nat} (h : a ≠ b) : a < b ∨ b < a := by
  rcases Decidable.em (a < b) with z | z
  · exact .inl z
  · refine .inr ?_
    have h1 : b ≤ a := List.not_lt.mp z
    rcases Decidable.em (b < a) with y | y
    · exact y
    · have h2 : a ≤ b := List.not_lt.mp y
      exact absurd (List.le_antisymm h2 h1) h
theorem lexW_conn : ∀ {xs ys : List Str}, xs.length = ys.length → xs ≠ ys → lexW xs ys = true ∨ lexW ys xs = true
  | [], [], _, h => absurd rfl h
  | [], _ :: _, h, _ => by cases h
  | _ :: _, [], h, _ => by cases h
  | x :: xs, y :: ys, hl, h => by
    show (if x = y then lexW xs ys else decide (x.cps.toList < y.cps.toList)) = true ∨ (if y = x then lexW ys xs else decide (y.cps.toList < x.cps.toList)) = true
    by_cases e : x = y
    · subst e
      rw [if_pos rfl, if_pos rfl]
      exact lexW_conn (Nat.succ.inj hl) fun z => h (by rw [z])
    · rw [if_neg e, if_neg fun z => e z.symm]
      have ne : x.cps.toList ≠ y.cps.toList := fun z => e (ext_tl z)
      rcases lt_conn ne with z | z
      · exact .inl (decide_eq_true z)
      · exact .inr (decide_eq_true z)
theorem ahead_irr (xs : List Str) : aheadW xs xs = false := by
  unfold aheadW
  rw [if_pos rfl, lexW_irr]
theorem ahead_le {xs ys : List Str} (h : aheadW xs ys = true) : xs.length ≤ ys.length := by
  unfold aheadW at h
  split at h
  · omega
  · have := of_decide_eq_true h
    omega
theorem ahead_trans {xs ys zs : List Str} (h1 : aheadW xs ys = true) (h2 : aheadW ys zs = true) : aheadW xs zs = true := by
  have a := ahead_le h1
  have b := ahead_le h2
  unfold aheadW at h1 h2 ⊢
  by_cases e : xs.length = zs.length
  · rw [if_pos (by omega)] at h1 h2
    rw [if_pos e]
    exact lexW_trans h1 h2
  · rw [if_neg e]
    exact decide_eq_true (by omega)
theorem ahead_conn {xs ys : List Str} (h : xs ≠ ys) : aheadW xs ys = true ∨ aheadW ys xs = true := by
  unfold aheadW
  by_cases e : xs.length = ys.length
  · rw [if_pos e, if_pos e.symm]
    exact lexW_conn e h
  · rw [if_neg e, if_neg fun z => e z.symm]
    rcases Nat.lt_or_gt_of_ne e with z | z
    · exact .inl (decide_eq_true z)
    · exact .inr (decide_eq_true z)
theorem ahead_asymm {xs ys : List Str} (h : aheadW xs ys = true) : aheadW ys xs = false := by
  cases q : aheadW ys xs with
  | false => rfl
  | true =>
    have z := ahead_trans h q
    rw [ahead_irr] at z
    cases z
/-! ### sorted lists -/
def Sd (ws : List (List Str)) : Prop := ws.Pairwise fun a b => aheadW a b = true
theorem sd_uniq : ∀ {xs ys : List (List Str)}, Sd xs → Sd ys → (∀ u, u ∈ xs ↔ u ∈ ys) → xs = ys
  | [], [], _, _, _ => rfl
  | [], y :: ys, _, _, h => absurd ((h y).mpr List.mem_cons_self) List.not_mem_nil
  | x :: xs, [], _, _, h => absurd ((h x).mp List.mem_cons_self) List.not_mem_nil
  | x :: xs, y :: ys, hx, hy, h => by
    obtain ⟨x1, x2⟩ := List.pairwise_cons.mp hx
    obtain ⟨y1, y2⟩ := List.pairwise_cons.mp hy
    have e : x = y := by
      rcases List.mem_cons.mp ((h x).mp List.mem_cons_self) with z | z
      · exact z
      · rcases List.mem_cons.mp ((h y).mpr List.mem_cons_self) with w | w
        · exact w.symm
        · have a := x1 y w
          rw [ahead_asymm (y1 x z)] at a
          cases a
    subst e
    have e2 : xs = ys := sd_uniq x2 y2 fun u => by
      constructor
      · intro hu
        rcases List.mem_cons.mp ((h u).mp (List.mem_cons_of_mem _ hu)) with z | z
        · have a := x1 u hu
          rw [z, ahead_irr] at a
          cases a
        · exact z
      · intro hu
        rcases List.mem_cons.mp ((h u).mpr (List.mem_cons_of_mem _ hu)) with z | z
        · have a := y1 u hu
          rw [z, ahead_irr] at a
          cases a
        · exact z
    rw [e2]
/-- those aheadW of w stand at the beginning -/
theorem sd_split {w : List Str} : ∀ {fs : List (List Str)}, Sd fs → w ∉ fs → (∀ u ∈ fs.take (fs.filter (aheadW · w)).length, aheadW u w = true) ∧ (∀ u ∈ fs.drop (fs.filter (aheadW · w)).length, aheadW w u = true)
  | [], _, _ => ⟨fun u hu => absurd hu (by simp), fun u hu => absurd hu (by simp)⟩
  | f :: fs, h, hw => by
    obtain ⟨h1, h2⟩ := List.pairwise_cons.mp h
    have hwf : w ≠ f := fun e => hw (by rw [e]; exact List.mem_cons_self)
    have hwfs : w ∉ fs := fun z => hw (List.mem_cons_of_mem _ z)
    by_cases q : aheadW f w = true
    · obtain ⟨i1, i2⟩ := sd_split h2 hwfs
      rw [List.filter_cons, if_pos q, List.length_cons, List.take_succ_cons, List.drop_succ_cons]
      refine ⟨fun u hu => ?_, i2⟩
      rcases List.mem_cons.mp hu with z | z
      · rw [z]
        exact q
      · exact i1 u z
    · have hf : aheadW w f = true := (ahead_conn hwf).resolve_right q
      have all : ∀ u ∈ fs, aheadW w u = true := fun u hu => ahead_trans hf (h1 u hu)
      have none : fs.filter (aheadW · w) = [] := List.filter_eq_nil_iff.mpr fun u hu z => by
        rw [ahead_asymm (all u hu)] at z
        cases z
      rw [List.filter_cons, if_neg q, none]
      refine ⟨fun u hu => absurd hu (by simp), fun u hu => ?_⟩
      rw [List.length_nil, List.drop_zero] at hu
      rcases List.mem_cons.mp hu with z | z
      · rw [z]
        exact hf
      · exact all u z
theorem insW_sd {fs : List (List Str)} {w : List Str} (h : Sd fs) : Sd (insW fs w) := by
  unfold insW
  split
  · exact h
  · rename_i hw
    obtain ⟨a, b⟩ := sd_split h hw
    have e : fs.take (fs.filter (aheadW · w)).length ++ fs.drop (fs.filter (aheadW · w)).length = fs := List.take_append_drop _ _
    have h' : Sd (fs.take (fs.filter (aheadW · w)).length ++ fs.drop (fs.filter (aheadW · w)).length) := by rw [e]; exact h
    obtain ⟨p1, p2, p3⟩ := List.pairwise_append.mp h'
    refine List.pairwise_append.mpr ⟨List.pairwise_append.mpr ⟨p1, List.pairwise_singleton _ _, fun u hu v hv => ?_⟩, p2, fun u hu v hv => ?_⟩
    · rw [List.mem_singleton.mp hv]
      exact a u hu
    · rcases List.mem_append.mp hu with z | z
      · exact p3 u z v hv
      · rw [List.mem_singleton.mp z]
        exact b v hv
theorem srtW_sd (ws : List (List Str)) : Sd (srtW ws) := by
  have key : ∀ (ws fs : List (List Str)), Sd fs → Sd (ws.foldl insW fs) := fun ws => by
    induction ws with
    | nil => intro fs h; exact h
    | cons w ws ih => intro fs h; exact ih _ (insW_sd h)
  exact key ws [] .nil
/-- the same words, the same list -/
theorem srtW_same {ws us : List (List Str)} (h : ∀ u, u ∈ ws ↔ u ∈ us) : srtW ws = srtW us := sd_uniq (srtW_sd ws) (srtW_sd us) fun u => by rw [srtW_mem, srtW_mem, h]
theorem srtW_back (ws : List (List Str)) : srtW ((srtW ws).reverse ++ ws) = srtW ws := srtW_same fun u => by
  rw [List.mem_append, List.mem_reverse, srtW_mem, or_self]
end Lw
namespace Lw
open PySem PySem.Spec PyProof.Rows L2 Evl TL
/-! ### lists of words: displays, parts, joined -/
section
variable {K : PySem.W.Frag} {σ : L2.St} {H : Hp} {te ta tb : TE} {tA tr : TA} {ys w : List Str} {ws us : List (List Str)}
def EvAW (K : PySem.W.Frag) (ta : TA) (σ : L2.St) (H : Hp) (ws : List (List Str)) : Prop := ∀ H1, Ex H H1 → ∀ Q : List V → Hp → Prop, (∀ us H2, Ex H1 H2 → Paired (Wd K H2) us ws → Q us H2) → ta σ H1 Q
theorem eaw_nil : EvAW K tNil σ H [] := fun H1 _ Q q => q [] H1 (Ex.refl H1) .nil
theorem eaw_cons (h : EvW K te σ H w) (hr : EvAW K tr σ H ws) : EvAW K (tCons te tr) σ H (w :: ws) := fun H1 e Q q => h H1 e _ fun v H2 e2 hv => hr H2 (e.trans e2) _ fun us H3 e3 hu => q _ H3 (e2.trans e3) (.cons (wd_mono e3 hv) hu)
theorem ew_tup (h : EvA tA σ H (ys.map V.str)) (hz : ys.length ≤ 100000) : EvW K (tTup tA) σ H ys := fun H1 e Q q => h H1 e _ fun H2 e2 => ⟨by rw [List.length_map]; exact sz_of hz, fun p hp => q _ _ (e2.trans (Ex.new hp)) ⟨p, rfl, upd_same⟩⟩
theorem elw_lst (h : EvAW K tA σ H ws) (hz : ws.length ≤ 100000) : EvLW K (tLst tA) σ H ws := fun H1 e Q q => h H1 e _ fun us H2 e2 hu => ⟨by rw [Paired.length hu]; exact sz_of hz, fun p hp => q p _ (fresh_back e2 hp) (e2.trans (Ex.new hp)) ⟨us, upd_same, paired_mono (fun _ _ r => wd_mono (Ex.new hp) r) hu⟩⟩
theorem elw_cat (ha : EvLW K ta σ H ws) (hb : EvLW K tb σ H us) (hz : ws.length + us.length ≤ 100000) : EvLW K (tOp rCat ta tb) σ H (ws ++ us) := fun H1 e Q q => ha H1 e _ fun l H2 hl e2 hL => hb H2 (e.trans e2) _ fun r H3 hr e3 hR => by
  obtain ⟨xs, x1, x2⟩ := lw_mono e3 hL
  obtain ⟨zs, z1, z2⟩ := hR
  refine ⟨l, r, xs, zs, rfl, rfl, x1, z1, by rw [Paired.length x2, Paired.length z2]; exact sz_of hz, fun t ht => q t _ (fresh_back (e2.trans e3) ht) ((e2.trans e3).trans (Ex.new ht)) ⟨_, upd_same, paired_mono (fun _ _ r => wd_mono (Ex.new ht) r) (paired_app x2 z2)⟩⟩
/-- a list that stands, then a new one -/
theorem elw_catV {l : Addr} (ha : Ev ta σ H (.ref l)) (hl : LW K H l ws) (hb : EvLW K tb σ H us) (hz : ws.length + us.length ≤ 100000) : EvLW K (tOp rCat ta tb) σ H (ws ++ us) := fun H1 e Q q => ha H1 e _ fun H2 e2 => hb H2 (e.trans e2) _ fun r H3 hr e3 hR => by
  obtain ⟨xs, x1, x2⟩ := lw_mono ((e.trans e2).trans e3) hl
  obtain ⟨zs, z1, z2⟩ := hR
  refine ⟨l, r, xs, zs, rfl, rfl, x1, z1, by rw [Paired.length x2, Paired.length z2]; exact sz_of hz, fun t ht => q t _ (fresh_back (e2.trans e3) ht) ((e2.trans e3).trans (Ex.new ht)) ⟨_, upd_same, paired_mono (fun _ _ r => wd_mono (Ex.new ht) r) (paired_app x2 z2)⟩⟩
theorem elw_take {l : Addr} {n : Nat} {to th : TO} (ha : Ev ta σ H (.ref l)) (hl : LW K H l ws) (h1 : EvO to σ H none) (h2 : EvO th σ H (some (n : Int))) (hn : n ≤ ws.length) : EvLW K (tSl (rSlL K) ta to th) σ H (ws.take n) := fun H1 e Q q => by
  obtain ⟨xs, x1, x2⟩ := lw_mono e hl
  refine el_sl (K := K) (H := H1) (ha.mono e) (fun H2 e2 => h1 H2 (e.trans e2)) (fun H2 e2 => h2 H2 (e.trans e2)) (SqL.of x1) H1 (Ex.refl H1) _ fun p H2 hp e2 h => ?_
  rw [cut_to xs n (by rw [Paired.length x2]; exact hn)] at h
  exact q p H2 hp e2 ⟨_, h, paired_mono (fun _ _ r => wd_mono e2 r) (paired_take n x2)⟩
theorem elw_drop {l : Addr} {n : Nat} {to th : TO} (ha : Ev ta σ H (.ref l)) (hl : LW K H l ws) (h1 : EvO to σ H (some (n : Int))) (h2 : EvO th σ H none) (hn : n ≤ ws.length) : EvLW K (tSl (rSlL K) ta to th) σ H (ws.drop n) := fun H1 e Q q => by
  obtain ⟨xs, x1, x2⟩ := lw_mono e hl
  refine el_sl (K := K) (H := H1) (ha.mono e) (fun H2 e2 => h1 H2 (e.trans e2)) (fun H2 e2 => h2 H2 (e.trans e2)) (SqL.of x1) H1 (Ex.refl H1) _ fun p H2 hp e2 h => ?_
  rw [cut_from xs n (by rw [Paired.length x2]; exact hn)] at h
  exact q p H2 hp e2 ⟨_, h, paired_mono (fun _ _ r => wd_mono e2 r) (paired_drop n x2)⟩
theorem paired_rev {α β : Type} {R : α → β → Prop} : ∀ {xs : List α} {ys : List β}, Paired R xs ys → Paired R xs.reverse ys.reverse
  | _, _, .nil => .nil
  | _, _, .cons r t => by
    rw [List.reverse_cons, List.reverse_cons]
    exact paired_app (paired_rev t) (.cons r .nil)
theorem elw_rev {K' : PySem.W.Frag} (ha : EvLW K ta σ H ws) : EvLW K (tRevL K' ta) σ H ws.reverse := fun H1 e Q q => ha H1 e _ fun l H2 hl e2 hL => by
  obtain ⟨xs, x1, x2⟩ := hL
  exact ⟨l, xs, rfl, SqL.of x1, fun p hp => q p _ (fresh_back e2 hp) (e2.trans (Ex.new hp)) ⟨_, upd_same, paired_mono (fun _ _ r => wd_mono (Ex.new hp) r) (paired_rev x2)⟩⟩
theorem lw_xp {p l : Addr} {H1 : Hp} (hp : Po p H) (x : Xp p H H1) (h : LW K H l ws) : LW K H1 l ws := by
  obtain ⟨xs, x1, x2⟩ := h
  have hp2 := hp
  by_cases e : l = p
  · -- the pot's own list holds no tuples
    obtain ⟨i, j, ep, _⟩ := hp
    rw [e, ep] at x1
    injection x1 with x1
    injection x1 with x1
    subst x1
    cases x2 with
    | cons r t =>
      obtain ⟨a, ea, _⟩ := r
      cases ea
  · exact ⟨xs, x.1 _ _ e x1, paired_mono (fun _ _ r => wd_xp hp2 x r) x2⟩
end
end Lw
namespace Lw
open PySem PySem.Spec PyProof.Rows L2 Evl TL
theorem cut_to2 (xs : List V) (n : Nat) : cutV xs none (some (n : Int)) = xs.take n := by
  unfold cutV
  rw [show HT.sIx xs.length xs.length (some (n : Int)) = min n xs.length from HT.sIx_nat _ _ n, HT.sIx_none, List.drop_zero, Nat.sub_zero]
  rcases Nat.le_total n xs.length with h | h
  · rw [Nat.min_eq_left h]
  · rw [Nat.min_eq_right h, List.take_length, List.take_of_length_le h]
section
variable {P : Program} {wd : World} {K : PySem.W.Frag} {σ : L2.St} {H : Hp} {te ta tb : TE} {ys w : List Str} {ws us : List (List Str)}
theorem elw_take2 {l : Addr} {n : Nat} {to th : TO} (ha : Ev ta σ H (.ref l)) (hl : LW K H l ws) (h1 : EvO to σ H none) (h2 : EvO th σ H (some (n : Int))) : EvLW K (tSl (rSlL K) ta to th) σ H (ws.take n) := fun H1 e Q q => by
  obtain ⟨xs, x1, x2⟩ := lw_mono e hl
  refine el_sl (K := K) (H := H1) (ha.mono e) (fun H2 e2 => h1 H2 (e.trans e2)) (fun H2 e2 => h2 H2 (e.trans e2)) (SqL.of x1) H1 (Ex.refl H1) _ fun p H2 hp e2 h => ?_
  rw [cut_to2 xs n] at h
  exact q p H2 hp e2 ⟨_, h, paired_mono (fun _ _ r => wd_mono e2 r) (paired_take n x2)⟩
theorem ev_reprW (h : EvW K te σ H ys) (hw : isW ys = true) : Ev (tCB (rRepr P wd) (tCons te tNil)) σ H (.str (wD ys).shown) := fun H1 e Q q =>
  h H1 e _ fun v H2 e2 hv => .inr ⟨v, wD ys, rfl, rw_word hv, rok_wD hw, q H2 e2⟩
theorem ev_neW (ha : EvW K ta σ H ys) (hb : EvW K tb σ H ys) (hw : isW ys = true) : Ev (tOp (rNeD K) ta tb) σ H (.bl false) := fun H1 e Q q => ha H1 e _ fun v H2 e2 hv => hb H2 (e.trans e2) _ fun u H3 e3 hu => by
  have sh := shaped_wD hw
  refine ⟨wD ys, wD ys, dp_word (wd_mono e3 hv), dp_word hu, sh, sh, ?_⟩
  rw [eqv_wD, decide_eq_true rfl]
  exact q H3 (e2.trans e3)
end
end Lw
namespace Lw
open PySem PySem.Spec PyProof.Rows L2 Evl TL PySem.W
/-! ### sorted by the number of letters, then by the word -/
def kW (ys : List Str) : PyData := .tuple [.int (ys.length : Int), wD ys]
theorem rowLt_strs : ∀ {xs ys : List Str}, xs.length = ys.length → rowLt (xs.map PyData.str) (ys.map PyData.str) = lexW xs ys
  | [], [], _ => lex_irrefl _
  | x :: xs, y :: ys, h => by
    have e : rowLt (PyData.str x :: xs.map .str) (PyData.str y :: ys.map .str) = if x = y then rowLt (xs.map .str) (ys.map .str) else decide (x.cps.toList < y.cps.toList) := by
      unfold rowLt
      rw [dataLt_cons (by simp [alike]), dataLt_str]
      simp only [PyData.eqv, beq_iff_eq]
    show rowLt (PyData.str x :: xs.map .str) (PyData.str y :: ys.map .str) = if x = y then lexW xs ys else decide (x.cps.toList < y.cps.toList)
    rw [e, rowLt_strs (Nat.succ.inj h)]
theorem alike_strs : ∀ xs ys : List Str, alikeAll (xs.map PyData.str) (ys.map PyData.str) = true
  | [], _ => by simp [alikeAll]
  | _ :: _, [] => by simp [alikeAll]
  | x :: xs, y :: ys => by simp [alikeAll, alike, alike_strs xs ys]
theorem lt_kW (xs ys : List Str) : dataLt (kW xs) (kW ys) = aheadW xs ys := by
  unfold kW
  rw [dataLt_pair (by simp [alike]) (by simp [alike, wD, alike_strs]), dataLt_int, eqv_wD]
  unfold aheadW
  by_cases h : xs.length = ys.length
  · rw [if_pos (by rw [h]; simp [PyData.eqv]), if_pos h]
    by_cases e : xs = ys
    · subst e
      rw [if_pos (decide_eq_true rfl), lexW_irr]
    · rw [if_neg (by simp [e])]
      unfold wD
      rw [dataLt_tuple]
      exact rowLt_strs h
  · rw [if_neg h, if_neg (by simp [PyData.eqv]; omega)]
    exact decide_eq_decide.mpr (by omega)
theorem le_kW : dataLe false kW = fun a b => !aheadW b a := by
  funext a b
  show (!dataLt (kW b) (kW a)) = _
  rw [lt_kW]
theorem alike_kW (ws : List (List Str)) : AllAlike (ws.map kW) := fun d hd e he => by
  obtain ⟨x, _, rfl⟩ := List.mem_map.mp hd
  obtain ⟨y, _, rfl⟩ := List.mem_map.mp he
  simp [kW, alike, alikeAll, wD, alike_strs]
theorem sortable_kW (ws : List (List Str)) : Sortable (ws.map kW) := .inl fun d hd => by
  obtain ⟨x, _, rfl⟩ := List.mem_map.mp hd
  exact ⟨_, _, rfl⟩
/-- different words, sorted by that key -/
theorem sort_words {ds ws : List (List Str)} (hn : ds.Nodup) (hm : ∀ u, u ∈ ds ↔ u ∈ ws) : ds.mergeSort (dataLe false kW) = srtW ws := by
  have p : (ds.mergeSort (dataLe false kW)).Perm ds := List.mergeSort_perm ds _
  have s : (ds.mergeSort (dataLe false kW)).Pairwise fun a b => dataLe false kW a b = true := sort_pairwise (sortLe_total _ _ _) ds
  have nd : (ds.mergeSort (dataLe false kW)).Nodup := (List.Perm.nodup_iff p).mpr hn
  refine sd_uniq ?_ (srtW_sd ws) fun u => by rw [p.mem_iff, srtW_mem, hm]
  refine List.Pairwise.imp₂ (fun a b h1 h2 => ?_) s nd
  rw [le_kW] at h1
  have h1 : (!aheadW b a) = true := h1
  rcases ahead_conn (show a ≠ b from h2) with z | z
  · exact z
  · rw [z] at h1
    cases h1
end Lw
namespace Lw
open PySem PySem.Spec PyProof.Rows L2 Evl
/-! ### enumerate over a tuple -/
theorem drawsT {prog : Program} {w : World} {A : Around} (hn : A.handled = none) (r t : Addr) (ne : t ≠ r) (ys : Array Value) :
    Draws prog w A r [r, t] ys.size (fun j v => ys[j]? = some v) (fun j h => h.IsTupleIter r t j ∧ h.IsTuple t ys) where
  live := fun _ _ z => by
    obtain ⟨⟨o, e, _⟩, _⟩ := z
    exact ⟨o, e⟩
  frame := fun _ _ _ z k => ⟨z.1.at fun o e => k r (by simp) o e, z.2.at fun o e => k t (by simp) o e⟩
  item := fun j s Q E lt z q => by
    refine PySem.wpAny_nextOf_tuple_item z.1 z.2 (x := ys[j]) (by simp [lt]) fun h2 z2 sb => ?_
    exact q _ h2 s.toks (by simp [lt]) ⟨z2, z.2.at fun o e => sb.extBut t o ne e⟩ sb
  done := fun s Q E z q => PySem.wpAny_nextOf_tuple_end hn z.1 z.2 (by simp) q
theorem newEnumT (t : Addr) (ys : Array Value) (n : Nat) (d : Option Addr) (sl : Array (Option Value)) :
    Meets (Builtin.«enumerate.__new__» ⟨[.type "enumerate", .ref t], []⟩) (fun _ R s => s.heap.get? t = some { cls := .type "tuple", dict := d, data := .seq ys n, slots := sl } ∧
      R (.ok (.ret (.ref (s.heap.push { cls := .type "tuple_iterator", data := .fields #[.ref t, .int 0 0] }).objs.size)))
        { s with heap := (s.heap.push { cls := .type "tuple_iterator", data := .fields #[.ref t, .int 0 0] }).push { cls := .type "enumerate", data := .fields #[.none, .bool false, .ref s.heap.objs.size, rawInt 0, .none, .none] } }) :=
  .of_wp fun prog w A R s z => by
    obtain ⟨hp, g, dr, tk, os⟩ := s
    obtain ⟨ht, z⟩ := z
    have su := sub_enumerate
    have hT : Heap.IsTuple (Shared.heap ⟨hp, g, dr, tk, os⟩) t ys := ⟨_, ht, rfl, n, rfl⟩
    wp_walk using AutoSeq1.wpAny_loadPart' ht
    refine wpAny_stack_any fun st => wpAny_pure ?_
    split
    · rename_i c _ _ _ _ _
      cases (c == Value.type "enumerate") <;>
      · wp_walk using AutoSeq1.wpAny_loadPart' ht, wpAny_pyIter_tuple hT
        exact ⟨_, rfl, z⟩
    · wp_walk using AutoSeq1.wpAny_loadPart' ht, wpAny_pyIter_tuple hT
      exact ⟨_, rfl, z⟩
section
variable {prog : Program} {w : World} {A : Around} {E : Value → Shared → Prop} {s : Shared}
theorem callEnumT {t : Addr} {ys : Array Value} {Q : Value → Shared → Prop} (ht : s.heap.IsTuple t ys)
    (q : ∀ h2, IsEnum h2 (s.heap.objs.size + 1) s.heap.objs.size 0 .none → h2.IsTupleIter s.heap.objs.size t 0 → (∀ b o, s.heap.get? b = some o → h2.get? b = some o) → Q (.ref (s.heap.objs.size + 1)) { s with heap := h2 }) :
    wpAny (model prog w) A (call (.type "enumerate") [.ref t]) Q E s := by
  obtain ⟨⟨c, d, dt, sl⟩, ho, hc, n, hd⟩ := ht
  obtain rfl : c = .type "tuple" := hc
  obtain rfl : dt = .seq ys n := hd
  refine callType_new F.called_enumerate (by decide) (F.typeCall_enumerate_1 _) (F.newCall_enumerate_1 _) (fun obj => F.args_object_init_2 obj _) F.entry_enumerate_new (newEnumT t ys n d sl) ⟨ho, ?_⟩
  let r : Obj := { cls := .type "tuple_iterator", data := .fields #[.ref t, .int 0 0] }
  have sz : (s.heap.push r).objs.size = s.heap.objs.size + 1 := Heap.size_push ..
  have en := Heap.get?_push_size (s.heap.push r) (o := { cls := .type "enumerate", data := .fields #[.none, .bool false, .ref s.heap.objs.size, rawInt 0, .none, .none] }) rfl
  show _ ∧ _
  rw [sz] at en ⊢
  exact ⟨⟨_, en, rfl⟩, q _ en ⟨_, Heap.get?_push_of_some _ (Heap.get?_push_size _ rfl), rfl, rfl⟩ fun b o e => Heap.get?_push_of_some _ (Heap.get?_push_of_some _ e)⟩
end
/-- the tuple at a, each item in a new pair -/
def IteT (K : PySem.W.Frag) (a : Addr) : It where
  go := fun i H => ∃ (xs : List V) (x : V), SqT K H a xs ∧ xs[i]? = some x
  yld := fun i H v H' => ∃ T x, v = .ref T ∧ H T = none ∧ H' = upd H T (.tup [.int (i : Nat), x]) ∧ ∀ xs, SqT K H a xs → xs[i]? = some x
  stop := fun i H => ∃ xs : List V, SqT K H a xs ∧ i = xs.length
theorem turnEnumT {P : Program} {w : World} {K : PySem.W.Frag} {es : List Expr} {kk : Nat} {tp : Pos} (a e r : Addr) :
    Turn P w K (.Tuple es kk tp) (IteT K a) [e, r] e (fun i h => (∃ old, IsEnum h e r ((i : Nat) : Int) old) ∧ h.IsTupleIter r a i ∧ e ≠ r) where
  mem := List.mem_cons_self
  obj := fun i h z b hb => by
    obtain ⟨⟨old, z1⟩, ⟨o, e1, _, e2⟩, _⟩ := z
    rcases List.mem_cons.mp hb with rfl | hb
    · exact ⟨_, z1, fun v q => nomatch q⟩
    · obtain rfl := List.mem_singleton.mp hb
      exact ⟨o, e1, fun v q => by
        rw [e2] at q
        cases q⟩
  keep := fun i h h2 z k => by
    obtain ⟨⟨old, z1⟩, z2, z3⟩ := z
    exact ⟨⟨old, k e (by simp) _ z1⟩, z2.at fun o q => k r (by simp) o q, z3⟩
  item := by
    intro X hP hw hK hc i pins s σ H E I hf z hg
    subst hP hw hK
    obtain ⟨⟨old, z1⟩, z2, z3⟩ := z
    obtain ⟨xs, x, hq, hx⟩ := hg
    obtain ⟨its, rv, p, hz⟩ := I.tuple hq
    obtain ⟨u, hu, ru⟩ := rv.get hx
    have le : e < s.heap.objs.size := Heap.lt_size z1
    have lr : r < s.heap.objs.size := by
      obtain ⟨_, q, _⟩ := z2
      exact Heap.lt_size q
    have pT : s.heap.IsTuple a its.toArray := p
    have ar : a ≠ r := fun q => by
      obtain ⟨o1, g1, c1, _⟩ := pT
      obtain ⟨o2, g2, c2, _⟩ := z2
      rw [q, g2] at g1
      cases g1
      rw [c1] at c2
      injection c2 with c3
      exact absurd c3 (by decide)
    have ea : e ∉ [r, a] := fun q => by
      rcases List.mem_cons.mp q with q | q
      · exact z3 q
      · obtain ⟨o1, g1, c1, _⟩ := pT
        rw [← List.mem_singleton.mp q, z1] at g1
        cases g1
        injection c1 with c3
        exact absurd c3 (by decide)
    have hil : i < its.toArray.size := by
      have := (List.getElem?_eq_some_iff.mp hu).1
      simpa using this
    refine wpAny_pyNext_enum_itemD (drawsT (A := X.A.in1) (I.ok.hd hc) r a ar its.toArray) z1 ⟨z2, pT⟩ hil z3 ea fun v h1 tk hv ho st hT hsz hk => ?_
    obtain rfl : v = u := by
      have e1 : its[i]? = some v := by simpa using hv
      rw [hu] at e1
      exact (Option.some.inj e1).symm
    refine ⟨_, rfl, wpAny_letOwnedTupleGo_enum (s := { s with heap := h1, toks := tk + 1 }) ho fun h2 he2 sb => ?_⟩
    have t2 : h2.get? s.heap.objs.size = some { cls := .type "tuple", data := .seq #[.int i tk, v] } := (sb.2 _ (Nat.ne_of_gt le)).trans hT
    have new : ObjOk X.prog X.w (upd H s.heap.objs.size (.tup [.int (i : Nat), x])) h2 s.heap.objs.size (.tup [.int (i : Nat), x]) :=
      ⟨by show 2 ≤ sizeLine; decide, [.int i tk, v], .cons ⟨_, rfl⟩ (.cons ru .nil), ⟨_, t2, rfl, _, rfl⟩⟩
    have J := I.turnedNew (t' := tk + 1) (ch := [e, r]) (h' := h2) (fun b o nb q => (sb.2 b fun y => nb (by simp [y])).trans (hk b o (fun y => nb (by simp [y])) (fun y => nb (by simp [y])) q)) hf (Nat.le_refl _) new
    refine ⟨.ref s.heap.objs.size, _, J, rfl, ⟨_, x, rfl, I.hok.fresh (Nat.le_refl _), rfl, fun ys hy => ?_⟩, ⟨⟨v, ?_⟩, st.1.at fun o q => (sb.2 r (Ne.symm z3)).trans q, z3⟩, fun b hb => ?_⟩
    · rw [I.tuple_inj hy hq]
      exact hx
    · rw [show ((i + 1 : Nat) : Int) = (i : Int) + 1 by omega]
      exact he2
    · have lb : b < s.heap.objs.size := by
        rcases List.mem_cons.mp hb with rfl | hb
        · exact le
        · rw [List.mem_singleton.mp hb]
          exact lr
      rw [upd_ne (Nat.ne_of_lt lb)]
      exact (hf b hb).1
  done := by
    intro X hP hw hK hc i pins s σ H E I hf z hg
    subst hP hw hK
    obtain ⟨⟨old, z1⟩, z2, z3⟩ := z
    obtain ⟨xs, hq, hx⟩ := hg
    obtain ⟨its, rv, p, hz⟩ := I.tuple hq
    have pT : s.heap.IsTuple a its.toArray := p
    obtain ⟨f0, f1, f2, f3, f4, f5⟩ := hf r (by simp)
    have hl := rv.length
    have ar : a ≠ r := fun q => by
      obtain ⟨o1, g1, c1, _⟩ := pT
      obtain ⟨o2, g2, c2, _⟩ := z2
      rw [q, g2] at g1
      cases g1
      rw [c1] at c2
      injection c2 with c3
      exact absurd c3 (by decide)
    have en : i = its.toArray.size := by
      rw [List.size_toArray, ← hl]
      exact hx
    rw [en] at z2
    exact wpAny_pyNext_enum_endD (drawsT (A := X.A.in1) (I.ok.hd hc) r a ar its.toArray) z1 ⟨z2, pT⟩ fun h2 eb => ⟨rfl, I.turned (t' := s.toks) (fun b o nb q => eb b o nb q) f0 f1 f3 f4 f5⟩
  self := fun A i s Q E z h => by
    obtain ⟨⟨_, z1⟩, _⟩ := z
    exact wpAny_pyIter_enum z1 h
/-- over a list or a tuple -/
def iEnumS (K : PySem.W.Frag) (ta : TA) : TI := fun σ H R => ta σ H fun vs H1 => ∃ a, vs = [.ref a] ∧ ((∃ xs, SqL K H1 a xs ∧ R (Ite K a) H1) ∨ ∃ xs, SqT K H1 a xs ∧ R (IteT K a) H1)
theorem pi_enumS {X : Cx} {e : Expr} {ta : TA} {p pos tp : Pos} {es : List Expr} {kk : Nat} (hg : Gl X "enumerate") (hm : X.mg "enumerate" = none) (ha : PA X [e] ta) (hs : starEach [e] X.env = [(false, eval e X.env)] := by rfl) :
    PI X (.Tuple es kk tp) (.Call (.Name "enumerate" p) [e] [] pos) (iEnumS X.K ta) := by
  constructor
  intro pins s σ H R I h
  refine Call_ (ld_blt I hg hm boot_enumerate (PyProof.Rows.callWith_type1 (thn (ha.run pos pins s σ H _ I h) fun us s1 g => ?_) hs rfl))
  obtain ⟨vs, H1, I1, r1, a, rfl, q⟩ := g
  obtain ⟨u, rfl, ru⟩ := r1.one
  obtain rfl : u = Value.ref a := ru
  have fp : ∀ b ∈ [s1.heap.objs.size + 1, s1.heap.objs.size], FpOk X pins H1 b := fun b hb => by
    have le : s1.heap.objs.size ≤ b := by
      rcases List.mem_cons.mp hb with rfl | hb
      · exact Nat.le_succ _
      · rw [List.mem_singleton.mp hb]
        exact Nat.le_refl _
    exact I1.fpOk le (I1.hok.fresh le)
  rcases q with ⟨xs, hq, q⟩ | ⟨xs, hq, q⟩
  · obtain ⟨its, rv, pL, hz⟩ := I1.list hq
    exact call_enumerate_list pL.isList fun h2 he hit _ hk => wpAny_pyIter_enum he
      ⟨_, _, _, _, H1, rfl, I1.kept (t' := s1.toks) hk, turn_enum a (s1.heap.objs.size + 1) s1.heap.objs.size, ⟨⟨.none, he⟩, hit, Nat.succ_ne_self _⟩, fp, q⟩
  · obtain ⟨its, rv, pT, hz⟩ := I1.tuple hq
    exact callEnumT (show s1.heap.IsTuple a its.toArray from pT) fun h2 he hit hk => wpAny_pyIter_enum he
      ⟨_, _, _, _, H1, rfl, I1.kept (t' := s1.toks) hk, turnEnumT a (s1.heap.objs.size + 1) s1.heap.objs.size, ⟨⟨.none, he⟩, hit, Nat.succ_ne_self _⟩, fp, q⟩
theorem walkEnumT {K : PySem.W.Frag} {a : Addr} {xs : List V} : Walk (IteT K a) xs.length (fun H => SqT K H a xs) (YPair (fun i => some (.int (i : Nat))) (fun i => xs[i]?)) := by
  refine ⟨fun i _ hi q => ⟨xs, xs[i], q, by simp [hi]⟩, fun _ q => ⟨xs, q, rfl⟩, fun i H v H' _ q y => ?_⟩
  obtain ⟨T, x, h1, h2, h3, h4⟩ := y
  exact ⟨T, .int (i : Nat), x, h1, h2, h3, rfl, h4 xs q⟩
/-- a list or a tuple is walked -/
def iSeqS (K : PySem.W.Frag) (te : TE) : TI := fun σ H R => te σ H fun v H1 => ∃ a, v = .ref a ∧ ((∃ xs, SqL K H1 a xs ∧ R (Itl K a) H1) ∨ ∃ xs, SqT K H1 a xs ∧ R (Itt K a) H1)
theorem pi_seqS {X : Cx} {K : PySem.W.Frag} {tg l : Expr} {te : TE} (he : PE X l te) (hK : X.K = K := by rfl) : PI X tg l (iSeqS K te) := by
  subst hK
  constructor
  intro pins s σ H R I h
  refine thn (he.run pins s σ H _ I h) fun u s1 g => ?_
  obtain ⟨v, H1, I1, rv, a, rfl, q⟩ := g
  obtain rfl : u = Value.ref a := rv
  have fp : ∀ b ∈ [s1.heap.objs.size], FpOk X pins H1 b := fun b hb => by
    rw [List.mem_singleton.mp hb]
    exact I1.fpOk (Nat.le_refl _) (I1.hok.fresh (Nat.le_refl _))
  rcases q with ⟨xs, hq, q⟩ | ⟨xs, hq, q⟩
  · obtain ⟨its, _, pL, _⟩ := I1.list hq
    exact wpAny_pyIter_list pL.isList ⟨_, _, _, _, H1, rfl, I1.kept (t' := s1.toks) fun b o e => Heap.get?_push_of_some _ e, turn_list a _, ⟨_, Heap.get?_push_size _ rfl, rfl, rfl⟩, fp, q⟩
  · obtain ⟨its, _, pT, _⟩ := I1.tuple hq
    exact wpAny_pyIter_tuple (show s1.heap.IsTuple a its.toArray from pT) ⟨_, _, _, _, H1, rfl, I1.kept (t' := s1.toks) fun b o e => Heap.get?_push_of_some _ e, turn_tuple a _, ⟨_, Heap.get?_push_size _ rfl, rfl, rfl⟩, fp, q⟩
theorem pi_enumSK {X : Cx} {K : PySem.W.Frag} {e : Expr} {ta : TA} {p pos tp : Pos} {es : List Expr} {kk : Nat} (hg : Gl X "enumerate") (hm : X.mg "enumerate" = none) (ha : PA X [e] ta) (hK : X.K = K := by rfl) (hs : starEach [e] X.env = [(false, eval e X.env)] := by rfl) :
    PI X (.Tuple es kk tp) (.Call (.Name "enumerate" p) [e] [] pos) (iEnumS K ta) := by
  subst hK
  exact pi_enumS hg hm ha hs
end Lw
namespace Lw
open PySem PySem.Spec PyProof.Rows L2 Evl
/-! ### a dict comprehension whose keys are tuples of texts -/
section
variable {X : Cx} {pins : List (Addr × Obj)} {σ : L2.St} {H : Hp} {s : Shared}
/-- d[y] = v on the way of a comprehension, y a tuple -/
theorem putT {E : Value → Shared → Prop} {D b : Addr} {kvs : List (List L2.Key × V)} {k : List L2.Key} {z : V} {r : Value} {Q : Unit → Shared → Prop} (I : Inv X pins σ H s) (hu : X.A.units < cLine) (hD : H D = some (.dT kvs)) (hb : H b = some (.tup (k.map kV))) (lt : kvs.length < sizeLine) (rz : RelV z r)
    (q : ∀ t, Inv X pins σ (upd H D (.dT (putK kvs k z))) t → Q () t) : wpAny (model X.prog X.w) X.A (dictSet D (.ref b) r) Q E s := by
  obtain ⟨le, sm, xs, kt, dd⟩ := dt_of I.hok hD
  have lx : xs.length ≤ sizeLine := by
    rw [← Paired.length kt]
    exact le
  have lp : (putK kvs k z).length ≤ sizeLine := by
    have := length_putK kvs k z
    omega
  refine wpAny_dictSet_heap (hsz := lx) (knd := tupleKind (mixKind X.prog X.w)) (by first | exact tupleKind_room_in1 hu | exact tupleKind_room hu | exact hu) (key_of I.hok hb) dd fun h2 d2 sb => q _ ?_
  obtain ⟨o, es, ep, a1, a2, a3, a4, _, a5⟩ := d2
  refine d_write I (by rw [hD]; trivial) sb ⟨o, a1⟩ ⟨lp, sm, _, (kt.put k hb rz).keeps fun c ys e => ?_, o, es, ep, a1, a2, a3, a4, a5⟩
  rw [upd_ne (ne_of e hD fun z => nomatch z)]
  exact e
end
/-- {k: v for target in iter}: D is the new dict -/
def tDcT (wi : TI) (g : TG) (tk tv : TE) (ws : List Nat) : TE := fun σ H Q => wi σ H fun J H1 => ∀ D, H1 D = none → ∃ W : Nat → Nat → Hp → Prop, (∃ m, W 0 m (upd H1 D (.dT []))) ∧ ∀ i m H, W i m H →
  (J.stop i H ∧ Q (.ref D) H) ∨ (J.go i H ∧ ∃ N : Hp → Prop, (∀ H2, N H2 → ∃ l, l < m ∧ W (i + 1) l H2) ∧ ∀ x H2, J.yld i H x H2 → g x (wipe σ ws) H2 fun τ H3 => wipe τ ws = wipe σ ws ∧
    tk τ H3 fun y H4 => tv τ H4 fun z H5 => ∃ kvs k b, y = .ref b ∧ H5 b = some (.tup (k.map kV)) ∧ H5 D = some (.dT kvs) ∧ kvs.length < sizeLine ∧ N (upd H5 D (.dT (putK kvs k z))))
/-- within a comprehension's block -/
abbrev InBlk (X : Cx) (scope : Scope) (p : Cx → Prop) : Prop := ∀ s H C cl fp, p (X.blk s H scope (compEnvC scope cl C X.env) fp)
section
variable {X : Cx}
/-- what follows the last turn -/
def DcEnd (X : Cx) (pins : List (Addr × Obj)) (σ : L2.St) (use : Option (Value → Sem Unit)) (Q : VK) (Qf : Value → Shared → Prop) : Prop :=
  ∀ D C t m G, Inv X pins σ G t → Q (.ref D) G → t.heap.Ns C m → FpOk X pins G C → compPost (model X.prog X.w) X.A X.xe use Qf (.ref D) C (.ok .next) t
theorem dcT_core {pins : List (Addr × Obj)} {s : Shared} {σ : L2.St} {H : Hp} {Q : VK} {kx vx tg iter : Expr} {scope : Scope} {own : List (Str × Nat)} {pos at_ : Pos} {wi : TI} {g : TG} {tk tv : TE} {use : Option (Value → Sem Unit)} {Qf : Value → Shared → Prop} (hu : X.A.units < cLine) (cm : X.calm = true) (nd : X.N.Nodup) (I : Inv X pins σ H s) (hi : PI X tg iter wi) (bo : BlkOk X.N X.env.scope scope own)
    (gg : InBlk X scope fun Y => PG Y tg g) (gk : InBlk X scope fun Y => PE Y kx tk) (gv : InBlk X scope fun Y => PE Y vx tv) (fs : ∀ x, foldedSetIterable iter X.env x = pure x) (h : tDcT wi g tk tv (own.map (·.2)) σ H Q) (fin : DcEnd X pins σ use Q Qf) :
    wpAny (model X.prog X.w) X.A (comprehension (.DictComp kx vx [⟨tg, iter, [], 0⟩] scope pos) scope X.env at_ newDict false (eval iter X.env) use) Qf X.xe s := by
  have cells : ∀ y ∈ scope.names, y.2 = .free → ∃ c, X.env.cells.lookup y.1 = some c := fun y my ey => by
    rcases bo.free y my ey with z | z
    · exact I.ok.has _ (.inl z)
    · exact I.ok.has _ (.inr z)
  refine wpAny_comprehension_free (use := use) rfl fs (closure_ok cells) bo.kind (fun y my ey => by rw [bo.uniq y my, ey]) (thn (hi.run pins s σ H _ I h) fun xv s1 h1 => thn h1 fun itv s2 h2 => ?_)
  obtain ⟨r, fp, tn, J, H2, rfl, I2, T, st2, ff2, q⟩ := h2
  refine wpAny_newObj_type (newEnv_comp ?_)
  obtain ⟨D, eD⟩ : ∃ D, s2.heap.objs.size = D := ⟨_, rfl⟩
  have nD : H2 D = none := I2.hok.fresh (Nat.le_of_eq eD)
  obtain ⟨W, ⟨m0, w0⟩, turn⟩ := q D nD
  have kp3 : ∀ b o, s2.heap.get? b = some o → (s2.heap.push { cls := .type "dict", data := .dict #[] }).get? b = some o := fun b o e => Heap.get?_push_of_some _ e
  have J3 : Inv X pins σ (upd H2 D (.dT [])) { s2 with heap := s2.heap.push { cls := .type "dict", data := .dict #[] } } := by
    rw [← eD]
    exact I2.laid (t' := s2.toks) kp3 (Nat.le_refl _) (dt_empty s2.heap I2.big)
  have ff3 : ∀ b ∈ fp, FpOk X pins (upd H2 D (.dT [])) b ∧ b < (s2.heap.push { cls := .type "dict", data := .dict #[] }).objs.size := fun b mb => by
    obtain ⟨o, e, _⟩ := T.obj _ _ st2 b mb
    have l := Heap.lt_size e
    refine ⟨⟨?_, (ff2 b mb).2⟩, by rw [Heap.size_push]; exact Nat.lt_succ_of_lt l⟩
    rw [upd_ne (by rw [← eD]; exact Nat.ne_of_lt l)]
    exact (ff2 b mb).1
  have st3 := T.keep _ _ _ st2 fun b _ o e => kp3 b o e
  rw [eD]
  generalize e3 : ({ s2 with heap := s2.heap.push { cls := .type "dict", data := .dict #[] } } : Shared) = t3 at J3 ⊢
  have hp3 : t3.heap = s2.heap.push { cls := .type "dict", data := .dict #[] } := by rw [← e3]
  rw [← hp3] at ff3 st3
  have B4 := block_start J3 bo nd ff3
  have pg := gg t3 (upd H2 D (.dT [])) t3.heap.objs.size (cellsFrom (t3.heap.objs.size + 1) scope.names (cloFrom X.env.cells scope.names [])) fp
  have pk := gk t3 (upd H2 D (.dT [])) t3.heap.objs.size (cellsFrom (t3.heap.objs.size + 1) scope.names (cloFrom X.env.cells scope.names [])) fp
  have pv := gv t3 (upd H2 D (.dT [])) t3.heap.objs.size (cellsFrom (t3.heap.objs.size + 1) scope.names (cloFrom X.env.cells scope.names [])) fp
  have lift4 : tn 0 (pushCells (t3.heap.push { cls := .type "dict", data := .dict #[] }) scope.names) := T.keep _ _ _ st3 fun b _ o e => pushCells_keeps _ _ _ _ (Heap.get?_push_of_some _ e)
  obtain ⟨ce, hce⟩ : ∃ ce, compEnvC scope (cellsFrom (t3.heap.objs.size + 1) scope.names (cloFrom X.env.cells scope.names [])) t3.heap.objs.size X.env = ce := ⟨_, rfl⟩
  have cl : ce.locals = t3.heap.objs.size := by rw [← hce]; rfl
  rw [hce] at B4 pg pk pv
  obtain ⟨G, hG⟩ : ∃ G, upd H2 D (.dT []) = G := ⟨_, rfl⟩
  rw [hG] at J3 ff3 B4 pg pk pv w0
  have fin0 : ∀ b ∈ fp, G b = none := fun b mb => (ff3 b mb).1.1
  have fpOk : ∀ {τ : L2.St} {K1 : Hp} {t : Shared}, Inv (X.blk t3 G scope ce fp) [] τ K1 t → (∀ b ∈ fp, K1 b = none) → ∀ b ∈ fp, FpOk (X.blk t3 G scope ce fp) [] K1 b := fun {τ K1 t} I' nn b mb => by
    have z := I'.ok.exf b mb
    exact ⟨nn b mb, z.1, I'.ok.exfs b mb, .inl mb, fun x c e => z.2 x c e, fun p mp => nomatch (show p ∈ ([] : List (Addr × Obj)) from mp)⟩
  change codeAny _ _ (.compStart _ 0 (.ref r) (.ref D) (compEnvC scope (cellsFrom (t3.heap.objs.size + 1) scope.names (cloFrom X.env.cells scope.names [])) t3.heap.objs.size X.env)) (compPost _ _ _ use Qf (.ref D) t3.heap.objs.size)
    { t3 with heap := pushCells (t3.heap.push { cls := .type "dict", data := .dict #[] }) scope.names }
  rw [hce]
  replace lift4 : tn 0 ({ t3 with heap := pushCells (t3.heap.push { cls := .type "dict", data := .dict #[] }) scope.names } : Shared).heap := lift4
  generalize ({ t3 with heap := pushCells (t3.heap.push { cls := .type "dict", data := .dict #[] }) scope.names } : Shared) = t4 at B4 lift4 ⊢
  -- the state between two turns, and behind the last one
  let St : Nat → Shared → Prop := fun m t => ∃ i K1, Inv (X.blk t3 G scope ce fp) [] (wipe σ (own.map (·.2))) K1 t ∧ tn i t.heap ∧ (∀ b ∈ fp, K1 b = none) ∧ W i m K1
  have walk : codeAny (model X.prog X.w) X.A (.compLoop (.DictComp kx vx [⟨tg, iter, [], 0⟩] scope pos) 0 (.ref r) (.ref D) ce) (compPost (model X.prog X.w) X.A X.xe use Qf (.ref D) t3.heap.objs.size) t4 := by
    refine compLoop_anyD St ?_ m0 ⟨0, G, B4, lift4, fin0, w0⟩
    rintro m t5 ⟨i, K5, B5, z5, n5, w5⟩
    rcases turn i m K5 w5 with ⟨over, done⟩ | ⟨go, N, less, body⟩
    · refine thnF (T.done (X.blk t3 G scope ce fp) rfl rfl rfl cm i [] t5 _ K5 (fun _ _ => False) B5 (fpOk B5 n5) z5 over) fun rr t6 h6 => ?_
      obtain ⟨rfl, B6⟩ := h6
      have J6 : Inv X pins σ K5 t6 := J3.call' (ch := fp) B6.os B6.base B6.hok B6.bare fun b mb => by
        have z := (ff3 b mb).1.2
        exact ⟨z.2.2.1, z.1, z.2.2.2.1, z.2.2.2.2⟩
      obtain ⟨mm, ns, _⟩ := B6.loc
      replace ns : t6.heap.Ns ce.locals mm := ns
      rw [cl] at ns
      have y0 : K5 t3.heap.objs.size = none := by
        rw [← cl]
        exact B6.free
      exact fin D t3.heap.objs.size t6 mm K5 J6 done ns (J3.fpOk (Nat.le_refl _) y0)
    · refine thnF (T.item (X.blk t3 G scope ce fp) rfl rfl rfl cm i [] t5 _ K5 (fun _ _ => False) B5 (fpOk B5 n5) z5 go) fun rr t6 h6 => ?_
      obtain ⟨u, rfl, h6⟩ := h6
      refine thnF h6 fun _ t7 h7 => ?_
      obtain ⟨x, K7, B7, r7, y7, z7, n7⟩ := h7
      have P7 := B7.pinned (fpOk B7 n7) (T.obj _ _ z7)
      refine thnF (pg.run _ t7 _ K7 x u _ P7 r7 (body x K7 y7)) fun _ t8 h8 => ?_
      obtain ⟨τ, K8, B8, wp8, q8⟩ := h8
      rw [List.forIn_nil]
      refine wpAny_pure ?_
      rw [if_pos rfl]
      refine thnF (pk.run _ t8 τ K8 _ B8 q8) fun ky t9 h9 => ?_
      obtain ⟨yk, K9, B9, r9, q9⟩ := h9
      refine thnF (pv.run _ t9 τ K9 _ B9 q9) fun vz t10 h10 => ?_
      obtain ⟨yv, K10, B10, r10, kvs, k, b, rfl, hb, hD, lt, nx⟩ := h10
      obtain rfl : ky = Value.ref b := r9
      refine putT (X := X.blk t3 G scope ce fp) B10 hu hD hb lt r10 fun t11 B11 => ?_
      obtain ⟨l, ll, wl⟩ := less _ nx
      have pin : ∀ b ∈ fp, ∀ o, t7.heap.get? b = some o → t11.heap.get? b = some o ∧ (upd K10 D (.dT (putK kvs k yv))) b = none := fun b mb o e => by
        have z := B11.pin (b, o) (List.mem_append_right _ (List.mem_append_right _ (mem_pinsAt mb e)))
        exact ⟨z.1, z.2.1⟩
      have len : (wipe σ (own.map (·.2))).length = τ.length := by rw [← wp8, wipe_length]
      refine ⟨l, ll, i + 1, _, (B11.unpinned (pins := [])).weak len (fun j v e => ?_), T.keep _ _ _ z7 fun b mb o e => (pin b mb o e).1, fun b mb => ?_, wl⟩
      · rw [← wp8] at e
        exact (wipe_some e).1
      · obtain ⟨o, e, _⟩ := T.obj _ _ z7 b mb
        exact (pin b mb o e).2
  exact codeAny_compStart_dict walk (T.self X.A 0 _ _ _ lift4 walk)
theorem pe_dcT {kx vx tg iter : Expr} {scope : Scope} {own : List (Str × Nat)} {pos : Pos} {wi : TI} {g : TG} {tk tv : TE} (hu : X.A.units < cLine) (cm : X.calm = true) (nd : X.N.Nodup) (hi : PI X tg iter wi) (bo : BlkOk X.N X.env.scope scope own)
    (gg : InBlk X scope fun Y => PG Y tg g) (gk : InBlk X scope fun Y => PE Y kx tk) (gv : InBlk X scope fun Y => PE Y vx tv) (fs : ∀ x, foldedSetIterable iter X.env x = pure x := by intro _; rfl) :
    PE X (.DictComp kx vx [⟨tg, iter, [], 0⟩] scope pos) (tDcT wi g tk tv (own.map (·.2))) := by
  constructor
  intro pins s σ H Q I h
  rw [arm_eval_DictComp]
  refine dcT_core hu cm nd I hi bo gg gk gv fs h fun D C t m G J q ns fp => ⟨m, ns, fun h2 sb => ?_⟩
  obtain ⟨y0, y1, y2, y3, y4, y5⟩ := fp
  exact ⟨.ref D, G, J.turned (t' := t.toks) (fun b o nb e => (sb.2 b nb).trans e) y0 y1 y3 y4 y5, rfl, q⟩
theorem swD {kx vx : Expr} {gs : List Comprehension} {scope : Scope} {pos py : Pos} {y : Str} {l : Nat} {env : Env} (hk : env.scope.kind = .function) (hy : env.scope.names.lookup y = some .local) (hl : (py.line == pos.line) = true)
    (no : (scope.names.any fun (n, k) => n == y && (k == .local || k == .cell)) = false) : swapsWith (.DictComp kx vx gs scope pos) (some (.Name y py)) l env = pure true := by
  have k1 : env.kindOf y = some .local := hy
  have k2 : env.blockKind = .function := by
    unfold Env.blockKind
    rw [hk]
    rfl
  unfold swapsWith
  simp only [k1, k2, no, hl, Expr.pos]
  rfl
/-- y = {k: v for ..} -/
theorem ps_setDcT {i : Nat} {y : Str} {py : Pos} {kx vx tg iter : Expr} {scope : Scope} {own : List (Str × Nat)} {pos sp : Pos} {wi : TI} {g : TG} {tk tv : TE} (hu : X.A.units < cLine) (cm : X.calm = true) (nd : X.N.Nodup) (hy : X.N[i]? = some y) (yl : X.env.scope.names.lookup y = some .local)
    (sw : swapsWith (.DictComp kx vx [⟨tg, iter, [], 0⟩] scope pos) (some (.Name y py)) sp.line X.env = pure true) (hi : PI X tg iter wi) (bo : BlkOk X.N X.env.scope scope own)
    (gg : InBlk X scope fun Y => PG Y tg g) (gk : InBlk X scope fun Y => PE Y kx tk) (gv : InBlk X scope fun Y => PE Y vx tv) (fs : ∀ x, foldedSetIterable iter X.env x = pure x := by intro _; rfl) :
    PS X (.Assign [.Name y py] (.DictComp kx vx [⟨tg, iter, [], 0⟩] scope pos) sp) (tAsg (tDcT wi g tk tv (own.map (·.2))) (gName i)) := by
  constructor
  intro pins s σ H D I h
  rw [exec_Assign_Name_used _ _ _ _ sw]
  refine wpAny_bind (wpAny_standAt (wpAny_bind ?_))
  show wpAny _ X.A (do let _ ← comprehension (.DictComp kx vx [⟨tg, iter, [], 0⟩] scope pos) scope X.env (firstIterPos [⟨tg, iter, [], 0⟩] pos) newDict false (eval iter X.env) (some (assign (.Name y py) X.env))) _ _ s
  refine wpAny_bind (thn (dcT_core (Qf := fun _ t => SP X pins D .next t) (Q := fun x H1 => gName i x σ H1 D.nx) hu cm nd I hi bo gg gk gv fs h fun L C t m G J q ns fp => ?_) fun _ t e => wpAny_pure (wpAny_pure e))
  show wpAny _ _ (assign (.Name y py) X.env (.ref L)) _ _ _
  refine wpAny_assign_Name (store_ok2 (v := V.ref L) J nd hy (.inl yl) rfl (fun t2 J2 z => ?_) (.inr yl))
  obtain ⟨a, sb, ha⟩ := z
  obtain ⟨y0, y1, y2, y3, y4, y5⟩ := fp
  have nC : C ≠ a := by
    rcases ha with e | ha
    · rw [e]
      exact y1
    · exact fun e => y4 y a ha e.symm
  exact ⟨m, ns.sameBut sb nC, fun h3 sb3 => ⟨_, G, J2.turned (t' := t2.toks) (fun b o nb e => (sb3.2 b nb).trans e) y0 y1 y3 y4 y5, q⟩⟩
end
end Lw
namespace Lw
open PySem PySem.Spec PyProof.Rows L2 Evl
/-! ### sorted(.., key=lambda row: (len(row), row)) -/
/-- what the lambda's names are -/
structure RowS (sc : Scope) (x : Str) : Prop where
  kind : sc.kind = .function
  co : sc.isCoroutine = false
  gen : sc.isGenerator = false
  cell : ∀ y ∈ sc.names, y.2 ≠ .cell
  free : ∀ y ∈ sc.names, y.2 ≠ .free
  par : sc.names.lookup x = some .local
  len : sc.names.lookup ("len" : Str) = some .globalImplicit
theorem rowKey {prog : Program} {w : World} {A : Around} {s : Shared} {f c a : Addr} {ys : Array Value} {ps : Arguments} {sc : Scope} {x q : Str} {pm ct : Value} {cl : List (Str × Addr)} {n : Nat} {p1 p2 p3 p4 p5 : Pos} {mg mb : Str → Option Value} {ds : List PyData}
    (room : A.depth < recursionLimit) (fo : s.heap.get? f = some (PySem.W.kla_obj "<lambda>" q ps (.Tuple [.Call (.Name "len" p1) [.Name x p2] [] p3, .Name x p4] n p5) sc cl pm c ct))
    (co : ∃ (oc : Obj) (vs : Array Value) (t : Tok), s.heap.get? c = some oc ∧ oc.data = .fields vs ∧ vs[1]? = some (.str q t)) (S : RowS sc x)
    (bind : bindArgs (PySem.W.kla_fn "<lambda>" q ps (.Tuple [.Call (.Name "len" p1) [.Name x p2] [] p3, .Name x p4] n p5) sc cl pm (.ref c) ct) ⟨[.ref a], []⟩ = pure [(x, .ref a)])
    (G : s.heap.Ns mainGlobals mg) (gl : mg "len" = none) (B : s.heap.Ns builtinsNs mb) (bl : mb "len" = some (.builtin "len")) (lim : s.heap.NoLimit)
    (ht : IsTup s.heap a ys) (fit : (ys.size : Int) < 2 ^ 63) (rd : Reads s.heap (.ref a) (.tuple ds) []) (xd : (x == ("__debug__" : Str)) = false) :
    wpAny (model prog w) A (call (.ref f) [.ref a]) (PySem.W.KeyPure (.tuple [.int (ys.size : Int), .tuple ds]) s) (fun _ _ => False) s := by
  refine wpAny_call (PySem.W.kla_callFunE room fo rfl S.co S.gen rfl ?_ ?_)
  · obtain ⟨oc, vs, t, h1, h2, h3⟩ := co
    exact ⟨c, oc, vs, t, rfl, h1, h2, h3⟩
  rw [bind]
  refine wpAny_pure (wpAny_newFunctionEnv S.cell (fun y my => ?_) (fun h1 ns sb => ?_) S.kind)
  · rw [List.mem_singleton.mp my]
    exact S.par
  have keep : ∀ b o, s.heap.get? b = some o → h1.get? b = some o := fun b o e => sb.extBut b o (Nat.ne_of_lt (Heap.lt_size e)) (Heap.get?_push_of_some _ e)
  refine ⟨lim.keeps keep, ?_⟩
  generalize ht1 : s.toks + ([(x, Value.ref a)] : List (Str × Value)).length = tk1
  show codeAny _ _ (.expr _ (PySem.W.envX q sc s.heap.objs.size f (.ref c) cl)) _ { s with heap := h1, toks := tk1 }
  refine PySem.W.kla_codeExpr (wpAny_Tuple_spliced ?_)
  have ld : ∀ (E : Value → Shared → Prop) (Q : Value → Shared → Prop) (tk : Tok) (p : Pos), Q (.ref a) { s with heap := h1, toks := tk } →
      wpAny (model prog w) (A.deeper (PySem.W.envX q sc s.heap.objs.size f (.ref c) cl)) (eval (.Name x p) (PySem.W.envX q sc s.heap.objs.size f (.ref c) cl)) Q E { s with heap := h1, toks := tk } := fun E Q tk p hq =>
    wpAny_Name (wpAny_loadName_local S.kind S.par ns (by simp) hq) xd
  refine Calls.spliced_cons (wpAny_Call_Name_kw (Calls.Name_function_global S.kind S.len (Calls.loadGlobal_builtin (G.keeps keep) gl (B.keeps keep) bl ?_) (by decide)))
  refine PyProof.Rows.callWith_builtin1 (Calls.spliced_cons (ld _ _ _ _ (Calls.spliced_nil ?_))) (by rfl) (by rfl)
  refine len_tuple (show IsTup h1 a ys from ?_) fit (Calls.spliced_cons (ld _ _ _ _ (Calls.spliced_nil ⟨by show 2 ≤ sizeLine; decide, ?_⟩)))
  · obtain ⟨o, e, r⟩ := ht
    exact ⟨o, keep _ _ e, r⟩
  have up : ∀ (z : Obj) b o, s.heap.get? b = some o → (h1.push z).get? b = some o := fun z b o e => Heap.get?_push_of_some _ (keep b o e)
  refine ⟨_, _, rfl, up _, ?_⟩
  exact .tuple (Heap.get?_push_size _ rfl) rfl rfl (.cons (.int _ _) (.cons (PyProof.Rows.Reads.keeps (up _) rd) .nil))
end Lw
namespace Lw
open PySem PySem.Spec PyProof.Rows L2 Evl LamX
theorem reads_strs {h : Heap} : ∀ {xs : List Str} {us : List Value}, Vals (xs.map V.str) us → PySem.ReadsAll h us (xs.map PyData.str) []
  | [], _, .nil => .nil
  | x :: xs, _, .cons r t => by
    obtain ⟨tk, rfl⟩ := r
    exact .cons (.str x tk) (reads_strs t)
theorem reads_tup {P : Program} {w : World} {H : Hp} {h : Heap} (ok : HOk P w H h) {a : Addr} {xs : List Str} (e : H a = some (.tup (xs.map V.str))) :
    ∃ ys : Array Value, IsTup h a ys ∧ ys.size = xs.length ∧ xs.length ≤ sizeLine ∧ Reads h (.ref a) (.tuple (xs.map PyData.str)) [] := by
  obtain ⟨le, its, r, o, e1, e2, n, e3⟩ := ok a _ e
  rw [List.length_map] at le
  have z := r.length
  rw [List.length_map] at z
  exact ⟨its.toArray, ⟨o, e1, e2, n, e3⟩, by rw [List.size_toArray, ← z], le, .tuple e1 e2 e3 (by simpa using reads_strs r)⟩
/-- all but the table at P stands, and nothing that was there is free -/
def ExtP (P : Addr) (H H2 : Hp) : Prop := (∀ b o, b ≠ P → H b = some o → H2 b = some o) ∧ ∀ b, H2 b = none → H b = none
theorem ExtP.trans {P : Addr} {H H2 H3 : Hp} (a : ExtP P H H2) (b : ExtP P H2 H3) : ExtP P H H3 := ⟨fun c o n e => b.1 c o n (a.1 c o n e), fun c e => a.2 c (b.2 c e)⟩
theorem ExtP.of {P : Addr} {H H2 : Hp} (e : Ex H H2) : ExtP P H H2 := ⟨fun c o _ q => e c o q, fun c q => fresh_back e q⟩
theorem ExtP.nt {P : Addr} {H H2 : Hp} {q : Str} (x : ExtP P H H2) (t : TabS H P q) {b : Addr} {o : HO} (e : H b = some o) (n : ∀ ps, o ≠ .tbl ps) : H2 b = some o := x.1 b o (fun z => by
  obtain ⟨ps, h, _⟩ := t
  rw [z, h] at e
  exact n ps (Option.some.inj e).symm) e
section
variable {X : Cx} {pins : List (Addr × Obj)} {σ : L2.St} {H : Hp} {s : Shared}
/-- a lambda that captures nothing is made -/
theorem mkLam {T : List (Addr × Str)} {c P : Addr} {ps : Arguments} {body : Expr} {sc : Scope} {pos : Pos} {E : Value → Shared → Prop} {Q : Value → Shared → Prop} (I : Inv X pins σ H s) (TB : TabB X.base X.mg c P) (hc : X.env.code = .ref c)
    (hm : (P, X.env.qual ++ "<lambda>") ∈ T) (hu : ∀ z ∈ T, z.1 = P → z.2 = X.env.qual ++ "<lambda>") (t : Tabs T H) (df : defaultsOf ps X.env = ([], [])) (nf : ∀ y ∈ sc.names, y.2 ≠ .free)
    (q : ∀ (f c2 : Addr) (pm ct : Value) (H2 : Hp) (s2 : Shared), Inv X pins σ H2 s2 → ExtP P H H2 → Tabs T H2 →
      s2.heap.get? f = some (PySem.W.kla_obj "<lambda>" (X.env.qual ++ "<lambda>") ps body sc (cloFrom X.env.cells sc.names []) pm c2 ct) → H2 c2 = some (CodeO c2 (X.env.qual ++ "<lambda>")) → Q (.ref f) s2) :
    wpAny (model X.prog X.w) X.A (eval (.Lambda ps body sc pos) X.env) Q E s := by
  obtain ⟨arr, hP, tr, all⟩ := t _ hm
  have clo : closureFor sc X.env = pure (cloFrom X.env.cells sc.names []) := closure_ok fun y my ey => absurd ey (nf y my)
  have gk := I.mod.glob.keeps I.bk
  have bk := TB.bm.keeps I.bk
  have oP : s.heap.get? P = some { cls := .none, data := .fields arr } := I.hok P _ hP
  refine PySem.W.kla_eval df ?_
  rcases hcode : codeAmong pos arr.toList with _ | cv
  · refine PySem.W.kla_makeFunction (mg := X.mg) (c := c) (P := P) (ps := arr) clo I.ok.glob gk hc (TB.code.keeps I.bk) oP tr hcode TB.gP bk fun c2 ct h2 tk eb ge lt rec2 tab => ?_
    obtain ⟨_, oc, vs, tt, z, o1, o2, o3⟩ := rec2
    cases z
    have nc : H c2 = none := I.hok.fresh ge
    have pc : P ≠ c2 := ne_of_none hP nc
    have J := inv_table (t' := tk) (more := #[rawInt pos.line, rawInt pos.col, .ref c2]) (q := X.env.qual ++ "<lambda>") (h' := h2.push (PySem.W.kla_obj "<lambda>" (X.env.qual ++ "<lambda>") ps body sc (cloFrom X.env.cells sc.names []) ((X.mg "__name__").getD .none) c2 ct)) I hP
      (fun b o nb e => Heap.get?_push_of_some _ (eb b o nb e)) (Heap.get?_push_of_some _ tab) ge ⟨oc, vs, tt, Heap.get?_push_of_some _ o1, o2, o3⟩
    have st : ∀ b o, b ≠ P → H b = some o → (upd (upd H P (.tbl (arr ++ #[rawInt pos.line, rawInt pos.col, .ref c2]))) c2 (CodeO c2 (X.env.qual ++ "<lambda>"))) b = some o := fun b o nb e => by
      rw [upd_ne (ne_of_none e nc), upd_ne nb]
      exact e
    have fr : ∀ b, (upd (upd H P (.tbl (arr ++ #[rawInt pos.line, rawInt pos.col, .ref c2]))) c2 (CodeO c2 (X.env.qual ++ "<lambda>"))) b = none → H b = none := fun b e => by
      by_cases n1 : b = c2
      · rw [n1]
        exact nc
      · rw [upd_ne n1] at e
        by_cases n2 : b = P
        · rw [n2, upd_same] at e
          cases e
        · rwa [upd_ne n2] at e
    have li : (arr ++ #[rawInt pos.line, rawInt pos.col, .ref c2]).toList = arr.toList ++ [rawInt pos.line, rawInt pos.col, .ref c2] := by simp
    refine q _ c2 _ ct _ _ J ⟨st, fr⟩ (fun z hz => ?_) (Heap.get?_push_size _ rfl) upd_same
    by_cases e : z.1 = P
    · rw [hu z hz e, e]
      refine ⟨_, by rw [upd_ne pc, upd_same], by rw [li]; exact PySem.TriplesOk_snoc _ _ _ _ tr, fun p2 cv hcv => ?_⟩
      rw [li] at hcv
      rcases among_app _ tr hcv with y | y
      · obtain ⟨c0, rfl, z2⟩ := all p2 cv y
        exact ⟨c0, rfl, st _ _ (fun y => by rw [y, hP] at z2; cases z2) z2⟩
      · exact ⟨c2, y, upd_same⟩
    · obtain ⟨arr2, a1, a2, a3⟩ := t z hz
      refine ⟨arr2, st _ _ e a1, a2, fun p2 cv hcv => ?_⟩
      obtain ⟨c0, rfl, z2⟩ := a3 p2 cv hcv
      exact ⟨c0, rfl, st _ _ (fun y => by rw [y, hP] at z2; cases z2) z2⟩
  · obtain ⟨c2, rfl, co⟩ := all pos cv hcode
    refine PySem.W.kla_makeFunctionHit (mg := X.mg) (c := c) (P := P) (ps := arr) clo I.ok.glob gk hc (TB.code.keeps I.bk) oP tr hcode bk fun ct h2 tk kp le => ?_
    exact q h2.objs.size c2 _ ct H _ (I.kept fun b o e => Heap.get?_push_of_some _ (kp b o e)) (.of (Ex.refl H)) t (Heap.get?_push_size _ rfl) co
end
/-- sorted(e, key=lambda row: (len(row), row)), e a list of tuples of texts -/
def tSortRow (K : PySem.W.Frag) (T : List (Addr × Str)) (P : Addr) (te : TE) : TE := fun σ H Q => te σ H fun v H1 => Tabs T H1 ∧ ∃ l ws, v = .ref l ∧ LW K H1 l ws ∧ ws.length ≤ 100000 ∧
  ∀ r H2, ExtP P H1 H2 → Tabs T H2 → H1 r = none → LW K H2 r (ws.mergeSort (PySem.W.dataLe false kW)) → Q (.ref r) H2
theorem depth_strs : ∀ xs : List Str, PyData.depthAll (xs.map PyData.str) = 0
  | [] => rfl
  | x :: xs => by simp [PyData.depthAll, PyData.depth, depth_strs xs]
theorem depth_kW (xs : List Str) : (kW xs).depth ≤ 2 := by
  simp [kW, wD, PyData.depth, PyData.depthAll, depth_strs]
/-- a word, as it stands among the values -/
def WR (H : Hp) (v : Value) (xs : List Str) : Prop := ∃ a, v = .ref a ∧ H a = some (.tup (xs.map V.str))
theorem wr_of {K : PySem.W.Frag} {H : Hp} : ∀ {us : List V} {ws : List (List Str)} {vs : List Value}, Paired (Wd K H) us ws → Vals us vs → PySem.W.EachIs (WR H) vs ws
  | _, _, _, .nil, .nil => .nil
  | _, _, _, .cons r t, .cons rv tv => by
    obtain ⟨a, rfl, e⟩ := r
    obtain rfl : _ = Value.ref a := rv
    exact .cons ⟨a, rfl, e⟩ (wr_of t tv)
theorem wr_back {K : PySem.W.Frag} {H : Hp} : ∀ {vs : List Value} {ws : List (List Str)}, PySem.W.EachIs (WR H) vs ws → ∃ us, Vals us vs ∧ Paired (Wd K H) us ws
  | _, _, .nil => ⟨[], .nil, .nil⟩
  | _, _, .cons r t => by
    obtain ⟨us, h1, h2⟩ := wr_back (K := K) t
    obtain ⟨a, rfl, e⟩ := r
    exact ⟨.ref a :: us, .cons rfl h1, .cons ⟨a, rfl, e⟩ h2⟩
section
variable {X : Cx}
theorem pe_sortRow {K : PySem.W.Frag} {T : List (Addr × Str)} {te : TE} {c P : Addr} {e : Expr} {ps : Arguments} {sc : Scope} {x : Str} {n : Nat} {p p1 p2 p3 p4 p5 lp kp pos : Pos} (gd : Gl X "sorted") (gm : X.mg "sorted" = none) (gl : X.mg "len" = none) (he : PE X e te)
    (TB : TabB X.base X.mg c P) (hc : X.env.code = .ref c) (hm : (P, X.env.qual ++ "<lambda>") ∈ T) (hu : ∀ z ∈ T, z.1 = P → z.2 = X.env.qual ++ "<lambda>") (room : X.A.depth < recursionLimit) (un : X.A.units + 64 < cLine) (S : RowS sc x)
    (df : defaultsOf ps X.env = ([], [])) (xd : (x == ("__debug__" : Str)) = false)
    (bind : ∀ (q : Str) (cl : List (Str × Addr)) (pm ct : Value) (c a : Addr), bindArgs (PySem.W.kla_fn "<lambda>" q ps (.Tuple [.Call (.Name "len" p1) [.Name x p2] [] p3, .Name x p4] n p5) sc cl pm (.ref c) ct) ⟨[.ref a], []⟩ = pure [(x, .ref a)])
    (hK : X.K = K := by rfl)
    (h1 : backTo pos (starEach [e] X.env) = [(false, eval e X.env)] := by rfl) :
    PE X (.Call (.Name "sorted" p) [e] [⟨some "key", .Lambda ps (.Tuple [.Call (.Name "len" p1) [.Name x p2] [] p3, .Name x p4] n p5) sc lp, kp⟩] pos) (tSortRow K T P te) := by
  subst hK
  constructor
  intro pins s σ H Q I h
  refine wpAny_Call_Name_kw (ld_blt I gd gm PyProof.Rows.boot_sorted ?_)
  refine PyProof.Rows.callWith_kw (e := e) (rest := []) ?_ h1 (by rw [h1]; rfl) (by rfl) (by rfl)
  rw [h1]
  refine Calls.spliced_cons (thn (he.run pins s σ H _ I h) fun u s1 h2 => Calls.spliced_nil ?_)
  obtain ⟨v, H1, I1, rv, t1, l, ws, rfl, lw, lz, q⟩ := h2
  obtain rfl : u = Value.ref l := rv
  show wpAny _ _ (evalAll [do let v ← eval (.Lambda _ _ sc lp) X.env; standAt pos; pure v]) _ _ s1
  refine PyProof.Rows.evalAll_cons (wpAny_bind (mkLam I1 TB hc hm hu t1 df S.free fun f c2 pm ct H2 s2 I2 eN t2 fo hco => wpAny_bind (wpAny_standAt (wpAny_pure ?_))))
  refine wpAny_evalAll_nil ?_
  show wpAny _ _ (call (.builtin "sorted") [.ref l] [(Str.ofString "key", .ref f)]) _ _ s2
  obtain ⟨us, hl, hp⟩ := lw
  have hl2 : H2 l = some (.lst us) := eN.nt (t1 _ hm) hl fun ps z => nomatch z
  have hp2 : Paired (Wd X.K H2) us ws := paired_mono (fun v ys r => by
    obtain ⟨a, rfl, ea⟩ := r
    exact ⟨a, rfl, eN.nt (t1 _ hm) ea fun ps z => nomatch z⟩) hp
  obtain ⟨zl, its, ep, rel, ho⟩ := I2.hok l _ hl2
  have e := wr_of hp2 rel
  obtain ⟨mb, b1, b2⟩ := I2.mod.blt
  refine PySem.W.sorted_key_data (R := WR H2) (b := false) kW ⟨_, ho, rfl, ep, rfl⟩ e (alike_kW ws) (sortable_kW ws) (sz_of lz) (fun ys _ => by have := depth_kW ys; omega) (PyProof.Rows.ksk_s1 _ _) (fun _ => PyProof.Rows.ksk_l1 _ _) (fun _ => PyProof.Rows.ksk_t1 _ _)
    (fun v ys r _ h3 tk kp => ?_) (fun out cnt h3 tk kp fr hD _ eo => ?_)
  · obtain ⟨a, rfl, ea⟩ := r
    obtain ⟨arr, ht, hs, le, rd⟩ := reads_tup I2.hok ea
    have line := line63
    have co := (I2.hok c2 _ hco).1
    have z := rowKey (prog := X.prog) (w := X.w) (A := X.A.in1.in1) (s := { s2 with heap := h3, toks := tk }) (ds := ys.map PyData.str) room (kp _ _ fo) (by
      obtain ⟨oc, vs, t, z1, z2, z3⟩ := co
      exact ⟨oc, vs, t, kp _ _ z1, z2, z3⟩) S (bind _ _ _ _ _ _) ((I2.mod.glob.keeps I2.bk).keeps kp) gl ((b1.keeps I2.bk).keeps kp) ((b2 "len" (by decide)).trans (by decide +kernel)) (I2.nolimit.keeps kp) (ht.keeps kp) (by omega) (PyProof.Rows.Reads.keeps kp rd) xd
    rw [hs] at z
    exact z
  · obtain ⟨us2, v2, w2⟩ := wr_back (K := X.K) eo
    have hn : H2 (s2.heap.objs.size + 1) = none := I2.hok.fresh (Nat.le_succ _)
    have len : us2.length ≤ sizeLine := by
      rw [Paired.length w2, List.length_mergeSort]
      exact sz_of lz
    refine ⟨.ref _, upd H2 (s2.heap.objs.size + 1) (.lst us2), I2.laid (t' := tk) kp (Nat.le_succ _) ⟨len, out, cnt, v2, hD⟩, rfl, q _ _ (eN.trans (.of (Ex.new hn))) (t2.ext (Ex.new hn)) ?_ ⟨us2, upd_same, ?_⟩⟩
    · exact eN.2 _ hn
    · exact paired_mono (fun _ _ r => wd_mono (Ex.new hn) r) w2
end
end Lw
namespace Lw
open PySem PySem.Spec PyProof.Rows L2 Evl
section
variable {K : PySem.W.Frag}
/-- a tuple of words -/
def TW (K : PySem.W.Frag) (H : Hp) (l : Addr) (ws : List (List Str)) : Prop := ∃ us, H l = some (.tup us) ∧ Paired (Wd K H) us ws
section
variable {σ : L2.St} {H : Hp} {te ta tb : TE} {tk : TA} {l : Addr} {ws us : List (List Str)}
/-- an expression that gives a list, or a tuple, of words -/
def EvSW (K : PySem.W.Frag) (te : TE) (σ : L2.St) (H : Hp) (ws : List (List Str)) : Prop := ∀ H1, Ex H H1 → ∀ Q : VK, (∀ l H2, Ex H1 H2 → LW K H2 l ws ∨ TW K H2 l ws → Q (.ref l) H2) → te σ H1 Q
theorem esw_var (h : Ev te σ H (.ref l)) (hl : LW K H l ws) : EvSW K te σ H ws := fun H1 e Q q => h H1 e _ fun H2 e2 => q l H2 e2 (.inl (lw_mono (e.trans e2) hl))
theorem esw_new (h : EvLW K te σ H ws) : EvSW K te σ H ws := fun H1 e Q q => h H1 e _ fun l H2 _ e2 hl => q l H2 e2 (.inl hl)
theorem esw_tup {K' : PySem.W.Frag} (h : Ev te σ H (.ref l)) (hl : LW K H l ws) : EvSW K (tCB (fun xs H Q => ∃ p ys, xs = [V.ref p] ∧ ((SqL K' H p ys ∧ ∀ l, H l = none → Q (V.ref l) (upd H l (.tup ys))) ∨ (SqT K' H p ys ∧ Q (V.ref p) H))) (tCons te tNil)) σ H ws := fun H1 e Q q => h H1 e _ fun H2 e2 => by
  obtain ⟨us, h1, h2⟩ := lw_mono (e.trans e2) hl
  exact ⟨l, us, rfl, .inl ⟨SqL.of h1, fun t ht => q t _ (e2.trans (Ex.new ht)) (.inr ⟨us, upd_same, paired_mono (fun _ _ r => wd_mono (Ex.new ht) r) h2⟩)⟩⟩
theorem esw_revcat {K' : PySem.W.Frag} {a b : Addr} (ha : Ev ta σ H (.ref a)) (hb : Ev tb σ H (.ref b)) (h1 : LW K H a us) (h2 : LW K H b ws) (hz : us.length + ws.length ≤ 100000) : EvSW K (tOp rCat (tRevL K' ta) tb) σ H (us.reverse ++ ws) := fun H1 e Q q => ha H1 e _ fun H2 e2 => by
  obtain ⟨vs, v1, v2⟩ := lw_mono (e.trans e2) h1
  refine ⟨a, vs, rfl, SqL.of v1, fun p hp => hb _ ((e.trans e2).trans (Ex.new hp)) _ fun H3 e3 => ?_⟩
  obtain ⟨zs, z1, z2⟩ := lw_mono (((e.trans e2).trans (Ex.new hp)).trans e3) h2
  have l1 := Paired.length v2
  have l2 := Paired.length z2
  refine ⟨p, b, vs.reverse, zs, rfl, rfl, e3 _ _ upd_same, z1, sz_of (by rw [List.length_reverse]; omega), fun t ht => q t _ (((e2.trans (Ex.new hp)).trans e3).trans (Ex.new ht)) (.inl ⟨_, upd_same, ?_⟩)⟩
  exact paired_mono (fun _ _ r => wd_mono (Ex.new ht) r) (paired_app (paired_mono (fun _ _ r => wd_mono ((Ex.new hp).trans e3) r) (paired_rev v2)) z2)
theorem elw_nil : EvLW K (tLst tNil) σ H [] := fun H1 e Q q => ⟨Nat.zero_le _, fun p hp => q p _ hp (Ex.new hp) ⟨[], upd_same, .nil⟩⟩
theorem ev_neLW {a b : Addr} (ha : Ev ta σ H (.ref a)) (hb : Ev tb σ H (.ref b)) (h1 : LW K H a ws) (h2 : LW K H b ws) (hw : ∀ x ∈ ws, isW x = true) : Ev (tOp (rNeD K) ta tb) σ H (.bl false) := ev_op ha hb (rv_val fun H1 e Q q => by
  obtain ⟨vs, v1, v2⟩ := lw_mono e h1
  obtain ⟨zs, z1, z2⟩ := lw_mono e h2
  have sh := shaped_wDs hw
  refine ⟨.list (ws.map wD), .list (ws.map wD), .lst (SqL.of v1) (dpa_words v2), .lst (SqL.of z1) (dpa_words z2), sh, sh, ?_⟩
  rw [SeqAt.eqv_refl _ (SeqAt.canLay_of_shaped sh)]
  exact q)
variable {xs ys : List Str}
/-- a list of two such tuples -/
theorem elw_two (ha : EvW K ta σ H xs) (hb : EvW K tb σ H ys) : EvLW K (tLst (tCons ta (tCons tb tNil))) σ H [xs, ys] := fun H1 e Q q => ha H1 e _ fun x H2 e2 hx => hb H2 (e.trans e2) _ fun y H3 e3 hy =>
  ⟨(by show 2 ≤ sizeLine; decide), fun p hp => q p _ (fresh_back (e2.trans e3) hp) ((e2.trans e3).trans (Ex.new hp)) ⟨[x, y], upd_same, .cons (wd_mono (e3.trans (Ex.new hp)) hx) (.cons (wd_mono (Ex.new hp) hy) .nil)⟩⟩
theorem et_neS {x y : Str} (ha : Ev ta σ H (.str x)) (hb : Ev tb σ H (.str y)) : EvT (tTest (tOp rNe ta tb)) σ H (!decide (x = y)) := by
  have z := et_test (ev_op ha hb (rv_ne (H := H) (x := .str x) (y := .str y) rfl))
  rw [show decide (V.str x = V.str y) = decide (x = y) from decide_eq_decide.mpr ⟨fun e => by injection e, fun e => by rw [e]⟩] at z
  exact z
theorem et_neSS {x : Str} (ha : Ev ta σ H (.str x)) (hb : Ev tb σ H (.str x)) : EvT (tTest (tOp rNe ta tb)) σ H false := by
  have z := et_neS ha hb
  rw [decide_eq_true rfl] at z
  exact z
end
end
end Lw
namespace Rm
open PySem PySem.Spec PyProof.Rows L2 Lw Evl LamX
/-! ### what stands while tables of code objects grow, and pots turn -/
structure Zn where
  T : List (Addr × Str)
  M : Addr → Prop
abbrev Z0 (T : List (Addr × Str)) : Zn := ⟨T, fun _ => False⟩
abbrev Zp (T : List (Addr × Str)) (p : Addr) : Zn := ⟨T, fun a => a = p⟩
def Ok (Z : Zn) (H : Hp) : Prop := Tabs Z.T H ∧ ∀ a, Z.M a → Po a H
def NT (o : HO) : Prop := ∀ ps, o ≠ .tbl ps
theorem nt_lst {xs : List V} : NT (.lst xs) := fun _ z => nomatch z
theorem nt_tup {xs : List V} : NT (.tup xs) := fun _ z => nomatch z
theorem nt_frz {o : Obj} {u : HO} : NT (.frz o u) := fun _ z => nomatch z
theorem nt_dT {kvs : List (List L2.Key × V)} : NT (.dT kvs) := fun _ z => nomatch z
theorem nt_dK {kvs : List (L2.Key × V)} : NT (.dK kvs) := fun _ z => nomatch z
theorem nt_ins {C d : Addr} {fs : List (Str × V)} : NT (.ins C d fs) := fun _ z => nomatch z
theorem nt_own {x : Addr} : NT (.own x) := fun _ z => nomatch z
/-- nothing stands there, but a table at most -/
def Fr (H : Hp) (x : Addr) : Prop := ∀ o, H x = some o → ¬ NT o
theorem fr_none {H : Hp} {x : Addr} (h : H x = none) : Fr H x := fun o e => by rw [h] at e; cases e
theorem fr_ne {H : Hp} {x b : Addr} {o : HO} (h : Fr H x) (e : H b = some o) (n : NT o) : b ≠ x := fun z => by
  rw [z] at e
  exact h o e n
structure R (Z : Zn) (H H2 : Hp) : Prop where
  a : Ok Z H
  b : Ok Z H2
  st : ∀ x o, H x = some o → NT o → ¬ Z.M x → H2 x = some o
section
variable {Z : Zn} {H H1 H2 H3 : Hp} {x p : Addr} {o u : HO} {K : PySem.W.Frag}
theorem R.refl (h : Ok Z H) : R Z H H := ⟨h, h, fun _ _ e _ _ => e⟩
theorem R.trans (r : R Z H H1) (q : R Z H1 H2) : R Z H H2 := ⟨r.a, q.b, fun x o e n m => q.st x o (r.st x o e n m) n m⟩
theorem R.fr (r : R Z H H1) (h : Fr H1 x) : Fr H x := fun o e n => by
  by_cases m : Z.M x
  · obtain ⟨i, j, q, _⟩ := r.b.2 x m
    exact h _ q nt_lst
  · exact h o (r.st x o e n m) n
theorem po_ex (e : Ex H H1) (h : Po p H) : Po p H1 := by
  obtain ⟨i, j, q, z⟩ := h
  exact ⟨i, j, e _ _ q, z⟩
theorem R.of (h : Ok Z H) (e : Ex H H1) : R Z H H1 := ⟨h, ⟨h.1.ext e, fun a m => po_ex e (h.2 a m)⟩, fun x o q _ _ => e x o q⟩
theorem R.ex (r : R Z H H1) (e : Ex H1 H2) : R Z H H2 := r.trans (.of r.b e)
theorem R.new (r : R Z H H1) (h : H1 p = none) : R Z H (upd H1 p o) := r.ex (.new h)
theorem Ok.nm (h : Ok Z H) (e : H x = some o) (n : ∀ xs, o ≠ .lst xs) : ¬ Z.M x := fun m => by
  obtain ⟨i, j, q, _⟩ := h.2 x m
  rw [e] at q
  exact n _ (Option.some.inj q)
theorem Ok.fresh (h : Ok Z H) (e : Fr H x) : ¬ Z.M x := fun m => by
  obtain ⟨i, j, q, _⟩ := h.2 x m
  exact e _ q nt_lst
theorem R.tup {us : List V} (r : R Z H H1) (h : H x = some (.tup us)) : H1 x = some (.tup us) := r.st x _ h nt_tup (r.a.nm h fun _ z => nomatch z)
theorem R.frz {w : Obj} (r : R Z H H1) (h : H x = some (.frz w u)) : H1 x = some (.frz w u) := r.st x _ h nt_frz (r.a.nm h fun _ z => nomatch z)
theorem R.lst {us : List V} (r : R Z H H1) (h : H x = some (.lst us)) (n : ¬ Z.M x) : H1 x = some (.lst us) := r.st x _ h nt_lst n
/-- an object that was not there may change; it is no table and no code object -/
def Pl : HO → Prop
  | .tbl _ => False
  | .ext _ => False
  | _ => True
theorem R.mut (r : R Z H H1) (h : Fr H p) (h1 : H1 p = some u) (pl : Pl u) : R Z H (upd H1 p o) := by
  have np : ¬ Z.M p := r.a.fresh h
  refine ⟨r.a, ⟨fun z hz => ?_, fun a m => ?_⟩, fun x v e n m => ?_⟩
  · obtain ⟨ps, e1, e2, e3⟩ := r.b.1 z hz
    have n1 : z.1 ≠ p := fun y => by
      rw [y, h1] at e1
      cases Option.some.inj e1
      exact pl
    refine ⟨ps, by rw [upd_ne n1]; exact e1, e2, fun q v hv => ?_⟩
    obtain ⟨c, y, e4⟩ := e3 q v hv
    refine ⟨c, y, ?_⟩
    rw [upd_ne fun y2 => by
      rw [y2, h1] at e4
      cases Option.some.inj e4
      exact pl]
    exact e4
  · obtain ⟨i, j, q, z⟩ := r.b.2 a m
    exact ⟨i, j, by rw [upd_ne fun y => np (by rw [← y]; exact m)]; exact q, z⟩
  · rw [upd_ne (fr_ne h e n)]
    exact r.st x v e n m
theorem R.lam (h : Ok Z H) (e : ExtN H H1) (t : Tabs Z.T H1) : R Z H H1 :=
  ⟨h, ⟨t, fun a m => by
    obtain ⟨i, j, y, z⟩ := h.2 a m
    exact ⟨i, j, e _ _ y nt_lst, z⟩⟩, fun x o y n _ => e _ _ y n⟩
theorem R.lamP {P : Addr} {q : Str} (h : Ok Z H) (hm : (P, q) ∈ Z.T) (e : ExtP P H H1) (t : Tabs Z.T H1) : R Z H H1 :=
  ⟨h, ⟨t, fun a m => by
    obtain ⟨i, j, y, z⟩ := h.2 a m
    exact ⟨i, j, e.nt (h.1 _ hm) y nt_lst, z⟩⟩, fun x o y n _ => e.nt (h.1 _ hm) y n⟩
theorem Tabs.po {T : List (Addr × Str)} (t : Tabs T H) (h : Po p H) (x : Xp p H H1) : Tabs T H1 := fun z hz => by
  obtain ⟨i, j, q, _⟩ := h
  obtain ⟨ps, e1, e2, e3⟩ := t z hz
  refine ⟨ps, x.1 _ _ (fun y => by rw [y, q] at e1; cases e1) e1, e2, fun a v hv => ?_⟩
  obtain ⟨c, y, e4⟩ := e3 a v hv
  exact ⟨c, y, x.1 _ _ (fun y => by rw [y, q] at e4; cases e4) e4⟩
theorem R.xp {T : List (Addr × Str)} (t : Tabs T H) (h : Po p H) (x : Xp p H H1) : R (Zp T p) H H1 :=
  ⟨⟨t, fun a m => by rw [m]; exact h⟩, ⟨Tabs.po t h x, fun a m => by rw [m]; exact x.2⟩, fun a o e _ n => x.1 a o n e⟩
theorem R.sub {T : List (Addr × Str)} (r : R (Z0 T) H H1) (h : Po p H) : R (Zp T p) H H1 :=
  ⟨⟨r.a.1, fun a m => by rw [m]; exact h⟩, ⟨r.b.1, fun a m => by
    obtain ⟨i, j, e, z⟩ := h
    rw [m]
    exact ⟨i, j, r.st _ _ e nt_lst fun y => y, z⟩⟩, fun a o e n _ => r.st a o e n fun y => y⟩
theorem wd_R {v : V} {ys : List Str} (r : R Z H H1) (h : Wd K H v ys) : Wd K H1 v ys := by
  obtain ⟨a, e, h⟩ := h
  exact ⟨a, e, r.tup h⟩
theorem lw_R {l : Addr} {ws : List (List Str)} (r : R Z H H1) (n : ¬ Z.M l) (h : LW K H l ws) : LW K H1 l ws := by
  obtain ⟨us, h1, h2⟩ := h
  exact ⟨us, r.lst h1 n, paired_mono (fun _ _ q => wd_R r q) h2⟩
theorem tw_R {l : Addr} {ws : List (List Str)} (r : R Z H H1) (h : TW K H l ws) : TW K H1 l ws := by
  obtain ⟨us, h1, h2⟩ := h
  exact ⟨us, r.tup h1, paired_mono (fun _ _ q => wd_R r q) h2⟩
end
theorem sql_R {Z : Zn} {H H1 : Hp} {K : PySem.W.Frag} {a : Addr} {ns : List Int} (r : R Z H H1) (h : SqL K H a (ns.map V.int)) (n : ¬ Z.M a := by exact fun z => z) : SqL K H1 a (ns.map V.int) := by
  rcases h with (h | ⟨o, h⟩) | h
  · exact .inl (.inl (r.lst h n))
  · exact .inl (.inr ⟨o, r.frz h⟩)
  · exact .inr h
/-! ### what evaluates to what -/
/-- a value | a truth | a new list of words | a list or tuple of words -/
def Ew (Z : Zn) (te : TE) (σ : L2.St) (H : Hp) (v : V) : Prop := ∀ H1, R Z H H1 → ∀ Q : VK, (∀ H2, R Z H1 H2 → Q v H2) → te σ H1 Q
def Et (Z : Zn) (tt : TT) (σ : L2.St) (H : Hp) (b : Bool) : Prop := ∀ H1, R Z H H1 → ∀ Q : Bool → Hp → Prop, (∀ H2, R Z H1 H2 → Q b H2) → tt σ H1 Q
def Elw (Z : Zn) (K : PySem.W.Frag) (te : TE) (σ : L2.St) (H : Hp) (ws : List (List Str)) : Prop := ∀ H1, R Z H H1 → ∀ Q : VK, (∀ l H2, Fr H1 l → R Z H1 H2 → LW K H2 l ws → Q (.ref l) H2) → te σ H1 Q
def Esw (Z : Zn) (K : PySem.W.Frag) (te : TE) (σ : L2.St) (H : Hp) (ws : List (List Str)) : Prop := ∀ H1, R Z H H1 → ∀ Q : VK, (∀ l H2, R Z H1 H2 → LW K H2 l ws ∨ TW K H2 l ws → Q (.ref l) H2) → te σ H1 Q
section
variable {Z : Zn} {K : PySem.W.Frag} {P : Program} {w : World} {σ : L2.St} {H H1 : Hp} {te ta tb : TE} {tt tu : TT} {v x y : V} {ws : List (List Str)} {b c : Bool} {D : Ends} {tz : TS}
theorem ew_of (h : ∀ H1, R Z H H1 → Ev te σ H1 v) : Ew Z te σ H v := fun H1 r Q q => h H1 r H1 (Ex.refl H1) Q fun H2 e => q H2 (.of r.b e)
theorem et_of (h : ∀ H1, R Z H H1 → EvT tt σ H1 b) : Et Z tt σ H b := fun H1 r Q q => h H1 r H1 (Ex.refl H1) Q fun H2 e => q H2 (.of r.b e)
theorem elw_of (h : ∀ H1, R Z H H1 → EvLW K te σ H1 ws) : Elw Z K te σ H ws := fun H1 r Q q => h H1 r H1 (Ex.refl H1) Q fun l H2 n e => q l H2 (fr_none n) (.of r.b e)
theorem esw_of (h : ∀ H1, R Z H H1 → EvSW K te σ H1 ws) : Esw Z K te σ H ws := fun H1 r Q q => h H1 r H1 (Ex.refl H1) Q fun l H2 e => q l H2 (.of r.b e)
theorem esw_new (h : Elw Z K te σ H ws) : Esw Z K te σ H ws := fun H1 r Q q => h H1 r Q fun l H2 _ r2 z => q l H2 r2 (.inl z)
theorem ew_var {i : Nat} (h : σ[i]? = some (some v)) : Ew Z (tVar i) σ H v := ew_of fun _ _ => ev_var h
theorem ew_c : Ew Z (tC v) σ H v := ew_of fun _ _ => ev_c
theorem ew_op {r : R2} {z : V} (ha : Ew Z ta σ H x) (hb : Ew Z tb σ H y) (hr : ∀ H1, R Z H H1 → RV r x y H1 z) : Ew Z (tOp r ta tb) σ H z := fun H1 e Q q =>
  ha H1 e _ fun H2 e2 => hb H2 (e.trans e2) _ fun H3 e3 => hr H3 ((e.trans e2).trans e3) H3 (Ex.refl H3) Q fun H4 e4 => q H4 ((e2.trans e3).ex e4)
theorem et_test (h : Ew Z te σ H (.bl b)) : Et Z (tTest te) σ H b := fun H1 e _ q => h H1 e _ fun H2 e2 => ⟨b, rfl, q H2 e2⟩
theorem et_not (h : Et Z tt σ H b) : Et Z (tNot tt) σ H (!b) := fun H1 e _ q => h H1 e _ fun H2 e2 => q H2 e2
theorem et_and (h : Et Z tt σ H b) (k : b = true → Et Z tu σ H c) : Et Z (tAnd tt tu) σ H (b && c) := fun H1 e Q q => h H1 e _ fun H2 e2 => by
  cases b with
  | true => exact k rfl H2 (e.trans e2) Q fun H3 e3 => q H3 (e2.trans e3)
  | false => exact q H2 e2
theorem et_or (h : Et Z tt σ H b) (k : b = false → Et Z tu σ H c) : Et Z (tOr tt tu) σ H (b || c) := fun H1 e Q q => h H1 e _ fun H2 e2 => by
  cases b with
  | true => exact q H2 e2
  | false => exact k rfl H2 (e.trans e2) Q fun H3 e3 => q H3 (e2.trans e3)
theorem ew_is (h : Ew Z te σ H x) (e : x = v) : Ew Z te σ H v := e ▸ h
theorem s_ret (o : Ok Z H) (h : Ew Z te σ H v) (k : ∀ H1, R Z H H1 → D.rt v H1) : tRet te D σ H := h H (.refl o) _ k
theorem q_when {tu : TS} (o : Ok Z H) (h : Et Z tt σ H b) (h1 : b = true → ∀ H1, R Z H H1 → tu { D with nx := tz D } σ H1) (h2 : b = false → ∀ H1, R Z H H1 → tz D σ H1) : tSeq (tIfS tt tu tNext) tz D σ H := h H (.refl o) _ fun H1 r => by
  cases b with
  | true => exact h1 rfl H1 r
  | false => exact h2 rfl H1 r
theorem ew_andV {a : Bool} (h : Ew Z ta σ H (.bl a)) (k : a = true → Ew Z tb σ H (.bl b)) : Ew Z (tAndV ta tb) σ H (.bl (a && b)) := fun H1 r Q q => h H1 r _ fun H2 r2 => ⟨a, rfl, by
  cases a with
  | false => exact q H2 r2
  | true => exact k rfl H2 (r.trans r2) Q fun H3 r3 => q H3 (r2.trans r3)⟩
theorem ew_orV {a : Bool} (h : Ew Z ta σ H (.bl a)) (k : a = false → Ew Z tb σ H (.bl b)) : Ew Z (tOrV ta tb) σ H (.bl (a || b)) := fun H1 r Q q => h H1 r _ fun H2 r2 => ⟨a, rfl, by
  cases a with
  | true => exact q H2 r2
  | false => exact k rfl H2 (r.trans r2) Q fun H3 r3 => q H3 (r2.trans r3)⟩
theorem ew_notV {a : Bool} (h : Ew Z ta σ H (.bl a)) : Ew Z (tNotV ta) σ H (.bl (!a)) := fun H1 r _ q => h H1 r _ fun H2 r2 => ⟨a, rfl, q H2 r2⟩
theorem et_B (h : Ew Z te σ H (.bl b)) : Et Z (tB te) σ H b := fun H1 r _ q => h H1 r _ fun H2 r2 => ⟨b, rfl, q H2 r2⟩
/-- a pot that is new, turned -/
theorem R.drop {T : List (Addr × Str)} {p : Addr} {H2 H3 : Hp} (r : R (Z0 T) H H2) (q : R (Zp T p) H2 H3) (n : Fr H p) : R (Z0 T) H H3 :=
  ⟨r.a, ⟨q.b.1, fun _ z => z.elim⟩, fun x o e t _ => q.st x o (r.st x o e t fun z => z) t (fr_ne n e t)⟩
end
end Rm
namespace Lw
open PySem PySem.Spec PyProof.Rows L2
/-- the def at f has the code object c -/
def CodeAt (K : PySem.W.Frag) (f c : Addr) : Prop := ∃ oc od fd osl, K.lookup f = some ⟨oc, od, .func fd, osl⟩ ∧ fd.code = .ref c
/-- fnG, the code object known -/
theorem fnGc {P : Program} {w : World} {K : PySem.W.Frag} {mg : Str → Option Value} {base : Heap} {CX : CXT} {x qual : Str} {params : Arguments} {body : List Stmt} {scope : Scope} {dvs : List V} {kws : List (Str × V)} {f c : Addr} {fd : FuncData} {N ps : List Str} {k : Nat} {sp : Sp}
    (C : CodeAt K f c) (F : FunD K x qual params body scope dvs kws f fd) (S : FnScope N ps scope) (len : ∀ vs H Q E, sp vs H Q E → vs.length = ps.length)
    (walk : ∀ (A : Around) (outer : List Env) (s : Shared) (H : Hp) (vs : List V) (Q : VK) (E : XK), A.guards = some [] → Room k (A.deeper (envOfC qual scope s.heap.objs.size f (.ref c))) → sp vs H Q E →
      ∃ t, PSs (cxOf CX P w K mg base N qual scope f (.ref c) A outer s H E) body t ∧ t { nx := fun _ H' => Q .non H', rt := Q } (start N vs) H) :
    FnG P w K mg base CX (k + 1) f fd ps sp := by
  obtain ⟨_, _, dV, kV, doc, pm, an, cdv, ct, osl, rfl, lk, hcd, _, _⟩ := F.ex
  obtain rfl : cdv = .ref c := by
    obtain ⟨_, _, fd2, _, e1, e2⟩ := C
    rw [lk] at e1
    cases e1
    exact e2
  refine ⟨len, ?_⟩
  intro A outer s H args us vs Q E hg hr e0 hb rv hsp
  have hsz : (us.length = ps.length) := by
    rw [← rv.length]
    exact len _ _ _ _ hsp
  have kIn : K.In s.heap := e0.mod.kin.keeps fun b o e => (e0.bs b o e).1
  have noL : s.heap.NoLimit := e0.mod.nolimit.keeps fun b o e => (e0.bs b o e).1
  refine codeAny_call_function hr.depth (kIn _ _ lk) rfl S.co S.gen rfl (PySem.W.codeRec_of kIn hcd) (hb _ _ _ _ ?_)
  refine wpAny_newFunctionEnv_cells S.kind ?_ ?_
  · rintro ⟨n, v⟩ hm
    cases S.par n (List.of_mem_zip hm).1 with
    | inl q => exact .inl q
    | inr q => exact .inr ⟨q, PySem.W.cellsFrom_some _ _ _ (.inl q)⟩
  · rintro env rfl s1 x
    refine ⟨noL.keeps x.toInCall.keep, codeAny_func ?_⟩
    obtain ⟨t, ht, hq⟩ := walk A outer s H vs Q E hg (hr.deeper _) hsp
    refine wpAny_mono (ht.run [] s1 (start N vs) H _ (inv_start S hr.hd e0 (len _ _ _ _ hsp) rv x) hq) (fun fl s2 hs => ?_) fun _ _ z => z
    cases fl with
    | ret u => exact match hs with
      | ⟨v, _, H', J, r, q⟩ => ⟨v, H', J.os, J.bare, J.base, J.hok, r, q⟩
    | next => exact match hs with
      | ⟨_, H', J, q⟩ => ⟨V.non, H', J.os, J.bare, J.base, J.hok, rfl, q⟩
    | brk => exact match hs with
      | ⟨_, _, _, q⟩ => q.elim
    | cont => exact match hs with
      | ⟨_, _, _, q⟩ => q.elim
end Lw
namespace Lw
open PySem PySem.Spec PyProof.Rows L2 LamX
/-! ### the law's call where tables of code objects stand -/
abbrev tab0 : Obj := { cls := .none, data := .fields #[] }
theorem lawGT {P : Program} {w : World} {K : PySem.W.Frag} {mg mb : Str → Option Value} {k : Nat} {fa a : Addr} {fd : FuncData} {x : Str} {sp : Sp} {s : Shared} {vs : List Value} {ns : List Int} (cs : List (Addr × Addr))
    (KX : K.In s.heap) (hns : s.heap.Ns mainGlobals mg) (hb : s.heap.Ns builtinsNs mb) (hbb : ∀ x : Str, x ≠ "__name__" → mb x = bootBuiltins x) (hlim : s.heap.NoLimit) (hgen : s.gens = #[])
    (tT : ∀ z ∈ cs, s.heap.get? z.2 = some tab0) (tK : ∀ z ∈ cs, K.lookup z.2 = none) (tC : ∀ z ∈ cs, PySem.W.CodeHd s.heap z.1 z.2)
    (bmod : ∃ (m : Addr) (o : Obj), mg "__builtins__" = some (.ref m) ∧ m ≠ builtinsNs ∧ s.heap.get? m = some o ∧ o.cls = .type "module" ∧ o.dict = some builtinsNs ∧ o.data = .plain)
    (ha : s.heap.get? a = some { cls := .type "list", data := .seq vs.toArray }) (hi : IntsAre vs ns) (hl : ns.length ≤ sizeLine) (hr : Room k callerA)
    (F : ∀ base : Heap, K.In base → base.Ns mainGlobals mg → (∀ z ∈ cs, TabB base mg z.1 z.2) → FnG P w K mg base CX0 k fa fd [x] sp) (hbind : ∀ (s : Shared) (u : Value), BindsTo s fd ⟨[u], []⟩ [(x, u)])
    (hsp : ∀ H : Hp, (∀ z ∈ cs, H z.2 = some (.tbl #[])) → SqL K H a (ns.map V.int) → sp [.ref a] H (fun v _ => v = .bl true) E0) :
    codeAny (model P w) callerA (.call (.ref fa) ⟨[.ref a], []⟩) (fun r s' => r = .ok (.ret (.bool true)) ∧ OldK s.heap s'.heap ∧ s'.os = s.os ∧ AllBare s'.gens) s := by
  have rv := vals_ints hi
  have at_ : ∀ b ∈ cs.map (·.2), s.heap.get? b = some tab0 := fun b hb => by
    obtain ⟨z, hz, rfl⟩ := List.mem_map.mp hb
    exact tT z hz
  have na : a ∉ cs.map (·.2) := fun z => by
    have q := at_ a z
    rw [ha] at q
    have q2 : Data.seq vs.toArray 0 = Data.fields #[] := congrArg Obj.data (Option.some.inj q)
    cases q2
  -- a heap H that tracks the tables and, at most, the script
  have go : ∀ H : Hp, (∀ b ∈ cs.map (·.2), H b = some (.tbl #[])) → SqL K H a (ns.map V.int) → HOk P w H s.heap →
      (∀ b u, H b = some u → b ∈ cs.map (·.2) ∨ (b = a ∧ K.lookup a = none ∧ ∃ o xs, u = .frz o (.lst xs))) →
      codeAny (model P w) callerA (.call (.ref fa) ⟨[.ref a], []⟩) (fun r s' => r = .ok (.ret (.bool true)) ∧ OldK s.heap s'.heap ∧ s'.os = s.os ∧ AllBare s'.gens) s := by
    intro H hT hS hok hH
    -- what is neither a list nor an empty record is not tracked
    have off : ∀ {b : Addr} {o : Obj}, s.heap.get? b = some o → (∀ xs n, o.data ≠ .seq xs n) → o.data ≠ .fields #[] → H b = none := fun {b o} e n1 n2 => by
      cases q : H b with
      | none => rfl
      | some u =>
        rcases hH b u q with z | ⟨z, _⟩
        · rw [at_ b z] at e
          cases e
          exact absurd rfl n2
        · rw [z, ha] at e
          cases e
          exact absurd rfl (n1 _ _)
    have offD : ∀ {b : Addr} {o : Obj} {es : Array DictEntry} {n : Nat}, s.heap.get? b = some o → o.data = .dict es n → H b = none := fun e d => off e (fun xs n z => by rw [d] at z; cases z) fun z => by rw [d] at z; cases z
    have nsB : ∀ {b : Addr} {m : Str → Option Value}, s.heap.Ns b m → (hidT s.heap H).Ns b m := fun {b m} z => by
      obtain ⟨o, es, n, e, d, r⟩ := z
      exact ⟨o, es, n, hidT_get e (offD e d), d, r⟩
    have KB : K.In (hidT s.heap H) := fun b o e => hidT_get (KX b o e) (by
      cases q : H b with
      | none => rfl
      | some u =>
        rcases hH b u q with z | ⟨rfl, n, _⟩
        · obtain ⟨y, hy, rfl⟩ := List.mem_map.mp z
          rw [tK y hy] at e
          cases e
        · rw [n] at e
          cases e)
    have md : Mod K mg (hidT s.heap H) := ⟨KB, nsB hns, ⟨mb, nsB hb, hbb⟩, by
      obtain ⟨m, z1, z2⟩ := hlim
      exact ⟨m, nsB z1, z2⟩⟩
    have e0 : Env0 P w K mg (hidT s.heap H) callerA [] s H := ⟨rfl, md, fun b o e => of_hidT e, Nat.le_of_eq (hidT_size _ _), trivial, fun b z => absurd z (List.not_mem_nil), hok, .of_eq hgen⟩
    have TB : ∀ z ∈ cs, TabB (hidT s.heap H) mg z.1 z.2 := fun z hz => by
      refine ⟨?_, ?_, fun y => ?_⟩
      · obtain ⟨o, us, f1, f2, f3, f4, f5, f6, f7, c1, c2, c3, c4, r⟩ := tC z hz
        refine ⟨o, us, f1, f2, f3, f4, f5, f6, f7, hidT_get c1 (off c1 (fun xs n y => by rw [c3] at y; cases y) fun y => ?_), c2, c3, c4, r⟩
        rw [c3] at y
        injection y with y
        rw [y] at c4
        exact absurd c4 (by simp)
      · obtain ⟨m, o, b1, b2, b3, b4, b5, b6⟩ := bmod
        have m1 : m ≠ mainGlobals := fun y => by
          obtain ⟨o2, es, n, e, d, _⟩ := hns
          rw [y, e] at b3
          cases b3
          rw [d] at b6
          cases b6
        have m2 : m ≠ z.2 := fun y => by
          rw [y, tT z hz] at b3
          cases b3
          cases b6
        exact ⟨m, o, b1, b2, m1, m2, hidT_get b3 (off b3 (fun xs n y => by rw [b6] at y; cases y) fun y => by rw [b6] at y; cases y), b4, b5, b6⟩
      · obtain ⟨o2, es, n, e, d, _⟩ := hns
        rw [y, tT z hz] at e
        cases e
        cases d
    refine codeAny_mono ((F _ KB (nsB hns) TB).go (vs := [.ref a]) (us := [.ref a]) rfl hr e0 (hbind s (.ref a)) (.cons rfl .nil) (hsp H (fun z hz => hT _ (List.mem_map.mpr ⟨z, hz, rfl⟩)) hS)) fun r s2 h => ?_
    cases r with
    | error er => exact h.elim
    | ok fl =>
      cases fl with
      | next => exact h.elim
      | brk => exact h.elim
      | cont => exact h.elim
      | ret u =>
        obtain ⟨v, H2, os, bare, un, hok2, rv2, rfl⟩ := h
        obtain rfl : u = Value.bool true := rv2
        have old : ∀ b o, b ∉ cs.map (·.2) → s.heap.get? b = some o → s2.heap.get? b = some o := fun b o n e => by
          cases q : H b with
          | none => exact un.keep b o e q List.not_mem_nil List.not_mem_nil
          | some u =>
            rcases hH b u q with z | ⟨rfl, _, ob, xs, rfl⟩
            · exact absurd z n
            · have z1 := (hok b _ q).1
              have z2 := (hok2 b _ (un.frzs b ob _ q)).1
              rw [z1] at e
              cases e
              exact z2
        have more : ∀ b ∈ cs.map (·.2), ∃ us : Array Value, s2.heap.get? b = some { cls := .none, data := .fields us } := fun b hb => by
          obtain ⟨us, z⟩ := un.tbls b #[] (hT b hb)
          exact ⟨_, hok2 b _ z⟩
        refine ⟨rfl, ⟨fun b o e => ?_, fun b o e => ?_⟩, os, bare⟩
        · by_cases hb : b ∈ cs.map (·.2)
          · obtain ⟨us, z⟩ := more b hb
            rw [at_ b hb] at e
            cases e
            obtain ⟨y, hy, rfl⟩ := List.mem_map.mp hb
            exact .inr (.inl ⟨((tC y hy).tab (tT y hy)).isCodeTable, rfl, #[], us, rfl, by rw [Array.empty_append]; exact z⟩)
          · exact .inl (old b o hb e)
        · by_cases hb : b ∈ cs.map (·.2)
          · obtain ⟨us, z⟩ := more b hb
            exact ⟨_, z⟩
          · exact ⟨o, old b o hb e⟩
  cases hk : K.lookup a with
  | some o =>
    have e := KX a o hk
    rw [ha] at e
    cases e
    refine go (fun b => if b ∈ cs.map (·.2) then some (.tbl #[]) else none) (fun b hb => if_pos hb) (.inr ⟨_, vs.toArray, _, hk, rfl, rfl, rfl, by rw [List.size_toArray, hi.length]; exact hl, by simpa using rv⟩) (fun b u z => ?_) (fun b u z => ?_)
    · by_cases q : b ∈ cs.map (·.2)
      · have z2 := (if_pos q).symm.trans z
        cases z2
        exact at_ b q
      · have z2 := (if_neg q).symm.trans z
        cases z2
    · by_cases q : b ∈ cs.map (·.2)
      · exact .inl q
      · have z2 := (if_neg q).symm.trans z
        cases z2
  | none =>
    refine go (fun b => if b ∈ cs.map (·.2) then some (.tbl #[]) else scr a { cls := .type "list", data := .seq vs.toArray } ns b) (fun b hb => if_pos hb) (.inl (.inr ⟨_, (if_neg na).trans scr_at⟩)) (fun b u z => ?_) (fun b u z => ?_)
    · by_cases q : b ∈ cs.map (·.2)
      · have z2 := (if_pos q).symm.trans z
        cases z2
        exact at_ b q
      · have z2 := (if_neg q).symm.trans z
        by_cases y : b = a
        · subst y
          rw [scr_at] at z2
          cases z2
          exact ⟨ha, by rw [List.length_map]; exact hl, vs, _, rv, ha⟩
        · rw [scr_off y] at z2
          cases z2
    · by_cases q : b ∈ cs.map (·.2)
      · exact .inl q
      · have z2 := (if_neg q).symm.trans z
        by_cases y : b = a
        · subst y
          rw [scr_at] at z2
          cases z2
          exact .inr ⟨rfl, hk, _, _, rfl⟩
        · rw [scr_off y] at z2
          cases z2
/-- the end of a law's row, tables of code objects among the facts that the head tells -/
theorem walkGT {l : PySem.W.OpenLaw} {n k : Nat} {q : Program} {loose : List Str} {XP : (Str → Option Value) → Heap → Prop} {YP : World → Heap → Prop} {d : DefRec} {x : Str}
    (hn : l.most = some n) (hn2 : n ≤ sizeLine) (hdf : d.params.defaults = []) (hr : Room k callerA)
    (F : ∀ (w : World) (mg : Str → Option Value) (fa : Addr) (h : Heap), YP w h → h.Ns mainGlobals mg → mg d.name = some (.ref fa) →
      ∃ (K : PySem.W.Frag) (fd : FuncData) (sp : Sp) (cs : List (Addr × Addr)), K.In h ∧ (∀ z ∈ cs, h.get? z.2 = some tab0) ∧ (∀ z ∈ cs, K.lookup z.2 = none) ∧ (∀ z ∈ cs, PySem.W.CodeHd h z.1 z.2) ∧ (∀ (s : Shared) (u : Value), BindsTo s fd ⟨[u], []⟩ [(x, u)]) ∧
        (∀ (H : Hp) (a : Addr) (ns : List Int), ns.length ≤ n → (∀ z ∈ cs, H z.2 = some (.tbl #[])) → SqL K H a (ns.map V.int) → sp [.ref a] H (fun v _ => v = .bl true) E0) ∧
        ∀ base : Heap, K.In base → base.Ns mainGlobals mg → (∀ z ∈ cs, TabB base mg z.1 z.2) → FnG l.prog w K mg base CX0 k fa fd [x] sp) :
    PySem.W.WalkO q loose XP YP l.row.toRowW d [] (fun f vs => PySem.call f vs) := by
  refine Att.attach_call hn hdf fun w s₀ s₁ mg mb fa o pm cd doc a vs ns G Y ho hd hcd hmg hobj hints hlen hg => ?_
  obtain ⟨K, fd, sp, cs, KX, t1, t2, t3, hb, hsp, hF⟩ := F w mg fa _ Y G.T.g hmg
  exact lawGT cs KX G.T.g G.T.b G.T.builtins G.T.nolimit hg t1 t2 t3 G.T.bmain hobj hints (Nat.le_trans hlen hn2) hr hF hb fun H hT hS => hsp H a ns hlen hT hS
/-- the code object of a def, as the head tells it -/
theorem codeAt_of {K : PySem.W.Frag} {x qual : Str} {ps : Arguments} {body : List Stmt} {sc : Scope} {dvs : List V} {kws : List (Str × V)} {fd : FuncData} {p : Str × Option Str} (F : FunD K x qual ps body sc dvs kws (He.fAd K p) fd) : CodeAt K (He.fAd K p) (He.codeOf K p) := by
  obtain ⟨oc, od, dV, kV, doc, pm, an, cdv, ct, osl, rfl, lk, hcd, _, _⟩ := F.ex
  obtain ⟨c, rfl⟩ := He.codeIn_ref hcd
  exact ⟨_, _, _, _, lk, (congrArg Value.ref (He.codeOf_eq lk rfl)).symm⟩
end Lw
namespace Lw
open PySem PySem.Spec PyProof.Rows L2 Evl
/-! ### a def of the top that may let errors out -/
def CalO (P : Program) (w : World) (K : PySem.W.Frag) (mg : Str → Option Value) (base : Heap) (CX : CXT) (k : Nat) (x : Str) (ps : List Str) (sp : Sp) : Prop :=
  ∃ f fd, mg x = some (.ref f) ∧ PySem.W.keepIn K (.ref f) = true ∧ Binds K fd ps [] ∧ (∀ (ws : List Value) (s : Shared), ws.length = ps.length → BindsTo s fd ⟨[], ps.reverse.zip ws⟩ (ps.zip ws.reverse)) ∧ FnOk P w K mg base CX k f fd ps sp
def tCallRE (sp : Sp) (E : XK) (tk : TA) : TE := fun σ H Q => tk σ H fun vs H1 => sp vs.reverse H1 Q E
section
variable {X : Cx} {CX : CXT} {k : Nat} {x : Str} {ps : List Str} {sp : Sp} {p pos : Pos} {e : Expr} {es : List Expr} {kws : List Keyword} {t tk : TA} {E : XK}
theorem pe_calO (C : CalO X.prog X.w X.K X.mg X.base CX k x ps sp) {j : Nat} (hr : Room j X.A) (hx : Passes CX X E) (ha : PA X (e :: es) t) (hj : k ≤ j := by decide) (hg : Gl X x := by rfl) (hdb : (x == ("__debug__" : Str)) = false := by decide)
    (he : starEach (e :: es) X.env = (false, eval e X.env) :: starEach es X.env := by rfl) (hpl : (backTo pos (starEach es X.env)).any (·.1) = false := by rfl) : PE X (.Call (.Name x p) (e :: es) [] pos) (tCall sp [] E t) := by
  obtain ⟨f, fd, hm, hk, hb, _, F⟩ := C
  exact pe_call F (hr.mono hj) hg hm hk hb .nil hx ha hdb he hpl
theorem pe_calOR (C : CalO X.prog X.w X.K X.mg X.base CX k x ps sp) {j : Nat} (hr : Room j X.A) (hx : Passes CX X E) (hkw : PK X kws tk) (hj : k ≤ j := by decide) (hg : Gl X x := by rfl) (hdb : (x == ("__debug__" : Str)) = false := by decide)
    (hall : (backToKw pos (keywordEach kws X.env)).all (·.1.isSome) = true := by rfl) (hks : (backToKw pos (keywordEach kws X.env)).filterMap (·.1) = ps.reverse := by rfl)
    (hpl : ((backTo pos (starEach [] X.env)).any (·.1) || (backToKw pos (keywordEach kws X.env)).any (·.1.isNone)) = false := by rfl) : PE X (.Call (.Name x p) [] kws pos) (tCallRE sp E tk) := by
  obtain ⟨f, fd, hm, hk, _, hb, F⟩ := C
  constructor
  intro pins s σ H Q I h
  refine wpAny_Call_Name_kw (ld_glob I hg hm ?_ hdb)
  refine PySem.W.callWith_KW0 (h₀ := X.base) I.ok.mod.kin hk hall ?_ hpl
  refine thn (hkw.run pos pins s σ H _ I h) fun ws s2 hh => ?_
  obtain ⟨zs, H2, I2, rz, q⟩ := hh
  refine ⟨I2.kIn, ?_⟩
  rw [hks]
  have hl : zs.length = ps.length := by
    have z := F.len _ _ _ _ q
    rw [List.length_reverse] at z
    exact z
  refine wpAny_call (codeAny_mono (F.run _ _ _ _ _ _ _ _ _ (hr.mono hj) I2.env0 (hb ws s2 (rz.length.symm.trans hl)) (Vals.reverse rz) q) fun r s3 hq => ?_)
  cases r with
  | error er => exact hx pins σ _ s2 er s3 I2 hq
  | ok fl =>
    cases fl with
    | ret u => exact I2.after hq
    | next => exact hq.elim
    | brk => exact hq.elim
    | cont => exact hq.elim
end
section
variable {P : Program} {w : World} {K : PySem.W.Frag} {mg : Str → Option Value} {base : Heap} {CX : CXT} {x qual : Str} {params : Arguments} {body : List Stmt} {scope : Scope} {dvs : List V} {kws : List (Str × V)} {f c : Addr} {fd : FuncData} {N ps : List Str} {k : Nat} {sp : Sp}
/-- a def by its body -/
theorem fnO (F : FunD K x qual params body scope dvs kws f fd) (S : FnScope N ps scope) (len : ∀ vs H Q E, sp vs H Q E → vs.length = ps.length)
    (walk : ∀ (cdv : Value) (A : Around) (outer : List Env) (s : Shared) (H : Hp) (vs : List V) (Q : VK) (E : XK), Room k (A.deeper (envOfC qual scope s.heap.objs.size f cdv)) → sp vs H Q E →
      ∃ t, PSs (cxOf CX P w K mg base N qual scope f cdv A outer s H E) body t ∧ t { nx := fun _ H' => Q .non H', rt := Q } (start N vs) H) : FnOk P w K mg base CX (k + 1) f fd ps sp := by
  obtain ⟨_, _, dV, kV, doc, pm, an, cdv, ct, osl, rfl, lk, hcd, _, _⟩ := F.ex
  exact fn_of lk hcd S len (walk cdv)
/-- .. its code object known -/
theorem fnOc (C : CodeAt K f c) (F : FunD K x qual params body scope dvs kws f fd) (S : FnScope N ps scope) (len : ∀ vs H Q E, sp vs H Q E → vs.length = ps.length)
    (walk : ∀ (A : Around) (outer : List Env) (s : Shared) (H : Hp) (vs : List V) (Q : VK) (E : XK), Room k (A.deeper (envOfC qual scope s.heap.objs.size f (.ref c))) → sp vs H Q E →
      ∃ t, PSs (cxOf CX P w K mg base N qual scope f (.ref c) A outer s H E) body t ∧ t { nx := fun _ H' => Q .non H', rt := Q } (start N vs) H) : FnOk P w K mg base CX (k + 1) f fd ps sp := by
  obtain ⟨_, _, dV, kV, doc, pm, an, cdv, ct, osl, rfl, lk, hcd, _, _⟩ := F.ex
  obtain rfl : cdv = .ref c := by
    obtain ⟨_, _, fd2, _, e1, e2⟩ := C
    rw [lk] at e1
    cases e1
    exact e2
  exact fn_of lk hcd S len walk
end
/-! ### raise C(e) -/
/-- C.__init__(self, f): self.f = f -/
def spIx (f : Str) (C : Addr) : Sp := fun vs H Q _ => ∃ (a : Addr) (y : V), vs = [.ref a, y] ∧ H a = some (exo a C none) ∧ ∀ dx, H dx = none → dx ≠ a → Q .non (upd (upd H dx (exd dx [(f, y)])) a (exo a C (some dx)))
/-- a class of the top whose instances keep one value, and are raised -/
structure XRz (P : Program) (w : World) (K : PySem.W.Frag) (mg : Str → Option Value) (base : Heap) (k : Nat) (x : Str) (C : Addr) (f : Str) : Prop where
  g : mg x = some (.ref C)
  ox : OexC K C
  ini : ∃ fI fd, PySem.W.findIn K (.ref C) "__init__" = some (some (.ref fI)) ∧ PySem.W.typeIn K (.ref fI) = some (.type "function") ∧ FnOk P w K mg base CX0 k fI fd ["self", f] (spIx f C) ∧ Binds K fd ["self", f] []
/-- an error of the class at C goes out, with v; all else stands -/
def Rz (C : Addr) (f : Str) (v : V) (H : Hp) (E : XK) : Prop := ∀ d H', Ex H H' → H' d = some (.xd [(f, v)]) → E (.ref C) (some d) H'
def tRz (C : Addr) (f : Str) (W : WX) (te : TE) : TS := fun _ σ H => te σ H fun v H1 => Rz C f v H1 fun cls d H' => W cls d σ H'
theorem PE.wk {X : Cx} {e : Expr} {te : TE} (he : PE X e te) : PE X e (fun σ H Q => ∃ R : VK, te σ H R ∧ ∀ v H1, R v H1 → Q v H1) :=
  ⟨fun pins s σ H Q I h => by
    obtain ⟨R, h, m⟩ := h
    refine wpAny_mono (he.run pins s σ H R I h) (fun u s1 hh => ?_) (fun _ _ z => z)
    obtain ⟨x, H1, I1, r1, q1⟩ := hh
    exact ⟨x, H1, I1, r1, m _ _ q1⟩⟩
theorem ps_rz {X : Cx} {W : WX} {k : Nat} {x : Str} {C : Addr} {f : Str} {e : Expr} {te : TE} {p pos pos' : Pos} (T : XRz X.prog X.w X.K X.mg X.base k x C f) {j : Nat} (hr : Room j X.A) (hc : X.calm = true) (tk : Takes X W) (he : PE X e te) (hj : k + 1 ≤ j := by decide)
    (hg : Gl X x := by rfl) (hdb : (x == ("__debug__" : Str)) = false := by decide) (h1 : starEach [e] X.env = (false, eval e X.env) :: starEach [] X.env := by rfl) (h2 : (backTo pos (starEach [] X.env)).any (·.1) = false := by rfl) :
    PS X (.Raise (some (.Call (.Name x p) [e] [] pos)) none pos') (tRz C f W te) := by
  obtain ⟨fI, fd, hi, ti, F, hb⟩ := T.ini
  have z := ps_raise (pos := pos') hc tk (pmk_oex (p := p) (pos := pos) T.ox hi ti F (hr.mono hj) hb .nil pass0 hg T.g (pa_cons (PE.wk he) pa_nil h1) hdb h1 h2)
  refine ⟨fun pins s σ H D I h => z.run pins s σ H D I ⟨_, h, fun v H1 r => ⟨by show 1 ≤ 1000; decide, fun a na => ⟨a, v, rfl, upd_same, fun dx nd ne => ⟨rfl, dx, [(f, v)], upd_same, ?_, ?_, ?_⟩⟩⟩⟩⟩
  · rw [upd_ne ne, upd_same]
  · by_cases q : dx = a
    · exact absurd q ne
    · rw [upd_ne q] at nd
      exact nd
  · have nd' : H1 dx = none := by
      rw [upd_ne ne] at nd
      exact nd
    refine r dx _ (fun b o eb => ?_) upd_same
    have n1 : b ≠ dx := ne_of_none eb nd'
    have n2 : b ≠ a := ne_of_none eb na
    rw [upd_ne n1, del_ne n2, upd_ne n2, upd_ne n1, upd_ne n2]
    exact eb
end Lw
namespace Lw
open PySem PySem.Spec PyProof.Rows L2 Evl
open LwX (XC XF)
/-! ### try: .. except C1 as n: .. except C2 as n: ..; what comes behind the clauses that are told is never reached -/
abbrev HS := Addr → Value → Option Addr → TS
def offD (i : Nat) (D : Ends) : Ends := { nx := fun σ H => D.nx (σ.set i none) H, rt := D.rt, bk := fun σ H => D.bk (σ.set i none) H, ct := fun σ H => D.ct (σ.set i none) H }
def wA (K : PySem.W.Frag) (i : Nat) (D : Ends) : List (Value × HS) → WX
  | [] => fun _ _ _ _ => False
  | q :: r => fun cls d σ H => ∃ b, PySem.W.exmOne K cls q.1 = some b ∧ (b = true → ∀ a, H a = none → q.2 a cls d (offD i D) (σ.set i (some (.ref a))) H) ∧ (b = false → wA K i D r cls d σ H)
inductive HdA (X : Cx) (n : Str) : List ExceptHandler → List (Value × HS) → Prop
  | rest (l : List ExceptHandler) : HdA X n l []
  | cons {x : Str} {cv : Value} {th : HS} {st : Stmt} {ss : List Stmt} {p1 p2 : Pos} {l : List ExceptHandler} {r : List (Value × HS)} (named : Names X x cv)
      (body : ∀ (a : Addr) (ob : Obj) (cls : Value) (d : Option Addr) (pn : List (Addr × Obj)), Zc cls d ob → (∃ vs, ob.data = .fields vs) → PSs (X.suite a ((a, ob) :: pn)) (st :: ss) (th a cls d)) (more : HdA X n l r) :
      HdA X n (.ExceptHandler (some (.Name x p1)) (some n) (st :: ss) p2 :: l) ((cv, th) :: r)
theorem ps_tryA {X : Cx} {n : Str} {i : Nat} {bd : List Stmt} {h0 : ExceptHandler} {hl : List ExceptHandler} {r0 : List (Value × HS)} {pos : Pos} {tb : WX → TS} (st : X.stack = X.env :: X.outer) (lf : X.env.frame = some X.env.locals) (nd : X.N.Nodup) (ni : X.N[i]? = some n) (nl : X.env.kindOf n = some .local)
    (hb : ∀ (W : WX) (pn : List (Addr × Obj)) (xe : Value → Shared → Prop), Takes (X.tr pn xe) W → PassesOwn (model X.prog X.w) X.A X.env xe → PSs (X.tr pn xe) bd (tb W)) (hh : HdA X n (h0 :: hl) r0) :
    PS X (.Try bd (h0 :: hl) [] [] pos) (fun D σ H => tb (wA X.K i D r0) D σ H) := by
  constructor
  intro pins s σ H D I h
  have ok := I.ok
  have fr : X.A.frames = some (X.env :: X.outer) := by rw [ok.frames, st]
  have lo : Loc X.env.scope n := .inl nl
  refine wpAny_Try_except ?_
  have run := (hb (wA X.K i D r0) (X.pn ++ pins) (fun e s1 => wpAny (model X.prog X.w) X.A (noteFrame e X.env) (fun _ s2 => wpAny (model X.prog X.w) X.A (setFlight e none) (fun _ s3 =>
    wpAny (model X.prog X.w) X.A (handleBy e X.env (h0 :: hl)) (SP X pins D) X.xe s3) X.xe s2) X.xe s1) (fun u s2 xx => ?_) PassesOwn.looking).run [] s σ H D (I.toTry _) h
  · refine wpAny_mono run (fun f s1 z => ?_) (fun _ _ z => z)
    rcases f with _ | _ | _ | u
    · obtain ⟨σ2, H2, J2, q2⟩ := z
      exact wpAny_execs_nil ⟨σ2, H2, J2.ofTry ok, q2⟩
    all_goals first
      | (obtain ⟨σ2, H2, J2, q2⟩ := z; exact ⟨σ2, H2, J2.ofTry ok, q2⟩)
      | (obtain ⟨v2, σ2, H2, J2, r2, q2⟩ := z; exact ⟨v2, σ2, H2, J2.ofTry ok, r2, q2⟩)
  · obtain ⟨a, B, sI, pin2, τ, G, cls, d, rfl, J0, nb, up, sky, na, os, ag, w⟩ := xx
    have J : Inv X pins τ G sI := J0.ofTry ok
    rw [show (X.tr (X.pn ++ pins) _).stack = X.env :: X.outer from st] at sky
    show wpAny (model X.prog X.w) X.A (noteFrame (.ref a) X.env) _ _ _
    refine Sky.land Zc.steady fr lf sky fun h3 fl up3 => ?_
    have away : ∀ {h : Heap} {o : Obj} {vs : Array Value}, h.FunFrames B (X.env :: X.outer) → h.get? a = some o → o.data = .fields vs → a ∉ frs (X.env :: X.outer) := fun {h o vs} ff e y m => by
      obtain ⟨_, o2, e2, no⟩ := ff.mem m
      rw [e] at e2
      cases e2
      exact no _ y
    obtain ⟨o3, v3, e3, z3, d3⟩ := fl.there
    have out := away fl.2.2.1 e3 d3
    have aL : a ≠ X.env.locals := fun y => out (List.mem_filterMap.mpr ⟨X.env, List.mem_cons_self, by rw [lf, y]⟩)
    have aF : a ∉ X.fs := fun y => by
      obtain ⟨e, me, q⟩ := List.mem_filterMap.mp y
      exact out (List.mem_filterMap.mpr ⟨e, List.mem_cons_of_mem _ me, q⟩)
    have J3 : Inv X pins τ G { s2 with heap := h3 } := J.landed nb fl.1 (up.trans up3) os ag
    have S3 := J3.suite e3 d3 na aL aF
    clear h hb
    suffices go : ∀ (l : List ExceptHandler) (r : List (Value × HS)), HdA X n l r → wA X.K i D r cls d τ G → wpAny (model X.prog X.w) X.A (handleBy (.ref a) X.env l) (SP X pins D) X.xe { s2 with heap := h3 } from go _ _ hh w
    intro l r hk
    induction hk with
    | rest l => exact fun y => y.elim
    | @cons x cv th st ss p1 p2 l r named body more ih =>
      intro y
      obtain ⟨b, hm, yes, no⟩ := y
      refine wpAny_handleBy_cons (codeAny_handlers_test ?_) (by intro q; cases q)
      have look : PySem.W.Looks (model X.prog X.w) h3 (typeOf (.ref a)) cls := fun A Q E s k q => wpAny_typeOf_ref (k _ _ e3) (by rw [z3.1]; exact q)
      have asks := PySem.W.exm_one (M := model X.prog X.w) J3.kIn look hm
      have name : ∀ {Q E : Value → Shared → Prop}, Q cv { s2 with heap := h3 } → wpAny (model X.prog X.w) (X.A.mark (some (.ref a))) (eval (.Name x p1) X.env) Q E { s2 with heap := h3 } := fun {Q E} q => by
        obtain ⟨g1, g2, g3 | ⟨g3, g4, g5⟩⟩ := named
        · exact ld_glob (X := X.suite a ((a, o3) :: (X.pn ++ pins))) S3 g1 g3 q g2
        · exact ld_blt (X := X.suite a ((a, o3) :: (X.pn ++ pins))) S3 g1 g3 g4 q g5 g2
      refine name (asks.here ?_)
      cases b with
      | false => exact ih (no rfl)
      | true =>
        refine codeAny_handlers_suite_as (HandSPX.lands_againZ fl fun h4 fl4 up4 => ?_)
        obtain ⟨o4, v4, e4, z4, d4⟩ := fl4.there
        have J4 : Inv X pins τ G { s2 with heap := h4 } := J.landed nb fl4.1 ((up.trans up3).trans up4) os ag
        refine store_ok (X := X.suite a ((a, o4) :: (X.pn ++ pins))) (v := .ref a) (J4.suite e4 d4 na aL aF) nd ni lo rfl (fun s5 S5 => ?_) (.inr nl)
        refine wpAny_mono ((body a o4 cls d (X.pn ++ pins) z4 ⟨_, d4⟩).run [] s5 _ G _ S5 (yes rfl a na)) (fun f s6 z => ?_) (fun _ _ z => False.elim z)
        have close : ∀ {τ6 : L2.St} {H6 : Hp} {Q : Shared → Prop}, Inv (X.suite a ((a, o4) :: (X.pn ++ pins))) [] τ6 H6 s6 → (∀ s7, Inv X pins (τ6.set i none) H6 s7 → Q s7) →
            wpAny (model X.prog X.w) X.A (do bindName X.env n .none; unbindBehindTheSuite X.env n p2) (fun _ s7 => Q s7) X.xe s6 := fun {τ6 H6 Q} S6 q => gone_ok (S6.unsuite ok) nd ni nl q
        rcases f with _ | _ | _ | u
        all_goals first
          | (obtain ⟨τ6, H6, S6, q6⟩ := z; exact close S6 fun s7 J7 => ⟨_, _, J7, q6⟩)
          | (obtain ⟨v6, τ6, H6, S6, r6, q6⟩ := z; exact close S6 fun s7 J7 => ⟨_, _, _, J7, r6, q6⟩)
/-! ### isinstance(e, c) of the caught one -/
def rIsC (K : PySem.W.Frag) (cls : Value) (d : Option Addr) (a : Addr) : List V → Hp → VK → Prop := fun xs H Q => ∃ (D dd : Addr) (fs : List (Str × V)) (c : V) (cv : Value) (b : Bool), xs = [.ref a, c] ∧ cls = .ref D ∧ d = some dd ∧ H dd = some (.xd fs) ∧ XC K D ∧
  (∀ u, RelV c u → u = cv) ∧ PySem.W.kitOne K (.ref D) cv = some b ∧ Q (.bl b) H
theorem call_isC {X : Cx} {a : Addr} {cls : Value} {d : Option Addr} {ob : Obj} {pn : List (Addr × Obj)} (hz : Zc cls d ob) (hf : ∃ vs, ob.data = .fields vs) : CallR (X.suite a ((a, ob) :: pn)) (.builtin "isinstance") (rIsC X.K cls d a) := by
  intro pins s σ H xs us Q I r h
  obtain ⟨D, dd, fs, c, cv, b, rfl, rfl, rfl, hd, T, hcv, e, q⟩ := h
  cases r with
  | cons rx rr =>
    cases rr with
    | cons rt rr =>
      cases rr
      cases rx
      have ec := hcv _ rt
      subst ec
      obtain ⟨hget, _⟩ := I.pin (a, ob) (List.mem_append.mpr (.inl List.mem_cons_self))
      obtain ⟨vs, hv⟩ := hf
      have hx : ObjOk X.prog X.w H s.heap dd (.xd fs) := I.hok dd _ hd
      obtain ⟨mA, hns, _⟩ := hx
      obtain ⟨od, ho, _⟩ := lookIn_ns hns
      have J : PySem.W.InstAt s.heap a ob D (some od) := ⟨hget, hz.1, by unfold PySem.W.notCls; rw [hv] <;> rfl, by rw [hz.2]; exact ho⟩
      have hcl : (PySem.W.clsIn X.K D).isSome = true := by
        obtain ⟨cd, hc, _⟩ := PySem.W.any_some T.hd
        rw [hc]
        rfl
      exact PySem.W.kia_one (PySem.W.kitx_exc hcl T.ga T.gg T.sub T.cl T.gt T.tk T.mo) I.kIn J e (fun z => nomatch z) fun tk => ⟨.bl b, H, I.kept (t' := tk) fun _ _ z => z, rfl, q⟩
/-- a suite that is never reached -/
theorem pss_dead {X : Cx} {ss : List Stmt} : PSs X ss (fun _ _ _ => False) := ⟨fun _ _ _ _ _ _ z => z.elim⟩
end Lw
namespace Lw
open PySem PySem.Spec PyProof.Rows L2 Evl
/-- wherever H is kept, v is read as d, and repr shows it so -/
def Sw (P : Program) (w : World) (H : Hp) (v : V) (d : PyData) : Prop :=
  ∀ h : Heap, HOk P w H h → ∀ u : Value, RelV v u → (∃ as, Reads h u d as) ∧ ∃ bs, ReadAtMost h d.depth bs ∧ ReprK P w bs h d.depth u d.shown
section
variable {P : Program} {w : World} {H : Hp}
theorem sw_of {v : V} {d : PyData} (r : Rw P w H v d) (hs : d.showable = true) (hz : d.shown.length ≤ sizeLine) : Sw P w H v d := fun h hok u q => by
  obtain ⟨as, r1, r2⟩ := r h hok u q
  exact ⟨⟨as, r1⟩, ReprK.of_reads r1 hs r2 hz⟩
theorem sw_all {h : Heap} (hok : HOk P w H h) : ∀ {vs : List V} {ds : List PyData} {us : List Value}, Paired (Sw P w H) vs ds → Vals vs us →
    (∃ as, ReadsAll h us ds as) ∧ ∃ bs, ReadAtMost h (PyData.depthAll ds) bs ∧ ReprAllK P w bs h (PyData.depthAll ds) us (PyData.shownAll ds)
  | _, _, _, .nil, .nil => ⟨⟨_, .nil⟩, [], (fun _ z => nomatch z), by simp only [PyData.shownAll]; exact .nil⟩
  | _, _, _, .cons (b := d) (l₂ := ds) r t, .cons q s => by
    obtain ⟨⟨as, r1⟩, b1, m1, k1⟩ := r h hok _ q
    obtain ⟨⟨bs, r2⟩, b2, m2, k2⟩ := sw_all hok t s
    refine ⟨⟨_, .cons r1 r2⟩, b1 ++ b2, ?_, ?_⟩
    · simp only [PyData.depthAll]
      exact (m1.mono (Nat.le_max_left _ _)).append (m2.mono (Nat.le_max_right _ _))
    · simp only [PyData.depthAll, PyData.shownAll]
      exact .cons ((k1.more fun b z => List.mem_append_left _ z).level_le (Nat.le_max_left _ _)) (k2.more_le (fun b z => List.mem_append_right _ z) (Nat.le_max_right _ _))
theorem sw_lst {a : Addr} {vs : List V} {ds : List PyData} (e : H a = some (.lst vs)) (hp : Paired (Sw P w H) vs ds) : Sw P w H (.ref a) (.list ds) := fun h hok u q => by
  cases (show u = Value.ref a from q)
  obtain ⟨_, its, n, rv, ho⟩ : vs.length ≤ sizeLine ∧ ∃ (its : List Value) (n : Nat), Vals vs its ∧ h.get? a = some { cls := .type "list", data := .seq its.toArray n } := hok a _ e
  obtain ⟨⟨as, ra⟩, bs, hb, hk⟩ := sw_all hok hp rv
  have rd : Reads h (.ref a) (.list ds) _ := .list ho rfl rfl (by simpa using ra)
  refine ⟨⟨_, rd⟩, a :: bs, ?_, ?_⟩
  · exact ReadAtMost.cons rd (by simp only [PyData.depth]; omega) hb
  · have na : a ∉ bs := not_mem_of_deeper rd (by simp only [PyData.depth]; omega) hb
    simp only [PyData.depth, PyData.shown]
    cases its with
    | nil =>
      cases rv
      cases hp
      simp only [PyData.shownAll, listText_nil]
      exact (ReprK.listEmpty ho rfl rfl)
    | cons x l => exact ReprK.list ho rfl rfl na (by simpa using hk.length_eq) (fun i y z => hk.item i y (by simpa using z))
end
def rReprS (P : Program) (w : World) : List V → Hp → VK → Prop := fun xs H Q => ∃ (p : Addr) (vs : List V) (ds : List PyData), xs = [.ref p] ∧ H p = some (.lst vs) ∧ Paired (Sw P w H) vs ds ∧
  (listText (PyData.shownAll ds)).length ≤ sizeLine ∧ PyData.depthAll ds ≤ 40 ∧ Q (.str (listText (PyData.shownAll ds))) H
theorem call_reprS {P : Program} {w : World} {X : Cx} (gd : X.A.guards = some []) (hu : X.A.units + 64 < cLine) (hP : X.prog = P := by rfl) (hw : X.w = w := by rfl) : CallR X (.builtin "repr") (rReprS P w) := by
  subst hP hw
  intro pins s σ H xs us Q I r h
  obtain ⟨p, vs, ds, rfl, e, hp, hz, hd, q⟩ := h
  cases r with
  | cons rx rr =>
    cases rr
    cases rx
    obtain ⟨_, its, n, rv, ho⟩ : vs.length ≤ sizeLine ∧ ∃ (its : List Value) (n : Nat), Vals vs its ∧ s.heap.get? p = some { cls := .type "list", data := .seq its.toArray n } := I.hok p _ e
    obtain ⟨⟨as, ra⟩, bs, hb, hk⟩ := sw_all I.hok hp rv
    have na : p ∉ bs := not_mem_of_deeper (.list ho rfl rfl ra) (by simp only [PyData.depth]; omega) hb
    have ty : s.TypeIs (.ref p) "list" := ⟨_, ho, rfl⟩
    refine call_repr_slot (by omega) ty F.slot_list_repr.toG ?_
    have out : ∀ h2 u tk, (∀ b o, s.heap.get? b = some o → h2.get? b = some o) → EP X pins σ Q (.str (listText (PyData.shownAll ds)) u) { s with heap := h2, toks := tk } :=
      fun h2 u tk k => ⟨.str (listText (PyData.shownAll ds)), H, I.kept k, ⟨u, rfl⟩, q⟩
    cases its with
    | nil =>
      cases rv
      cases hp
      simp only [PyData.shownAll, listText_nil] at out
      exact call_list_repr_empty ty ho rfl ⟨_, _, rfl, out s.heap _ _ fun _ _ z => z⟩
    | cons x l =>
      exact call_list_reprK ho rfl rfl na (by simpa using hk.length_eq) (fun i y z => hk.item i y (by simpa using z)) gd (fun b _ => Clear.nil b) (by show X.A.units + 1 + _ < cLine; omega) (fun _ _ z => z) (fun h2 u tk k => ⟨_, _, rfl, out h2 u tk k⟩) hz
end Lw
namespace Lw
open PySem PySem.Spec PyProof.Rows L2 Evl TL
/-! ### a dict of words -/
theorem dc_it {J : It} {n : Nat} {G : Hp → Prop} {Y : Nat → Hp → V → Hp → Prop} (wk : Walk J n G Y) {g : TG} {tk tv : TE} {ws : List Nat} {σ : L2.St} {H1 : Hp} {D : Addr} {Qd : Hp → Prop} (Pv : Nat → Hp → Prop) (h0 : Pv 0 (upd H1 D (.dT []))) (hG : ∀ i H, i ≤ n → Pv i H → G H)
    (hs : ∀ i x H H2, i < n → Pv i H → Y i H x H2 → g x (wipe σ ws) H2 fun τ H3 => wipe τ ws = wipe σ ws ∧ tk τ H3 fun y H4 => tv τ H4 fun z H5 => ∃ kvs k b, y = .ref b ∧ H5 b = some (.tup (k.map kV)) ∧ H5 D = some (.dT kvs) ∧ kvs.length < sizeLine ∧ Pv (i + 1) (upd H5 D (.dT (putK kvs k z)))) (hd : ∀ H, Pv n H → Qd H) :
    ∃ W : Nat → Nat → Hp → Prop, (∃ m, W 0 m (upd H1 D (.dT []))) ∧ ∀ i m H, W i m H → (J.stop i H ∧ Qd H) ∨ (J.go i H ∧ ∃ N : Hp → Prop, (∀ H2, N H2 → ∃ l, l < m ∧ W (i + 1) l H2) ∧ ∀ x H2, J.yld i H x H2 → g x (wipe σ ws) H2 fun τ H3 => wipe τ ws = wipe σ ws ∧
      tk τ H3 fun y H4 => tv τ H4 fun z H5 => ∃ kvs k b, y = .ref b ∧ H5 b = some (.tup (k.map kV)) ∧ H5 D = some (.dT kvs) ∧ kvs.length < sizeLine ∧ N (upd H5 D (.dT (putK kvs k z)))) := by
  refine ⟨fun i m H => i + m = n ∧ Pv i H, ⟨n, Nat.zero_add n, h0⟩, ?_⟩
  rintro i m H ⟨e, p⟩
  have le : i ≤ n := by omega
  rcases Nat.lt_or_eq_of_le le with lt | rfl
  · exact .inr ⟨wk.goes i H lt (hG i H le p), Pv (i + 1), fun H2 q => ⟨m - 1, by omega, by omega, q⟩, fun x H2 y => hs i x H H2 lt p (wk.yields i H x H2 lt (hG i H le p) y)⟩
  · exact .inl ⟨wk.stops H (hG i H le p), hd H p⟩
/-- a word as a key -/
def kw (ys : List Str) : List L2.Key := ys.map Sum.inr
theorem kw_inj : ∀ {xs ys : List Str}, kw xs = kw ys → xs = ys
  | [], [], _ => rfl
  | [], _ :: _, h => nomatch h
  | _ :: _, [], h => nomatch h
  | x :: xs, y :: ys, h => by
    have h2 : (Sum.inr x : L2.Key) :: kw xs = Sum.inr y :: kw ys := h
    injection h2 with a b
    rw [Sum.inr.inj a, kw_inj b]
theorem kw_val (ys : List Str) : (kw ys).map kV = ys.map V.str := by
  unfold kw
  rw [List.map_map]
  rfl
/-- the different ones, in the sequence of their first places -/
def addW (ds : List (List Str)) (w : List Str) : List (List Str) := if w ∈ ds then ds else ds ++ [w]
def uniq (ws : List (List Str)) : List (List Str) := ws.foldl addW []
def dk (ds : List (List Str)) : List (List L2.Key × V) := ds.map fun w => (kw w, V.bl true)
theorem any_dk (ds : List (List Str)) (w : List Str) : ((dk ds).any fun kv => decide (kv.1 = kw w)) = decide (w ∈ ds) := by
  unfold dk
  rw [List.any_map, Bool.eq_iff_iff, List.any_eq_true, decide_eq_true_iff]
  constructor
  · rintro ⟨x, h1, h2⟩
    rw [← kw_inj (of_decide_eq_true h2)]
    exact h1
  · intro h
    exact ⟨w, h, decide_eq_true rfl⟩
theorem put_dk (ds : List (List Str)) (w : List Str) : putK (dk ds) (kw w) (.bl true) = dk (addW ds w) := by
  unfold putK addW
  rw [any_dk]
  by_cases h : w ∈ ds
  · rw [if_pos (decide_eq_true h), if_pos h]
    unfold dk
    rw [List.map_map]
    refine List.map_congr_left fun x _ => ?_
    show (if kw x = kw w then (kw x, V.bl true) else (kw x, V.bl true)) = _
    split <;> rfl
  · rw [if_neg (by rw [decide_eq_false h]; decide), if_neg h]
    unfold dk
    rw [List.map_append]
    rfl
theorem uniq_succ {ws : List (List Str)} {i : Nat} {w : List Str} (h : ws[i]? = some w) : uniq (ws.take (i + 1)) = addW (uniq (ws.take i)) w := by
  obtain ⟨hi, e⟩ := List.getElem?_eq_some_iff.mp h
  rw [← List.take_concat_get hi, e, List.concat_eq_append]
  unfold uniq
  rw [List.foldl_append]
  rfl
theorem addW_mem {ds : List (List Str)} {w u : List Str} : u ∈ addW ds w ↔ u ∈ ds ∨ u = w := by
  unfold addW
  split
  · rename_i h
    exact ⟨.inl, fun z => z.elim id fun e => e ▸ h⟩
  · rw [List.mem_append, List.mem_singleton]
theorem uniq_mem {ws : List (List Str)} {u : List Str} : u ∈ uniq ws ↔ u ∈ ws := by
  have key : ∀ (ws ds : List (List Str)), u ∈ ws.foldl addW ds ↔ u ∈ ds ∨ u ∈ ws := fun ws => by
    induction ws with
    | nil => intro ds; simp
    | cons w ws ih =>
      intro ds
      rw [List.foldl_cons, ih, addW_mem, List.mem_cons, or_assoc]
  unfold uniq
  rw [key]
  simp
theorem addW_nodup {ds : List (List Str)} {w : List Str} (h : ds.Nodup) : (addW ds w).Nodup := by
  unfold addW
  split
  · exact h
  · rename_i n
    rw [List.nodup_append]
    refine ⟨h, by simp, fun a ha b hb e => n ?_⟩
    rw [← List.mem_singleton.mp hb, ← e]
    exact ha
theorem uniq_nodup (ws : List (List Str)) : (uniq ws).Nodup := by
  have key : ∀ (ws ds : List (List Str)), ds.Nodup → (ws.foldl addW ds).Nodup := fun ws => by
    induction ws with
    | nil => intro ds h; exact h
    | cons w ws ih => intro ds h; exact ih _ (addW_nodup h)
  exact key ws [] List.nodup_nil
theorem uniq_len (ws : List (List Str)) : (uniq ws).length ≤ ws.length := by
  have key : ∀ (ws ds : List (List Str)), (ws.foldl addW ds).length ≤ ds.length + ws.length := fun ws => by
    induction ws with
    | nil => intro ds; exact Nat.le_refl _
    | cons w ws ih =>
      intro ds
      have h1 := ih (addW ds w)
      have h2 : (addW ds w).length ≤ ds.length + 1 := by
        unfold addW
        split
        · omega
        · rw [List.length_append]
          exact Nat.le_refl _
      rw [List.foldl_cons, List.length_cons]
      omega
  have z := key ws []
  rw [List.length_nil, Nat.zero_add] at z
  exact z
section
variable {K : PySem.W.Frag} {σ : L2.St} {H : Hp} {te : TE} {ws : List (List Str)}
theorem paired_at {α β : Type} {S : α → β → Prop} : ∀ {xs : List α} {ys : List β} {i : Nat} {x : α}, Paired S xs ys → xs[i]? = some x → ∃ y, ys[i]? = some y ∧ S x y
  | _, _, 0, _, .cons r _, e => ⟨_, rfl, by cases e; exact r⟩
  | _, _, i + 1, _, .cons _ t, e => paired_at (i := i) t e
/-- the dict of the different words of a list or a tuple -/
theorem dcWords {j : Nat} (h : EvSW K te σ H ws) (hz : ws.length ≤ 100000) (hw : ∀ x, wipe ((wipe σ [j]).set j (some x)) [j] = wipe σ [j]) (hj : ∀ x, ((wipe σ [j]).set j (some x))[j]? = some (some x)) {Q : VK}
    (q : ∀ D H2, H D = none → Ex H H2 → H2 D = some (.dT (dk (uniq ws))) → Q (.ref D) H2) : tDcT (iSeqS K te) (gName j) (tVar j) (tC (.bl true)) [j] σ H Q := h H (Ex.refl H) _ fun l H1 e1 hl => by
  -- over a walk of the words' places
  have go : ∀ (us : List V) (J : It) (G : Hp → Prop), Paired (Wd K H1) us ws → Walk J us.length G (YAt us) → (∀ H2, Ex H1 H2 → G H2) → ∀ D, H1 D = none → ∃ W : Nat → Nat → Hp → Prop, (∃ m, W 0 m (upd H1 D (.dT []))) ∧ ∀ i m H, W i m H →
      (J.stop i H ∧ Q (.ref D) H) ∨ (J.go i H ∧ ∃ N : Hp → Prop, (∀ H2, N H2 → ∃ l, l < m ∧ W (i + 1) l H2) ∧ ∀ x H2, J.yld i H x H2 → gName j x (wipe σ [j]) H2 fun τ H3 => wipe τ [j] = wipe σ [j] ∧
        tVar j τ H3 fun y H4 => tC (.bl true) τ H4 fun z H5 => ∃ kvs k b, y = .ref b ∧ H5 b = some (.tup (k.map kV)) ∧ H5 D = some (.dT kvs) ∧ kvs.length < sizeLine ∧ N (upd H5 D (.dT (putK kvs k z)))) := fun us J G hp wk hG D hD => by
    have len := Paired.length hp
    refine dc_it wk (fun i H2 => Ex H1 H2 ∧ H2 D = some (.dT (dk (uniq (ws.take i))))) ⟨Ex.new hD, upd_same⟩ (fun i H2 _ p => hG H2 p.1) (fun i x H2 H3 hi p y => ?_) fun H2 p => ?_
    · obtain ⟨rfl, hx⟩ := y
      obtain ⟨w, hw2, a, rfl, ha⟩ := paired_at hp hx
      refine ⟨hw _, _, hj _, dk (uniq (ws.take i)), kw w, a, rfl, by rw [kw_val]; exact p.1 _ _ ha, p.2, ?_, Ex.mut p.1 hD, ?_⟩
      · have h1 := uniq_len (ws.take i)
        rw [List.length_take] at h1
        unfold dk
        rw [List.length_map]
        exact sz_lt (by omega)
      · rw [put_dk, uniq_succ hw2]
        exact upd_same
    · obtain ⟨p1, p2⟩ := p
      rw [len, List.take_length] at p2
      exact q D H2 (fresh_back e1 hD) (e1.trans p1) p2
  rcases hl with ⟨us, h1, h2⟩ | ⟨us, h1, h2⟩
  · exact ⟨l, rfl, .inl ⟨us, SqL.of h1, go us _ _ h2 walk_list fun H2 e => ex_l e (SqL.of h1)⟩⟩
  · exact ⟨l, rfl, .inr ⟨us, SqT.of h1, go us _ _ h2 walk_tup fun H2 e => ex_t e (SqT.of h1)⟩⟩
theorem q_asgDc {i j : Nat} {tz : TS} {D : Ends} (h : EvSW K te σ H ws) (hz : ws.length ≤ 100000) (hw : ∀ x, wipe ((wipe σ [j]).set j (some x)) [j] = wipe σ [j]) (hj : ∀ x, ((wipe σ [j]).set j (some x))[j]? = some (some x))
    (k : ∀ a H2, H a = none → Ex H H2 → H2 a = some (.dT (dk (uniq ws))) → tz D (σ.set i (some (.ref a))) H2) : tSeq (tAsg (tDcT (iSeqS K te) (gName j) (tVar j) (tC (.bl true)) [j]) (gName i)) tz D σ H := dcWords (Q := fun v H2 => tz D (σ.set i (some v)) H2) h hz hw hj k
end
end Lw
namespace Lw
open PySem PySem.Spec PyProof.Rows L2
/-! ### len(o), o of an own class with its own __len__ -/
section
variable {prog : Program} {w : World} {A : Around} {E : Value → Shared → Prop} {s : Shared} {K : PySem.W.Frag} {a C f : Addr} {ox : Obj} {od : Option Obj} {n : Str}
theorem special_def {args : List Value} {Q : Option Value → Shared → Prop} (X : K.In s.heap) (J : PySem.W.InstAt s.heap a ox C od) (hf : PySem.W.findIn K (.ref C) n = some (some (.ref f))) (tf : PySem.W.typeIn K (.ref f) = some (.type "function"))
    (hc : wpAny (model prog w) A (call (.ref f) (.ref a :: args)) (fun v s2 => Q (some v) s2) E s) : wpAny (model prog w) A (callSpecial? (.ref a) n args) Q E s := by
  have L1 := J.type (M := model prog w)
  have L2 := PySem.W.looks_findIn (M := model prog w) X hf
  have L3 := PySem.W.bind_fn (M := model prog w) X (.ref a) tf
  have sp : wpAny (model prog w) A (specialOf (.ref a) n) (fun r s2 => r = some (.ref f) ∧ s2 = s) E s := by
    unfold specialOf
    repeat (first
      | with_reducible refine L1.at ?_
      | with_reducible refine L2.at ?_
      | wp_step)
    exact ⟨rfl, rfl⟩
  unfold callSpecial?
  refine wpAny_bind (wpAny_mono sp (fun r s2 h => ?_) fun _ _ z => z)
  obtain ⟨rfl, rfl⟩ := h
  refine wpAny_holding (wpAny_bind (L3.at ?_))
  first
    | exact wpAny_bind (wpAny_mono hc (fun v s' h' => wpAny_pure h') fun _ _ h' => h')
    | exact wpAny_pure (wpAny_bind (wpAny_mono hc (fun v s' h' => wpAny_pure h') fun _ _ h' => h'))
end
/-- the call of a def from within a built-in that holds a frame's place -/
theorem run_in1 {X : Cx} {CX : CXT} {k : Nat} {f : Addr} {fd : FuncData} {ps : List Str} {sp : Sp} {E : XK} {pins : List (Addr × Obj)} {σ : L2.St} {H : Hp} {s : Shared} {us : List Value} {vs : List V} {Q : VK} (F : FnOk X.prog X.w X.K X.mg X.base CX k f fd ps sp) (hb : Binds X.K fd ps []) (hr : Room k X.A.in1) (hx : Passes CX X E)
    (I : Inv X pins σ H s) (r : Vals vs us) (h : sp vs H Q E) : wpAny (model X.prog X.w) X.A.in1 (call (.ref f) us) (EP X pins σ Q) X.xe s := by
  have hl := F.len _ _ _ _ h
  refine wpAny_call (codeAny_mono (F.run X.A.in1 X.stack s H ⟨us, []⟩ us vs _ E hr I.env0.in1 (by
    have z := hb s us I.kIn (by rw [List.append_nil, ← hl]; exact r.length.symm)
    rw [List.append_nil] at z
    exact z) r h) fun r2 s2 hq => ?_)
  cases r2 with
  | error er => exact hx pins σ H s er s2 I hq
  | ok fl =>
    cases fl with
    | ret u => exact I.after hq
    | next => exact hq.elim
    | brk => exact hq.elim
    | cont => exact hq.elim
/-- len(o) -/
def rLenO (C : Addr) (sp : Sp) (E : XK) : List V → Hp → VK → Prop := fun xs H Q => ∃ (a dx : Addr) (fs : List (Str × V)), xs = [.ref a] ∧ H a = some (.ins C dx fs) ∧ sp [.ref a] H (fun v H2 => ∃ n : Int, v = .int n ∧ 0 ≤ n ∧ n < 2 ^ 63 ∧ Q (.int n) H2) E
theorem call_lenO {X : Cx} {CX : CXT} {k : Nat} {C f : Addr} {fd : FuncData} {ps : List Str} {sp : Sp} {E : XK} (hf : PySem.W.findIn X.K (.ref C) "__len__" = some (some (.ref f))) (tf : PySem.W.typeIn X.K (.ref f) = some (.type "function"))
    (F : FnOk X.prog X.w X.K X.mg X.base CX k f fd ps sp) (hb : Binds X.K fd ps []) (hr : Room k X.A.in1) (hx : Passes CX X E) : CallR X (.builtin "len") (rLenO C sp E) := by
  intro pins s σ H xs us Q I r h
  obtain ⟨a, dx, fs, rfl, ha, q⟩ := h
  cases r with
  | cons r1 rr =>
    cases rr
    cases r1
    obtain ⟨mA, J, _⟩ := ins_get I.hok ha
    obtain ⟨od, J, _⟩ := J.look
    refine Calls.call_function_entry kind_len plain_len entry_len (args_len1 _) ?_; unfold Builtin.«len»; refine wpAny_bind (m := oneArg "len" _) (wpAny_pure ?_)
    refine wpAny_bind (m := callSpecial? (.ref a) (Str.ofString "__len__")) (special_def I.kIn J hf tf (wpAny_mono (run_in1 (us := [.ref a]) (vs := [.ref a]) F hb hr hx I (.cons rfl .nil) q) (fun v s2 hh => ?_) fun _ _ z => z))
    obtain ⟨x, H2, I2, rx, n, rfl, n0, n1, q2⟩ := hh
    obtain ⟨t, rfl⟩ := (show ∃ t, v = Value.int n t from rx)
    have m0 : ¬ n < 0 := by omega
    have m1 : ¬ n ≥ 2 ^ 63 := by omega
    refine wpAny_bind (wpAny_holding (wpAny_pure (wpAny_bind (wpAny_letGo ?_))))
    dsimp only
    rw [if_neg m0, if_neg m1]
    exact wpAny_bind (wpAny_mkInt (wpAny_pure ⟨_, rfl, ⟨.int n, H2, I2.tok _, ⟨_, rfl⟩, q2⟩⟩))
/-! ### x in o, by o's own __contains__ -/
section
variable {prog : Program} {w : World} {A : Around} {E : Value → Shared → Prop} {s : Shared} {K : PySem.W.Frag} {a C f : Addr} {ox : Obj} {od : Option Obj} {n : Str}
theorem spec_at (X : K.In s.heap) (J : PySem.W.InstAt s.heap a ox C od) (hf : PySem.W.findIn K (.ref C) n = some (some (.ref f))) {Q : Option Value → Shared → Prop} (q : Q (some (.ref f)) s) : wpAny (model prog w) A (specialOf (.ref a) n) Q E s := by
  have L1 := J.type (M := model prog w)
  have L2 := PySem.W.looks_findIn (M := model prog w) X hf
  unfold specialOf
  repeat (first
    | with_reducible refine L1.at ?_
    | with_reducible refine L2.at ?_
    | wp_step)
  exact q
theorem in_own {x : Value} {Q : Value → Shared → Prop} (X : K.In s.heap) (J : PySem.W.InstAt s.heap a ox C od) (hf : PySem.W.findIn K (.ref C) "__contains__" = some (some (.ref f))) (tf : PySem.W.typeIn K (.ref f) = some (.type "function"))
    (hc : wpAny (model prog w) A (call (.ref f) [.ref a, x]) (fun v s2 => ∃ b, v = .bool b ∧ Q (.bool b) s2) E s) : wpAny (model prog w) A (compareOp .In x (.ref a)) Q E s := by
  have L3 := PySem.W.bind_fn (M := model prog w) X (.ref a) tf
  unfold compareOp contains
  refine wpAny_bind (wpAny_holding ?_)
  have e : stdlibNamesSay? (.ref a) x = none := by cases x <;> rfl
  rw [e]
  refine wpAny_bind (spec_at X J hf ?_)
  rw [if_neg (by simp)]
  refine wpAny_bind ?_
  unfold callSpecialUnlessNone?
  refine wpAny_bind (spec_at X J hf ?_)
  refine wpAny_holding (wpAny_bind (L3.at ?_))
  dsimp only
  rw [if_neg (by simp)]
  refine wpAny_bind (wpAny_mono hc (fun v s2 h => ?_) fun _ _ z => z)
  obtain ⟨b, rfl, q⟩ := h
  refine wpAny_pure ?_
  dsimp only
  have t : truthy (Value.bool b) = pure b := by unfold truthy; rfl
  rw [t]
  exact wpAny_pure (wpAny_pure q)
end
section
variable {X : Cx} {CX : CXT} {k : Nat} {C f : Addr} {fd : FuncData} {ps : List Str} {sp : Sp} {E : XK}
/-- x in o -/
def rInO (C : Addr) (sp : Sp) (E : XK) : R2 := fun x y H Q => ∃ (a dx : Addr) (fs : List (Str × V)), y = .ref a ∧ H a = some (.ins C dx fs) ∧ sp [.ref a, x] H (fun v H2 => ∃ b : Bool, v = .bl b ∧ Q (.bl b) H2) E
theorem op_inO (hf : PySem.W.findIn X.K (.ref C) "__contains__" = some (some (.ref f))) (tf : PySem.W.typeIn X.K (.ref f) = some (.type "function")) (F : FnOk X.prog X.w X.K X.mg X.base CX k f fd ps sp) (hb : Binds X.K fd ps []) (hr : Room k X.A) (hx : Passes CX X E) :
    OpR X (compareOp .In) (rInO C sp E) := by
  intro pins s σ H x y v u Q I rx ry h
  obtain ⟨a, dx, fs, rfl, ha, q⟩ := h
  cases ry
  obtain ⟨mA, J, _⟩ := ins_get I.hok ha
  obtain ⟨od, J, _⟩ := J.look
  refine in_own I.kIn J hf tf (wpAny_mono (run_fn (us := [.ref a, v]) (vs := [.ref a, x]) (dvs := []) (ds := []) F hr hb .nil hx I (.cons rfl (.cons rx .nil)) q) (fun w2 s2 hh => ?_) fun _ _ z => z)
  obtain ⟨z, H2, I2, rz, b, rfl, q2⟩ := hh
  obtain rfl : w2 = Value.bool b := rz
  exact ⟨b, rfl, .bl b, H2, I2, rfl, q2⟩
end
/-! ### repr(o), by o's own __repr__ -/
section
variable {prog : Program} {w : World} {A : Around} {E : Value → Shared → Prop} {s : Shared} {K : PySem.W.Frag} {a C f : Addr} {ox : Obj} {od : Option Obj} {n : Str}
theorem bound_own {args : List Value} {Q : Option Value → Shared → Prop} (X : K.In s.heap) (J : PySem.W.InstAt s.heap a ox C od) (hf : PySem.W.findIn K (.ref C) n = some (some (.ref f))) (tf : PySem.W.typeIn K (.ref f) = some (.type "function"))
    (hc : wpAny (model prog w) A (call (.ref f) (.ref a :: args)) (fun v s2 => Q (some v) s2) E s) : wpAny (model prog w) A (callSpecialIfBound? (.ref a) n args) Q E s := by
  have L3 := PySem.W.bind_fn (M := model prog w) X (.ref a) tf
  simp only [callSpecialIfBound?, bindSpecialIfBound?]
  refine wpAny_holding (wpAny_bind (wpAny_bind (spec_at X J hf ?_)))
  refine wpAny_bind (wpAny_askSetting (wpAny_ite ?_))
  have fin : wpAny (model prog w) A (call (.ref f) ([.ref a] ++ args) >>= fun v => pure (some v)) Q E s := wpAny_bind (wpAny_mono hc (fun v s' h' => wpAny_pure h') fun _ _ h' => h')
  split
  · exact wpAny_bind (L3.at (wpAny_pure (by exact fin)))
  · exact wpAny_tryCatch (wpAny_bind (L3.at (wpAny_pure (by exact fin))))
theorem repr_ownW {Q : Value → Shared → Prop} (X : K.In s.heap) (J : PySem.W.InstAt s.heap a ox C od) (hf : PySem.W.findIn K (.ref C) "__repr__" = some (some (.ref f))) (tf : PySem.W.typeIn K (.ref f) = some (.type "function")) (hu : A.in1.units < cLine)
    (hc : wpAny (model prog w) A.in1 (call (.ref f) [.ref a]) (fun r s' => ∃ m tk, r = .str m tk ∧ Q (.str m tk) s') E s) : wpAny (model prog w) A (call (.builtin "repr") [.ref a]) Q E s := by
  have some_ : ¬ (some (Value.ref f)).isNone = true := by simp
  refine Calls.call_function_entry F.kind_repr F.plain_repr F.entry_repr (F.args_repr1 _) ?_; unfold Builtin.«repr»; refine wpAny_bind (m := oneArg "repr" _) (wpAny_pure (wpAny_bind (wpAny_cRoomFor hu (wpAny_bind (spec_at X J hf ?_)))))
  dsimp only
  rw [if_neg some_]
  refine wpAny_bind (m := callSpecialIfBound? (.ref a) (Str.ofString "__repr__") _) (bound_own X J hf tf (wpAny_mono hc (fun r s' hr => ?_) fun _ _ y => y))
  obtain ⟨m, tk, rfl, told⟩ := hr
  refine wpAny_bind (wpAny_isInstance (typeIs_str _ _ _) isSubtype_str_str (by try rw [if_pos rfl]
                                                                               exact wpAny_pure ⟨_, rfl, told⟩))
end
section
variable {X : Cx} {CX : CXT} {k : Nat} {C f : Addr} {fd : FuncData} {ps : List Str} {sp : Sp} {E : XK}
def rReprO (C : Addr) (sp : Sp) (E : XK) : List V → Hp → VK → Prop := fun xs H Q => ∃ (a dx : Addr) (fs : List (Str × V)), xs = [.ref a] ∧ H a = some (.ins C dx fs) ∧ sp [.ref a] H (fun v H2 => ∃ m : Str, v = .str m ∧ Q (.str m) H2) E
theorem call_reprO (hf : PySem.W.findIn X.K (.ref C) "__repr__" = some (some (.ref f))) (tf : PySem.W.typeIn X.K (.ref f) = some (.type "function")) (F : FnOk X.prog X.w X.K X.mg X.base CX k f fd ps sp) (hb : Binds X.K fd ps []) (hr : Room k X.A.in1) (hx : Passes CX X E) : CallR X (.builtin "repr") (rReprO C sp E) := by
  intro pins s σ H xs us Q I r h
  obtain ⟨a, dx, fs, rfl, ha, q⟩ := h
  cases r with
  | cons r1 rr =>
    cases rr
    cases r1
    obtain ⟨mA, J, _⟩ := ins_get I.hok ha
    obtain ⟨od, J, _⟩ := J.look
    refine repr_ownW I.kIn J hf tf hr.units0 (wpAny_mono (run_in1 (us := [.ref a]) (vs := [.ref a]) F hb hr hx I (.cons rfl .nil) q) (fun v s2 hh => ?_) fun _ _ z => z)
    obtain ⟨x, H2, I2, rx, m, rfl, q2⟩ := hh
    obtain ⟨t, rfl⟩ := (show ∃ t, v = Value.str m t from rx)
    exact ⟨m, t, rfl, .str m, H2, I2, ⟨t, rfl⟩, q2⟩
end
/-! ### o == y, by o's own __eq__ -/
section
variable {X : Cx} {CX : CXT} {k : Nat} {C f : Addr} {fd : FuncData} {ps : List Str} {sp : Sp} {E : XK}
def rEqO (K : PySem.W.Frag) (C : Addr) (sp : Sp) (E : XK) : R2 := fun x y H Q => ∃ (a dx : Addr) (fs : List (Str × V)), x = .ref a ∧ H a = some (.ins C dx fs) ∧
  ((∃ t : String, TyX K H y (.type t) ∧ PySem.W.notFirst K C (.type t) = true) ∨ ∃ (b dy : Addr) (gs : List (Str × V)), y = .ref b ∧ H b = some (.ins C dy gs)) ∧ sp [.ref a, y] H (fun v H2 => ∃ b : Bool, v = .bl b ∧ Q (.bl b) H2) E
theorem op_eqO (hf : PySem.W.findIn X.K (.ref C) "__eq__" = some (some (.ref f))) (tf : PySem.W.isFn X.K (.ref f) = true) (F : FnOk X.prog X.w X.K X.mg X.base CX k f fd ps sp) (hb : Binds X.K fd ps []) (hr : Room k X.A) (hx : Passes CX X E) :
    OpR X (compareOp .Eq) (rEqO X.K C sp E) := by
  intro pins s σ H x y v u Q I rx ry h
  obtain ⟨a, dx, fs, rfl, ha, hy, q⟩ := h
  cases rx
  obtain ⟨mA, J, _⟩ := ins_get I.hok ha
  obtain ⟨od, J, _⟩ := J.look
  obtain ⟨m, fr⟩ := I.fr
  obtain ⟨tb, lk, nf⟩ : ∃ tb, PySem.W.Looks (model X.prog X.w) s.heap (typeOf u) tb ∧ PySem.W.notFirst X.K C tb = true := by
    rcases hy with ⟨t, ty, nf⟩ | ⟨b, dy, gs, rfl, hb2⟩
    · obtain ⟨P, kx, hp, _⟩ := kit_of I ry ty
      exact ⟨_, kx.ty _ _ I.kIn hp, nf⟩
    · cases ry
      obtain ⟨mB, J2, _⟩ := ins_get I.hok hb2
      obtain ⟨od2, J2, _⟩ := J2.look
      exact ⟨_, J2.type, by simp [PySem.W.notFirst]⟩
  refine PySem.W.cmp_K (op := .Eq) hr.units0 fr I.ok.mod.kin J lk nf hf tf (wpAny_mono (run_fn (us := [.ref a, u]) (vs := [.ref a, y]) (dvs := []) (ds := []) F hr hb .nil hx I (.cons rfl (.cons ry .nil)) q) (fun w2 s2 hh => ?_) fun _ _ z => z)
  obtain ⟨z, H2, I2, rz, b, rfl, q2⟩ := hh
  obtain rfl : w2 = Value.bool b := rz
  exact ⟨.bl b, H2, I2, rfl, q2⟩
end
end Lw
namespace Lw
open PySem PySem.Spec PyProof.Rows L2 Evl
/-! ### own classes: made, their methods called -/
/-- C(..): the class x of the top, at C; ps: the parameters behind the first -/
def MkO (P : Program) (w : World) (K : PySem.W.Frag) (mg : Str → Option Value) (base : Heap) (CX : CXT) (k : Nat) (x : Str) (C : Addr) (ps : List Str) (sp : Sp) : Prop :=
  ∃ f fd, mg x = some (.ref C) ∧ Mk K C f ∧ Binds K fd ("self" :: ps) [] ∧ (∀ (v : Value) (ws : List Value) (s : Shared), ws.length = ps.length → BindsTo s fd ⟨[v], ps.reverse.zip ws⟩ ((("self" : Str) :: ps).zip (v :: ws.reverse))) ∧ FnOk P w K mg base CX k f fd ("self" :: ps) sp
/-- o.m(..) -/
def MeO (P : Program) (w : World) (K : PySem.W.Frag) (mg : Str → Option Value) (base : Heap) (CX : CXT) (k : Nat) (C : Addr) (m : Str) (ps : List Str) (sp : Sp) : Prop :=
  ∃ f fd, Meth K C m f ∧ Binds K fd ("self" :: ps) [] ∧ (∀ (v : Value) (ws : List Value) (s : Shared), ws.length = ps.length → BindsTo s fd ⟨[v], ps.reverse.zip ws⟩ ((("self" : Str) :: ps).zip (v :: ws.reverse))) ∧ FnOk P w K mg base CX k f fd ("self" :: ps) sp
def tMethR (C : Addr) (m : Str) (sp : Sp) (E : XK) (ta : TE) (tk : TA) : TE := fun σ H Q => ta σ H fun x H1 => ∃ a dx fs, x = .ref a ∧ H1 a = some (.ins C dx fs) ∧ fs.lookup m = none ∧
  tk σ H1 fun vs H2 => sp (x :: vs.reverse) H2 Q E
section
variable {X : Cx} {CX : CXT} {k : Nat} {C : Addr} {x m : Str} {ps : List Str} {sp : Sp} {p pos apos : Pos} {o e : Expr} {es : List Expr} {kws : List Keyword} {ta : TE} {t tk : TA} {E : XK} {pl : Sem Bool}
theorem pe_mkO (M : MkO X.prog X.w X.K X.mg X.base CX k x C ps sp) {j : Nat} (hr : Room j X.A) (hx : Passes CX X E) (ha : PA X (e :: es) t) (hj : k + 1 ≤ j := by decide) (hg : Gl X x := by rfl) (hdb : (x == ("__debug__" : Str)) = false := by decide)
    (he : starEach (e :: es) X.env = (false, eval e X.env) :: starEach es X.env := by rfl) (hpl : (backTo pos (starEach es X.env)).any (·.1) = false := by rfl) : PE X (.Call (.Name x p) (e :: es) [] pos) (tMake C sp [] E t) := by
  obtain ⟨f, fd, hm, mk, hb, _, F⟩ := M
  exact pe_make mk F (hr.mono hj) hg hm hb .nil hx ha hdb he hpl
theorem pe_mkOR (M : MkO X.prog X.w X.K X.mg X.base CX k x C ps sp) {j : Nat} (hr : Room j X.A) (hx : Passes CX X E) (hkw : PK X kws tk) (hj : k + 1 ≤ j := by decide) (hg : Gl X x := by rfl) (hdb : (x == ("__debug__" : Str)) = false := by decide)
    (hall : (backToKw pos (keywordEach kws X.env)).all (·.1.isSome) = true := by rfl) (hks : (backToKw pos (keywordEach kws X.env)).filterMap (·.1) = ps.reverse := by rfl)
    (hpl : ((backTo pos (starEach [] X.env)).any (·.1) || (backToKw pos (keywordEach kws X.env)).any (·.1.isNone)) = false := by rfl) :
    PE X (.Call (.Name x p) [] kws pos) (tMakeK C 0 ps.reverse.length sp (fun vs zs => vs ++ zs.reverse) E tNil tk) := by
  obtain ⟨f, fd, hm, mk, _, hb, F⟩ := M
  exact pe_makeK0 (ks := ps.reverse) (g := fun us ws => us ++ ws.reverse) mk F (hr.mono hj) hg hm ⟨fun s us ws _ l1 l2 => by
    match us, l1 with
    | [v], _ => exact hb v ws s (by rw [l2, List.length_reverse]), fun r1 r2 => r1.append (Vals.reverse r2)⟩ hx hkw hall hks hdb hpl
theorem pe_meO (c : Cls X.K C) (M : MeO X.prog X.w X.K X.mg X.base CX k C m ps sp) {j : Nat} (ho : PE X o ta) (hr : Room j X.A) (hx : Passes CX X E) (ha : PA X (e :: es) t) (hj : k ≤ j := by decide)
    (hst : starEach (e :: es) X.env = (false, eval e X.env) :: starEach es X.env := by rfl) (hpl : (backTo pos (starEach es X.env)).any (·.1) = false := by rfl)
    (ht : eval (.Call (.Attribute o m apos) (e :: es) [] pos) X.env = (do
      let ov ← eval o X.env
      standAt apos.atName
      let (f, first) ← holding [ov] (getMethod ov m pl)
      callWith pos f first (backTo pos (starEach (e :: es) X.env)) (backToKw pos (keywordEach [] X.env))) := by rfl) :
    PE X (.Call (.Attribute o m apos) (e :: es) [] pos) (tMeth C m sp [] E ta t) := by
  obtain ⟨f, fd, hm, hb, _, F⟩ := M
  exact pe_meth ho c hm F (hr.mono hj) hb .nil hx ha hst hpl ht
theorem pe_meO0 (c : Cls X.K C) (M : MeO X.prog X.w X.K X.mg X.base CX k C m ps sp) {j : Nat} (ho : PE X o ta) (hr : Room j X.A) (hx : Passes CX X E) (hj : k ≤ j := by decide)
    (ht : eval (.Call (.Attribute o m apos) [] [] pos) X.env = (do
      let ov ← eval o X.env
      standAt apos.atName
      let (f, first) ← holding [ov] (getMethod ov m pl)
      callWith pos f first (backTo pos (starEach [] X.env)) (backToKw pos (keywordEach [] X.env))) := by rfl) :
    PE X (.Call (.Attribute o m apos) [] [] pos) (tMeth C m sp [] E ta tNil) := by
  obtain ⟨f, fd, hm, hb, _, F⟩ := M
  exact pe_meth0 ho c hm F (hr.mono hj) hb .nil hx ht
/-- o.m(k = v, ..): all by name, the last parameter first -/
theorem pe_meOR (c : Cls X.K C) (M : MeO X.prog X.w X.K X.mg X.base CX k C m ps sp) {j : Nat} (ho : PE X o ta) (hr : Room j X.A) (hx : Passes CX X E) (hkw : PK X kws tk) (hj : k ≤ j := by decide)
    (hall : (backToKw pos (keywordEach kws X.env)).all (·.1.isSome) = true := by rfl) (hks : (backToKw pos (keywordEach kws X.env)).filterMap (·.1) = ps.reverse := by rfl)
    (hpl : ((backTo pos (starEach [] X.env)).any (·.1) || (backToKw pos (keywordEach kws X.env)).any (·.1.isNone)) = false := by rfl)
    (ht : eval (.Call (.Attribute o m apos) [] kws pos) X.env = (do
      let ov ← eval o X.env
      standAt apos.atName
      let (f, first) ← holding [ov] (getMethod ov m pl)
      callWith pos f first (backTo pos (starEach [] X.env)) (backToKw pos (keywordEach kws X.env))) := by rfl) :
    PE X (.Call (.Attribute o m apos) [] kws pos) (tMethR C m sp E ta tk) := by
  obtain ⟨f, fd, hm, _, hb, F⟩ := M
  constructor
  intro pins s σ H Q I h
  refine PySem.W.methodCall_KW (pl := pl) (thn (ho.run pins s σ H _ I h) fun u s1 hh => ?_) ht
  obtain ⟨y, H1, I1, rx, a, dx, fs, rfl, ea, l, q⟩ := hh
  obtain rfl : u = Value.ref a := rx
  refine getmeth_ok I1 ea c hm l ?_
  refine PySem.W.callWith_KW0 (h₀ := X.base) (first := [.ref a]) I.ok.mod.kin hm.kp hall ?_ hpl
  refine thn (hkw.run pos pins s1 σ H1 _ I1 q) fun ws s2 hh => ?_
  obtain ⟨zs, H2, I2, rz, q2⟩ := hh
  refine ⟨I2.kIn, ?_⟩
  rw [hks]
  have hl : zs.length = ps.length := by
    have z := F.len _ _ _ _ q2
    rw [List.length_cons, List.length_cons, List.length_reverse] at z
    omega
  refine wpAny_call (codeAny_mono (F.run _ _ _ _ _ (Value.ref a :: ws.reverse) (V.ref a :: zs.reverse) _ _ (hr.mono hj) I2.env0 (hb (.ref a) ws s2 (rz.length.symm.trans hl)) (.cons rfl (Vals.reverse rz)) q2) fun r s3 hq => ?_)
  cases r with
  | error er => exact hx pins σ _ s2 er s3 I2 hq
  | ok fl =>
    cases fl with
    | ret u => exact I2.after hq
    | next => exact hq.elim
    | brk => exact hq.elim
    | cont => exact hq.elim
end
/-! ### what the top tells of an own class -/
/-- a class of the top whose instances have a dict: attributes are read and stored plainly, isinstance tells it -/
structure OwnC (K : PySem.W.Frag) (mg : Str → Option Value) (x : Str) (C : Addr) : Prop where
  g : mg x = some (.ref C)
  cl : Cls K C
  ha : PySem.W.findIn K (.ref C) "__class__" = some (some (.builtin "object.__class__"))
  hn : PySem.W.specialIn K (.builtin "object.__class__") "__get__" = some (some (.builtin "getset_descriptor.__get__"))
  htk : PySem.W.takesIn K (.builtin "object.__class__") = some true
  hm : PySem.W.mroIn K C (.type "object") = some true
  self_ : PySem.W.kitOne K (.ref C) (.ref C) = some true
  isc : PySem.W.isClsIn K C = true
theorem OwnC.ty {K : PySem.W.Frag} {mg : Str → Option Value} {x : Str} {C a dx : Addr} {H : Hp} {fs : List (Str × V)} (c : OwnC K mg x C) (e : H a = some (.ins C dx fs)) : TyX K H (.ref a) (.ref C) := .base (.ins e c.cl c.ha c.hn c.htk c.hm)
def ownB (K : PySem.W.Frag) (x : Str) : Bool := (He.Fa.glo x).ok K && ((He.Fa.cls x).ok K && (He.eqO (PySem.W.findIn K (.ref (He.ga K x)) "__class__") (some (some (.builtin "object.__class__"))) &&
  (He.eqO (PySem.W.specialIn K (.builtin "object.__class__") "__get__") (some (some (.builtin "getset_descriptor.__get__"))) && (decide (PySem.W.takesIn K (.builtin "object.__class__") = some true) &&
  (decide (PySem.W.mroIn K (He.ga K x) (.type "object") = some true) && (decide (PySem.W.kitOne K (.ref (He.ga K x)) (.ref (He.ga K x)) = some true) && PySem.W.isClsIn K (He.ga K x)))))))
theorem own_ok {K : PySem.W.Frag} {mg : Str → Option Value} {h : Heap} {x : Str} (X : K.In h) (G : h.Ns mainGlobals mg) (e : ownB K x = true) : OwnC K mg x (He.ga K x) := by
  obtain ⟨e1, e⟩ := He.ba e
  obtain ⟨e2, e⟩ := He.ba e
  obtain ⟨e3, e⟩ := He.ba e
  obtain ⟨e4, e⟩ := He.ba e
  obtain ⟨e5, e⟩ := He.ba e
  obtain ⟨e6, e⟩ := He.ba e
  obtain ⟨e7, e8⟩ := He.ba e
  exact ⟨He.glo_ok X G e1, He.cls_ok e2, He.eqO_ok e3, He.eqO_ok e4, of_decide_eq_true e5, of_decide_eq_true e6, of_decide_eq_true e7, e8⟩
/-- a constant of a class, an int, read off the class -/
structure CInt (K : PySem.W.Frag) (C : Addr) (f : Str) (i : Int) : Prop where
  rd : ClX.CRead K C (.type "type")
  cv : ∃ u, ClX.CVal K C (.type "type") f (.int i) u
def cintB (K : PySem.W.Frag) (x f : Str) (i : Int) : Bool := PySem.W.readsIn K (He.ga K x) (.type "type") && (He.eqO (PySem.W.specialIn K (.ref (He.ga K x)) "__getattribute__") (some (some (.builtin "type.__getattribute__"))) &&
  (match PySem.W.findCls K (.ref (He.ga K x)) (.type "type") f with
    | some (.val (.int j _)) => decide (j = i)
    | _ => false))
theorem cint_ok {K : PySem.W.Frag} {x f : Str} {i : Int} (e : cintB K x f i = true) : CInt K (He.ga K x) f i := by
  obtain ⟨e1, e⟩ := He.ba e
  obtain ⟨e2, e3⟩ := He.ba e
  refine ⟨⟨e1, He.eqO_ok e2⟩, ?_⟩
  split at e3
  · rename_i j t h
    have z := of_decide_eq_true e3
    subst z
    exact ⟨_, h, ⟨t, rfl⟩⟩
  · exact absurd e3 (by decide)
/-! ### readings -/
section
variable {K : PySem.W.Frag} {σ : L2.St} {H : Hp} {te : TE} {v : V} {C : Addr} {f : Str} {i : Int} {mg : Str → Option Value} {x : Str}
theorem ev_cint (c : CInt K C f i) (h : Ev te σ H (.ref C)) : Ev (ClX.tCVal K te f) σ H (.int i) := fun H1 e Q q => h H1 e _ fun H2 e2 => by
  obtain ⟨u, cv⟩ := c.cv
  exact ⟨C, _, _, u, rfl, c.rd, cv, q H2 e2⟩
theorem ev_fld {a dx : Addr} {fs : List (Str × V)} (c : OwnC K mg x C) (n : NoAttr K C f) (h : Ev te σ H (.ref a)) (e : H a = some (.ins C dx fs)) (l : fs.lookup f = some v) : Ev (tFld K te f) σ H v := fun H1 e1 Q q => h H1 e1 _ fun H2 e2 =>
  ⟨a, C, dx, fs, v, rfl, (e1.trans e2) _ _ e, c.cl, n, l, q H2 e2⟩
theorem pe_fldK {X : Cx} {K : PySem.W.Frag} {e : Expr} {te : TE} {f : Str} {pos : Pos} (he : PE X e te) (h : X.K = K := by rfl) (hb : attributeBase e f X.env (eval e X.env) = eval e X.env := by rfl) : PE X (.Attribute e f pos) (tFld K te f) := h ▸ pe_fld he hb
theorem pe_cvalK {X : Cx} {K : PySem.W.Frag} {e : Expr} {te : TE} {f : Str} {pos : Pos} (he : PE X e te) (h : X.K = K := by rfl) (hb : attributeBase e f X.env (eval e X.env) = eval e X.env := by rfl) : PE X (.Attribute e f pos) (ClX.tCVal K te f) := h ▸ ClX.pe_cval he hb
theorem ps_fldK {X : Cx} {K : PySem.W.Frag} {o value : Expr} {f : Str} {pos pos' : Pos} {ta tv : TE} (ha : PE X o ta) (hv : PE X value tv) (h : X.K = K := by rfl) (hs : swapsWith value (some (.Attribute o f pos')) pos.line X.env = pure false := by rfl) : PS X (.Assign [.Attribute o f pos'] value pos) (sFld K ta tv f) := h ▸ ps_fld ha hv hs
end
theorem call_v {sp : Sp} {E : XK} {k : Nat} {σ : L2.St} {H : Hp} {Q : VK} {v : V} (hk : σ[k]? = some (some v)) (h : sp [v] H Q E) : tCall sp [] E (tCons (tVar k) tNil) σ H Q := ⟨v, hk, h⟩
theorem call_vv {sp : Sp} {E : XK} {j k : Nat} {σ : L2.St} {H : Hp} {Q : VK} {u v : V} (hj : σ[j]? = some (some u)) (hk : σ[k]? = some (some v)) (h : sp [u, v] H Q E) : tCall sp [] E (tCons (tVar j) (tCons (tVar k) tNil)) σ H Q := ⟨u, hj, v, hk, h⟩
theorem s_fld {K : PySem.W.Frag} {tv ta : TE} {f : Str} {D : Ends} {σ : L2.St} {H : Hp} (h : tv σ H fun y H1 => ta σ H1 fun x H2 => ∃ a C dx fs, x = .ref a ∧ H2 a = some (.ins C dx fs) ∧ Cls K C ∧ NoAttr K C f ∧ fs.length < 1000 ∧ D.nx σ (upd H2 a (.ins C dx (putF f y fs)))) : sFld K ta tv f D σ H := h
end Lw
namespace Tk
open PySem PySem.Spec PyProof.Rows L2 Lw Evl LamX TL
open Rm (R Ok Z0 Zp Fr fr_none fr_ne nt_lst nt_tup nt_dK NT Zn)
open LwX (XC XF)
theorem keysW {K : PySem.W.Frag} {H : Hp} : ∀ {ds : List (List Str)} {bs : List Addr}, IsKeys H (dk ds) bs → Paired (Wd K H) (bs.map V.ref) ds
  | [], _, .nil => .nil
  | d :: ds, _, .cons r t => .cons ⟨_, rfl, by rw [← kw_val]; exact r⟩ (keysW t)
theorem esw_either {K : PySem.W.Frag} {te : TE} {σ : L2.St} {H : Hp} {l : Addr} {ws : List (List Str)} (h : Ev te σ H (.ref l)) (hl : LW K H l ws ∨ TW K H l ws) : EvSW K te σ H ws := fun H1 e Q q => h H1 e _ fun H2 e2 => q l H2 e2 (hl.imp (lw_mono (e.trans e2)) fun ⟨us, h1, h2⟩ => ⟨us, (e.trans e2) _ _ h1, paired_mono (fun _ _ r => wd_mono (e.trans e2) r) h2⟩)
theorem rz_ex {C : Addr} {f : Str} {v : V} {H H1 : Hp} {E : XK} (e : Ex H H1) (h : Rz C f v H E) : Rz C f v H1 E := fun d H' e' hd => h d H' (e.trans e') hd
theorem call_isiTK {X : Cx} {K : PySem.W.Frag} (h : X.K = K := by rfl) : CallR X (.builtin "isinstance") (rIsiT K) := h ▸ call_isiT
section
variable {P : Program} {w : World} {K : PySem.W.Frag}
theorem wbv_mono {H H1 : Hp} {v : V} {b : Bool} (e : Ex H H1) (h : WB K H v b) : WB K H1 v b := by
  cases h with
  | tup h ht hl hb => exact .tup (ex_t e h) (tyx_mono e ht) hl (paired_mono (fun _ _ r => lb_mono e r) hb)
  | oth ht hn => exact .oth (tyx_mono e ht) hn
theorem wb_any {H : Hp} {v : V} {ys : List Str} (h : Wd K H v ys) (hn : ys.length ≤ 1000) (hl : ∀ y ∈ ys, y.length ≤ 1000) : WB K H v (isW ys) := by
  obtain ⟨a, rfl, e⟩ := h
  have z : WB K H (.ref a) (decide ((ys.map V.str).length ≤ 3) && (ys.map isL).all id) := .tup (SqT.of e) (tyx_tup (SqT.of e)) (by rw [List.length_map]; omega) (by
    clear e hn
    induction ys with
    | nil => exact .nil
    | cons y ys ih => exact .cons (.str y (by have := hl y (List.mem_cons_self ..); omega)) (ih fun x hx => hl x (List.mem_cons_of_mem _ hx)))
  have e2 : (decide ((ys.map V.str).length ≤ 3) && (ys.map isL).all id) = isW ys := by
    unfold isW
    rw [List.length_map, List.all_map]
    rfl
  rw [e2] at z
  exact z
end
/-! ### values that are no words, no texts: what they show, whatever is made later -/
def Sok (d : PyData) : Prop := d.shown.length ≤ 2500 ∧ d.depth ≤ 10
/-- what holds wherever some new objects stand -/
def Ft (H0 H : Hp) (G : Hp → Prop) : Prop := ∃ S : List (Addr × HO), (∀ q ∈ S, H0 q.1 = none ∧ NT q.2 ∧ H q.1 = some q.2) ∧ ∀ H2 : Hp, (∀ q ∈ S, H2 q.1 = some q.2) → G H2
section
variable {P : Program} {w : World} {K : PySem.W.Frag} {σ : L2.St} {H H0 H1 H2 : Hp} {te ta tb tr : TE} {tA tR : TA} {v : V} {G G2 : Hp → Prop} {d : PyData} {n m i : Nat}
theorem ft_now (h : Ft H0 H G) : G H := by
  obtain ⟨S, h1, h2⟩ := h
  exact h2 H fun q hq => (h1 q hq).2.2
theorem ft_pure (h : ∀ H2, G H2) : Ft H0 H G := ⟨[], fun _ z => absurd z List.not_mem_nil, fun H2 _ => h H2⟩
theorem ft_up (e : Ex H H1) (h : Ft H0 H G) : Ft H0 H1 G := by
  obtain ⟨S, h1, h2⟩ := h
  exact ⟨S, fun q hq => ⟨(h1 q hq).1, (h1 q hq).2.1, e _ _ (h1 q hq).2.2⟩, h2⟩
theorem ft_dn (e : Ex H0 H1) (h : Ft H1 H G) : Ft H0 H G := by
  obtain ⟨S, h1, h2⟩ := h
  exact ⟨S, fun q hq => ⟨fresh_back e (h1 q hq).1, (h1 q hq).2⟩, h2⟩
theorem ft_and (h : Ft H0 H G) (k : Ft H0 H G2) : Ft H0 H fun H2 => G H2 ∧ G2 H2 := by
  obtain ⟨S, h1, h2⟩ := h
  obtain ⟨U, k1, k2⟩ := k
  exact ⟨S ++ U, fun q hq => (List.mem_append.mp hq).elim (h1 q) (k1 q), fun H2 z => ⟨h2 H2 fun q hq => z q (List.mem_append_left _ hq), k2 H2 fun q hq => z q (List.mem_append_right _ hq)⟩⟩
theorem ft_imp (h : Ft H0 H G) (k : ∀ H2, G H2 → G2 H2) : Ft H0 H G2 := by
  obtain ⟨S, h1, h2⟩ := h
  exact ⟨S, h1, fun H2 z => k H2 (h2 H2 z)⟩
/-- one object more -/
theorem ft_new {a : Addr} {o : HO} (h : Ft H0 H G) (e : Ex H0 H) (na : H a = none) (nt : NT o) : Ft H0 (upd H a o) fun H2 => H2 a = some o ∧ G H2 := by
  obtain ⟨S, h1, h2⟩ := h
  refine ⟨(a, o) :: S, fun q hq => ?_, fun H2 z => ⟨z _ (List.mem_cons_self ..), h2 H2 fun q hq => z q (List.mem_cons_of_mem _ hq)⟩⟩
  rcases List.mem_cons.mp hq with y | y
  · rw [y]
    exact ⟨fresh_back e na, nt, upd_same⟩
  · obtain ⟨z1, z2, z3⟩ := h1 q y
    refine ⟨z1, z2, ?_⟩
    rw [upd_ne (ne_of_none z3 na)]
    exact z3
/-- a part of a tuple; a value in the place of a word -/
def GB (P : Program) (w : World) (K : PySem.W.Frag) (d : PyData) (b : Bool) (v : V) (H : Hp) : Prop := Sw P w H v d ∧ LB K H v b
def GA (P : Program) (w : World) (K : PySem.W.Frag) (d : PyData) (v : V) (H : Hp) : Prop := Sw P w H v d ∧ WB K H v false
def EO (te : TE) (σ : L2.St) (H0 : Hp) (G : V → Hp → Prop) : Prop := ∀ H1, Ex H0 H1 → ∀ Q : VK, (∀ v H2, Ex H1 H2 → Ft H1 H2 (G v) → Q v H2) → te σ H1 Q
abbrev PG (P : Program) (w : World) (K : PySem.W.Frag) (dbs : List (PyData × Bool)) (vs : List V) (H : Hp) : Prop := Paired (fun v (p : PyData × Bool) => GB P w K p.1 p.2 v H) vs dbs
def EB (P : Program) (w : World) (K : PySem.W.Frag) (ta : TA) (σ : L2.St) (H0 : Hp) (dbs : List (PyData × Bool)) : Prop := ∀ H1, Ex H0 H1 → ∀ Q : List V → Hp → Prop, (∀ vs H2, Ex H1 H2 → Ft H1 H2 (PG P w K dbs vs) → Q vs H2) → ta σ H1 Q
theorem eb_nil' : EB P w K tNil σ H [] := fun H1 e Q q => q [] H1 (Ex.refl H1) (ft_pure fun _ => .nil)
theorem eb_cons' {b : Bool} {dbs : List (PyData × Bool)} (h : EO te σ H (GB P w K d b)) (hr : EB P w K tR σ H dbs) : EB P w K (tCons te tR) σ H ((d, b) :: dbs) := fun H1 e Q q =>
  h H1 e _ fun v H2 e2 f2 => hr H2 (e.trans e2) _ fun vs H3 e3 f3 => q (v :: vs) H3 (e2.trans e3) (ft_imp (ft_and (ft_up e3 f2) (ft_dn e2 f3)) fun _ z => .cons z.1 z.2)
theorem sw_tup {a : Addr} {vs : List V} {ds : List PyData} (e : H a = some (.tup vs)) (hp : Paired (Sw P w H) vs ds) : Sw P w H (.ref a) (.tuple ds) := fun h hok u q => by
  cases (show u = Value.ref a from q)
  obtain ⟨_, its, rv, o, ho, hc, n, hd⟩ : vs.length ≤ sizeLine ∧ ∃ its : List Value, Vals vs its ∧ IsTup h a its.toArray := hok a _ e
  obtain ⟨⟨as, ra⟩, bs, hb, hk⟩ := sw_all hok hp rv
  have rd : Reads h (.ref a) (.tuple ds) _ := .tuple ho hc hd (by simpa using ra)
  refine ⟨⟨_, rd⟩, a :: bs, ?_, ?_⟩
  · exact ReadAtMost.cons rd (by simp only [PyData.depth]; omega) hb
  · have na : a ∉ bs := not_mem_of_deeper rd (by simp only [PyData.depth]; omega) hb
    simp only [PyData.depth, PyData.shown]
    exact ReprK.tuple ho hc hd na (by simpa using hk)
theorem pg_sw {dbs : List (PyData × Bool)} : ∀ {vs : List V}, PG P w K dbs vs H → Paired (Sw P w H) vs (dbs.map (·.1)) := fun {vs} h => by
  induction h with
  | nil => exact .nil
  | cons r t ih => exact .cons r.1 ih
theorem pg_lb {dbs : List (PyData × Bool)} : ∀ {vs : List V}, PG P w K dbs vs H → Paired (LB K H) vs (dbs.map (·.2)) := fun {vs} h => by
  induction h with
  | nil => exact .nil
  | cons r t ih => exact .cons r.2 ih
variable {dbs : List (PyData × Bool)}
theorem ga_tup {a : Addr} {vs : List V} (e : H a = some (.tup vs)) (h : PG P w K dbs vs H) (hn : dbs.length ≤ 40000) (hb : (decide (dbs.length ≤ 3) && dbs.all (·.2)) = false) : GA P w K (.tuple (dbs.map (·.1))) (.ref a) H := by
  refine ⟨sw_tup e (pg_sw h), ?_⟩
  have l := Paired.length h
  have z : WB K H (.ref a) (decide (vs.length ≤ 3) && (dbs.map (·.2)).all id) := .tup (SqT.of e) (tyx_tup (SqT.of e)) (by omega) (pg_lb h)
  rw [l, List.all_map, show (dbs.all ((id : Bool → Bool) ∘ fun x => x.2)) = dbs.all (·.2) from rfl, hb] at z
  exact z
theorem eo_tup (h : EB P w K tA σ H dbs) (hn : dbs.length ≤ 40000) (hb : (decide (dbs.length ≤ 3) && dbs.all (·.2)) = false) : EO (tTup tA) σ H (GA P w K (.tuple (dbs.map (·.1)))) := fun H1 e Q q =>
  h H1 e _ fun vs H2 e2 f2 => ⟨sz_of (by rw [Paired.length (ft_now f2)]; omega), fun a na => q _ _ (e2.trans (Ex.new na)) (ft_imp (ft_new f2 e2 na nt_tup) fun H3 z => ga_tup z.1 z.2 hn hb)⟩
theorem eo_lst (h : EB P w K tA σ H dbs) (hn : dbs.length ≤ 40000) : EO (tLst tA) σ H (GA P w K (.list (dbs.map (·.1)))) := fun H1 e Q q =>
  h H1 e _ fun vs H2 e2 f2 => ⟨sz_of (by rw [Paired.length (ft_now f2)]; omega), fun a na => q _ _ (e2.trans (Ex.new na)) (ft_imp (ft_new f2 e2 na nt_lst) fun H3 z => ⟨sw_lst z.1 (pg_sw z.2), .oth (t := "list") (.base (.lst z.1)) rfl⟩)⟩
theorem ei_tup (h : EB P w K tA σ H dbs) (hn : dbs.length ≤ 40000) : EO (tTup tA) σ H (GB P w K (.tuple (dbs.map (·.1))) false) := fun H1 e Q q =>
  h H1 e _ fun vs H2 e2 f2 => ⟨sz_of (by rw [Paired.length (ft_now f2)]; omega), fun a na => q _ _ (e2.trans (Ex.new na)) (ft_imp (ft_new f2 e2 na nt_tup) fun H3 z => ⟨sw_tup z.1 (pg_sw z.2), .oth (t := "tuple") (.base (.tup z.1)) rfl⟩)⟩
theorem ei_lst (h : EB P w K tA σ H dbs) (hn : dbs.length ≤ 40000) : EO (tLst tA) σ H (GB P w K (.list (dbs.map (·.1))) false) := fun H1 e Q q =>
  h H1 e _ fun vs H2 e2 f2 => ⟨sz_of (by rw [Paired.length (ft_now f2)]; omega), fun a na => q _ _ (e2.trans (Ex.new na)) (ft_imp (ft_new f2 e2 na nt_lst) fun H3 z => ⟨sw_lst z.1 (pg_sw z.2), .oth (t := "list") (.base (.lst z.1)) rfl⟩)⟩
theorem eo_dnew : EO tDNewK σ H (GA P w K (.dict [])) := fun H1 e Q q => fun p hp => q _ _ (Ex.new hp) (ft_imp (ft_new (G := fun _ => True) (ft_pure fun _ => trivial) (Ex.refl H1) hp nt_dK) fun H3 z => ⟨sw_of (rw_dk (ds := []) z.1 rfl) rfl (by show (2 : Nat) ≤ sizeLine; decide), .oth (t := "dict") (.base (.dK z.1)) rfl⟩)
theorem eo_ev {G : V → Hp → Prop} (h : Ev te σ H v) (hg : ∀ H2, G v H2) : EO te σ H G := fun H1 e Q q => h H1 e _ fun H2 e2 => q v H2 e2 (ft_pure hg)
/-! scalars -/
theorem ga_non (H : Hp) : GA P w K .none .non H := ⟨sw_of rw_non rfl (by show (4 : Nat) ≤ sizeLine; decide), .oth (t := "NoneType") (.base .non) rfl⟩
theorem ga_bl (b : Bool) (H : Hp) : GA P w K (.bool b) (.bl b) H := ⟨sw_of (rw_bl b) rfl (by cases b <;> decide +kernel), .oth (t := "bool") (.base (.bl b)) rfl⟩
theorem ga_int (i : Int) (H : Hp) (h : 0 ≤ i ∧ i ≤ 9) : GA P w K (.int i) (.int i) H := ⟨sw_of (rw_int i) (by
    obtain ⟨m, rfl⟩ := Int.eq_ofNat_of_zero_le h.1
    have : m ≤ 9 := by omega
    simp only [PyData.showable, decide_eq_true_eq]
    exact Nat.lt_of_le_of_lt (Nat.log2_le_self _) (by simp; omega)) (by
    obtain ⟨m, rfl⟩ := Int.eq_ofNat_of_zero_le h.1
    have : m ≤ 9 := by omega
    rcases (by omega : m = 0 ∨ m = 1 ∨ m = 2 ∨ m = 3 ∨ m = 4 ∨ m = 5 ∨ m = 6 ∨ m = 7 ∨ m = 8 ∨ m = 9) with rfl | rfl | rfl | rfl | rfl | rfl | rfl | rfl | rfl | rfl <;> decide +kernel), .oth (t := "int") (.base (.int i)) rfl⟩
/-- a text whose signs are all of the first plane -/
structure Tok' (s : Str) (n : Nat) : Prop where
  len : s.length ≤ n
  cps : ∀ c ∈ s.cps.toList, c < 65536
theorem tok_shown {s : Str} (h : Tok' s n) : (PyData.str s).shown.length ≤ 10 * n + 2 := by
  have z := PySem.StrLaws.reprText_len s fun c hc => Nat.lt_trans (h.cps c hc) (by decide)
  have := h.len
  simp only [PyData.shown]
  omega
theorem sw_str {s : Str} (h : Tok' s 100) (H : Hp) : Sw P w H (.str s) (.str s) := sw_of (rw_str s) rfl (Nat.le_trans (tok_shown h) (by decide))
theorem ga_str {s : Str} (h : Tok' s 100) (H : Hp) : GA P w K (.str s) (.str s) H := ⟨sw_str h H, .oth (t := "str") (.base (.str s)) rfl⟩
theorem gb_str {s : Str} {b : Bool} (h : Tok' s 100) (hb : isL s = b) (H : Hp) : GB P w K (.str s) b (.str s) H := by
  subst hb
  exact ⟨sw_str h H, .str s (by have := h.len; omega)⟩
theorem gb_of {v : V} (h : ∀ H, GA P w K d v H) (t : String) (ht : ∀ H, TyX K H v (.type t)) (hk : kitB t "str" = some false) (H : Hp) : GB P w K d false v H := ⟨(h H).1, .oth (ht H) hk⟩
end
/-! ### texts made of a letter -/
def rMulX : R2 := fun x y H Q => ∃ (z : Str) (k : Int), x = .str z ∧ y = .int k ∧ 1 ≤ k ∧ k ≤ 9 ∧ z.length ≤ 8 ∧ Q (.str (Txt.mul z k)) H
theorem op_mulX {X : Cx} : OpR X (binaryOp .Mult) rMulX := by
  intro pins s σ H x y v u Q I rx ry h
  obtain ⟨z, k, rfl, rfl, k1, k9, hz, q⟩ := h
  obtain ⟨t, rfl⟩ := rx
  obtain ⟨t', rfl⟩ := ry
  refine SB.mul ⟨?_, fun _ _ => ?_, fun _ _ => ?_⟩ fun t' tk => ⟨.str (Txt.mul z k), H, I.tok _, ⟨_, rfl⟩, q⟩
  · rw [decide_eq_false (by omega), decide_eq_false (by omega)]
    rfl
  · have h8 : (8 : Int) ≤ (2 ^ 63 - 1) / k := Int.le_ediv_of_mul_le (by omega) (by omega)
    omega
  · refine short24 ?_
    have h2 : k.toNat ≤ 9 := by omega
    have h3 := Nat.mul_le_mul hz h2
    omega
/-- the first sign, nine times -/
def nine (c : Nat) : Str := ⟨#[c, c, c, c, c, c, c, c, c]⟩
theorem mul_nine (c : Nat) : Txt.mul ⟨#[c]⟩ 9 = nine c := rfl
theorem cut_one {s : Str} {c : Nat} {r : List Nat} (h : s.cps.toList = c :: r) : cutS s none (some 1) = ⟨#[c]⟩ := by
  have l : s.length = r.length + 1 := by
    show s.cps.size = _
    rw [← Array.length_toList, h]
    rfl
  unfold cutS
  have e1 : HT.sIx s.length 0 none = 0 := rfl
  have e2 : HT.sIx s.length s.length (some 1) = 1 := by
    unfold HT.sIx
    rw [l]
    simp
    try omega
  rw [e1, e2, h]
  rfl
/-- what is known of a letter -/
structure Let (s : Str) (c : Nat) (r : List Nat) : Prop where
  cps : s.cps.toList = c :: r
  len : r.length ≤ 7
  az : ∀ x ∈ c :: r, 97 ≤ x ∧ x ≤ 122
theorem let_of {s : Str} (h : isL s = true) : ∃ c r, Let s c r := by
  obtain ⟨⟨h1, h2⟩, h3⟩ := isL_iff.mp h
  cases e : s.cps.toList with
  | nil =>
    rw [e] at h1
    exact absurd h1 (by decide)
  | cons c r =>
    rw [e] at h2 h3
    exact ⟨c, r, e, by rw [List.length_cons] at h2; omega, h3⟩
theorem cps_app (a b : Str) : (a ++ b).cps.toList = a.cps.toList ++ b.cps.toList := by
  show (a.cps ++ b.cps).toList = _
  simp
section
variable {s : Str} {c : Nat} {r : List Nat}
theorem Let.lenS (h : Let s c r) : s.length ≤ 8 := by
  show s.cps.size ≤ 8
  rw [← Array.length_toList, h.cps, List.length_cons]
  have := h.len
  omega
theorem Let.tok (h : Let s c r) : Tok' s 8 := ⟨h.lenS, fun x hx => by
  rw [h.cps] at hx
  have := h.az x hx
  omega⟩
theorem tok_mono {n m : Nat} (h : Tok' s n) (hm : n ≤ m) : Tok' s m := ⟨Nat.le_trans h.len hm, h.cps⟩
theorem tok_app {a b : Str} {n m : Nat} (h : Tok' a n) (k : Tok' b m) : Tok' (a ++ b) (n + m) := ⟨by
  have := h.len
  have := k.len
  rw [len_app]
  omega, fun x hx => by
  rw [cps_app] at hx
  exact (List.mem_append.mp hx).elim (h.cps x) (k.cps x)⟩
theorem tok_c {s : Str} {n : Nat} (h : (decide (s.length ≤ n) && s.cps.toList.all fun c => decide (c < 65536)) = true) : Tok' s n := by
  obtain ⟨h1, h2⟩ := Bool.and_eq_true_iff.mp h
  exact ⟨of_decide_eq_true h1, fun c hc => of_decide_eq_true (List.all_eq_true.mp h2 c hc)⟩
theorem Let.nine (h : Let s c r) : Tok' (nine c) 9 := ⟨by show (9 : Nat) ≤ 9; decide, fun x hx => by
  have := h.az c (List.mem_cons_self ..)
  have e : x = c := by simpa [Tk.nine] using hx
  omega⟩
theorem nine_not (c : Nat) : isL (nine c) = false := by
  unfold isL
  rfl
theorem up_toList (h : Let s c r) : (Txt.upper s).cps.toList = (c - 32) :: r.map up1 := by
  rw [upper_ascii fun x hx => by
    rw [h.cps] at hx
    have := h.az x hx
    omega]
  show (s.cps.map up1).toList = _
  rw [Array.toList_map, h.cps, List.map_cons]
  have := h.az c (List.mem_cons_self ..)
  rw [show up1 c = c - 32 from if_pos this]
theorem Let.upTok (h : Let s c r) : Tok' (Txt.upper s) 24 := ⟨Nat.le_trans (len_upper s) (by have := h.lenS; omega), fun x hx => by
  rw [up_toList h] at hx
  have a := h.az c (List.mem_cons_self ..)
  rcases List.mem_cons.mp hx with rfl | hx
  · omega
  · obtain ⟨y, hy, rfl⟩ := List.mem_map.mp hx
    have b := h.az y (List.mem_cons_of_mem _ hy)
    unfold up1
    split <;> omega⟩
theorem not_letter {s : Str} {x : Nat} (hx : x ∈ s.cps.toList) (h : ¬ (97 ≤ x ∧ x ≤ 122)) : isL s = false := by
  cases e : isL s with
  | false => rfl
  | true => exact absurd ((isL_iff.mp e).2 x hx) h
theorem Let.upNot (h : Let s c r) : isL (Txt.upper s) = false := not_letter (x := c - 32) (by rw [up_toList h]; exact List.mem_cons_self ..) (by
  have a := h.az c (List.mem_cons_self ..)
  omega)
theorem app_not {a b : Str} {x : Nat} (hx : x ∈ b.cps.toList) (h : ¬ (97 ≤ x ∧ x ≤ 122)) : isL (a ++ b) = false := not_letter (x := x) (by rw [cps_app]; exact List.mem_append_right _ hx) h
theorem app_not' {a b : Str} {x : Nat} (hx : x ∈ a.cps.toList) (h : ¬ (97 ≤ x ∧ x ≤ 122)) : isL (a ++ b) = false := not_letter (x := x) (by rw [cps_app]; exact List.mem_append_left _ hx) h
end
section
variable {Z : Zn} {σ : L2.St} {H H0 : Hp} {te ta tb : TE} {vs us : List V} {v : V} {K : PySem.W.Frag}
def El (Z : Zn) (te : TE) (σ : L2.St) (H : Hp) (vs : List V) : Prop := ∀ H1, R Z H H1 → ∀ Q : VK, (∀ l H2, Fr H1 l → R Z H1 H2 → H2 l = some (.lst vs) → Q (.ref l) H2) → te σ H1 Q
theorem el_of (h : ∀ H1, R Z H H1 → EvL te σ H1 vs) : El Z te σ H vs := fun H1 r Q q => h H1 r H1 (Ex.refl H1) Q fun l H2 n e hl => q l H2 (fr_none n) (.of r.b e) hl
theorem El.mono {H1 : Hp} (h : El Z te σ H vs) (r : R Z H H1) : El Z te σ H1 vs := fun H2 r2 => h H2 (r.trans r2)
/-- [..] -/
theorem one_lst (h : El Z te σ H vs) (o : Ok Z H) {Q : VK} (k : ∀ r l H1, Fr H r → Fr H l → r ≠ l → R Z H H1 → H1 r = some (.lst vs) → H1 l = some (.lst [.ref r]) → Q (.ref l) H1) : tLst (tCons te tNil) σ H Q :=
  h H (.refl o) _ fun r H1 fr r1 hr => ⟨(by show 1 ≤ sizeLine; decide), fun l hl => by
    have n : r ≠ l := ne_of_none hr hl
    exact k r l _ fr (r1.fr (fr_none hl)) n (r1.new hl) (by rw [upd_ne n]; exact hr) upd_same⟩
/-- l.append(..) -/
theorem q_appR {tj : TE} {D : Ends} {tz : TS} {l : Addr} (hj : ∀ H1 (Q : VK), Q (.ref l) H1 → tj σ H1 Q) (r0 : R Z H0 H) (fl : Fr H0 l) (hu : H l = some (.lst us)) (h : El Z te σ H vs) (hz : us.length < 100000)
    (k : ∀ r H1, Fr H0 r → r ≠ l → R Z H0 H1 → (∀ x o, x ≠ l → H x = some o → NT o → ¬ Z.M x → H1 x = some o) → H1 r = some (.lst vs) → H1 l = some (.lst (us ++ [.ref r])) → tz D σ H1) : tSeq (tDrop (tBM K "list" rAppend tj (tCons te tNil))) tz D σ H := by
  refine hj H _ ⟨.inl ⟨rfl, _, SqL.of hu⟩, h H (.refl r0.b) _ fun r H1 fr r1 hr => ?_⟩
  have n : r ≠ l := (fr_ne fr hu nt_lst).symm
  have hu1 := r1.lst hu (r0.a.fresh fl)
  refine ⟨l, us, .ref r, rfl, rfl, hu1, sz_lt hz, ?_⟩
  exact k r _ (r0.fr fr) n (.mut (r0.trans r1) fl hu1 trivial) (fun x o nx ex nt nm => by rw [upd_ne nx]; exact r1.st x o ex nt nm) (by rw [upd_ne n]; exact hr) upd_same
end
/-- a kind of value that stands while heaps grow -/
structure Up (B : Hp → Hp → V → Prop) : Prop where
  up : ∀ {H0 H H1 : Hp} {v : V}, Ex H H1 → B H0 H v → B H0 H1 v
  dn : ∀ {H0 H H1 : Hp} {v : V}, Ex H0 H1 → B H1 H v → B H0 H v
section
variable {P : Program} {w : World} {K : PySem.W.Frag} {B : Hp → Hp → V → Prop} {σ : L2.St} {H H0 H1 : Hp} {te ta tb : TE} {tA tR : TA} {v : V} {n m i : Nat}
def EA (B : Hp → Hp → V → Prop) (ta : TA) (σ : L2.St) (H0 : Hp) (n : Nat) : Prop := ∀ H1, Ex H0 H1 → ∀ Q : List V → Hp → Prop, (∀ vs H2, Ex H1 H2 → vs.length = n → (∀ v ∈ vs, B H1 H2 v) → Q vs H2) → ta σ H1 Q
theorem ea0 : EA B tNil σ H 0 := fun H1 e Q q => q [] H1 (Ex.refl H1) rfl fun _ z => absurd z List.not_mem_nil
theorem ea1 (U : Up B) (h : ∀ H1, Ex H H1 → ∀ Q : VK, (∀ v H2, Ex H1 H2 → B H1 H2 v → Q v H2) → te σ H1 Q) (hr : EA B tR σ H n) : EA B (tCons te tR) σ H (n + 1) := fun H1 e Q q =>
  h H1 e _ fun v H2 e2 f2 => hr H2 (e.trans e2) _ fun vs H3 e3 hl f3 => q (v :: vs) H3 (e2.trans e3) (by rw [List.length_cons, hl]) fun u hu => by
    rcases List.mem_cons.mp hu with rfl | hu
    · exact U.up e3 f2
    · exact U.dn e2 (f3 u hu)
/-- a list of n of them, new since H0 -/
def OL (B : Hp → Hp → V → Prop) (H0 H : Hp) (r : Addr) (n : Nat) : Prop := ∃ vs, H r = some (.lst vs) ∧ vs.length = n ∧ ∀ v ∈ vs, B H0 H v
theorem ol_up (U : Up B) {r : Addr} (e : Ex H H1) (h : OL B H0 H r n) : OL B H0 H1 r n := by
  obtain ⟨vs, h1, h2, h3⟩ := h
  exact ⟨vs, e _ _ h1, h2, fun v hv => U.up e (h3 v hv)⟩
def EL (B : Hp → Hp → V → Prop) (te : TE) (σ : L2.St) (H0 H : Hp) (n : Nat) : Prop := ∀ H1, Ex H H1 → ∀ Q : VK, (∀ r H2, H1 r = none → Ex H1 H2 → OL B H0 H2 r n → Q (.ref r) H2) → te σ H1 Q
theorem el_lst' (U : Up B) (h : EA B tA σ H n) (e0 : Ex H0 H) (hn : n ≤ 1000) : EL B (tLst tA) σ H0 H n := fun H1 e Q q =>
  h H1 e _ fun vs H2 e2 hl f => ⟨sz_of (by omega), fun p hp => q p _ (fresh_back e2 hp) (e2.trans (Ex.new hp)) ⟨vs, upd_same, hl, fun v hv => U.up (Ex.new hp) (U.dn (e0.trans e) (f v hv))⟩⟩
theorem el_cat' (U : Up B) {a : Addr} (ha : Ev ta σ H (.ref a)) (hl : OL B H0 H a n) (hb : EL B tb σ H0 H m) (hz : n + m ≤ 1000) : EL B (tOp rCat ta tb) σ H0 H (n + m) := fun H1 e Q q => ha H1 e _ fun H2 e2 => hb H2 (e.trans e2) _ fun r H3 hr e3 hR => by
  obtain ⟨vs, v1, v2, v3⟩ := ol_up U ((e.trans e2).trans e3) hl
  obtain ⟨us, u1, u2, u3⟩ := hR
  refine ⟨a, r, vs, us, rfl, rfl, v1, u1, sz_of (by omega), fun t ht => q t _ (fresh_back (e2.trans e3) ht) ((e2.trans e3).trans (Ex.new ht)) ⟨vs ++ us, upd_same, by rw [List.length_append, v2, u2], fun v hv => ?_⟩⟩
  rcases List.mem_append.mp hv with hv | hv
  · exact U.up (Ex.new ht) (v3 v hv)
  · exact U.up (Ex.new ht) (u3 v hv)
theorem q_asgEL {tz : TS} {D : Ends} (h : EL B te σ H0 H n) (k : ∀ r H1, H r = none → Ex H H1 → OL B H0 H1 r n → tz D (σ.set i (some (.ref r))) H1) : tSeq (tAsg te (gName i)) tz D σ H := h H (Ex.refl H) _ k
/-- what is no word: it shows as d -/
def OW (P : Program) (w : World) (K : PySem.W.Frag) (H0 H : Hp) (v : V) : Prop := ∃ d, Sok d ∧ Ft H0 H (GA P w K d v)
theorem up_ow : Up (OW P w K) := ⟨fun e ⟨d, h1, h2⟩ => ⟨d, h1, ft_up e h2⟩, fun e ⟨d, h1, h2⟩ => ⟨d, h1, ft_dn e h2⟩⟩
theorem ow_of {d : PyData} (h : EO te σ H (GA P w K d)) (hd : Sok d) : ∀ H1, Ex H H1 → ∀ Q : VK, (∀ v H2, Ex H1 H2 → OW P w K H1 H2 v → Q v H2) → te σ H1 Q := fun H1 e Q q => h H1 e Q fun v H2 e2 f => q v H2 e2 ⟨d, hd, f⟩
/-- what is no word's text -/
def BT (K : PySem.W.Frag) (v : V) (H : Hp) : Prop := (∃ t : String, TyX K H v (.type t) ∧ kitB t "str" = some false) ∨
  ∃ (s : Str) (ys : List Str), v = .str s ∧ s ≠ "-" ∧ s.length ≤ 1000 ∧ Txt.split s "." = ys ∧ ys.length ≤ 1000 ∧ (∀ y ∈ ys, y.length ≤ 1000) ∧ isW ys = false
def OT (K : PySem.W.Frag) (H0 H : Hp) (v : V) : Prop := Ft H0 H (BT K v)
theorem up_ot : Up (OT K) := ⟨fun e h => ft_up e h, fun e h => ft_dn e h⟩
theorem dict_len {s : Str} (h : Tok' s 8) : (PyData.dict [(.str s, .int 1)]).shown.length ≤ 100 := by
  have a := tok_shown h
  have z := dictText_len_le (PyData.shownKv [(.str s, .int 1)])
  have e : (PyData.int 1).shown.length ≤ 1 := by decide +kernel
  simp only [PyData.shown, PyData.shownKv, List.map_cons, List.map_nil, List.sum_cons, List.sum_nil, List.length_cons, List.length_nil] at z a e ⊢
  rw [len_app, len_app, show Str.length ": " = 2 from rfl] at z
  omega
/-! sizes of what is shown -/
def Sz (n k : Nat) (d : PyData) : Prop := d.shown.length ≤ n ∧ d.depth ≤ k
theorem sz_up {n k n' k' : Nat} {d : PyData} (h : Sz n k d) (a : n ≤ n') (b : k ≤ k') : Sz n' k' d := ⟨Nat.le_trans h.1 a, Nat.le_trans h.2 b⟩
theorem sz_sum {n k : Nat} : ∀ {ds : List PyData}, (∀ d ∈ ds, Sz n k d) → ((PyData.shownAll ds).map (·.length)).sum ≤ n * ds.length ∧ (PyData.shownAll ds).length = ds.length ∧ PyData.depthAll ds ≤ k
  | [], _ => ⟨by simp [PyData.shownAll], by simp [PyData.shownAll], by simp [PyData.depthAll]⟩
  | d :: ds, h => by
    obtain ⟨a, b, c⟩ := sz_sum fun x hx => h x (List.mem_cons_of_mem _ hx)
    obtain ⟨h1, h2⟩ := h d (List.mem_cons_self ..)
    refine ⟨?_, by simp [PyData.shownAll, b], by simp only [PyData.depthAll]; omega⟩
    simp only [PyData.shownAll, List.map_cons, List.sum_cons, List.length_cons, Nat.mul_succ]
    omega
theorem sz_lst {n k m : Nat} {ds : List PyData} (h : ∀ d ∈ ds, Sz n k d) (hm : n * ds.length + 2 * ds.length + 3 ≤ m) : Sz m (k + 1) (.list ds) := by
  obtain ⟨a, b, c⟩ := sz_sum h
  have z := listText_len_le (PyData.shownAll ds)
  exact ⟨by simp only [PyData.shown]; omega, by simp only [PyData.depth]; omega⟩
theorem sz_tup {n k m : Nat} {ds : List PyData} (h : ∀ d ∈ ds, Sz n k d) (hm : n * ds.length + 2 * ds.length + 3 ≤ m) : Sz m (k + 1) (.tuple ds) := by
  obtain ⟨a, b, c⟩ := sz_sum h
  have z := tupleText_len_le (PyData.shownAll ds)
  exact ⟨by simp only [PyData.shown]; omega, by simp only [PyData.depth]; omega⟩
theorem sz_str {s : Str} {n : Nat} (h : Tok' s n) (hn : n ≤ 30) : Sz 302 0 (.str s) := ⟨Nat.le_trans (tok_shown h) (by omega), by simp [PyData.depth]⟩
theorem sz_non : Sz 302 0 .none := ⟨by decide +kernel, by simp [PyData.depth]⟩
theorem sz_bl (b : Bool) : Sz 302 0 (.bool b) := ⟨by cases b <;> decide +kernel, by simp [PyData.depth]⟩
theorem sz_int (i : Int) (h : 0 ≤ i ∧ i ≤ 9) : Sz 302 0 (.int i) := ⟨by
    obtain ⟨m, rfl⟩ := Int.eq_ofNat_of_zero_le h.1
    have : m ≤ 9 := by omega
    rcases (by omega : m = 0 ∨ m = 1 ∨ m = 2 ∨ m = 3 ∨ m = 4 ∨ m = 5 ∨ m = 6 ∨ m = 7 ∨ m = 8 ∨ m = 9) with rfl | rfl | rfl | rfl | rfl | rfl | rfl | rfl | rfl | rfl <;> decide +kernel, by simp [PyData.depth]⟩
theorem sok_of {n k : Nat} {d : PyData} (h : Sz n k d) (a : n ≤ 2500) (b : k ≤ 10) : Sok d := ⟨Nat.le_trans h.1 a, Nat.le_trans h.2 b⟩
theorem eo_dict1 {s : Str} (ht : Tok' s 8) (hk : Ev ta σ H (.str s)) (hv : Ev tb σ H (.int 1)) : EO (tDisp [(ta, tb)]) σ H (GA P w K (.dict [(.str s, .int 1)])) := fun H1 e Q q => fun p hp => hk _ (e.trans (Ex.new hp)) _ fun H2 e2 => hv _ ((e.trans (Ex.new hp)).trans e2) _ fun H3 e3 => by
  have e13 : Ex H1 (upd H3 p (.dK [(.inr s, .int 1)])) := Ex.mut (((Ex.new hp).trans e2).trans e3) hp
  refine ⟨e3 _ _ (e2 _ _ upd_same), [(.inr s, .int 1)], rfl, (by show 1 ≤ 15; decide), q _ _ e13 ⟨[(p, .dK [(.inr s, .int 1)])], fun q hq => ?_, fun H4 z => ?_⟩⟩
  · rw [List.mem_singleton.mp hq]
    exact ⟨hp, nt_dK, upd_same⟩
  · have z := z _ (List.mem_singleton.mpr rfl)
    refine ⟨sw_of (rw_dk (ds := [.int 1]) z rfl) (by rw [PyData.showable]; simp only [List.zipWith, PyData.showableKv, kD, PyData.showable, Bool.and_true, Bool.true_and, decide_eq_true_eq]; decide +kernel) ?_, .oth (t := "dict") (.base (.dK z)) rfl⟩
    exact Nat.le_trans (dict_len ht) (by decide)
theorem ev_addX {a b : Str} (ha : Ev ta σ H (.str a)) (hb : Ev tb σ H (.str b)) (hz : a.length + b.length ≤ 1000) : Ev (tOp (fun x y H Q => ∃ i j, x = V.str i ∧ y = V.str j ∧ i.length + j.length ≤ sizeLine ∧ Q (.str (i ++ j)) H) ta tb) σ H (.str (a ++ b)) := fun H1 e Q q =>
  ha H1 e _ fun H2 e2 => hb H2 (e.trans e2) _ fun H3 e3 => ⟨a, b, rfl, rfl, sz_of (by omega), q H3 (e2.trans e3)⟩
theorem ev_nine {s : Str} {c : Nat} {r : List Nat} (h : Let s c r) {to th : TO} (ha : Ev ta σ H (.str s)) (h1 : EvO to σ H none) (h2 : EvO th σ H (some 1)) : Ev (tOp rMulX (tSl rSlS ta to th) (tC (.int 9))) σ H (.str (nine c)) := fun H1 e Q q =>
  ha H1 e _ fun H2 e2 => h1 H2 (e.trans e2) _ fun H3 e3 => h2 H3 ((e.trans e2).trans e3) _ fun H4 e4 => by
    refine ⟨s, rfl, sz_of (by have := h.lenS; omega), ?_⟩
    rw [cut_one h.cps]
    exact ⟨⟨#[c]⟩, 9, rfl, rfl, by decide, by decide, by show (1 : Nat) ≤ 8; decide, by rw [mul_nine]; exact q H4 ((e2.trans e3).trans e4)⟩
theorem ev_up {s : Str} (ha : Ev ta σ H (.str s)) (hz : s.length ≤ 1000) : Ev (tM0 (fun x xs H Q => ∃ a, x = V.str a ∧ xs = [] ∧ a.length ≤ 5592405 ∧ Q (.str (Txt.upper a)) H) ta) σ H (.str (Txt.upper s)) := fun H1 e Q q =>
  ha H1 e _ fun H2 e2 => ⟨⟨s, rfl⟩, s, rfl, rfl, by omega, q H2 e2⟩
end
/-! ### what cases tell -/
section
variable {P : Program} {w : World} {K : PySem.W.Frag} {Z : Zn} {σ : L2.St} {H H0 H1 : Hp} {te ta tb : TE} {tt : TT} {tri : List V} {v : V} {l : Addr} {n j : Nat} {ds : List PyData} {d : PyData} {nm : Str}
theorem th_of (o : Ok Z H0) (h : OW P w K H0 H v) : ∃ d, Sok d ∧ ∀ H2, R Z H H2 → GA P w K d v H2 := by
  obtain ⟨d, hd, S, h1, h2⟩ := h
  exact ⟨d, hd, fun H2 r => h2 H2 fun q hq => r.st _ _ (h1 q hq).2.2 (h1 q hq).2.1 (o.fresh (fr_none (h1 q hq).1))⟩
def Cs (H0 H : Hp) (l : Addr) (n : Nat) (tri : List V) : Prop := Fr H0 l ∧ ∃ rs, H l = some (.lst rs) ∧ rs.length = n ∧ ∀ r ∈ rs, ∃ a, r = .ref a ∧ a ≠ l ∧ Fr H0 a ∧ H a = some (.lst tri)
theorem cs_R (o : Ok Z H0) (r : R Z H H1) (h : Cs H0 H l n tri) : Cs H0 H1 l n tri := by
  obtain ⟨f, rs, h1, h2, h3⟩ := h
  exact ⟨f, rs, r.lst h1 (o.fresh f), h2, fun x hx => by
    obtain ⟨a, e, ne, fa, ha⟩ := h3 x hx
    exact ⟨a, e, ne, fa, r.lst ha (o.fresh fa)⟩⟩
theorem q_cs1 {tz : TS} {D : Ends} {i : Nat} (h : El Z te σ H tri) (r0 : R Z H0 H) (k : ∀ l H1, R Z H0 H1 → Cs H0 H1 l 1 tri → tz D (σ.set i (some (.ref l))) H1) : tSeq (tAsg (tLst (tCons te tNil)) (gName i)) tz D σ H := by
  unfold tSeq tAsg
  exact one_lst h r0.b fun r l H1 fr fl ne r1 hr hl => k l H1 (r0.trans r1) ⟨r0.fr fl, [.ref r], hl, rfl, fun x hx => ⟨r, List.mem_singleton.mp hx, ne, r0.fr fr, hr⟩⟩
theorem q_csA {tj : TE} {tz : TS} {D : Ends} (hj : ∀ H1 (Q : VK), Q (.ref l) H1 → tj σ H1 Q) (h : El Z te σ H tri) (r0 : R Z H0 H) (c : Cs H0 H l n tri) (hn : n ≤ 1000) (k : ∀ H1, R Z H0 H1 → Cs H0 H1 l (n + 1) tri → tz D σ H1) : tSeq (tDrop (tBM K "list" rAppend tj (tCons te tNil))) tz D σ H := by
  obtain ⟨fl, rs, hu, hl, hr⟩ := c
  refine q_appR hj r0 fl hu h (by omega) fun r H1 fr ne r1 keep hr1 hl1 => k H1 r1 ⟨fl, rs ++ [.ref r], hl1, by rw [List.length_append, hl]; rfl, fun x hx => ?_⟩
  rcases List.mem_append.mp hx with z | z
  · obtain ⟨a, e, na, fa, ha⟩ := hr x z
    exact ⟨a, e, na, fa, keep _ _ na ha nt_lst (r0.a.fresh fa)⟩
  · exact ⟨r, List.mem_singleton.mp z, ne, fr, hr1⟩
/-- a list that shows ds -/
def Shl (P : Program) (w : World) (H : Hp) (l : Addr) (ds : List PyData) : Prop := ∃ rs, H l = some (.lst rs) ∧ Paired (Sw P w H) rs ds
def Els (P : Program) (w : World) (Z : Zn) (te : TE) (σ : L2.St) (H : Hp) (ds : List PyData) : Prop := ∀ H1, R Z H H1 → ∀ Q : VK, (∀ l H2, R Z H1 H2 → Shl P w H2 l ds → Q (.ref l) H2) → te σ H1 Q
theorem ew_repr (h : Els P w Z te σ H ds) (hz : (listText (PyData.shownAll ds)).length ≤ sizeLine) (hd : PyData.depthAll ds ≤ 40) : Rm.Ew Z (tCB (rReprS P w) (tCons te tNil)) σ H (.str (listText (PyData.shownAll ds))) := fun H1 r Q q => h H1 r _ fun l H2 r2 s => by
  obtain ⟨rs, h1, h2⟩ := s
  exact ⟨l, rs, ds, rfl, h1, h2, hz, hd, q H2 r2⟩
theorem els_var (h : ∀ H1, R Z H H1 → Shl P w H1 l ds) (hj : σ[j]? = some (some (.ref l))) : Els P w Z (tVar j) σ H ds := fun H1 r Q q => ⟨_, hj, q l H1 (.refl r.b) (h H1 r)⟩
def D3 (nm : Str) (d : PyData) : PyData := .list [.str nm, d, .bool true]
theorem sw_D3 {a : Addr} (e : H a = some (.lst [.str nm, v, .bl true])) (hn : Tok' nm 100) (hv : Sw P w H v d) : Sw P w H (.ref a) (D3 nm d) := sw_lst e (.cons (sw_str hn H) (.cons hv (.cons (sw_of (rw_bl true) rfl (by decide +kernel)) .nil)))
theorem sz_D3 (hn : Tok' nm 30) (hd : Sok d) : Sz 7600 11 (D3 nm d) := sz_lst (n := 2500) (k := 10) (fun x hx => by
    rcases List.mem_cons.mp hx with e | hx
    · rw [e]
      exact sz_up (sz_str hn (Nat.le_refl _)) (by decide) (by decide)
    · rcases List.mem_cons.mp hx with e | hx
      · rw [e]
        exact hd
      · rw [List.mem_singleton.mp hx]
        exact sz_up (sz_bl true) (by decide) (by decide)) (Nat.le_of_ble_eq_true rfl)
/-- n of them are short enough -/
theorem shown_ok {ds : List PyData} (h : ∀ d ∈ ds, Sz 7600 11 d) (hn : ds.length ≤ 100) : (listText (PyData.shownAll ds)).length ≤ sizeLine ∧ PyData.depthAll ds ≤ 40 := by
  obtain ⟨a, b, c⟩ := sz_sum h
  have z := listText_len_le (PyData.shownAll ds)
  have m : 7600 * ds.length ≤ 7600 * 100 := Nat.mul_le_mul_left _ hn
  rw [sizeLine_eq]
  exact ⟨by omega, by omega⟩
theorem paired_rep {α β : Type} {Rel : α → β → Prop} {b : β} : ∀ {xs : List α}, (∀ x ∈ xs, Rel x b) → Paired Rel xs (List.replicate xs.length b)
  | [], _ => .nil
  | x :: xs, h => by
    rw [List.length_cons, List.replicate_succ]
    exact .cons (h x (List.mem_cons_self ..)) (paired_rep fun y hy => h y (List.mem_cons_of_mem _ hy))
theorem cs_shl (c : Cs H0 H l n [.str nm, v, .bl true]) (hn : Tok' nm 100) (hv : Sw P w H v d) : Shl P w H l (List.replicate n (D3 nm d)) := by
  obtain ⟨_, rs, h1, h2, h3⟩ := c
  refine ⟨rs, h1, ?_⟩
  rw [← h2]
  exact paired_rep fun x hx => by
    obtain ⟨a, e, _, _, ha⟩ := h3 x hx
    rw [e]
    exact sw_D3 ha hn hv
/-- [due] * n -/
theorem els_rep {a : Addr} {m : Nat} (hj : Rm.Ew Z te σ H (.ref a)) (h : ∀ H1, R Z H H1 → Sw P w H1 (.ref a) d) (hm : m ≤ 100) : Els P w Z (tOp rRep (tLst (tCons te tNil)) (tC (.int (m : Int)))) σ H (List.replicate m d) := fun H1 r Q q =>
  hj H1 r _ fun H2 r2 => ⟨(by show 1 ≤ sizeLine; decide), fun p hp => ⟨p, (m : Int), [.ref a], rfl, rfl, upd_same, by omega, by omega, by
    show 1 * (m : Int).toNat ≤ sizeLine
    rw [Nat.one_mul, Int.toNat_natCast]
    exact sz_of (by omega), fun t ht => by
    rw [Int.toNat_natCast, flatten_rep1]
    have r3 := (r2.new (o := .lst [.ref a]) hp).new (o := .lst (List.replicate m (.ref a))) ht
    refine q t _ r3 ⟨_, upd_same, ?_⟩
    have z := paired_rep (Rel := Sw P w (upd (upd H2 p (.lst [.ref a])) t (.lst (List.replicate m (.ref a))))) (b := d) (xs := List.replicate m (V.ref a)) fun x hx => by
      rw [List.eq_of_mem_replicate hx]
      exact h _ (r.trans r3)
    rw [List.length_replicate] at z
    exact z⟩⟩
theorem et_neS {x y : Str} (ha : Rm.Ew Z ta σ H (.str x)) (hb : Rm.Ew Z tb σ H (.str y)) (e : x = y) : Rm.Et Z (tTest (tOp rNe ta tb)) σ H false := by
  subst e
  have z : Rm.Ew Z (tOp rNe ta tb) σ H (.bl (!decide (V.str x = V.str x))) := Rm.ew_op ha hb fun _ _ => rv_ne rfl
  rw [decide_eq_true rfl] at z
  exact Rm.et_test z
theorem s_whenR {b : Bool} {tu : TS} {D : Ends} (o : Ok Z H) (h : Rm.Et Z tt σ H b) (h1 : b = true → ∀ H1, R Z H H1 → tu D σ H1) (h2 : b = false → ∀ H1, R Z H H1 → D.nx σ H1) : tIfS tt tu tNext D σ H := h H (.refl o) _ fun H1 r => by
  cases b with
  | true => exact h1 rfl H1 r
  | false => exact h2 rfl H1 r
end
section
variable {P : Program} {w : World} {K : PySem.W.Frag} {Z : Zn} {σ : L2.St} {H H0 H1 : Hp} {te ta tb : TE} {tt : TT} {tri : List V} {v : V} {l : Addr} {n j : Nat} {ds : List PyData} {d : PyData} {nm f : Str} {CW CS CT C : Addr} {t : XK → TE}
theorem els_if {b : Bool} (h : Rm.Et Z tt σ H b) (h1 : b = true → Els P w Z ta σ H ds) (h2 : b = false → Els P w Z tb σ H ds) : Els P w Z (tIf tt ta tb) σ H ds := fun H1 r Q q => h H1 r _ fun H2 r2 => by
  cases b with
  | true => exact h1 rfl H2 (r.trans r2) Q fun l H3 r3 s => q l H3 (r2.trans r3) s
  | false => exact h2 rfl H2 (r.trans r2) Q fun l H3 r3 s => q l H3 (r2.trans r3) s
/-- what a word shows, of any length -/
theorem wd_sw {v : V} {zs : List Str} (h : Wd K H v zs) (ht : ∀ z ∈ zs, Tok' z 8) : Sw P w H v (wD zs) := by
  obtain ⟨a, rfl, e⟩ := h
  refine sw_tup e ?_
  clear e
  induction zs with
  | nil => exact .nil
  | cons z zs ih => exact .cons (sw_str (tok_mono (ht z (List.mem_cons_self ..)) (by decide)) H) (ih fun y hy => ht y (List.mem_cons_of_mem _ hy))
theorem wd_sok {zs : List Str} (ht : ∀ z ∈ zs, Tok' z 8) (hn : zs.length ≤ 6) : Sok (wD zs) := by
  refine sok_of (sz_tup (n := 302) (k := 0) (m := 2000) (fun d hd => ?_) (by rw [List.length_map]; omega)) (by decide) (by decide)
  obtain ⟨z, hz, rfl⟩ := List.mem_map.mp hd
  exact sz_str (ht z hz) (by decide)
theorem tok_letter {s : Str} (h : isL s = true) : Tok' s 8 := by
  obtain ⟨c, r, k⟩ := let_of h
  exact k.tok
theorem sz_tri (hn : Tok' nm 30) (hd : Sok d) : ∀ x ∈ [PyData.str nm, d, .bool true], Sz 7600 11 x := fun x hx => by
  rcases List.mem_cons.mp hx with e | hx
  · rw [e]
    exact sz_up (sz_str hn (Nat.le_refl _)) (by decide) (by decide)
  · rcases List.mem_cons.mp hx with e | hx
    · rw [e]
      exact sz_up (n := 2500) (k := 10) hd (by decide) (by decide)
    · rw [List.mem_singleton.mp hx]
      exact sz_up (sz_bl true) (by decide) (by decide)
theorem tri_sw (hn : Tok' nm 100) (hv : Sw P w H v d) : Paired (Sw P w H) [.str nm, v, .bl true] [.str nm, d, .bool true] := .cons (sw_str hn H) (.cons hv (.cons (sw_of (rw_bl true) rfl (by decide +kernel)) .nil))
theorem els_told : Els P w Z (tLst (tCons (tC (.str "told")) tNil)) σ H [.str "told"] := fun H1 r Q q => ⟨(by show 1 ≤ sizeLine; decide), fun p hp => by
  have r3 : R Z H1 (upd H1 p (.lst [.str "told"])) := .of r.b (Ex.new hp)
  exact q p _ r3 ⟨_, upd_same, .cons (sw_str (tok_c (by decide +kernel)) _) .nil⟩⟩
theorem els_tri {te : TE} (hn : Tok' nm 100) (h : Rm.Ew Z te σ H v) (hv : ∀ H1, R Z H H1 → Sw P w H1 v d) : Els P w Z (tLst (tCons (tC (.str nm)) (tCons te (tCons (tC (.bl true)) tNil)))) σ H [.str nm, d, .bool true] := fun H1 r Q q =>
  h H1 r _ fun H2 r2 => ⟨(by show 3 ≤ sizeLine; decide), fun p hp => by
    have r3 : R Z H1 (upd H2 p (.lst [.str nm, v, .bl true])) := r2.new hp
    exact q p _ r3 ⟨_, upd_same, tri_sw hn (hv _ (r.trans r3))⟩⟩
theorem ew_eqS {x : Str} (ha : Rm.Ew Z ta σ H (.str x)) (hb : Rm.Ew Z tb σ H (.str x)) : Rm.Ew Z (tOp rEq ta tb) σ H (.bl true) :=
  Rm.ew_is (Rm.ew_op ha hb fun _ _ => rv_eq rfl) (by simp)
end
section
variable {P : Program} {w : World} {K : PySem.W.Frag} {Z : Zn} {σ : L2.St} {H H0 H1 : Hp} {te ta tb : TE} {tt : TT} {tri : List V} {v : V} {l : Addr} {n j : Nat} {ds : List PyData} {d : PyData} {nm f : Str} {CW CS CT C : Addr} {t : XK → TE}
theorem els_repL {m : Nat} (h : El Z te σ H tri) (hs : ∀ H1 a, R Z H H1 → H1 a = some (.lst tri) → Sw P w H1 (.ref a) d) (hm : m ≤ 100) : Els P w Z (tOp rRep (tLst (tCons te tNil)) (tC (.int (m : Int)))) σ H (List.replicate m d) := fun H1 r Q q =>
  h H1 r _ fun a H2 fa r2 ha => ⟨(by show 1 ≤ sizeLine; decide), fun p hp => ⟨p, (m : Int), [.ref a], rfl, rfl, upd_same, by omega, by omega, by
    show 1 * (m : Int).toNat ≤ sizeLine
    rw [Nat.one_mul, Int.toNat_natCast]
    exact sz_of (by omega), fun t ht => by
    rw [Int.toNat_natCast, flatten_rep1]
    have r3 := (r2.new (o := .lst [.ref a]) hp).new (o := .lst (List.replicate m (.ref a))) ht
    have ra : R Z H2 (upd (upd H2 p (.lst [.ref a])) t (.lst (List.replicate m (.ref a)))) := ((R.refl r2.b).new hp).new ht
    refine q t _ r3 ⟨_, upd_same, ?_⟩
    have z := paired_rep (Rel := Sw P w (upd (upd H2 p (.lst [.ref a])) t (.lst (List.replicate m (.ref a))))) (b := d) (xs := List.replicate m (V.ref a)) fun x hx => by
      rw [List.eq_of_mem_replicate hx]
      exact hs _ a (r.trans r3) (ra.lst ha (r.b.fresh fa))
    rw [List.length_replicate] at z
    exact z⟩⟩
theorem ev_joinL {ys : List Str} (h : EvL te σ H (ys.map V.str)) (hz : (ys.map (·.length)).sum + ys.length ≤ 1000) : Ev (tM1 (rJoin K) (tC (.str ".")) te) σ H (.str (Str.join "." ys)) := fun H1 e Q q => ⟨⟨_, rfl⟩, h H1 e _ fun l H2 hl e2 hv => ⟨".", l, ys, rfl, rfl, .inl (SqL.of hv), by show _ + ys.length * 1 ≤ _; omega, by rw [TL.join_eq]; exact q H2 e2⟩⟩
end
/-- {k: v}, k a tuple -/
def tDisp1T (tk tv : TE) : TE := fun σ H Q => ∀ D, H D = none → tPairs [(tk, tv)] σ (upd H D (.dT [])) fun ps H2 => ∃ (b : Addr) (k : List L2.Key) (v : V), ps = [(.ref b, v)] ∧ H2 D = some (.dT []) ∧ H2 b = some (.tup (k.map kV)) ∧ Q (.ref D) (upd H2 D (.dT (putK [] k v)))
theorem pe_disp1T {X : Cx} {pos : Pos} {ke ve : Expr} {tk tv : TE} (hu : X.A.units < cLine) (h : PPs X pos [some ke] [ve] [(tk, tv)]) : PE X (.Dict [some ke] [ve] pos) (tDisp1T tk tv) := by
  constructor
  intro pins s σ H Q I q
  have hn := I.hok.fresh (Nat.le_refl s.heap.objs.size)
  have I1 := I.laid (a := s.heap.objs.size) (o := .dT []) (h' := s.heap.push { cls := .type "dict", data := .dict #[] }) (t' := s.toks) (fun _ _ q => Heap.get?_push_of_some _ q) (Nat.le_refl _) (dt_empty s.heap I.big)
  refine wpAny_Dict_any rfl rfl (fun z => nomatch z) (by show 1 ≤ 15; decide) (thn (h.run pins _ σ _ _ I1 (q _ hn)) fun ws s2 hh => ?_)
  obtain ⟨ps, H2, I2, rel, b, k, v, rfl, hD, hb, q2⟩ := hh
  cases rel with
  | @cons x y xs ys r t =>
    cases t
    obtain ⟨u1, u2⟩ := y
    obtain ⟨r1, r2⟩ := r
    obtain rfl : u1 = Value.ref b := r1
    unfold storeAll
    rw [List.forIn_cons]
    refine wpAny_bind (wpAny_bind (putT I2 hu hD hb (by show 0 < sizeLine; decide) r2 fun t I3 => wpAny_pure ?_))
    show wpAny _ _ (forIn [] _ _) _ _ _
    rw [List.forIn_nil]
    exact wpAny_pure ⟨.ref _, _, I3, rfl, q2⟩
def rTupleK (K : PySem.W.Frag) : List V → Hp → VK → Prop := fun xs H Q => ∃ p ys, xs = [V.ref p] ∧ ((SqL K H p ys ∧ ∀ l, H l = none → Q (V.ref l) (upd H l (.tup ys))) ∨ (SqT K H p ys ∧ Q (V.ref p) H))
theorem call_tupleK {X : Cx} {K : PySem.W.Frag} (h : X.K = K := by rfl) : CallR X (.type "tuple") (rTupleK K) := by
  subst h
  exact call_tuple_of
section
variable {P : Program} {w : World} {K : PySem.W.Frag} {Z : Zn} {σ : L2.St} {H H0 H1 : Hp} {te ta tb : TE} {tt : TT} {tri us : List V} {u v : V} {l b : Addr} {n j m : Nat} {ds : List PyData} {d : PyData} {nm f : Str} {CW CS CT C : Addr} {t : XK → TE} {TT : List (Addr × Str)} {E : XK} {Q : VK}
theorem rep_first {rest : List Bool} {i : Nat} (h : (List.replicate m true ++ false :: rest)[i]? = some false) (pr : ∀ j, j < i → (List.replicate m true ++ false :: rest)[j]? = some true) : i = m := by
  rcases Nat.lt_trichotomy i m with z | z | z
  · rw [List.getElem?_append_left (by rw [List.length_replicate]; exact z), List.getElem?_replicate, if_pos z] at h
    cases h
  · exact z
  · have y := pr m z
    rw [List.getElem?_append_right (by rw [List.length_replicate]; omega), List.length_replicate, Nat.sub_self] at y
    cases y
/-- what is no list, no tuple -/
def NL (K : PySem.W.Frag) (v : V) (H : Hp) : Prop := ∃ ty : String, TyX K H v (.type ty) ∧ PySem.W.kitAny K (.type ty) [.type "list", .type "tuple"] = some false
def ON (K : PySem.W.Frag) (H0 H : Hp) (v : V) : Prop := Ft H0 H (NL K v)
theorem up_on : Up (ON K) := ⟨fun e h => ft_up e h, fun e h => ft_dn e h⟩
theorem nl_of (o : Ok Z H0) (h : ON K H0 H v) : ∀ H2, R Z H H2 → NL K v H2 := by
  obtain ⟨S, h1, h2⟩ := h
  exact fun H2 r => h2 H2 fun q hq => r.st _ _ (h1 q hq).2.2 (h1 q hq).2.1 (o.fresh (fr_none (h1 q hq).1))
theorem on_ev (h : Ev te σ H v) (k : ∀ H, NL K v H) : ∀ H1, Ex H H1 → ∀ Q : VK, (∀ v H2, Ex H1 H2 → ON K H1 H2 v → Q v H2) → te σ H1 Q := fun H1 e Q q => h H1 e Q fun H2 e2 => q v H2 e2 (ft_pure k)
theorem on_dnew : ∀ H1, Ex H H1 → ∀ Q : VK, (∀ v H2, Ex H1 H2 → ON K H1 H2 v → Q v H2) → tDNewK σ H1 Q := fun H1 e Q q => fun p hp => q _ _ (Ex.new hp) (ft_imp (ft_new (G := fun _ => True) (ft_pure fun _ => trivial) (Ex.refl H1) hp nt_dK) fun H3 z => ⟨"dict", .base (.dK z.1), rfl⟩)
theorem on_dT : ∀ H1, Ex H H1 → ∀ Q : VK, (∀ v H2, Ex H1 H2 → ON K H1 H2 v → Q v H2) → tDisp1T (tTup tNil) (tC (.int 1)) σ H1 Q := fun H1 e Q q => fun D hD => ⟨Nat.zero_le _, fun b hb => by
  have e2 : Ex H1 (upd (upd (upd H1 D (.dT [])) b (.tup [])) D (.dT (putK [] ([] : List L2.Key) (.int 1)))) := Ex.mut ((Ex.new hD).trans (Ex.new hb)) hD
  have ne : D ≠ b := ne_of_none upd_same hb
  exact ⟨b, [], .int 1, rfl, by rw [upd_ne ne]; exact upd_same, upd_same, q _ _ e2 ⟨[(D, .dT (putK [] ([] : List L2.Key) (.int 1)))], fun q hq => by
    rw [List.mem_singleton.mp hq]
    exact ⟨hD, Rm.nt_dT, upd_same⟩, fun H4 z => ⟨"dict", .base (.dT (z _ (List.mem_singleton.mpr rfl))), rfl⟩⟩⟩⟩
theorem on_dK {s : Str} (hk : Ev ta σ H (.str s)) : ∀ H1, Ex H H1 → ∀ Q : VK, (∀ v H2, Ex H1 H2 → ON K H1 H2 v → Q v H2) → tDisp [(ta, tTup tNil)] σ H1 Q := fun H1 e Q q => fun p hp => hk _ (e.trans (Ex.new hp)) _ fun H2 e2 => ⟨Nat.zero_le _, fun b hb => by
  have e13 : Ex H1 (upd (upd H2 b (.tup [])) p (.dK [(.inr s, .ref b)])) := Ex.mut (((Ex.new hp).trans e2).trans (Ex.new hb)) hp
  refine ⟨(Ex.new hb) _ _ (e2 _ _ upd_same), [(.inr s, .ref b)], rfl, (by show 1 ≤ 15; decide), q _ _ e13 ⟨[(p, .dK [(.inr s, .ref b)])], fun q hq => ?_, fun H4 z => ?_⟩⟩
  · rw [List.mem_singleton.mp hq]
    exact ⟨hp, nt_dK, upd_same⟩
  · exact ⟨"dict", .base (.dK (z _ (List.mem_singleton.mpr rfl))), rfl⟩⟩
/-! ### what the draws give -/
theorem ev_lenL {p : Addr} {xs : List V} (ha : Ev te σ H (.ref p)) (h : SqL K H p xs) : Ev (tCB (rLenS K) (tCons te tNil)) σ H (.int (xs.length : Int)) := fun H1 e Q q =>
  ha H1 e _ fun H2 e2 => ⟨p, xs, rfl, .inl (ex_l (e.trans e2) h), q H2 e2⟩
theorem el_take {to th : TO} (ha : Ev ta σ H (.ref b)) (hl : H b = some (.lst us)) (h1 : EvO to σ H none) (h2 : EvO th σ H (some (n : Int))) (hn : n ≤ us.length) : EvL (tSl (rSlL K) ta to th) σ H (us.take n) := fun H1 e Q q => by
  refine el_sl (K := K) (H := H1) (ha.mono e) (fun H2 e2 => h1 H2 (e.trans e2)) (fun H2 e2 => h2 H2 (e.trans e2)) (SqL.of (e _ _ hl)) H1 (Ex.refl H1) _ fun p H2 hp e2 h => ?_
  rw [cut_to us n hn] at h
  exact q p H2 hp e2 h
theorem el_drop {to th : TO} (ha : Ev ta σ H (.ref b)) (hl : H b = some (.lst us)) (h1 : EvO to σ H (some (n : Int))) (h2 : EvO th σ H none) (hn : n ≤ us.length) : EvL (tSl (rSlL K) ta to th) σ H (us.drop n) := fun H1 e Q q => by
  refine el_sl (K := K) (H := H1) (ha.mono e) (fun H2 e2 => h1 H2 (e.trans e2)) (fun H2 e2 => h2 H2 (e.trans e2)) (SqL.of (e _ _ hl)) H1 (Ex.refl H1) _ fun p H2 hp e2 h => ?_
  rw [cut_from us n hn] at h
  exact q p H2 hp e2 h
/-- pick(pot, [[], [None], [thing]]) -/
theorem pick3 {p : Addr} (o : Ok (Zp TT p) H) (hp : ∀ H1 (Q : VK), Q (.ref p) H1 → ta σ H1 Q) (hu : ∀ H1 (Q : VK), Q u H1 → tb σ H1 Q) {Q : VK} (k : ∀ a H' ts, R (Zp TT p) H H' → H' a = some (.lst ts) → (ts = [] ∨ ts = [.non] ∨ ts = [u]) → Q (.ref a) H') :
    tCall (spPick K) [] E0 (tCons ta (tCons (tLst (tCons (tLst tNil) (tCons (tLst (tCons (tC .non) tNil)) (tCons (tLst (tCons tb tNil)) tNil)))) tNil)) σ H Q := by
  refine hp H _ ⟨Nat.zero_le _, fun a1 h1 => ⟨(by show 1 ≤ sizeLine; decide), fun a2 h2 => hu _ _ ⟨(by show 1 ≤ sizeLine; decide), fun a3 h3 => ⟨(by show 3 ≤ sizeLine; decide), fun lo h4 => ?_⟩⟩⟩⟩
  have r1 : R (Zp TT p) H (upd H a1 (.lst [])) := (R.refl o).new h1
  have r2 := r1.new (o := .lst [.non]) h2
  have r3 := r2.new (o := .lst [u]) h3
  have r4 := r3.new (o := .lst [.ref a1, .ref a2, .ref a3]) h4
  have po := r4.b.2 p rfl
  have e1 : (upd H a1 (.lst [])) a1 = some (.lst []) := upd_same
  have n2 : a1 ≠ a2 := ne_of_none e1 h2
  have e2 : (upd (upd H a1 (.lst [])) a2 (.lst [.non])) a1 = some (.lst []) := by rw [upd_ne n2]; exact e1
  have n3 : a1 ≠ a3 := ne_of_none e2 h3
  have f2 : (upd (upd H a1 (.lst [])) a2 (.lst [.non])) a2 = some (.lst [.non]) := upd_same
  have m3 : a2 ≠ a3 := ne_of_none f2 h3
  have g1 : (upd (upd (upd H a1 (.lst [])) a2 (.lst [.non])) a3 (.lst [u])) a1 = some (.lst []) := by rw [upd_ne n3]; exact e2
  have g2 : (upd (upd (upd H a1 (.lst [])) a2 (.lst [.non])) a3 (.lst [u])) a2 = some (.lst [.non]) := by rw [upd_ne m3]; exact f2
  have g3 : (upd (upd (upd H a1 (.lst [])) a2 (.lst [.non])) a3 (.lst [u])) a3 = some (.lst [u]) := upd_same
  have np : ∀ {a : Addr} {o : HO}, (upd (upd (upd H a1 (.lst [])) a2 (.lst [.non])) a3 (.lst [u])) a = some o → ∀ {G : Hp}, G a = none → R (Zp TT p) G (upd (upd (upd H a1 (.lst [])) a2 (.lst [.non])) a3 (.lst [u])) → a ≠ p := fun {a o} _ {G} g r z => (r.a.fresh (fr_none g)) z
  have p1 : a1 ≠ p := np g1 h1 r3
  have p2 : a2 ≠ p := fun z => by
    rw [z] at h2
    exact (r1.b.fresh (fr_none h2)) rfl
  have p3 : a3 ≠ p := fun z => by
    rw [z] at h3
    exact (r2.b.fresh (fr_none h3)) rfl
  have p4 : lo ≠ p := fun z => by
    rw [z] at h4
    exact (r3.b.fresh (fr_none h4)) rfl
  refine ⟨p, lo, [.ref a1, .ref a2, .ref a3], rfl, po, upd_same, p4, (Nat.le_of_ble_eq_true rfl), (Nat.le_of_ble_eq_true rfl), fun v H' hv x => ?_⟩
  have r5 : R (Zp TT p) H H' := r4.trans (Rm.R.xp r4.b.1 po x)
  have at_ : ∀ {a : Addr} {ts : List V}, (upd (upd (upd H a1 (.lst [])) a2 (.lst [.non])) a3 (.lst [u])) a = some (.lst ts) → a ≠ p → H' a = some (.lst ts) := fun {a ts} e n => x.1 a _ n (by rw [upd_ne (ne_of_none e h4)]; exact e)
  rcases List.mem_cons.mp hv with e | hv
  · rw [e]
    exact k a1 H' _ r5 (at_ g1 p1) (.inl rfl)
  · rcases List.mem_cons.mp hv with e | hv
    · rw [e]
      exact k a2 H' _ r5 (at_ g2 p2) (.inr (.inl rfl))
    · rw [List.mem_singleton.mp hv]
      exact k a3 H' _ r5 (at_ g3 p3) (.inr (.inr rfl))
theorem pw_sw {ws : List (List Str)} (h : Paired (Wd K H) us ws) (hw : ∀ x ∈ ws, isW x = true) : Paired (Sw P w H) us (ws.map wD) := by
  induction h with
  | nil => exact .nil
  | cons r t ih => exact .cons (wd_sw r fun z hz => tok_letter ((isW_iff.mp (hw _ (List.mem_cons_self ..))).2 z hz)) (ih fun x hx => hw x (List.mem_cons_of_mem _ hx))
theorem pw_wb {ws : List (List Str)} (h : Paired (Wd K H) us ws) (hw : ∀ x ∈ ws, isW x = true) : Paired (WB K H) us (List.replicate us.length true) := by
  induction h with
  | nil => exact .nil
  | cons r t ih => exact .cons (wb_word r (hw _ (List.mem_cons_self ..))) (ih fun x hx => hw x (List.mem_cons_of_mem _ hx))
theorem pw_sz {ws : List (List Str)} (hw : ∀ x ∈ ws, isW x = true) : ∀ d ∈ ws.map wD, Sz 7600 11 d := fun d hd => by
  obtain ⟨x, hx, rfl⟩ := List.mem_map.mp hd
  obtain ⟨h3, hl⟩ := isW_iff.mp (hw x hx)
  exact sz_up (n := 2500) (k := 10) (wd_sok (fun z hz => tok_letter (hl z hz)) (by omega)) (by decide) (by decide)
/-- a told list, shown -/
theorem els_el {vs : List V} (h : El Z te σ H vs) (hs : ∀ H1, R Z H H1 → Paired (Sw P w H1) vs ds) : Els P w Z te σ H ds := fun H1 r Q q => h H1 r Q fun l H2 _ r2 hl => q l H2 r2 ⟨vs, hl, hs _ (r.trans r2)⟩
end
end Tk
namespace Tk
open PySem PySem.Spec PyProof.Rows L2 Lw Evl LamX TL
open Rm (R Ok Z0 Zp Fr fr_none fr_ne nt_lst nt_tup nt_dK NT Zn)
/-! ### either of two rules -/
section
variable {X : Cx}
theorem callR_or {f : Value} {r r' : List V → Hp → VK → Prop} (h : CallR X f r) (h' : CallR X f r') : CallR X f (fun xs H Q => r xs H Q ∨ r' xs H Q) := fun pins s σ H xs us Q I rv q => q.elim (h pins s σ H xs us Q I rv) (h' pins s σ H xs us Q I rv)
theorem opR_or {f : Value → Value → Sem Value} {r r' : R2} (h : OpR X f r) (h' : OpR X f r') : OpR X f (fun x y H Q => r x y H Q ∨ r' x y H Q) := fun pins s σ H x y u v Q I rx ry q => q.elim (h pins s σ H x y u v Q I rx ry) (h' pins s σ H x y u v Q I rx ry)
end
/-! ### a list or a tuple -/
def Sq (H : Hp) (l : Addr) (us : List V) : Prop := H l = some (.lst us) ∨ H l = some (.tup us)
section
variable {K : PySem.W.Frag} {Z : Zn} {σ : L2.St} {H H1 : Hp} {ta tb te : TE} {l : Addr} {us : List V} {n : Nat} {v : V} {w : List Str} {ws : List (List Str)}
theorem sq_ex (e : Ex H H1) (h : Sq H l us) : Sq H1 l us := h.imp (e _ _) (e _ _)
theorem sq_R (r : R Z H H1) (n : ¬ Z.M l) (h : Sq H l us) : Sq H1 l us := h.imp (fun h => r.lst h n) r.tup
theorem sq_ty (h : Sq H l us) : ∃ t, TyX K H (.ref l) (.type t) ∧ PySem.W.kitAny K (.type t) [.type "list", .type "tuple"] = some true := by
  rcases h with h1 | h1
  · exact ⟨"list", .base (.lst h1), rfl⟩
  · exact ⟨"tuple", tyx_tup (SqT.of h1), rfl⟩
theorem ev_lenQ (ha : Ev te σ H (.ref l)) (h : Sq H l us) : Ev (tCB (rLenS K) (tCons te tNil)) σ H (.int (us.length : Int)) := fun H1 e Q q =>
  ha H1 e _ fun H2 e2 => ⟨l, us, rfl, (sq_ex (e.trans e2) h).imp SqL.of SqT.of, q H2 e2⟩
def EvQ (te : TE) (σ : L2.St) (H : Hp) (us : List V) : Prop := ∀ H1, Ex H H1 → ∀ Q : VK, (∀ l H2, Ex H1 H2 → Sq H2 l us → Q (.ref l) H2) → te σ H1 Q
theorem eq_var (h : Ev te σ H (.ref l)) (hl : Sq H l us) : EvQ te σ H us := fun H1 e Q q => h H1 e _ fun H2 e2 => q l H2 e2 (sq_ex (e.trans e2) hl)
def rSlQ (K : PySem.W.Frag) : V → Option Int → Option Int → Hp → VK → Prop := fun x lo hi H Q => rSlL K x lo hi H Q ∨ rSlA K x lo hi H Q
theorem sl_seqK {X : Cx} (h : X.K = K := by rfl) : SlR X (rSlQ K) := by
  subst h
  exact SlR.or sl_list sl_tupA
theorem eq_take {to th : TO} (ha : EvQ ta σ H us) (h1 : EvO to σ H none) (h2 : EvO th σ H (some (n : Int))) (hn : n ≤ us.length) : EvQ (tSl (rSlQ K) ta to th) σ H (us.take n) := fun H1 e Q q =>
  ha H1 e _ fun l H2 e2 hl => h1 H2 (e.trans e2) _ fun H3 e3 => h2 H3 ((e.trans e2).trans e3) _ fun H4 e4 => by
    have e14 := (e2.trans e3).trans e4
    rcases sq_ex (e3.trans e4) hl with hx | hx
    · refine .inl ⟨l, us, rfl, SqL.of hx, fun p hp => ?_⟩
      rw [cut_to us n hn]
      exact q p _ (e14.trans (Ex.new hp)) (.inl upd_same)
    · refine .inr ⟨l, us, rfl, SqT.of hx, fun z => ?_, fun z p hp => ?_⟩
      · have z2 : HT.sIx us.length us.length (some (n : Int)) = us.length := z.2
        rw [HT.sIx_nat, Nat.min_eq_left hn] at z2
        rw [z2, List.take_length] at q
        exact q l H4 e14 (.inr hx)
      · rw [cut_to us n hn]
        exact q p _ (e14.trans (Ex.new hp)) (.inr upd_same)
/-- x in a list or a tuple -/
def rInQ (K : PySem.W.Frag) : R2 := fun x y H Q => ∃ d ds, Dp K H x d ∧ (Dp K H y (.list ds) ∨ Dp K H y (.tuple ds)) ∧ SeqAt.shaped d = true ∧ SeqAt.shaped (.list ds) = true ∧ Q (.bl (ds.any fun z => PyData.eqv z d)) H
theorem op_inQ {X : Cx} (hu : X.A.units + 65 < cLine) (h : X.K = K := by rfl) : OpR X (compareOp .In) (rInQ K) := by
  subst h
  intro pins s σ H x y v u Q I rx ry h
  obtain ⟨d, ds, hd, he, sd, se, q⟩ := h
  obtain ⟨as, r1⟩ := Dp.reads I d x v hd rx
  rcases he with he | he
  · obtain ⟨bs, r2⟩ := Dp.reads I (.list ds) y u he ry
    exact SeqAt.in_list_reads r2 r1 (SeqAt.canLay_of_shaped se) (SeqAt.canLay_of_shaped sd) (room_in_shaped sd hu) ⟨.bl _, H, I, rfl, q⟩
  · obtain ⟨bs, r2⟩ := Dp.reads I (.tuple ds) y u he ry
    exact SeqAt.in_tuple_reads r2 r1 (SeqAt.canLay_of_shaped se) (SeqAt.canLay_of_shaped sd) (room_in_shaped sd hu) ⟨.bl _, H, I, rfl, q⟩
theorem dp_sq (h : Sq H l us) (hp : Paired (Wd K H) us ws) : Dp K H (.ref l) (.list (ws.map wD)) ∨ Dp K H (.ref l) (.tuple (ws.map wD)) := h.imp (fun h => .lst (SqL.of h) (dpa_words hp)) fun h => .tup (SqT.of h) (dpa_words hp)
theorem ev_inQ (ha : Ev ta σ H v) (hb : EvQ tb σ H us) (hv : Wd K H v w) (hp : Paired (Wd K H) us ws) (hw : isW w = true) (hws : ∀ u ∈ ws, isW u = true) : Ev (tOp (rInQ K) ta tb) σ H (.bl (decide (w ∈ ws))) := fun H1 e Q q =>
  ha H1 e _ fun H2 e2 => hb H2 (e.trans e2) _ fun l H3 e3 hl => by
    have e13 := e2.trans e3
    refine ⟨wD w, ws.map wD, dp_word (wd_mono (e.trans e13) hv), dp_sq hl (paired_mono (fun _ _ r => wd_mono (e.trans e13) r) hp), shaped_wD hw, shaped_wDs hws, ?_⟩
    rw [any_wD]
    exact q H3 e13
/-! ### sorted(texts, key=str) -/
def rSortStr (K : PySem.W.Frag) : List V → List V → Hp → VK → Prop := fun vs zs H Q => ∃ (a : Addr) (xs : List Str), vs = [.ref a] ∧ zs = [.ty "str"] ∧ SqL K H a (xs.map V.str) ∧ xs.length ≤ 100000 ∧
  ∀ p, H p = none → Q (.ref p) (upd H p (.lst ((xs.mergeSort (PySem.W.dataLe false PyData.str)).map V.str)))
def SR (v : Value) (x : Str) : Prop := ∃ t, v = Value.str x t
theorem sr_of : ∀ {xs : List Str} {vs : List Value}, Vals (xs.map V.str) vs → PySem.W.EachIs SR vs xs
  | [], _, .nil => .nil
  | _ :: _, _, .cons r t => .cons r (sr_of t)
theorem sr_back : ∀ {xs : List Str} {vs : List Value}, PySem.W.EachIs SR vs xs → Vals (xs.map V.str) vs
  | _, _, .nil => .nil
  | _, _, .cons r t => .cons r (sr_back t)
theorem ksk_ty (a : Addr) : Builtin.«list.sort» ⟨[.ref a], [(Str.ofString "key", .type "str")]⟩ = PyProof.Rows.ksk_tree a (.type "str") false := rfl
theorem cr_sortStr {X : Cx} (hu : X.A.units + 64 < cLine) (h : X.K = K := by rfl) : CallRK X (.builtin "sorted") [Str.ofString "key"] (rSortStr K) := by
  subst h
  intro pins s σ H vs zs us ws Q I r rz h
  obtain ⟨a, xs, rfl, rfl, hs, hz, q⟩ := h
  obtain rfl := Vals.ref1 r
  obtain ⟨w1, rfl, e1⟩ := vals1 rz
  obtain rfl : w1 = Value.type "str" := e1
  obtain ⟨its, rv, hl, hz2⟩ := I.list hs
  refine PySem.W.sorted_key_data (R := SR) (b := false) PyData.str hl.isList (sr_of rv) (fun d hd e he => ?_) (.inr fun d hd => ?_) (sz_of hz) (fun x _ => by simp only [PyData.depth]; omega) (PyProof.Rows.ksk_s1 _ _) (fun _ => PyProof.Rows.ksk_l1 _ _) (fun a => ksk_ty a)
    (fun v x r _ h3 tk kp => ?_) (fun out cnt h3 tk kp fr hD len eo => ?_)
  · obtain ⟨x, _, rfl⟩ := List.mem_map.mp hd
    obtain ⟨y, _, rfl⟩ := List.mem_map.mp he
    rfl
  · obtain ⟨x, _, rfl⟩ := List.mem_map.mp hd
    exact ⟨(fun z => nomatch z), (fun xs z => nomatch z)⟩
  · obtain ⟨t, rfl⟩ := r
    refine PySem.P.str_of_str (h := ?_)
    exact ⟨h3, tk, rfl, fun _ _ e => e, .str x t⟩
  · have v2 := sr_back eo
    have hn : H (s.heap.objs.size + 1) = none := I.hok.fresh (Nat.le_succ _)
    have l2 : ((xs.mergeSort (PySem.W.dataLe false PyData.str)).map V.str).length ≤ sizeLine := by
      rw [List.length_map, List.length_mergeSort]
      exact sz_of hz
    exact ⟨.ref _, upd H (s.heap.objs.size + 1) (.lst _), I.laid (t' := tk) kp (Nat.le_succ _) ⟨l2, out, cnt, v2, hD⟩, rfl, q _ hn⟩
/-! ### repr of None -/
theorem call_repr_non {X : Cx} : CallR X (.builtin "repr") (fun xs H Q => xs = [.non] ∧ Q (.str "None") H) := by
  intro pins s σ H xs us Q I r h
  obtain ⟨rfl, q⟩ := h
  obtain ⟨u, rfl, e⟩ := vals1 r
  obtain rfl : u = Value.none := e
  exact PySem.P.repr_of_none ⟨.str _, H, I.tok _, ⟨_, rfl⟩, q⟩
end
end Tk
namespace Tk
open PySem PySem.Spec PyProof.Rows L2 Lw Evl LamX TL
open Rm (R Ok Z0 Zp Fr fr_none fr_ne nt_lst nt_tup nt_dK NT Zn)
/-! ### the package's words: what their defs promise -/
def spLetter (K : PySem.W.Frag) : Sp := fun vs H Q _ => ∃ (v : V) (b : Bool), vs = [v] ∧ LB K H v b ∧ ∀ H', Ex H H' → Q (.bl b) H'
def spWord (K : PySem.W.Frag) : Sp := fun vs H Q _ => ∃ (v : V) (b : Bool), vs = [v] ∧ WB K H v b ∧ ∀ H', Ex H H' → Q (.bl b) H'
/-- is_list of any value -/
def spIsList (K : PySem.W.Frag) : Sp := fun vs H Q _ => ∃ (v : V) (t : String) (b : Bool), vs = [v] ∧ TyX K H v (.type t) ∧ PySem.W.kitAny K (.type t) [.type "list", .type "tuple"] = some b ∧ ∀ H', Ex H H' → Q (.bl b) H'
/-- in_order of any value -/
def spOrder (K : PySem.W.Frag) (T : List (Addr × Str)) (CS : Addr) : Sp := fun vs H Q E => ∃ v : V, vs = [v] ∧ Tabs T H ∧
  ((∃ t : String, TyX K H v (.type t) ∧ PySem.W.kitAny K (.type t) [.type "list", .type "tuple"] = some false ∧ Rz CS "position" .non H E) ∨
   (∃ (l : Addr) (us : List V) (bs : List Bool), v = .ref l ∧ (H l = some (.lst us) ∨ H l = some (.tup us)) ∧ us.length ≤ 1000 ∧ Paired (WB K H) us bs ∧
     (∀ i : Nat, bs[i]? = some false → (∀ j, j < i → bs[j]? = some true) → Rz CS "position" (.int (i : Int)) H E) ∧
     ((∀ b ∈ bs, b = true) → ∃ ws, Paired (Wd K H) us ws ∧ ∀ r H', Fr H r → R (Z0 T) H H' → LW K H' r (srtW ws) → Q (.ref r) H')))
section
variable {K : PySem.W.Frag} {Z : Zn} {σ : L2.St} {H H1 : Hp} {te : TE} {v u : V} {b : Bool} {l : Addr} {us : List V} {ws : List (List Str)} {TT : List (Addr × Str)} {CS : Addr} {E : XK} {Q : VK} {m : Nat}
theorem ev_letter (h : Ev te σ H v) (hb : LB K H v b) : Ev (tCall (spLetter K) [] E0 (tCons te tNil)) σ H (.bl b) := ev_call (ea_cons h ea_nil) fun H1 e Q q E => ⟨v, b, rfl, lb_mono e hb, q⟩
theorem ev_word (h : Ev te σ H v) (hb : WB K H v b) : Ev (tCall (spWord K) [] E0 (tCons te tNil)) σ H (.bl b) := ev_call (ea_cons h ea_nil) fun H1 e Q q E => ⟨v, b, rfl, wbv_mono e hb, q⟩
theorem ev_isList {t : String} (h : Ev te σ H v) (ht : TyX K H v (.type t)) (hc : PySem.W.kitAny K (.type t) [.type "list", .type "tuple"] = some b) : Ev (tCall (spIsList K) [] E0 (tCons te tNil)) σ H (.bl b) := ev_call (ea_cons h ea_nil) fun H1 e Q q E => ⟨v, t, b, rfl, tyx_mono e ht, hc, q⟩
theorem ord_bad {rest : List Bool} (hu : Sq H l us) (ht : Tabs TT H) (hl : us.length ≤ 1000) (hp : Paired (WB K H) us (List.replicate m true ++ false :: rest)) (x : Rz CS "position" (.int (m : Int)) H E) : spOrder K TT CS [.ref l] H Q E :=
  ⟨_, rfl, ht, .inr ⟨l, us, _, rfl, hu, hl, hp, fun i hi pr => by rw [rep_first hi pr]; exact x, fun all => by
    have z := all false (List.mem_append_right _ (List.mem_cons_self ..))
    cases z⟩⟩
theorem ord_good (hu : Sq H l us) (ht : Tabs TT H) (hl : us.length ≤ 1000) (hp : Paired (Wd K H) us ws) (hw : ∀ x ∈ ws, isW x = true) (k : ∀ r H', Fr H r → R (Z0 TT) H H' → LW K H' r (srtW ws) → Q (.ref r) H') : spOrder K TT CS [.ref l] H Q E := by
  have all : Paired (WB K H) us (List.replicate us.length true) := by
    refine paired_rep fun v hv => ?_
    obtain ⟨i, hi, rfl⟩ := List.getElem_of_mem hv
    obtain ⟨y, hy, r⟩ := paired_at hp (List.getElem?_eq_getElem hi)
    exact wb_word r (hw y (List.mem_of_getElem? hy))
  have no : ∀ i : Nat, (List.replicate us.length true)[i]? = some false → False := fun i hi => by
    rw [List.getElem?_replicate] at hi
    split at hi <;> cases hi
  exact ⟨_, rfl, ht, .inr ⟨l, us, _, rfl, hu, hl, all, (fun i hi _ => (no i hi).elim), fun _ => ⟨ws, hp, k⟩⟩⟩
theorem ord_odd {ty : String} (h : TyX K H v (.type ty)) (hk : PySem.W.kitAny K (.type ty) [.type "list", .type "tuple"] = some false) (ht : Tabs TT H) (x : Rz CS "position" .non H E) : spOrder K TT CS [v] H Q E := ⟨_, rfl, ht, .inl ⟨ty, h, hk, x⟩⟩
theorem wb_of_word (h : WB K H v b) {y : List Str} (hv : Wd K H v y) (hw : isW y = true) : Wd K H v y := hv
/-- a list of words is no pot -/
theorem lw_nm (o : Ok Z H) (h : LW K H l ws) : ¬ Z.M l := fun m => by
  obtain ⟨i, j, q, _⟩ := o.2 l m
  obtain ⟨us, h1, h2⟩ := h
  rw [q] at h1
  cases h1
  cases h2 with
  | cons r _ =>
    obtain ⟨a, e, _⟩ := r
    cases e
theorem lw_RO (r : R Z H H1) (h : LW K H l ws) : LW K H1 l ws := Rm.lw_R r (lw_nm r.a h) h
/-! ### the words put in order -/
theorem srtW_nodup (ws : List (List Str)) : (srtW ws).Nodup := by
  refine List.Pairwise.imp (fun {a b} h => ?_) (srtW_sd ws)
  intro e
  rw [e, ahead_irr] at h
  cases h
theorem srtW_isW (h : ∀ w ∈ ws, isW w = true) : ∀ w ∈ srtW ws, isW w = true := fun w hw => h w (srtW_mem.mp hw)
theorem srtW_pos (h : 1 ≤ ws.length) : 1 ≤ (srtW ws).length := by
  cases ws with
  | nil => cases h
  | cons w ws =>
    have z : w ∈ srtW (w :: ws) := srtW_mem.mpr (List.mem_cons_self ..)
    exact List.length_pos_of_mem z
end
end Tk
namespace K21
open PySem PySem.Spec PyProof.Rows L2 Lw Evl LamX Tk
open Rm (R Ok Z0 Zp Fr)
open LwX (XC XF)
def topS (i : Nat) : Stmt := PySem.Challenge.pw_wakesayings_k21_whole_sayings_by_own_lis.main.body.getD i (.Pass ⟨0, 0, 0, 0⟩)
structure Tx (P : Program) (w : World) (K : PySem.W.Frag) (mg : Str → Option Value) (base : Heap) : Prop where
  m_len : mg "len" = none
  m_range : mg "range" = none
  m_abs : mg "abs" = none
  m_max : mg "max" = none
  m_min : mg "min" = none
  m_int : mg "int" = none
  m_divmod : mg "divmod" = none
  m_all : mg "all" = none
  m_isinstance : mg "isinstance" = none
  m_enumerate : mg "enumerate" = none
  m_repr : mg "repr" = none
  m_list : mg "list" = none
  m_tuple : mg "tuple" = none
  m_sorted : mg "sorted" = none
  m_str : mg "str" = none
  m_dict : mg "dict" = none
  m_set : mg "set" = none
  m_any : mg "any" = none
  g_MOST_SIGNS : ∃ t, mg "MOST_SIGNS" = some (.int 8 t)
  g_MOST_IN_WORD : ∃ t, mg "MOST_IN_WORD" = some (.int 3 t)
section
variable {P : Program} {w : World} {K : PySem.W.Frag} {mg : Str → Option Value} {base : Heap}
abbrev s_draw : Stmt := topS 30
theorem sc_draw : FnScope ["_law_pot_here", "_law_sides", "_law_digit"] ["_law_pot_here", "_law_sides"] (defScope s_draw) := ⟨rfl, rfl, rfl, by decide +kernel, rfl, by decide +kernel, by decide +kernel⟩
theorem ok_draw {f : Addr} {fd : FuncData} (F : FunD K "_law_draw" "_law_draw" (defArgs s_draw) (defBody s_draw) (defScope s_draw) [] [] f fd) (T : Tx P w K mg base)  : FnG P w K mg base CX0 1 f fd ["_law_pot_here", "_law_sides"] spDraw := by
  refine fnG F sc_draw (fun vs H Q E h => ?_) (fun cdv A outer s H vs Q E gd hr h => ?_)
  · obtain ⟨p, n, rfl, _⟩ := h
    rfl
  · skip
    refine ⟨_, PSs.nox ((pss_cons (ps_if (pt_cmpR op_gt (pe_ix (ix_listK (K := K)) (pv 0) pe_int (fun _ _ => rfl)) pe_int (nomark _)) (pss_cons (ps_asg (pe_callB call_divmod (by rfl) T.m_divmod (by decide +kernel) (pa_cons (pe_ix (ix_listK (K := K)) (pv 0) pe_int (fun _ _ => rfl)) (pa_cons (pv 1) pa_nil))) (pg_tup (n := 2) rfl (pgs_cons (pg_sub (pv 0) pe_int set_list) (pgs_cons (pg_name (i := 2) sc_draw.nd rfl (by first | exact Or.inl rfl | exact Or.inr rfl)) pgs_nil))))
      (pss_one (ps_ret (pv 2)))) pss_nil)
      (pss_cons (ps_asg (pe_op op_mod (pe_callTy call_int1 (by rfl) T.m_int (by decide +kernel) (pa_cons (pe_op op_add (pe_op op_mul (pe_ix (ix_listK (K := K)) (pv 0) pe_int (fun _ _ => rfl)) pe_int) pe_int) pa_nil)) pe_int) (pg_sub (pv 0) pe_int set_list))
      (pss_one (ps_ret (pe_op op_mod (pe_callTy call_int1 (by rfl) T.m_int (by decide +kernel) (pa_cons (pe_op op_fdiv (pe_op op_mod (pe_callTy call_int1 (by rfl) T.m_int (by decide +kernel) (pa_cons (pe_op op_mul (pe_ix (ix_listK (K := K)) (pv 0) pe_int (fun _ _ => rfl)) (pe_ix (ix_listK (K := K)) (pv 0) pe_int (fun _ _ => rfl))) pa_nil)) pe_int) pe_int) pa_nil)) (pv 1))))))), ?_⟩
    obtain ⟨p, n, rfl, ⟨i, j, e, i0, j0, j1⟩, hn, hn2, q⟩ := h
    refine ⟨_, rfl, p, _, _, _, rfl, rfl, SqL.of e, rfl, _, _, rfl, rfl, _, rfl, ite2 (fun hc => ?_) (fun hc => ?_)⟩
    · have ci : 0 < i := of_decide_eq_true hc
      refine ⟨_, rfl, p, _, _, _, rfl, rfl, SqL.of e, rfl, _, rfl, _, _, rfl, ⟨hn, hn2⟩, fun t ht => ?_⟩
      have e1 : (upd H t (.tup [.int (i / n), .int (i % n)])) p = some (.lst [.int i, .int j]) := by
        rw [upd_ne (ne_of_none e ht)]
        exact e
      refine ⟨t, _, rfl, SqT.of upd_same, rfl, _, _, rfl, _, rfl, p, _, 0, 0, rfl, rfl, e1, rfl, _, _, rfl, rfl, _, rfl, ?_⟩
      refine q _ _ (Int.emod_nonneg _ (by omega)) (Int.emod_lt_of_pos _ hn) ⟨fun a o na ea => ?_, i / n, j, upd_same, Int.ediv_nonneg i0 (by omega), j0, j1⟩
      rw [upd_ne na, upd_ne (ne_of_none ea ht)]
      exact ea
    · refine ⟨_, rfl, p, _, _, _, rfl, rfl, SqL.of e, rfl, _, _, rfl, rfl, .inr ⟨by decide, by decide⟩, _, _, rfl, rfl, .inl ⟨_, rfl, _, _, rfl, rfl, (by show (0 : Int) < 2147483579; decide), _, rfl, p, _, 1, 1, rfl, rfl, e, rfl, ?_⟩⟩
      have e1 : ∀ k : Int, (upd H p (.lst [.int i, .int k])) p = some (.lst [.int i, .int k]) := fun k => upd_same
      have b0 : 0 ≤ (j * 48731 + 12007) % 2147483579 := Int.emod_nonneg _ (by decide)
      have b1 : (j * 48731 + 12007) % 2147483579 < 2147483579 := Int.emod_lt_of_pos _ (by decide)
      refine ⟨_, rfl, p, _, _, _, rfl, rfl, SqL.of (e1 _), rfl, _, rfl, p, _, _, _, rfl, rfl, SqL.of (e1 _), rfl, _, _, rfl, rfl, .inl ⟨by omega, by omega⟩, .inl ⟨_, rfl, _, _, rfl, rfl, (by show (0 : Int) < 2147483549; decide), _, _, rfl, rfl, ⟨by decide, by decide⟩, .inl ⟨_, rfl, _, rfl, _, _, rfl, rfl, hn, ?_⟩⟩⟩
      refine q _ _ (Int.emod_nonneg _ (by omega)) (Int.emod_lt_of_pos _ hn) ⟨fun a o na ea => ?_, i, _, upd_same, i0, b0, by omega⟩
      rw [upd_ne na]
      exact ea

abbrev s_pot : Stmt := topS 29
theorem sc_pot : FnScope ["_law_script", "_law_at", "_law_cell"] ["_law_script", "_law_at"] (defScope s_pot) := ⟨rfl, rfl, rfl, by decide +kernel, rfl, by decide +kernel, by decide +kernel⟩
theorem ok_pot {f : Addr} {fd : FuncData} (F : FunD K "_law_pot" "_law_pot" (defArgs s_pot) (defBody s_pot) (defScope s_pot) [] [] f fd) (T : Tx P w K mg base)  : FnG P w K mg base CX0 1 f fd ["_law_script", "_law_at"] (spPot K) := by
  refine fnG F sc_pot (fun vs H Q E h => ?_) (fun cdv A outer s H vs Q E gd hr h => ?_)
  · obtain ⟨a, ns, k, rfl, _⟩ := h
    rfl
  · skip
    refine ⟨_, PSs.nox ((pss_cons (ps_set (i := 2) sc_pot.nd rfl (by first | exact Or.inl rfl | exact Or.inr rfl) (pe_op op_add (pe_op op_mul pe_int (pv 1)) pe_int))
      (Evl.pss_cut (ps_if (pt_cmpR op_lt (pv 1) (pe_callB (call_lenK (K := K)) (by rfl) T.m_len (by decide +kernel) (pa_cons (pv 0) pa_nil)) (nomark _)) (pss_one (ps_set (i := 2) sc_pot.nd rfl (by first | exact Or.inl rfl | exact Or.inr rfl) (pe_callB call_abs (by rfl) T.m_abs (by decide +kernel) (pa_cons (pe_ix (ix_listK (K := K)) (pv 0) (pv 1) (fun _ _ => rfl)) pa_nil)))) pss_nil)
      (pss_one (ps_ret (pe_lst (pa_cons (pe_callB (call_max2 rfl) (by rfl) T.m_max (by decide +kernel) (pa_cons pe_int (pa_cons (pe_op op_sub (pv 2) (pe_op op_pow pe_int pe_int)) pa_nil))) (pa_cons (pe_op op_add (pe_op op_mod (pe_op op_mul (pe_callTy call_int1 (by rfl) T.m_int (by decide +kernel) (pa_cons (pe_op op_add (pe_op op_mod (pe_callTy call_int1 (by rfl) T.m_int (by decide +kernel) (pa_cons (pv 2) pa_nil)) pe_int) pe_int) pa_nil)) (pe_op op_pow (pe_op op_add (pe_op op_mul pe_int (pv 1)) pe_int) pe_int)) pe_int) pe_int) pa_nil)))))))), ?_⟩
    obtain ⟨a, ns, k, rfl, hS, hn, k0, k1, q⟩ := h
    refine ⟨_, rfl, _, _, rfl, rfl, .inr ⟨by omega, by omega⟩, _, _, rfl, rfl, ?_⟩
    refine ⟨fun σ' H' => ∃ c : Int, 0 ≤ c ∧ σ' = [some (.ref a), some (.int k), some (.int c)] ∧ H' = H, ?_, ?_⟩
    · refine ⟨_, rfl, _, rfl, a, _, rfl, .inl hS, _, _, rfl, rfl, _, rfl, ite2 (fun hc => ?_) (fun _ => ⟨43 * k + 17, by omega, rfl, rfl⟩)⟩
      have hk : k < ((ns.map V.int).length : Int) := of_decide_eq_true hc
      obtain ⟨m, rfl⟩ := Int.eq_ofNat_of_zero_le k0
      have hm : m < (ns.map V.int).length := by omega
      have hm' : m < ns.length := by rw [List.length_map] at hm; exact hm
      have g : atI (ns.map V.int) (m : Int) = some (.int ns[m]) := by
        refine atI_nat ?_
        rw [List.getElem?_map, List.getElem?_eq_getElem hm']
        rfl
      refine ⟨_, rfl, _, rfl, a, _, _, _, rfl, rfl, hS, g, _, rfl, _, ?_, rfl, rfl⟩
      split <;> omega
    · rintro σ' H' ⟨c, c0, rfl, rfl⟩
      have b1 : 0 ≤ (c % 2147483543 + 11) * (2 * k + 5) ^ (3 : Int).toNat % 2147483477 := Int.emod_nonneg _ (by decide)
      have b2 : (c % 2147483543 + 11) * (2 * k + 5) ^ (3 : Int).toNat % 2147483477 < 2147483477 := Int.emod_lt_of_pos _ (by decide)
      have b3 := Int.emod_lt_of_pos c (b := 2147483543) (by decide)
      have b4 := Int.emod_nonneg c (b := 2147483543) (by decide)
      refine ⟨_, rfl, _, _, rfl, rfl, ⟨by decide, by decide, by decide⟩, _, _, rfl, rfl, _, _, rfl, ?_⟩
      refine ⟨_, rfl, .inl ⟨_, rfl, _, _, rfl, rfl, (by show (0 : Int) < 2147483543; decide), _, _, rfl, rfl, .inl ⟨_, rfl, _, rfl, _, _, rfl, rfl, .inr ⟨by omega, by omega⟩, _, _, rfl, rfl, ?_⟩⟩⟩
      refine ⟨_, _, rfl, rfl, ⟨by decide, by decide, by omega⟩, _, _, rfl, rfl, .inl ⟨by omega, by omega⟩, _, _, rfl, rfl, (by show (0 : Int) < 2147483477; decide), _, _, rfl, rfl, (by show 2 ≤ sizeLine; decide), fun p hp => ?_⟩
      refine q _ _ hp (fun b o e => by rw [upd_ne (ne_of_none e hp)]; exact e) ⟨_, _, upd_same, ?_, by omega, by omega⟩
      split <;> omega

end
end K21
namespace Tk
open PySem PySem.Spec PyProof.Rows L2 Lw Evl LamX TL
open Rm (R Ok Z0 Zp Fr fr_none fr_ne nt_lst nt_tup nt_dK NT Zn)
/-! ### comprehensions whose parts draw -/
/-- all stands but lists and tables -/
def Nl (H H1 : Hp) : Prop := ∀ a o, NT o → (∀ xs, o ≠ .lst xs) → H a = some o → H1 a = some o
/-- what lists and tables don't matter for -/
def St (B : Hp → V → Prop) : Prop := ∀ (H H1 : Hp) (x : V), Nl H H1 → B H x → B H1 x
section
variable {Z : Zn} {K : PySem.W.Frag} {σ : L2.St} {H H1 H2 : Hp} {te : TE} {tt : TT} {B : Hp → V → Prop} {n j : Nat} {vs : List Nat} {D : Addr} {Qd : Hp → Prop} {v : V} {l : Addr}
theorem nl_trans (h : Nl H H1) (k : Nl H1 H2) : Nl H H2 := fun a o t n e => k a o t n (h a o t n e)
theorem nl_R (r : R Z H H1) : Nl H H1 := fun a o t n e => r.st a o e t (r.a.nm e n)
theorem nl_ex (e : Ex H H1) : Nl H H1 := fun a o _ _ h => e a o h
theorem nl_upd {xs : List V} {o : HO} (h : H D = some (.lst xs)) : Nl H (upd H D o) := fun a u _ n e => by
  rw [upd_ne fun z => by
    rw [z, h] at e
    exact n _ (Option.some.inj e).symm]
  exact e
theorem st_wd {ys : V → List Str → Prop} : St fun H v => ∃ w, ys v w ∧ Wd K H v w := fun H H1 v h b => by
  obtain ⟨w, hy, a, rfl, e⟩ := b
  exact ⟨w, hy, a, rfl, h a _ nt_tup (fun _ z => nomatch z) e⟩
theorem wd_nl {ys : List Str} (h : Nl H H1) (b : Wd K H v ys) : Wd K H1 v ys := by
  obtain ⟨a, rfl, e⟩ := b
  exact ⟨a, rfl, h a _ nt_tup (fun _ z => nomatch z) e⟩
theorem st_pure {p : V → Prop} : St fun _ v => p v := fun _ _ _ _ b => b
/-- one turn's end: the made value is put into the list -/
theorem turn_end {us : List V} {v : V} (fD : Fr H D) (r : R Z H H1) (hu : H1 D = some (.lst us)) (sB : St B) (r2 : R Z H1 H2) (hb : ∀ x ∈ us, B H1 x) (b : B H2 v) (hn : us.length < 100000) :
    ∃ acc, H2 D = some (.lst acc) ∧ acc.length < sizeLine ∧ (R Z H (upd H2 D (.lst (acc ++ [v]))) ∧ ∃ us', (upd H2 D (.lst (acc ++ [v]))) D = some (.lst us') ∧ us'.length = us.length + 1 ∧ ∀ u ∈ us', B (upd H2 D (.lst (acc ++ [v]))) u) := by
  have nD : ¬ Z.M D := r.a.fresh fD
  have hu2 := r2.lst hu nD
  refine ⟨us, hu2, sz_lt hn, (r.trans r2).mut fD hu2 trivial, us ++ [v], upd_same, by rw [List.length_append]; rfl, fun u m => ?_⟩
  rcases List.mem_append.mp m with m | m
  · exact sB _ _ _ (nl_upd hu2) (sB _ _ _ (nl_R r2) (hb u m))
  · rw [List.mem_singleton.mp m]
    exact sB _ _ _ (nl_upd hu2) b
/-- [.. for x in range(n)] -/
theorem lcD_R1 (o : Ok Z H) (hD : H D = none) (hn : n ≤ 40000) (sB : St B) (hw : ∀ x, wipe ((wipe σ vs).set j (some x)) vs = wipe σ vs)
    (body : ∀ (i : Nat) H1, i < n → R Z H H1 → ∀ Q : VK, (∀ v H2, R Z H1 H2 → B H2 v → Q v H2) → te ((wipe σ vs).set j (some (.int (i : Int)))) H1 Q)
    (fin : ∀ us H2, R Z H H2 → H2 D = some (.lst us) → us.length = n → (∀ v ∈ us, B H2 v) → Qd H2) :
    ∃ W : Nat → Nat → Hp → Prop, (∃ m, W 0 m (upd H D (.lst []))) ∧ ∀ i m H, W i m H →
      ((Itr 0 n).stop i H ∧ Qd H) ∨ ((Itr 0 n).go i H ∧ ∃ Nx : Hp → Prop, (∀ H', Nx H' → ∃ m', m' < m ∧ W (i + 1) m' H') ∧ ∀ x H', (Itr 0 n).yld i H x H' → gName j x (wipe σ vs) H' fun σ2 H2 => wipe σ2 vs = wipe σ vs ∧ tYes σ2 H2 fun b H3 =>
        if b = true then te σ2 H3 fun y H4 => ∃ acc, H4 D = some (.lst acc) ∧ acc.length < sizeLine ∧ Nx (upd H4 D (.lst (acc ++ [y]))) else Nx H3) := by
  refine lc_range (lo := 0) (n := n) (fun i H' => R Z H H' ∧ ∃ us, H' D = some (.lst us) ∧ us.length = i ∧ ∀ v ∈ us, B H' v) ⟨(R.refl o).new hD, [], upd_same, rfl, fun _ z => absurd z List.not_mem_nil⟩ (fun i H' hi p => ?_) fun H' p => ?_
  · obtain ⟨r, us, hu, hl, hb⟩ := p
    have e0 : (0 : Int) + (i : Int) = (i : Int) := Int.zero_add _
    unfold gName tYes
    dsimp only
    rw [e0, if_pos rfl]
    refine ⟨hw _, body i H' hi r _ fun v H2 r2 b => ?_⟩
    have z := turn_end (fr_none hD) r hu sB r2 hb b (by omega)
    rw [hl] at z
    exact z
  · obtain ⟨r, us, hu, hl, hb⟩ := p
    exact fin us H' r hu hl hb
/-- [.. for x in xs], a list that stands -/
theorem lcD_RL {a : Addr} {xs : List V} (o : Ok Z H) (hD : H D = none) (ha : SqL K H a xs) (na : ¬ Z.M a) (keep : ∀ H1, R Z H H1 → SqL K H1 a xs) (hn : xs.length ≤ 40000) (sB : St B) (hw : ∀ x, wipe ((wipe σ vs).set j (some x)) vs = wipe σ vs)
    (body : ∀ (i : Nat) (x : V) H1, xs[i]? = some x → R Z H H1 → ∀ Q : VK, (∀ v H2, R Z H1 H2 → B H2 v → Q v H2) → te ((wipe σ vs).set j (some x)) H1 Q)
    (fin : ∀ us H2, R Z H H2 → H2 D = some (.lst us) → us.length = xs.length → (∀ v ∈ us, B H2 v) → Qd H2) :
    ∃ W : Nat → Nat → Hp → Prop, (∃ m, W 0 m (upd H D (.lst []))) ∧ ∀ i m H, W i m H →
      ((Itl K a).stop i H ∧ Qd H) ∨ ((Itl K a).go i H ∧ ∃ Nx : Hp → Prop, (∀ H', Nx H' → ∃ m', m' < m ∧ W (i + 1) m' H') ∧ ∀ x H', (Itl K a).yld i H x H' → gName j x (wipe σ vs) H' fun σ2 H2 => wipe σ2 vs = wipe σ vs ∧ tYes σ2 H2 fun b H3 =>
        if b = true then te σ2 H3 fun y H4 => ∃ acc, H4 D = some (.lst acc) ∧ acc.length < sizeLine ∧ Nx (upd H4 D (.lst (acc ++ [y]))) else Nx H3) := by
  refine lc_list (xs := xs) (fun i H' => i ≤ xs.length ∧ R Z H H' ∧ ∃ us, H' D = some (.lst us) ∧ us.length = i ∧ ∀ v ∈ us, B H' v) ⟨Nat.zero_le _, (R.refl o).new hD, [], upd_same, rfl, fun _ z => absurd z List.not_mem_nil⟩ (fun i H' _ p => keep H' p.2.1) (fun i x H' hi p => ?_) fun H' p => ?_
  · obtain ⟨_, r, us, hu, hl, hb⟩ := p
    have hi2 := (List.getElem?_eq_some_iff.mp hi).1
    unfold gName tYes
    dsimp only
    rw [if_pos rfl]
    refine ⟨hw _, body i x H' hi r _ fun v H2 r2 b => ?_⟩
    have z := turn_end (fr_none hD) r hu sB r2 hb b (by omega)
    obtain ⟨acc, z1, z2, z3, z4, z5, z6, z7⟩ := z
    exact ⟨acc, z1, z2, hi2, z3, z4, z5, by rw [z6, hl], z7⟩
  · obtain ⟨_, r, us, hu, hl, hb⟩ := p
    exact fin us H' r hu hl hb
end
/-! ### texts cut, lists filtered -/
theorem cutS_take (s : Str) (n : Nat) : (cutS s none (some (n : Int))).cps.toList = s.cps.toList.take n := by
  unfold cutS
  have e1 : HT.sIx s.length 0 none = 0 := rfl
  rw [e1, HT.sIx_nat, List.drop_zero, Nat.sub_zero]
  show s.cps.toList.take (min n s.length) = _
  rw [len_cps, ← List.take_take, List.take_length]
section
variable {K : PySem.W.Frag} {σ : L2.St} {H : Hp} {ta tb te : TE} {xs : List Str} {s : Str} {j : Nat} {vs : List Nat}
theorem ev_cutS {to th : TO} {lo hi : Option Int} (ha : Ev ta σ H (.str s)) (h1 : EvO to σ H lo) (h2 : EvO th σ H hi) (hz : s.length ≤ 100000) : Ev (tSl rSlS ta to th) σ H (.str (cutS s lo hi)) := fun H1 e Q q =>
  ha H1 e _ fun H2 e2 => h1 H2 (e.trans e2) _ fun H3 e3 => h2 H3 ((e.trans e2).trans e3) _ fun H4 e4 => ⟨s, rfl, sz_of hz, q H4 ((e2.trans e3).trans e4)⟩
theorem given_filter {β : Type} (l : List β) (d : β) (g : β → Bool) (v : β → V) : given l.length (fun i => g (l.getD i d)) (fun i => v (l.getD i d)) = (l.filter g).map v := by
  unfold given
  have e : l = (List.range l.length).map (fun i => l.getD i d) := by
    have z := range_get l d (fun x => x)
    rw [List.map_id''] at z
    · exact z.symm
    · intro x
      rfl
  conv => rhs; rw [e]
  rw [List.filter_map, List.map_map]
  rfl
/-- [x for x in l if x not in m], texts -/
theorem el_notin {a b : Addr} {ys : List Str} (ha : Ev ta σ H (.ref a)) (hb : ∀ (x : V) H1, Ex H H1 → Ev tb ((wipe σ vs).set j (some x)) H1 (.ref b)) (h1 : SqL K H a (xs.map V.str)) (h2 : SqL K H b (ys.map V.str)) (hz : xs.length ≤ 40000) (hj : ∀ x, ((wipe σ vs).set j (some x))[j]? = some (some x))
    (hw : ∀ x, wipe ((wipe σ vs).set j (some x)) vs = wipe σ vs) : EvL (tLc (iList K ta) (gName j) (tTest (tOp (rIn K true) (tVar j) tb)) (tVar j) vs) σ H ((xs.filter fun x => !decide (x ∈ ys)).map V.str) := by
  have z := given_filter xs "" (fun x => !decide (x ∈ ys)) V.str
  rw [← z]
  have l : xs.length = (xs.map V.str).length := (List.length_map ..).symm
  rw [l]
  have at_ : ∀ {i : Nat} {x : V}, (xs.map V.str)[i]? = some x → x = .str (xs.getD i "") := fun {i x} h => by
    rw [List.getElem?_map] at h
    cases e : xs[i]? with
    | none =>
      rw [e] at h
      cases h
    | some y =>
      rw [e] at h
      rw [List.getD_eq_getElem?_getD, e]
      exact (Option.some.inj h).symm
  refine el_lcL (fun i => !decide (xs.getD i "" ∈ ys)) (fun i => V.str (xs.getD i "")) ha h1 (by rw [List.length_map]; exact hz) hw (fun i x H1 e hx => ?_) (fun i x H1 e hx _ => ?_)
  · have ex := at_ hx
    subst ex
    refine et_test (ev_is (ev_op (ev_var (hj _)) (hb _ H1 e) (rv_niL (ex_l e h2) rfl (flat_str ys))) ?_)
    rw [inV_str]
  · have ex := at_ hx
    subst ex
    exact ev_var (hj _)
end
/-- what the drawn signs are -/
theorem sgns_of {us : List V} (h : ∀ v ∈ us, ∃ c, v = .str (sgn c) ∧ 97 ≤ c ∧ c ≤ 122) : ∃ cs : List Nat, us = (cs.map sgn).map V.str ∧ cs.length = us.length ∧ ∀ c ∈ cs, 97 ≤ c ∧ c ≤ 122 := by
  induction us with
  | nil => exact ⟨[], rfl, rfl, fun _ z => absurd z List.not_mem_nil⟩
  | cons u us ih =>
    obtain ⟨c, rfl, hc⟩ := h u (List.mem_cons_self ..)
    obtain ⟨cs, rfl, hl, hcs⟩ := ih fun v hv => h v (List.mem_cons_of_mem _ hv)
    exact ⟨c :: cs, rfl, by rw [List.length_cons, List.length_cons, hl], fun x hx => by
      rcases List.mem_cons.mp hx with rfl | hx
      · exact hc
      · exact hcs x hx⟩
/-- a letter, shortened to seven signs, with one more -/
def near (s : Str) : List Str := (List.range 26).map fun i => cutS s none (some 7) ++ sgn (97 + i)
theorem near_isL {s : Str} (h : isL s = true) {y : Str} (hy : y ∈ near s) : isL y = true := by
  obtain ⟨i, hi, rfl⟩ := List.mem_map.mp hy
  have hi := List.mem_range.mp hi
  obtain ⟨⟨h1, h2⟩, h3⟩ := isL_iff.mp h
  have e : (cutS s none (some 7)).cps.toList = s.cps.toList.take 7 := cutS_take s 7
  refine isL_iff.mpr ⟨?_, fun c hc => ?_⟩
  · rw [tl_app, e, List.length_append, List.length_take, tl_sgn]
    show 1 ≤ min 7 _ + 1 ∧ min 7 _ + 1 ≤ 8
    omega
  · rw [tl_app, e, tl_sgn] at hc
    rcases List.mem_append.mp hc with hc | hc
    · exact h3 c (List.mem_of_mem_take hc)
    · rw [List.mem_singleton.mp hc]
      omega
theorem near_nodup (s : Str) : (near s).Nodup := by
  unfold near
  refine List.pairwise_map.mpr (List.Pairwise.imp (fun {a b} h => ?_) List.nodup_range)
  intro e
  have z : (cutS s none (some 7) ++ sgn (97 + a)).cps.toList = (cutS s none (some 7) ++ sgn (97 + b)).cps.toList := congrArg (fun x : Str => x.cps.toList) e
  rw [tl_app, tl_app, tl_sgn, tl_sgn] at z
  have z2 := List.append_cancel_left z
  have z3 : 97 + a = 97 + b := by simpa using z2
  exact h (by omega)
/-- among more different ones than there are, one is new -/
theorem fresh_one {α : Type} [DecidableEq α] {l m : List α} (hl : l.Nodup) (h : m.length < l.length) : ∃ x ∈ l, x ∉ m := by
  by_cases z : ∃ x ∈ l, x ∉ m
  · exact z
  · have all : ∀ x ∈ l, x ∈ m := fun x hx => by
      by_cases y : x ∈ m
      · exact y
      · exact absurd ⟨x, hx, y⟩ z
    have := nodup_le hl all
    omega
/-! ### lists of words by comprehensions over lists -/
theorem range_filter {β γ : Type} (l : List β) (d : β) (g : β → Bool) (v : β → γ) : ((List.range l.length).filter fun i => g (l.getD i d)).map (fun i => v (l.getD i d)) = (l.filter g).map v := by
  have e : l = (List.range l.length).map (fun i => l.getD i d) := by
    have z := range_get l d (fun x => x)
    rw [List.map_id''] at z
    · exact z.symm
    · intro x
      rfl
  conv => rhs; rw [e]
  rw [List.filter_map, List.map_map]
  rfl
section
variable {K : PySem.W.Frag} {σ : L2.St} {H : Hp} {ta tb te : TE} {tt : TT} {j : Nat} {vs : List Nat} {a : Addr} {us : List V} {ws : List (List Str)}
theorem filt_yes {b : Nat → Bool} {f : Nat → List Str} {n : Nat} (h : b n = true) : ((List.range (n + 1)).filter b).map f = ((List.range n).filter b).map f ++ [f n] := by
  rw [List.range_succ, List.filter_append, List.map_append]
  simp [h]
theorem filt_no {b : Nat → Bool} {f : Nat → List Str} {n : Nat} (h : b n = false) : ((List.range (n + 1)).filter b).map f = ((List.range n).filter b).map f := by
  rw [List.range_succ, List.filter_append, List.map_append]
  simp [h]
theorem elw_G (b : Nat → Bool) (f : Nat → List Str) (h : Ev ta σ H (.ref a)) (hx : SqL K H a us) (hz : us.length ≤ 40000) (hw : ∀ x, wipe ((wipe σ vs).set j (some x)) vs = wipe σ vs)
    (ht : ∀ (i : Nat) (x : V) H1, Ex H H1 → us[i]? = some x → EvT tt ((wipe σ vs).set j (some x)) H1 (b i)) (he : ∀ (i : Nat) (x : V) H1, Ex H H1 → us[i]? = some x → b i = true → EvW K te ((wipe σ vs).set j (some x)) H1 (f i)) :
    EvLW K (tLc (iList K ta) (gName j) tt te vs) σ H (((List.range us.length).filter b).map f) := fun H0 e Q q => h H0 e _ fun H1 e1 => ⟨a, rfl, ⟨us, ex_l (e.trans e1) hx⟩, fun Dl hD =>
  lc_list (xs := us) (fun i H' => Ex H1 H' ∧ LW K H' Dl (((List.range i).filter b).map f)) ⟨Ex.new hD, [], upd_same, .nil⟩ (fun i H' _ p => ex_l ((e.trans e1).trans p.1) hx) (fun i x H' hi p => by
    obtain ⟨p1, acc, p2, p3⟩ := p
    have hi2 := (List.getElem?_eq_some_iff.mp hi).1
    unfold gName
    dsimp only
    refine ⟨hw _, ht i x H' ((e.trans e1).trans p1) hi H' (Ex.refl H') _ fun H3 e3 => ?_⟩
    cases hb : b i with
    | false =>
      rw [if_neg (by decide), filt_no hb]
      exact ⟨p1.trans e3, acc, e3 _ _ p2, paired_mono (fun _ _ r => wd_mono e3 r) p3⟩
    | true =>
      rw [if_pos rfl, filt_yes hb]
      refine he i x H3 (((e.trans e1).trans p1).trans e3) hi hb H3 (Ex.refl H3) _ fun y H4 e4 hy => ?_
      have hl := Paired.length p3
      have hle := List.length_filter_le b (List.range i)
      rw [List.length_map] at hl
      rw [List.length_range] at hle
      have e34 := e3.trans e4
      exact ⟨acc, e34 _ _ p2, sz_lt (by omega), Ex.mut ((p1.trans e3).trans e4) hD, acc ++ [y], upd_same, paired_app (paired_mono (fun _ _ r => wd_upd (e34 _ _ p2) (wd_mono e34 r)) p3) (.cons (wd_upd (e34 _ _ p2) hy) .nil)⟩) (fun H' p => q Dl H' (fresh_back e1 hD) (e1.trans p.1) p.2)⟩
/-- [f(w) for w in ws if g(w)], words -/
theorem elw_LF (g : List Str → Bool) (f : List Str → List Str) (h : Ev ta σ H (.ref a)) (hx : H a = some (.lst us)) (hp : Paired (Wd K H) us ws) (hz : us.length ≤ 40000) (hw : ∀ x, wipe ((wipe σ vs).set j (some x)) vs = wipe σ vs)
    (ht : ∀ (x : V) (w : List Str) H1, Ex H H1 → Wd K H1 x w → w ∈ ws → EvT tt ((wipe σ vs).set j (some x)) H1 (g w)) (he : ∀ (x : V) (w : List Str) H1, Ex H H1 → Wd K H1 x w → w ∈ ws → g w = true → EvW K te ((wipe σ vs).set j (some x)) H1 (f w)) :
    EvLW K (tLc (iList K ta) (gName j) tt te vs) σ H ((ws.filter g).map f) := by
  have z := range_filter ws [] g f
  rw [← z, ← Paired.length hp]
  refine elw_G (fun i => g (ws.getD i [])) (fun i => f (ws.getD i [])) h (SqL.of hx) hz hw (fun i x H1 e hi => ?_) (fun i x H1 e hi hb => ?_)
  · obtain ⟨w, hw2, r⟩ := paired_at hp hi
    rw [show ws.getD i [] = w by rw [List.getD_eq_getElem?_getD, hw2]; rfl]
    exact ht x w H1 e (wd_mono e r) (List.mem_of_getElem? hw2)
  · obtain ⟨w, hw2, r⟩ := paired_at hp hi
    rw [show ws.getD i [] = w by rw [List.getD_eq_getElem?_getD, hw2]; rfl] at hb ⊢
    exact he x w H1 e (wd_mono e r) (List.mem_of_getElem? hw2) hb
/-- [f(x) for x in xs], words from texts -/
theorem elw_LS {xs : List Str} (f : Str → List Str) (h : Ev ta σ H (.ref a)) (hx : SqL K H a (xs.map V.str)) (hz : xs.length ≤ 40000) (hw : ∀ x, wipe ((wipe σ vs).set j (some x)) vs = wipe σ vs)
    (he : ∀ (x : Str) H1, Ex H H1 → x ∈ xs → EvW K te ((wipe σ vs).set j (some (.str x))) H1 (f x)) : EvLW K (tLc (iList K ta) (gName j) tYes te vs) σ H (xs.map f) := by
  have z := range_filter xs "" (fun _ => true) f
  have z2 : xs.filter (fun _ => true) = xs := List.filter_eq_self.mpr fun _ _ => rfl
  rw [z2] at z
  rw [← z]
  have l : xs.length = (xs.map V.str).length := (List.length_map ..).symm
  rw [l]
  refine elw_G (fun _ => true) (fun i => f (xs.getD i "")) h hx (by rw [List.length_map]; exact hz) hw (fun i x H1 e hi => et_yes) (fun i x H1 e hi _ => ?_)
  rw [List.getElem?_map] at hi
  cases q : xs[i]? with
  | none =>
    rw [q] at hi
    cases hi
  | some y =>
    rw [q] at hi
    rw [show xs.getD i "" = y by rw [List.getD_eq_getElem?_getD, q]; rfl]
    cases hi
    exact he y H1 e (List.mem_of_getElem? q)
end
/-- all words over some letters: of n letters, of at most n -/
def lvW (xs : List Str) : Nat → List (List Str)
  | 0 => [[]]
  | n + 1 => (lvW xs n).flatMap fun w => xs.map fun x => w ++ [x]
def allW (xs : List Str) : Nat → List (List Str)
  | 0 => [[]]
  | n + 1 => allW xs n ++ lvW xs (n + 1)
theorem lvW_len (xs : List Str) : ∀ n, (lvW xs n).length = xs.length ^ n
  | 0 => rfl
  | n + 1 => by
    have ih := lvW_len xs n
    have key : ∀ ws : List (List Str), (ws.flatMap fun w => xs.map fun x => w ++ [x]).length = ws.length * xs.length := fun ws => by
      induction ws with
      | nil => simp
      | cons w ws ih => rw [List.flatMap_cons, List.length_append, ih, List.length_map, List.length_cons, Nat.succ_mul, Nat.add_comm]
    rw [lvW, key, ih, Nat.pow_succ]
theorem mem_lvW {xs : List Str} : ∀ {n : Nat} {w : List Str}, w ∈ lvW xs n ↔ w.length = n ∧ ∀ x ∈ w, x ∈ xs
  | 0, w => by
    rw [lvW, List.mem_singleton]
    constructor
    · rintro rfl
      exact ⟨rfl, fun x z => absurd z List.not_mem_nil⟩
    · rintro ⟨h, _⟩
      exact List.length_eq_zero_iff.mp h
  | n + 1, w => by
    rw [lvW, List.mem_flatMap]
    constructor
    · rintro ⟨u, hu, hw⟩
      obtain ⟨x, hx, rfl⟩ := List.mem_map.mp hw
      obtain ⟨h1, h2⟩ := mem_lvW.mp hu
      refine ⟨by rw [List.length_append, h1]; rfl, fun y hy => ?_⟩
      rcases List.mem_append.mp hy with hy | hy
      · exact h2 y hy
      · rw [List.mem_singleton.mp hy]
        exact hx
    · rintro ⟨h1, h2⟩
      have ne : w ≠ [] := fun z => by
        rw [z] at h1
        cases h1
      refine ⟨w.dropLast, mem_lvW.mpr ⟨by rw [List.length_dropLast, h1]; rfl, fun x hx => h2 x (List.dropLast_subset w hx)⟩, List.mem_map.mpr ⟨w.getLast ne, h2 _ (List.getLast_mem ne), List.dropLast_concat_getLast ne⟩⟩
theorem mem_allW {xs : List Str} : ∀ {n : Nat} {w : List Str}, w ∈ allW xs n ↔ w.length ≤ n ∧ ∀ x ∈ w, x ∈ xs
  | 0, w => by
    rw [allW, show ([[]] : List (List Str)) = lvW xs 0 from rfl, mem_lvW, Nat.le_zero]
  | n + 1, w => by
    rw [allW, List.mem_append, mem_allW, mem_lvW]
    constructor
    · rintro (⟨h1, h2⟩ | ⟨h1, h2⟩)
      · exact ⟨by omega, h2⟩
      · exact ⟨by omega, h2⟩
    · rintro ⟨h1, h2⟩
      by_cases h : w.length ≤ n
      · exact .inl ⟨h, h2⟩
      · exact .inr ⟨by omega, h2⟩
/-- .. all but the empty one -/
def wdsW (xs : List Str) (n : Nat) : List (List Str) := (allW xs n).drop 1
theorem allW_cons (xs : List Str) : ∀ n, allW xs n = [] :: wdsW xs n
  | 0 => rfl
  | n + 1 => by
    have ih := allW_cons xs n
    unfold wdsW
    rw [allW, ih]
    rfl
theorem lvW_nodup {xs : List Str} (h : xs.Nodup) : ∀ n, (lvW xs n).Nodup
  | 0 => List.pairwise_singleton _ _
  | n + 1 => by
    have ih := lvW_nodup h n
    have key : ∀ ws : List (List Str), ws.Nodup → (∀ w ∈ ws, w.length = n) → (ws.flatMap fun w => xs.map fun x => w ++ [x]).Nodup := fun ws => by
      induction ws with
      | nil => intro _ _; exact List.nodup_nil
      | cons w ws ih =>
        intro hn hl
        rw [List.flatMap_cons]
        obtain ⟨h1, h2⟩ := List.nodup_cons.mp hn
        refine List.nodup_append.mpr ⟨?_, ih h2 fun u hu => hl u (List.mem_cons_of_mem _ hu), fun u hu v hv e => ?_⟩
        · exact List.pairwise_map.mpr (List.Pairwise.imp (fun {a b} hab e => hab (by simpa using e)) h)
        · obtain ⟨x, _, rfl⟩ := List.mem_map.mp hu
          obtain ⟨w2, hw2, hv2⟩ := List.mem_flatMap.mp hv
          obtain ⟨y, _, rfl⟩ := List.mem_map.mp hv2
          have z := (List.append_inj e (by rw [hl w (List.mem_cons_self ..), hl w2 (List.mem_cons_of_mem _ hw2)])).1
          rw [z] at h1
          exact h1 hw2
    exact key _ ih fun w hw => (mem_lvW.mp hw).1
theorem allW_nodup {xs : List Str} (h : xs.Nodup) : ∀ n, (allW xs n).Nodup
  | 0 => List.pairwise_singleton _ _
  | n + 1 => by
    rw [allW]
    refine List.nodup_append.mpr ⟨allW_nodup h n, lvW_nodup h (n + 1), fun u hu v hv e => ?_⟩
    have h1 := (mem_allW.mp hu).1
    have h2 := (mem_lvW.mp hv).1
    rw [e] at h1
    omega
theorem mem_wdsW {xs : List Str} {n : Nat} (h : xs.Nodup) {w : List Str} : w ∈ wdsW xs n ↔ w ≠ [] ∧ w.length ≤ n ∧ ∀ x ∈ w, x ∈ xs := by
  have nd := allW_nodup h n
  have ma : w ∈ allW xs n ↔ _ := mem_allW
  rw [allW_cons] at nd ma
  obtain ⟨n1, _⟩ := List.nodup_cons.mp nd
  constructor
  · intro hw
    exact ⟨fun e => n1 (by rw [← e]; exact hw), ma.mp (List.mem_cons_of_mem _ hw)⟩
  · rintro ⟨h1, h2⟩
    rcases List.mem_cons.mp (ma.mpr h2) with z | z
    · exact absurd z h1
    · exact z
theorem wdsW_nodup {xs : List Str} (h : xs.Nodup) (n : Nat) : (wdsW xs n).Nodup := by
  have nd := allW_nodup h n
  rw [allW_cons] at nd
  exact (List.nodup_cons.mp nd).2
theorem q_par {i j : Nat} {ta tb : TE} {tz : TS} {D : Ends} {σ : L2.St} {H : Hp} (h : ta σ H fun v H1 => tb σ H1 fun w H2 => tz D ((σ.set i (some v)).set j (some w)) H2) : tSeq (tPar i j (tCons ta (tCons tb tNil))) tz D σ H := by
  unfold tSeq tPar
  refine (congrArg (fun z => ta σ H z) (funext fun v => funext fun H1 => ?_)).mp h
  refine congrArg (fun z => tb σ H1 z) (funext fun w => funext fun H2 => propext ⟨fun q => ⟨v, w, rfl, q⟩, fun q => ?_⟩)
  obtain ⟨v2, w2, e, q⟩ := q
  cases e
  exact q
/-! ### rows of triggers, of makes -/
def okWs (ws : List (List Str)) : Prop := (∀ w ∈ ws, isW w = true ∧ w ≠ []) ∧ ws.Nodup
theorem okWs_take {ws : List (List Str)} (h : okWs ws) (n : Nat) : okWs (ws.take n) := ⟨fun w hw => h.1 w (List.mem_of_mem_take hw), h.2.sublist (List.take_sublist n ws)⟩
theorem okWs_isW {ws : List (List Str)} (h : okWs ws) : ∀ w ∈ ws, isW w = true := fun w hw => (h.1 w hw).1
section
variable {Z : Rm.Zn} {K : PySem.W.Frag} {σ : L2.St} {H H1 : Hp} {ta te : TE} {w : List Str} {ws : List (List Str)} {l : Addr} {us : List V} {D : Ends} {xs : List Str}
theorem ew_at0 (h : EvLW K te σ H (w :: ws)) : EvW K (tOp (rIxL K) te (tC (.int 0))) σ H w := fun H1 e Q q => h H1 e _ fun l H2 _ e2 hl => by
  obtain ⟨us, h1, h2⟩ := hl
  cases h2 with
  | cons r t => exact ⟨l, _, 0, _, rfl, rfl, SqL.of h1, (show atI _ ((0 : Nat) : Int) = some _ from atI_nat rfl), q _ H2 e2 r⟩
theorem s_appW (hl : H l = some (.lst us)) (ha : Ev ta σ H (.ref l)) (h : EvW K te σ H w) (hz : us.length < 100000) (k : ∀ v H1, Ex H H1 → Wd K H1 v w → D.nx σ (upd H1 l (.lst (us ++ [v])))) : tDrop (tBM K "list" rAppend ta (tCons te tNil)) D σ H := ha H (Ex.refl H) _ fun H1 e1 =>
  ⟨Or.inl ⟨rfl, us, sq_of (e1 l _ hl)⟩, h H1 e1 _ fun v H2 e2 hv => ⟨l, us, v, rfl, rfl, e2 l _ (e1 l _ hl), sz_lt hz, k v H2 (e1.trans e2) hv⟩⟩
/-- a list of texts is no pot -/
theorem ls_nm (o : Ok Z H) (h : H l = some (.lst (xs.map V.str))) : ¬ Z.M l := fun m => by
  obtain ⟨i, j, q, _⟩ := o.2 l m
  rw [q] at h
  cases xs with
  | nil => cases h
  | cons x xs => cases h
theorem lw_app (h : LW K H l ws) : ∃ us, H l = some (.lst us) ∧ ∀ (v : V) (H1 : Hp), Ex H H1 → Wd K H1 v w → LW K (upd H1 l (.lst (us ++ [v]))) l (ws ++ [w]) := by
  obtain ⟨us, h1, h2⟩ := h
  exact ⟨us, h1, fun v H1 e hv => ⟨us ++ [v], upd_same, paired_app (paired_mono (fun _ _ r => wd_upd (e _ _ h1) (wd_mono e r)) h2) (.cons (wd_upd (e _ _ h1) hv) .nil)⟩⟩
end
theorem isW_of {xs w : List Str} (h : ∀ x ∈ xs, isL x = true) (h1 : w.length ≤ 3) (h2 : ∀ x ∈ w, x ∈ xs) : isW w = true := isW_iff.mpr ⟨h1, fun y hy => h y (h2 y hy)⟩
/-- over one letter at least there are three words -/
theorem three_le {xs : List Str} (h : 1 ≤ xs.length) (hn : xs.Nodup) : 3 ≤ (wdsW xs 3).length := by
  obtain ⟨x, hx⟩ : ∃ x, x ∈ xs := by
    cases xs with
    | nil => cases h
    | cons x xs => exact ⟨x, List.mem_cons_self ..⟩
  have nd : ([[x], [x, x], [x, x, x]] : List (List Str)).Nodup := by simp
  refine nodup_le nd fun w hw => (mem_wdsW hn).mpr ?_
  simp only [List.mem_cons, List.not_mem_nil, or_false] at hw
  rcases hw with rfl | rfl | rfl <;> refine ⟨by simp, by simp, fun y hy => ?_⟩ <;> · simp at hy; rw [hy]; exact hx
end Tk
namespace Tk
open PySem PySem.Spec PyProof.Rows L2 Lw Evl LamX TL
open Rm (R Ok Z0 Zp Fr fr_none fr_ne nt_lst nt_tup nt_dK NT Zn)
/-! ### rows, as they are passed -/
/-- what can't stand behind the rows ws -/
def Wr (K : PySem.W.Frag) (H : Hp) (x : V) (ws : List (List Str)) : Prop := WB K H x false ∨ ∃ y, Wd K H x y ∧ isW y = true ∧ (y = [] ∨ y ∈ ws)
/-- an instance with no list's kind -/
def NoSeq (K : PySem.W.Frag) (H : Hp) (v : V) : Prop := ∃ t : String, TyX K H v (.type t) ∧ PySem.W.kitAny K (.type t) [.type "list", .type "tuple"] = some false
def BadEls (K : PySem.W.Frag) (H : Hp) (us : List V) (m : Nat) : Prop := ∃ ws x, ws.length = m ∧ us.length ≤ 3 ∧ Paired (Wd K H) (us.take m) ws ∧ okWs ws ∧ us[m]? = some x ∧ Wr K H x ws
def BadRow (K : PySem.W.Frag) (H : Hp) (v p : V) : Prop := (NoSeq K H v ∧ p = .non) ∨ (∃ l us, v = .ref l ∧ Sq H l us ∧ us.length ≤ 1000 ∧ ¬ (1 ≤ us.length ∧ us.length ≤ 3) ∧ p = .non) ∨
  ∃ l us m, v = .ref l ∧ Sq H l us ∧ BadEls K H us m ∧ p = .int (m : Int)
def GoodRow (K : PySem.W.Frag) (H : Hp) (v : V) (ws : List (List Str)) : Prop := ∃ l us, v = .ref l ∧ Sq H l us ∧ Paired (Wd K H) us ws ∧ okWs ws ∧ 1 ≤ ws.length ∧ ws.length ≤ 3
section
variable {K : PySem.W.Frag} {Z : Zn} {H H1 : Hp} {v p x : V} {us : List V} {m : Nat} {ws : List (List Str)} {l : Addr}
theorem wr_ex (e : Ex H H1) (h : Wr K H x ws) : Wr K H1 x ws := h.imp (wbv_mono e) fun ⟨y, a, b⟩ => ⟨y, wd_mono e a, b⟩
theorem bel_ex (e : Ex H H1) (h : BadEls K H us m) : BadEls K H1 us m := by
  obtain ⟨ws, x, a, b, c, d, f, g⟩ := h
  exact ⟨ws, x, a, b, paired_mono (fun _ _ r => wd_mono e r) c, d, f, wr_ex e g⟩
theorem bad_ex (e : Ex H H1) (h : BadRow K H v p) : BadRow K H1 v p := by
  rcases h with ⟨⟨t, a, b⟩, c⟩ | ⟨l, us, a, b, c⟩ | ⟨l, us, m, a, b, c, d⟩
  · exact .inl ⟨⟨t, tyx_mono e a, b⟩, c⟩
  · exact .inr (.inl ⟨l, us, a, sq_ex e b, c⟩)
  · exact .inr (.inr ⟨l, us, m, a, sq_ex e b, bel_ex e c, d⟩)
theorem good_ex (e : Ex H H1) (h : GoodRow K H v ws) : GoodRow K H1 v ws := by
  obtain ⟨l, us, a, b, c, d⟩ := h
  exact ⟨l, us, a, sq_ex e b, paired_mono (fun _ _ r => wd_mono e r) c, d⟩
theorem good_lw (h : LW K H l ws) (o : okWs ws) (h1 : 1 ≤ ws.length) (h3 : ws.length ≤ 3) : GoodRow K H (.ref l) ws := by
  obtain ⟨us, a, b⟩ := h
  exact ⟨l, us, rfl, .inl a, b, o, h1, h3⟩
theorem good_R (r : R Z H H1) (h : GoodRow K H v ws) : GoodRow K H1 v ws := by
  obtain ⟨l, us, a, b, c, d, e, f⟩ := h
  refine ⟨l, us, a, ?_, paired_mono (fun _ _ q => Rm.wd_R r q) c, d, e, f⟩
  rcases b with b | b
  · exact .inl (r.lst b (lw_nm r.a ⟨us, b, c⟩))
  · exact .inr (r.tup b)
theorem okWs_srt (o : okWs ws) : okWs (srtW ws) := ⟨fun w hw => o.1 w (srtW_mem.mp hw), srtW_nodup ws⟩
end
/-! ### is_row, first_wrong -/
def spIsRow (K : PySem.W.Frag) : Sp := fun vs H Q _ => ∃ (v : V) (b : Bool), vs = [v] ∧ ((NoSeq K H v ∧ b = false) ∨ ∃ l us, v = .ref l ∧ Sq H l us ∧ us.length ≤ 1000 ∧ b = (decide ((1 : Int) ≤ (us.length : Int)) && decide ((us.length : Int) ≤ 3))) ∧ ∀ H', Ex H H' → Q (.bl b) H'
def spFW (K : PySem.W.Frag) : Sp := fun vs H Q _ => ∃ (l : Addr) (us : List V) (ws : List (List Str)), vs = [.ref l] ∧ Sq H l us ∧ us.length ≤ 1000 ∧ Paired (Wd K H) (us.take ws.length) ws ∧ okWs ws ∧
  ((us.length = ws.length ∧ ∀ H', Ex H H' → Q .non H') ∨ ∃ x, us[ws.length]? = some x ∧ Wr K H x ws ∧ ∀ H', Ex H H' → Q (.int (ws.length : Int)) H')
section
variable {K : PySem.W.Frag} {σ : L2.St} {H : Hp} {te : TE} {v : V} {l : Addr} {us : List V} {ws : List (List Str)} {tb : TS} {g : TG} {D : Ends} {j : Nat} {x : V}
theorem ev_rowN (h : Ev te σ H v) (hv : NoSeq K H v) : Ev (tCall (spIsRow K) [] E0 (tCons te tNil)) σ H (.bl false) := ev_call (ea_cons h ea_nil) fun H1 e Q q E => ⟨v, false, rfl, .inl ⟨by
  obtain ⟨t, a, b⟩ := hv
  exact ⟨t, tyx_mono e a, b⟩, rfl⟩, q⟩
theorem ev_rowQ (h : Ev te σ H (.ref l)) (hv : Sq H l us) (hz : us.length ≤ 1000) : Ev (tCall (spIsRow K) [] E0 (tCons te tNil)) σ H (.bl (decide ((1 : Int) ≤ (us.length : Int)) && decide ((us.length : Int) ≤ 3))) :=
  ev_call (ea_cons h ea_nil) fun H1 e Q q E => ⟨_, _, rfl, .inr ⟨l, us, rfl, sq_ex e hv, hz, rfl⟩, q⟩
theorem ev_fwN (h : Ev te σ H (.ref l)) (hv : Sq H l us) (hp : Paired (Wd K H) us ws) (o : okWs ws) (hz : us.length ≤ 1000) : Ev (tCall (spFW K) [] E0 (tCons te tNil)) σ H .non :=
  ev_call (ea_cons h ea_nil) fun H1 e Q q E => ⟨l, us, ws, rfl, sq_ex e hv, hz, by
    rw [← Paired.length hp, List.take_length]
    exact paired_mono (fun _ _ r => wd_mono e r) hp, o, .inl ⟨Paired.length hp, q⟩⟩
theorem ev_fwI {m : Nat} (h : Ev te σ H (.ref l)) (hv : Sq H l us) (hb : BadEls K H us m) : Ev (tCall (spFW K) [] E0 (tCons te tNil)) σ H (.int (m : Int)) :=
  ev_call (ea_cons h ea_nil) fun H1 e Q q E => by
    obtain ⟨ws, x, rfl, b, c, d, f, g⟩ := bel_ex e hb
    exact ⟨l, us, ws, rfl, sq_ex e hv, by omega, c, d, .inr ⟨x, f, g, q⟩⟩
theorem ev_notN (h : Ev te σ H v) : Ev (tOp (fun x y H Q => y = .non ∧ Q (.bl (!decide (x = .non))) H) te (tC .non)) σ H (.bl (!decide (v = .non))) := ev_op h ev_c (rv_val fun H1 e Q q => ⟨rfl, q⟩)
/-- for position, x in enumerate(l), l a list or a tuple -/
theorem for_enumQ {k : Nat} (hk : σ[k]? = some (some (.ref l))) (hl : Sq H l us) (Pv : Nat → L2.St → Hp → Prop) (h0 : Pv 0 σ H) (he : ∀ i σ' H', Pv i σ' H' → Ex H H')
    (hs : ∀ i x σ' H' T, us[i]? = some x → Pv i σ' H' → H' T = none → g (.ref T) σ' (upd H' T (.tup [.int (i : Int), x])) fun σ2 H2 => tb { D with nx := Pv (i + 1), ct := Pv (i + 1), bk := D.nx } σ2 H2) (hd : ∀ σ' H', Pv us.length σ' H' → D.nx σ' H') :
    tFor (iEnumS K (tCons (tVar k) tNil)) g tb D σ H := by
  refine ⟨_, hk, l, rfl, ?_⟩
  rcases hl with h1 | h1
  · exact .inl ⟨us, SqL.of h1, for_it walk_enum Pv h0 (fun i _ H2 _ p => ex_l (he _ _ _ p) (SqL.of h1)) (fun i x2 σ H2 H3 hi p y => by
      obtain ⟨T, xi, xv, rfl, hT, rfl, hi1, hv1⟩ := y
      obtain rfl : xi = .int (i : Int) := (Option.some.inj hi1).symm
      exact hs i xv σ H2 T hv1 p hT) hd⟩
  · exact .inr ⟨us, SqT.of h1, for_it walkEnumT Pv h0 (fun i _ H2 _ p => ex_t (he _ _ _ p) (SqT.of h1)) (fun i x2 σ H2 H3 hi p y => by
      obtain ⟨T, xi, xv, rfl, hT, rfl, hi1, hv1⟩ := y
      obtain rfl : xi = .int (i : Int) := (Option.some.inj hi1).symm
      exact hs i xv σ H2 T hv1 p hT) hd⟩
end
/-! ### sayings -/
def SyAt (K : PySem.W.Frag) (CY : Addr) (H : Hp) (a : Addr) (ts ms : List (List Str)) : Prop := ∃ dx lt lm, H a = some (.ins CY dx [("_triggers", .ref lt), ("_makes", .ref lm)]) ∧ LW K H lt ts ∧ LW K H lm ms
/-- Saying(triggers, makes) -/
def spSay (K : PySem.W.Frag) (T : List (Addr × Str)) (CT CM CY : Addr) : Sp := fun vs H Q E => ∃ (a dx : Addr) (t m : V) (H0 : Hp), vs = [.ref a, t, m] ∧ H = upd (upd H0 dx (.own a)) a (.ins CY dx []) ∧ H0 a = none ∧ H0 dx = none ∧ dx ≠ a ∧ Tabs T H0 ∧
  ((∃ p, BadRow K H0 t p ∧ Rz CT "position" p H0 E) ∨ ∃ ts, GoodRow K H0 t ts ∧ ((∃ p, BadRow K H0 m p ∧ Rz CM "position" p H0 E) ∨ ∃ ms, GoodRow K H0 m ms ∧ ∀ H', R (Z0 T) H0 H' → SyAt K CY H' a (srtW ts) (srtW ms) → Q .non H'))
/-- s.with_triggers(triggers), s.with_makes(makes) -/
def spWT (K : PySem.W.Frag) (T : List (Addr × Str)) (CT CY : Addr) : Sp := fun vs H Q E => ∃ (a : Addr) (t : V) (ts ms : List (List Str)), vs = [.ref a, t] ∧ SyAt K CY H a ts ms ∧ okWs ms ∧ 1 ≤ ms.length ∧ ms.length ≤ 3 ∧ Tabs T H ∧
  ((∃ p, BadRow K H t p ∧ Rz CT "position" p H E) ∨ ∃ us, GoodRow K H t us ∧ ∀ b H', Fr H b → R (Z0 T) H H' → SyAt K CY H' b (srtW us) (srtW ms) → Q (.ref b) H')
def spWM (K : PySem.W.Frag) (T : List (Addr × Str)) (CM CY : Addr) : Sp := fun vs H Q E => ∃ (a : Addr) (m : V) (ts ms : List (List Str)), vs = [.ref a, m] ∧ SyAt K CY H a ts ms ∧ okWs ts ∧ 1 ≤ ts.length ∧ ts.length ≤ 3 ∧ Tabs T H ∧
  ((∃ p, BadRow K H m p ∧ Rz CM "position" p H E) ∨ ∃ us, GoodRow K H m us ∧ ∀ b H', Fr H b → R (Z0 T) H H' → SyAt K CY H' b (srtW ts) (srtW us) → Q (.ref b) H')
/-- s == other -/
def spSyEq (K : PySem.W.Frag) (CY : Addr) : Sp := fun vs H Q _ => ∃ (a : Addr) (v : V) (ts ms : List (List Str)), vs = [.ref a, v] ∧ SyAt K CY H a ts ms ∧ (∀ w ∈ ts, isW w = true) ∧ (∀ w ∈ ms, isW w = true) ∧
  ((∃ t : Value, TyX K H v t ∧ PySem.W.kitOne K t (.ref CY) = some false ∧ ∀ H', Ex H H' → Q (.bl false) H') ∨
   ∃ (b : Addr) (us ns : List (List Str)), v = .ref b ∧ SyAt K CY H b us ns ∧ (∀ w ∈ us, isW w = true) ∧ (∀ w ∈ ns, isW w = true) ∧ ∀ H', Ex H H' → Q (.bl (decide (ts = us) && decide (ms = ns))) H')
section
variable {K : PySem.W.Frag} {Z : Zn} {σ : L2.St} {H H1 : Hp} {ta tb te : TE} {a CY l : Addr} {ts ms ws us : List (List Str)} {o u : HO}
theorem sy_ex (e : Ex H H1) (h : SyAt K CY H a ts ms) : SyAt K CY H1 a ts ms := by
  obtain ⟨dx, lt, lm, h1, h2, h3⟩ := h
  exact ⟨dx, lt, lm, e _ _ h1, lw_mono e h2, lw_mono e h3⟩
theorem sy_R (r : R Z H H1) (h : SyAt K CY H a ts ms) : SyAt K CY H1 a ts ms := by
  obtain ⟨dx, lt, lm, h1, h2, h3⟩ := h
  exact ⟨dx, lt, lm, r.st _ _ h1 Rm.nt_ins (r.a.nm h1 fun _ z => nomatch z), lw_RO r h2, lw_RO r h3⟩
theorem lw_updN (h : H a = some u) (n1 : ∀ xs, u ≠ .lst xs) (n2 : ∀ xs, u ≠ .tup xs) (hl : LW K H l ws) : LW K (upd H a o) l ws := by
  obtain ⟨us, h1, h2⟩ := hl
  refine ⟨us, ?_, paired_mono (fun v ys r => ?_) h2⟩
  · rw [upd_ne fun z => by
      rw [z, h] at h1
      exact n1 _ (Option.some.inj h1)]
    exact h1
  · obtain ⟨b, e, q⟩ := r
    refine ⟨b, e, ?_⟩
    rw [upd_ne fun z => by
      rw [z, h] at q
      exact n2 _ (Option.some.inj q)]
    exact q
theorem eqvAll_wDs : ∀ xs ys : List (List Str), PyData.eqvAll (xs.map wD) (ys.map wD) = decide (xs = ys)
  | [], [] => rfl
  | [], _ :: _ => rfl
  | _ :: _, [] => rfl
  | x :: xs, y :: ys => by
    rw [List.map_cons, List.map_cons]
    unfold PyData.eqvAll
    rw [eqvAll_wDs xs ys, eqv_wD]
    by_cases h : x = y
    · subst h
      by_cases h2 : xs = ys
      · subst h2
        simp
      · simp [h2]
    · simp [h]
theorem eqv_wDs (xs ys : List (List Str)) : PyData.eqv (.list (xs.map wD)) (.list (ys.map wD)) = decide (xs = ys) := by
  unfold PyData.eqv
  exact eqvAll_wDs xs ys
theorem ev_eqLW {b : Addr} (ha : Ev ta σ H (.ref a)) (hb : Ev tb σ H (.ref b)) (h1 : LW K H a ws) (h2 : LW K H b us) (hw : ∀ x ∈ ws, isW x = true) (hu : ∀ x ∈ us, isW x = true) : Ev (tOp (rEqD K) ta tb) σ H (.bl (decide (ws = us))) := ev_op ha hb (rv_val fun H1 e Q q => by
  obtain ⟨vs, v1, v2⟩ := lw_mono e h1
  obtain ⟨zs, z1, z2⟩ := lw_mono e h2
  refine ⟨.list (ws.map wD), .list (us.map wD), .lst (SqL.of v1) (dpa_words v2), .lst (SqL.of z1) (dpa_words z2), shaped_wDs hw, shaped_wDs hu, ?_⟩
  rw [eqv_wDs]
  exact q)
end
/-! ### a row is looked through -/
section
variable {K : PySem.W.Frag} {σ : L2.St} {H : Hp} {v p : V} {ws : List (List Str)} {D : Ends} {tz : TS} {C : Addr} {f : Str} {W : WX} {k : Nat}
abbrev tNotRow (K : PySem.W.Frag) (k : Nat) : TT := tNot (tB (tCall (spIsRow K) [] E0 (tCons (tVar k) tNil)))
abbrev tFW (K : PySem.W.Frag) (k : Nat) : TE := tCall (spFW K) [] E0 (tCons (tVar k) tNil)
abbrev tWrong (K : PySem.W.Frag) (k : Nat) : TT := tTest (tOp (fun x y H Q => y = .non ∧ Q (.bl (!decide (x = .non))) H) (tFW K k) (tC .non))
theorem q_badrow (hk : σ[k]? = some (some v)) (hb : BadRow K H v p) (x : ∀ H1, Ex H H1 → Rz C f p H1 fun cls d H' => W cls d σ H') : tSeq (tIfS (tNotRow K k) (tRz C f W (tC .non)) tNext) (tSeq (tIfS (tWrong K k) (tRz C f W (tFW K k)) tNext) tz) D σ H := by
  rcases hb with ⟨a, rfl⟩ | ⟨l, us, rfl, b, hz, c, rfl⟩ | ⟨l, us, m, rfl, b, c, rfl⟩
  · exact q_when (b := !false) (et_not (et_B (ev_rowN (ev_var hk) a))) (fun _ H1 e => x H1 e) (fun z => by cases z)
  · refine q_when (b := !(decide ((1 : Int) ≤ (us.length : Int)) && decide ((us.length : Int) ≤ 3))) (et_not (et_B (ev_rowQ (ev_var hk) b hz))) (fun _ H1 e => x H1 e) (fun z => ?_)
    have z : (decide ((1 : Int) ≤ (us.length : Int)) && decide ((us.length : Int) ≤ 3)) = true := by
      cases q : (decide ((1 : Int) ≤ (us.length : Int)) && decide ((us.length : Int) ≤ 3)) with
      | true => rfl
      | false =>
        rw [q] at z
        cases z
    obtain ⟨z1, z2⟩ := Bool.and_eq_true_iff.mp z
    have := of_decide_eq_true z1
    have := of_decide_eq_true z2
    exact absurd ⟨by omega, by omega⟩ c
  · obtain ⟨ws, y, d1, d2, d3, d4, d5, d6⟩ := c
    have hm := (List.getElem?_eq_some_iff.mp d5).1
    have yes : (!(decide ((1 : Int) ≤ (us.length : Int)) && decide ((us.length : Int) ≤ 3))) = false := by
      rw [decide_eq_true (by omega), decide_eq_true (by omega)]
      rfl
    refine q_when (b := !(decide ((1 : Int) ≤ (us.length : Int)) && decide ((us.length : Int) ≤ 3))) (et_not (et_B (ev_rowQ (ev_var hk) b (by omega)))) (fun z => by rw [yes] at z; cases z) (fun _ H1 e1 => ?_)
    have be : BadEls K H us m := ⟨ws, y, d1, d2, d3, d4, d5, d6⟩
    refine q_when (b := !decide (V.int (m : Int) = .non)) (et_test (ev_notN (ev_fwI (ev_var hk) (sq_ex e1 b) (bel_ex e1 be)))) (fun _ H2 e2 => ?_) (fun z => by simp at z)
    exact ev_fwI (ev_var hk) (sq_ex (e1.trans e2) b) (bel_ex (e1.trans e2) be) H2 (Ex.refl H2) _ fun H3 e3 => x H3 ((e1.trans e2).trans e3)
theorem q_goodrow (hk : σ[k]? = some (some v)) (hg : GoodRow K H v ws) (q : ∀ H1, Ex H H1 → tz D σ H1) : tSeq (tIfS (tNotRow K k) (tRz C f W (tC .non)) tNext) (tSeq (tIfS (tWrong K k) (tRz C f W (tFW K k)) tNext) tz) D σ H := by
  obtain ⟨l, us, rfl, b, c, o, h1, h3⟩ := hg
  have hl := Paired.length c
  have yes : (!(decide ((1 : Int) ≤ (us.length : Int)) && decide ((us.length : Int) ≤ 3))) = false := by
    rw [decide_eq_true (by omega), decide_eq_true (by omega)]
    rfl
  refine q_when (b := !(decide ((1 : Int) ≤ (us.length : Int)) && decide ((us.length : Int) ≤ 3))) (et_not (et_B (ev_rowQ (ev_var hk) b (by omega)))) (fun z => by rw [yes] at z; cases z) (fun _ H1 e1 => ?_)
  refine q_when (b := !decide (V.non = .non)) (et_test (ev_notN (ev_fwN (ev_var hk) (sq_ex e1 b) (paired_mono (fun _ _ r => wd_mono e1 r) c) o (by omega)))) (fun z => by simp at z) (fun _ H2 e2 => q H2 (e1.trans e2))
end
end Tk
namespace Lw
open PySem PySem.Spec PyProof.Rows L2
/-! ### o != y, by the default __ne__ over o's own __eq__ -/
section
variable {prog : Program} {w : World} {A : Around} {E : Value → Shared → Prop} {s : Shared} {K : PySem.W.Frag} {a C f : Addr} {ox : Obj} {od : Option Obj} {u : Value}
theorem neBody (X : K.In s.heap) (J : PySem.W.InstAt s.heap a ox C od) (heq : PySem.W.findIn K (.ref C) "__eq__" = some (some (.ref f))) (tf : PySem.W.typeIn K (.ref f) = some (.type "function")) (hu : A.units < cLine) {Q : Fin → Shared → Prop}
    (hc : wpAny (model prog w) A (call (.ref f) [.ref a, u]) (fun v s2 => ∃ b, v = .bool b ∧ Q (.done (.ret (.bool (!b)))) s2) E s) : wpAny (model prog w) A (Builtin.«object.__ne__» ⟨[.ref a, u], []⟩) Q E s := by
  unfold Builtin.«object.__ne__»
  repeat (first
    | with_reducible refine wpAny_cRoomFor hu ?_
    | (refine wpAny_bind (m := callSpecialIfBound? (.ref a) (Str.ofString "__eq__") [u]) (bound_own X J heq tf (wpAny_mono hc (fun r s2 hr => by
          obtain ⟨b, rfl, told⟩ := hr
          repeat (first | exact told | exact wpAny_pure told | exact wpAny_truthy_bool told | (refine wpAny_bind (m := truthy (.bool _)) (wpAny_truthy_bool ?_)) | wp_step)) fun _ _ z => z)))
    | wp_step)
theorem neTry (X : K.In s.heap) (J : PySem.W.InstAt s.heap a ox C od) (hne : PySem.W.findIn K (.ref C) "__ne__" = some (some (.builtin "object.__ne__"))) (heq : PySem.W.findIn K (.ref C) "__eq__" = some (some (.ref f))) (tf : PySem.W.typeIn K (.ref f) = some (.type "function"))
    (mo : PySem.W.mroIn K C (.type "object") = some true) (hu : A.units + 1 < cLine) {Q : Option Value → Shared → Prop}
    (hc : wpAny (model prog w) A.in1 (call (.ref f) [.ref a, u]) (fun v s2 => ∃ b, v = .bool b ∧ Q (some (.bool (!b))) s2) E s) : wpAny (model prog w) A (tryCompare (.ref a) "__ne__" u) Q E s := by
  have L1 := J.type (M := model prog w)
  have L2 := PySem.W.looks_findIn (M := model prog w) X hne
  have sub : PySem.W.Looks (model prog w) s.heap (isInstance (.ref a) (.type "object")) true := L1.andThen (PySem.W.looks_mroIn X mo)
  have FB := F.cmp_object
  have main : wpAny (model prog w) A (call (.builtin "object.__ne__") [.ref a, u]) (fun v s2 => ∃ b, v = .bool b ∧ Q (some (.bool b)) s2) E s := by
    refine wpAny_call (codeAny_call_builtin FB.ne.plain F.cmpEntry_ne (@PySem.W.check_slot (model prog w) _ _ s "object.__ne__" "object" "__ne__" (.ref a) [u] [] _ F.cmpKind_ne F.cmpSplit_ne sub (F.cmpArgs_ne _ _) ?_))
    refine neBody (A := A.in1) X J heq tf hu (wpAny_mono hc (fun v s2 hv => ?_) fun _ _ z => z)
    obtain ⟨b, rfl, q⟩ := hv
    first | exact ⟨b, rfl, _, rfl, q⟩ | exact ⟨b, rfl, ⟨_, rfl, q⟩⟩
  simp only [tryCompare, callSpecialIfBound?, bindSpecialIfBound?]
  refine wpAny_bind (wpAny_holding (wpAny_bind (wpAny_bind ?_)))
  have sp : ∀ {R : Option Value → Shared → Prop}, R (some (.builtin "object.__ne__")) s → wpAny (model prog w) A (specialOf (.ref a) "__ne__") R E s := fun {R} r => by
    unfold specialOf
    repeat (first
      | with_reducible refine L1.at ?_
      | with_reducible refine L2.at ?_
      | wp_step)
    exact r
  refine sp ?_
  simp only [FB.ne.bind]
  refine wpAny_bind (wpAny_askSetting (wpAny_ite ?_))
  have fin : wpAny (model prog w) A (call (.builtin "object.__ne__") ([.ref a] ++ [u]) >>= fun v => pure (some v)) (fun r s2 => ∃ b, r = some (.bool b) ∧ Q (some (.bool b)) s2) E s := wpAny_bind (wpAny_mono main (fun v s2 hv => by
    obtain ⟨b, rfl, q⟩ := hv
    exact wpAny_pure ⟨b, rfl, q⟩) fun _ _ z => z)
  have fin2 := fun (T : Option Value → Shared → Prop) (k : ∀ b s2, Q (some (.bool b)) s2 → T (some (.bool b)) s2) => wpAny_mono fin (fun r s2 hr => by
    obtain ⟨b, rfl, q⟩ := hr
    exact k b s2 q) (fun _ _ z => z) (Q' := T)
  split
  · refine wpAny_bind (wpAny_pure (wpAny_pure (fin2 _ fun b s2 q => ?_)))
    exact wpAny_pure q
  · refine wpAny_tryCatch (wpAny_bind (wpAny_pure (wpAny_pure (fin2 _ fun b s2 q => ?_))))
    exact wpAny_pure q
theorem neCmp {tb : Value} (X : K.In s.heap) (J : PySem.W.InstAt s.heap a ox C od) (lk : PySem.W.Looks (model prog w) s.heap (typeOf u) tb) (nf : PySem.W.notFirst K C tb = true) (hu : A.units < cLine) {Q : Value → Shared → Prop}
    (one : wpAny (model prog w) A (tryCompare (.ref a) "__ne__" u) (fun r s2 => ∃ b, r = some (.bool b) ∧ Q (.bool b) s2) E s) : wpAny (model prog w) A (compareOp .NotEq (.ref a) u) Q E s := by
  have last : ∀ {T : Option Value → Shared → Prop}, (∀ b s2, Q (.bool b) s2 → T (some (.bool b)) s2) → wpAny (model prog w) A (tryCompare (.ref a) "__ne__" u) T E s := fun {T} k => wpAny_mono one (fun r s2 hr => by
    obtain ⟨b, rfl, q⟩ := hr
    exact k b s2 q) fun _ _ z => z
  unfold compareOp richCompare
  simp only [oneThing_ref]
  refine wpAny_holding (wpAny_bind (wpAny_cRoomFor hu (wpAny_bind (J.type.here (wpAny_bind (lk.here ?_))))))
  split
  · rename_i ne
    have no : PySem.W.subIn K tb (.ref C) = some false := by
      rcases Bool.or_eq_true_iff.mp nf with e | e
      · rw [beq_iff_eq.mp e] at ne
        simp at ne
      · exact beq_iff_eq.mp e
    refine wpAny_bind ((PySem.W.looks_subIn X no).here ?_)
    simp only [Bool.false_eq_true, if_false]
    exact wpAny_bind (last fun b s2 q => wpAny_pure q)
  · refine wpAny_bind (wpAny_pure ?_)
    simp only [Bool.false_eq_true, if_false]
    exact wpAny_bind (last fun b s2 q => wpAny_pure q)
end
section
variable {X : Cx} {CX : CXT} {k : Nat} {C f : Addr} {fd : FuncData} {ps : List Str} {sp : Sp} {E : XK}
def rNeO (K : PySem.W.Frag) (C : Addr) (sp : Sp) (E : XK) : R2 := fun x y H Q => ∃ (a dx : Addr) (fs : List (Str × V)), x = .ref a ∧ H a = some (.ins C dx fs) ∧
  ((∃ t : String, TyX K H y (.type t) ∧ PySem.W.notFirst K C (.type t) = true) ∨ ∃ (b dy : Addr) (gs : List (Str × V)), y = .ref b ∧ H b = some (.ins C dy gs)) ∧ sp [.ref a, y] H (fun v H2 => ∃ b : Bool, v = .bl b ∧ Q (.bl (!b)) H2) E
theorem op_neO (hf : PySem.W.findIn X.K (.ref C) "__eq__" = some (some (.ref f))) (tf : PySem.W.typeIn X.K (.ref f) = some (.type "function")) (hn : PySem.W.findIn X.K (.ref C) "__ne__" = some (some (.builtin "object.__ne__"))) (mo : PySem.W.mroIn X.K C (.type "object") = some true)
    (F : FnOk X.prog X.w X.K X.mg X.base CX k f fd ps sp) (hb : Binds X.K fd ps []) (hr : Room (k + 1) X.A) (hx : Passes CX X E) : OpR X (compareOp .NotEq) (rNeO X.K C sp E) := by
  intro pins s σ H x y v u Q I rx ry h
  obtain ⟨a, dx, fs, rfl, ha, hy, q⟩ := h
  cases rx
  obtain ⟨mA, J, _⟩ := ins_get I.hok ha
  obtain ⟨od, J, _⟩ := J.look
  obtain ⟨tb, lk, nf⟩ : ∃ tb, PySem.W.Looks (model X.prog X.w) s.heap (typeOf u) tb ∧ PySem.W.notFirst X.K C tb = true := by
    rcases hy with ⟨t, ty, nf⟩ | ⟨b, dy, gs, rfl, hb2⟩
    · obtain ⟨P, kx, hp, _⟩ := kit_of I ry ty
      exact ⟨_, kx.ty _ _ I.kIn hp, nf⟩
    · cases ry
      obtain ⟨mB, J2, _⟩ := ins_get I.hok hb2
      obtain ⟨od2, J2, _⟩ := J2.look
      exact ⟨_, J2.type, by simp [PySem.W.notFirst]⟩
  have un := hr.units
  refine neCmp I.kIn J lk nf hr.units0 (neTry (Q := fun r s2 => ∃ b, r = some (.bool b) ∧ EP X pins σ Q (.bool b) s2) I.kIn J hn hf tf mo (by omega) (wpAny_mono (run_in1 (us := [.ref a, u]) (vs := [.ref a, y]) F hb hr.in1 hx I (.cons rfl (.cons ry .nil)) q) (fun w2 s2 hh => ?_) fun _ _ z => z))
  obtain ⟨z, H2, I2, rz, b, rfl, q2⟩ := hh
  obtain rfl : w2 = Value.bool b := rz
  exact ⟨b, rfl, !b, rfl, .bl (!b), H2, I2, rfl, q2⟩
end
end Lw
namespace Lw
open PySem PySem.Spec PyProof.Rows L2
open AutoSeq1 (wpAny_loadPart')
/-! ### x == o: what stands left declines, o's own __eq__ tells -/
section
variable {prog : Program} {w : World} {A : Around} {E : Value → Shared → Prop} {s : Shared} {K : PySem.W.Frag} {a C f l dx : Addr} {ox : Obj} {od : Option Obj} {n : Nat} {items : Array Value} {dd : Option Addr} {sl : Array (Option Value)} {Q : Value → Shared → Prop}
theorem declines_list (hl : s.heap.get? l = some { cls := .type "list", dict := dd, data := .seq items n, slots := sl }) (L : PySem.W.Looks (model prog w) s.heap (isInstance (.ref a) (.type "list")) false) (q : Q .notImplemented s) :
    wpAny (model prog w) A (call (.builtin "list.__eq__") [.ref l, .ref a]) Q E s := by
  refine wpAny_call_entry PySem.F.slot_list_eq ⟨_, hl, rfl⟩ PySem.F.entry_list_eq ?_ (PySem.F.args_list_eq_2 _ _)
  unfold Builtin.«list.__eq__»
  repeat (first
    | with_reducible refine L.at ?_
    | wp_step)
  exact ⟨_, rfl, q⟩
theorem declines_tuple (hl : s.heap.get? l = some { cls := .type "tuple", dict := dd, data := .seq items n, slots := sl }) (L : PySem.W.Looks (model prog w) s.heap (isInstance (.ref a) (.type "tuple")) false) (q : Q .notImplemented s) :
    wpAny (model prog w) A (call (.builtin "tuple.__eq__") [.ref l, .ref a]) Q E s := by
  refine wpAny_call_entry PySem.F.slot_tuple_eq ⟨_, hl, rfl⟩ PySem.F.entry_tuple_eq ?_ (PySem.F.args_tuple_eq_2 _ _)
  unfold Builtin.«tuple.__eq__»
  repeat (first
    | with_reducible refine L.at ?_
    | wp_step)
  exact ⟨_, rfl, q⟩
theorem declines_dict (ty : s.TypeIs (.ref l) "dict") (L : PySem.W.Looks (model prog w) s.heap (isInstance (.ref a) (.type "dict")) false) (q : Q .notImplemented s) :
    wpAny (model prog w) A (call (.builtin "dict.__eq__") [.ref l, .ref a]) Q E s := by
  refine wpAny_call_entry PySem.F.slot_dict_eq ty PySem.F.entry_dict_eq ?_ (PySem.F.args_dict_eq_2 _ _)
  show wpAny _ _ (Builtin.Dict.dictSlotArgs "__eq__" ⟨[.ref l, .ref a], []⟩ >>= _) _ _ s
  refine wpAny_bind ?_
  unfold Builtin.Dict.dictSlotArgs
  refine wpAny_bind (wpAny_notOrdered_dict ty ?_)
  show wpAny _ _ (pure (Value.ref l, Value.ref a)) _ _ s
  refine wpAny_pure ?_
  repeat (first
    | with_reducible refine L.at ?_
    | wp_step)
  exact ⟨_, rfl, q⟩
theorem declines_int (b : Int) (u : Tok) (ha : s.heap.get? a = some (PySem.W.instObj C dx)) (q : Q .notImplemented s) : wpAny (model prog w) A (call (.builtin "int.__eq__") [.int b u, .ref a]) Q E s :=
  call_meets PySem.F.slot_int_eq (typeIs_int s b u) PySem.F.entry_int_eq (PySem.F.args_int_eq_2 _ _) (S := fun _ R s => s.heap.get? a = some (PySem.W.instObj C dx) ∧ R (.ok (.ret .notImplemented)) s)
    (.of_wp fun prog w A R s h => by obtain ⟨hp, g, d, tk, os⟩ := s; obtain ⟨hl, h⟩ := h; wp_walk using wpAny_loadPart' hl, wpAny_load hl; exact ⟨_, rfl, h⟩) ⟨ha, q⟩
theorem declines_bool (b : Bool) (ha : s.heap.get? a = some (PySem.W.instObj C dx)) (q : Q .notImplemented s) : wpAny (model prog w) A (call (.builtin "int.__eq__") [.bool b, .ref a]) Q E s :=
  call_meets PySem.F.slot_bool_eq (show s.TypeIs (.bool b) "bool" from rfl) PySem.F.entry_int_eq (PySem.F.args_int_eq_2 _ _) (S := fun _ R s => s.heap.get? a = some (PySem.W.instObj C dx) ∧ R (.ok (.ret .notImplemented)) s)
    (.of_wp fun prog w A R s h => by obtain ⟨hp, g, d, tk, os⟩ := s; obtain ⟨hl, h⟩ := h; wp_walk using wpAny_loadPart' hl, wpAny_load hl; exact ⟨_, rfl, h⟩) ⟨ha, q⟩
theorem declines_str (b : Str) (u : Tok) (ha : s.heap.get? a = some (PySem.W.instObj C dx)) (q : Q .notImplemented s) : wpAny (model prog w) A (call (.builtin "str.__eq__") [.str b u, .ref a]) Q E s :=
  call_meets PySem.F.slot_str_eq (typeIs_str s b u) PySem.F.entry_str_eq (PySem.F.args_str_eq_2 _ _) (S := fun _ R s => s.heap.get? a = some (PySem.W.instObj C dx) ∧ R (.ok (.ret .notImplemented)) s)
    (.of_wp fun prog w A R s h => by obtain ⟨hp, g, d, tk, os⟩ := s; obtain ⟨hl, h⟩ := h; wp_walk using wpAny_loadPart' hl, wpAny_load hl; exact ⟨_, rfl, h⟩) ⟨ha, q⟩
theorem declines_none (q : Q .notImplemented s) : wpAny (model prog w) A (call (.builtin "NoneType.__eq__") [.none, .ref a]) Q E s :=
  call_gives PySem.F.slot_NoneType_eq rfl PySem.F.entry_NoneType_eq (PySem.F.args_NoneType_eq_2 _ _) (SeqAt.NoneType___eq___none_ref_0 a) q
/-- x == o -/
theorem eqRight {x : Value} {T id : String} (X : K.In s.heap) (J : PySem.W.InstAt s.heap a ox C od) (hx : s.TypeIs x T) (sx : Slot T (cmpInfo .Eq).2.1 id) (dec : ∀ R : Value → Shared → Prop, R .notImplemented s → wpAny (model prog w) A (call (.builtin id) [x, .ref a]) R E s)
    (no : PySem.W.subIn K (.ref C) (.type T) = some false) (hf : PySem.W.findIn K (.ref C) "__eq__" = some (some (.ref f))) (tf : PySem.W.isFn K (.ref f) = true) (hu : A.units < cLine)
    (hc : wpAny (model prog w) A (call (.ref f) [.ref a, x]) (PySem.W.CmpBack Q) E s) : wpAny (model prog w) A (compareOp .Eq x (.ref a)) Q E s := by
  unfold compareOp richCompare
  simp only [hx.oneThing_none]
  refine wpAny_holding (wpAny_bind (wpAny_cRoomFor hu ?_))
  refine wpAny_bind (wpAny_typeOf hx (wpAny_bind (J.type.here ?_)))
  have ne : (Value.type T != Value.ref C) = true := rfl
  simp only [ne, if_true]
  refine wpAny_bind ((PySem.W.looks_subIn X no).here ?_)
  simp only [Bool.false_eq_true, if_false, Bool.not_false, if_true]
  refine wpAny_bind (m := tryCompare x _ (.ref a)) (wpAny_tryCompare_declines hx sx (dec _ ⟨rfl, ?_⟩))
  dsimp only
  refine wpAny_bind (m := tryCompare (.ref a) _ x) ?_
  unfold tryCompare
  refine wpAny_bind (PySem.W.ifBound_K X J hf tf (wpAny_mono hc (fun v s' hv => ?_) fun _ _ e => e))
  cases v <;> first | exact hv.elim | exact wpAny_pure (wpAny_pure hv)
end
end Lw
namespace Lw
open PySem PySem.Spec PyProof.Rows L2
/-! ### == of dicts with tuple keys whose values are all True -/
section
variable {prog : Program} {w : World} {K : Type} [DecidableEq K] {knd : HeapKind prog w K} {A : Around} {E : Value → Shared → Prop} {s : Shared}
theorem samePairsH {nm : String} {a b : Addr} {xs ys : List (K × Addr × Value)} {Q : Bool → Shared → Prop} (hu : knd.room A) (ha : (a == sysModules) = false) (hb : (b == sysModules) = false)
    (da : s.heap.DictOfH knd a xs) (db : s.heap.DictOfH knd b ys) (vx : ∀ x ∈ xs, x.2.2 = .bool true) (vy : ∀ y ∈ ys, y.2.2 = .bool true) (h : Q (xs.length == ys.length && xs.all fun x => decide (x.1 ∈ ys.map Prod.fst)) s) :
    wpAny (model prog w) A (Builtin.Dict.samePairs nm a b) Q E s := by
  obtain ⟨oa, es, ep, hoa, _, hda, hea, hia, hna⟩ := da
  obtain ⟨ob, fs, fp, hob, _, hdb, heb, hib, hnb⟩ := db
  have hla : es.size = xs.length := size_of_entries hea
  have hlb : fs.size = ys.length := size_of_entries heb
  rw [← hla, ← hlb] at h
  unfold Builtin.Dict.samePairs Builtin.Dict.showsAll
  rw [if_neg (show ¬ (a == sysModules) = true by rw [ha]; exact Bool.false_ne_true), if_neg (show ¬ (b == sysModules) = true by rw [hb]; exact Bool.false_ne_true)]
  refine wpAny_bind (wpAny_pure (wpAny_bind (wpAny_pure ?_)))
  refine wpAny_bind (wpAny_dictEntries hoa hda ?_)
  dsimp only
  refine wpAny_bind (wpAny_dictEntries hob hdb ?_)
  by_cases hsz : es.size = fs.size
  case neg =>
    rw [if_pos (by simpa using hsz)]
    have hbf : (es.size == fs.size) = false := by simpa using hsz
    rw [hbf, Bool.false_and] at h
    exact wpAny_bind (wpAny_rule (wpAny_pure h))
  case pos =>
    have h' : Q (xs.all fun x => decide (x.1 ∈ ys.map Prod.fst)) s := by simpa [hsz] using h
    rw [if_neg (by rw [hsz]; simp)]
    refine wpAny_bind (wpAny_dictEpoch hoa hda ?_)
    refine wpAny_bind ?_
    rw [Std.Legacy.Range.forIn_eq_forIn_range']
    simp only [Std.Legacy.Range.size, Nat.sub_zero, Nat.add_sub_cancel, Nat.div_one]
    refine wpAny_forIn_list _
      (fun rest q s' => s' = s ∧ q = (none, ()) ∧ ∃ i, rest = List.range' i (es.size - i) ∧ i ≤ es.size ∧ ∀ x ∈ xs.take i, x.1 ∈ ys.map Prod.fst)
      _ ?_ ?_ _ _ ⟨rfl, rfl, 0, by simp, Nat.zero_le _, fun _ z => absurd z (by simp)⟩
    · rintro x rest q s' ⟨rfl, rfl, i, hr, hi, hpre⟩
      have hlt : i < es.size := by
        rcases Nat.lt_or_ge i es.size with h | h
        · exact h
        · rw [Nat.sub_eq_zero_of_le h] at hr; simp at hr
      obtain ⟨rfl, hrest⟩ : x = i ∧ rest = List.range' (i + 1) (es.size - (i + 1)) := by
        have e : es.size - i = (es.size - (i + 1)) + 1 := by omega
        rw [e, List.range'_succ] at hr
        injection hr with h1 h2
        exact ⟨h1, h2⟩
      have hltx : x < xs.length := by omega
      obtain ⟨⟨k, c, v⟩, hkv⟩ : ∃ y, xs[x]? = some y := ⟨_, List.getElem?_eq_getElem hltx⟩
      have hmem := List.mem_of_getElem? hkv
      have hic : knd.is s'.heap k c := hia _ hmem
      have hv : v = .bool true := vx _ hmem
      have hex : es[x]? = some ⟨knd.hash k, .ref c, v⟩ := by
        rw [entry_at hea x, hkv]
        rfl
      refine wpAny_bind (wpAny_dictEntries hoa hda ?_)
      rw [hex]
      dsimp only
      have no : (∀ (j : Nat) (p : Addr × Value), ys[j]? ≠ some (k, p)) → Q false s' := fun hno => by
        have z : (xs.all fun x => decide (x.1 ∈ ys.map Prod.fst)) = false := by
          refine Bool.eq_false_iff.mpr fun z => ?_
          have z2 := of_decide_eq_true (List.all_eq_true.mp z _ hmem)
          obtain ⟨y, hy, ey⟩ := List.mem_map.mp z2
          obtain ⟨j, hj, ej⟩ := List.getElem_of_mem hy
          refine hno j y.2 ?_
          rw [List.getElem?_eq_getElem hj, ej]
          exact congrArg some (Prod.ext ey rfl)
        rw [z] at h'
        exact h'
      refine wpAny_bind (wpAny_holding (wpAny_bind (wpAny_dictFind_heap hu hic hob hdb heb hib hnb (fun hno => ?_) (fun j p hj => ?_))))
      · refine wpAny_pure ?_
        show wpAny _ _ (if (!false) = true then _ else _) _ _ _
        rw [if_pos (by decide)]
        exact wpAny_pure (wpAny_pure (no hno))
      · have hyj : fs[j]? = some ⟨knd.hash k, .ref p.1, p.2⟩ := by
          rw [entry_at heb j, hj]
          rfl
        have hv2 : p.2 = .bool true := vy _ (List.mem_of_getElem? hj)
        refine wpAny_bind (wpAny_dictEntries hob hdb ?_)
        rw [hyj]
        dsimp only
        rw [hv, hv2]
        refine wpAny_holding (m := eqBool (.bool true) (.bool true)) (SeqAt.EqAt.bool_bool true true prog w E _ ?_)
        show wpAny _ _ (if (!true) = true then _ else _) _ _ _
        rw [if_neg (by decide)]
        refine wpAny_bind (wpAny_dictEpoch hoa hda ?_)
        rw [if_neg (by simp)]
        refine wpAny_pure ⟨rfl, rfl, x + 1, hrest, hlt, fun y hy => ?_⟩
        rw [List.take_add_one, hkv] at hy
        rcases List.mem_append.mp hy with hy | hy
        · exact hpre y hy
        · rw [List.mem_singleton.mp hy]
          exact List.mem_map.mpr ⟨_, List.mem_of_getElem? hj, rfl⟩
    · rintro q s' ⟨rfl, rfl, i, hr, hi, hpre⟩
      have hin : i = es.size := by
        rcases Nat.lt_or_ge i es.size with h | h
        · have e : es.size - i = (es.size - (i + 1)) + 1 := by omega
          rw [e, List.range'_succ] at hr; exact nomatch hr
        · exact Nat.le_antisymm hi h
      refine wpAny_pure ?_
      rw [hin, hla, List.take_length] at hpre
      have z : (xs.all fun x => decide (x.1 ∈ ys.map Prod.fst)) = true := List.all_eq_true.mpr fun x hx => decide_eq_true (hpre x hx)
      rw [z] at h'
      exact h'
end
/-- kvs: its values are all True -/
def AllT (kvs : List (List L2.Key × V)) : Prop := ∀ p ∈ kvs, p.2 = .bl true
theorem kt_true {H : Hp} {kvs : List (List L2.Key × V)} {xs : List (List L2.Key × Addr × Value)} (r : KT H kvs xs) (h : AllT kvs) : (∀ x ∈ xs, x.2.2 = .bool true) ∧ xs.map Prod.fst = kvs.map Prod.fst := by
  induction r with
  | nil => exact ⟨fun _ z => absurd z List.not_mem_nil, rfl⟩
  | @cons p q ps qs hq t ih =>
    obtain ⟨i1, i2⟩ := ih fun p hp => h p (List.mem_cons_of_mem _ hp)
    have e := hq.2.2
    rw [h p (List.mem_cons_self ..)] at e
    refine ⟨fun x hx => ?_, ?_⟩
    · rcases List.mem_cons.mp hx with z | hx
      · rw [z]
        exact e
      · exact i1 x hx
    · rw [List.map_cons, List.map_cons, i2, hq.1]
/-- d == e -/
def rEqT : R2 := fun x y H Q => ∃ (d e : Addr) (kvs lvs : List (List L2.Key × V)), x = .ref d ∧ y = .ref e ∧ H d = some (.dT kvs) ∧ H e = some (.dT lvs) ∧ AllT kvs ∧ AllT lvs ∧
  ∀ b : Bool, (b = true ↔ kvs.length = lvs.length ∧ ∀ p ∈ kvs, p.1 ∈ lvs.map Prod.fst) → Q (.bl b) H
theorem op_eqT {X : Cx} (hu : X.A.units + 64 < cLine) : OpR X (compareOp .Eq) rEqT := by
  intro pins s σ H x y v u Q I rx ry h
  obtain ⟨d, e, kvs, lvs, rfl, rfl, hd, he, ad, ae, q⟩ := h
  cases rx
  cases ry
  obtain ⟨z1, n1, xs, r1, d1⟩ := dt_of I.hok hd
  obtain ⟨z2, n2, ys, r2, d2⟩ := dt_of I.hok he
  obtain ⟨v1, k1⟩ := kt_true r1 ad
  obtain ⟨v2, k2⟩ := kt_true r2 ae
  show wpAny _ _ (richCompare .Eq (.ref d) (.ref e)) _ _ _
  refine wpAny_richCompare_same_room (op := .Eq) d1.typeIs d2.typeIs PySem.F.slot_dict_eq (wpAny_call_entry PySem.F.slot_dict_eq d1.typeIs PySem.F.entry_dict_eq ?_ (PySem.F.args_dict_eq_2 _ _)) (by omega)
  show wpAny _ _ (Builtin.Dict.dictSlotArgs "__eq__" ⟨[.ref d, .ref e], []⟩ >>= _) _ _ s
  refine wpAny_bind ?_
  unfold Builtin.Dict.dictSlotArgs
  refine wpAny_bind (wpAny_notOrdered_dict d1.typeIs ?_)
  show wpAny _ _ (pure (Value.ref d, Value.ref e)) _ _ s
  refine wpAny_pure ?_
  refine wpAny_bind (wpAny_isInstance (T := "dict") d2.typeIs PySem.F.sub_dict_dict ?_)
  simp only [Bool.not_true, Bool.false_eq_true, if_false]
  refine wpAny_bind (wpAny_pure (wpAny_bind (wpAny_pure ?_)))
  have rm : (tupleKind (mixKind X.prog X.w)).room X.A.in1 := tupleKind_room_in1 (by omega)
  refine wpAny_bind (samePairsH rm n1 n2 d1 d2 v1 v2 ?_)
  have l1 : xs.length = kvs.length := (Paired.length r1).symm
  have l2 : ys.length = lvs.length := (Paired.length r2).symm
  refine wpAny_pure ⟨_, rfl, ?_, ?_⟩
  · exact fun x => nomatch x
  · refine ⟨.bl _, H, I, rfl, q _ ?_⟩
    rw [← k2, ← l1, ← l2]
    simp only [beq_true, Bool.and_eq_true, beq_iff_eq, List.all_eq_true, decide_eq_true_eq]
    refine and_congr_right fun _ => ⟨fun z p hp => ?_, fun z x hx => ?_⟩
    · have m : p.1 ∈ xs.map Prod.fst := by
        rw [k1]
        exact List.mem_map.mpr ⟨p, hp, rfl⟩
      obtain ⟨x, hx, e⟩ := List.mem_map.mp m
      rw [← e]
      exact z x hx
    · have m : x.1 ∈ kvs.map Prod.fst := by
        rw [← k1]
        exact List.mem_map.mpr ⟨x, hx, rfl⟩
      obtain ⟨p, hp, e⟩ := List.mem_map.mp m
      rw [← e]
      exact z p hp
end Lw
namespace Lw
open PySem PySem.Spec PyProof.Rows L2
/-! ### {x!r}, x a list whose parts are known -/
def tFmtRL (P : Program) (w : World) (te : TE) : TE := fun σ H Q => te σ H fun x H1 => ∃ (p : Addr) (vs : List V) (ds : List PyData), x = .ref p ∧ H1 p = some (.lst vs) ∧ Paired (Rw P w H1) vs ds ∧
  PyData.showableAll ds = true ∧ (listText (PyData.shownAll ds)).length ≤ sizeLine ∧ PyData.depthAll ds ≤ 40 ∧ Q (.str (listText (PyData.shownAll ds))) H1
theorem pe_fmtRL {X : Cx} {P : Program} {w : World} {e : Expr} {te : TE} {pos : Pos} (gd : X.A.guards = some []) (hu : X.A.units + 64 < cLine) (he : PE X e te) (hP : X.prog = P := by rfl) (hw : X.w = w := by rfl) : PE X (.FormattedValue e 114 none pos) (tFmtRL P w te) := by
  subst hP hw
  refine ⟨fun pins s0 σ H0 Q I0 h => ?_⟩
  refine wpAny_FormattedValue_repr (thn (he.run pins s0 σ H0 _ I0 h) fun v s hv => ?_)
  obtain ⟨x, H, I, rx, p, vs, ds, rfl, e, hp, hs, hz, hd, q⟩ := hv
  cases rx
  obtain ⟨_, its, n, rv, ho⟩ : vs.length ≤ sizeLine ∧ ∃ (its : List Value) (n : Nat), Vals vs its ∧ s.heap.get? p = some { cls := .type "list", data := .seq its.toArray n } := I.hok p _ e
  obtain ⟨as, ra⟩ := rw_all I.hok hp rv
  obtain ⟨bs, hb, hk⟩ := rk_all (P := X.prog) (w := X.w) I.hok hp rv hs fun t ht => Nat.le_trans (listText_mem_le ht) hz
  have hna : p ∉ bs := not_mem_of_deeper (.list ho rfl rfl ra) (by simp only [PyData.depth]; omega) hb
  have ty : s.TypeIs (.ref p) "list" := ⟨_, ho, rfl⟩
  refine wpAny_pyReprObj_slot (by omega) ty PySem.F.slot_list_repr.toG ?_
  have fin : ∀ h' u tk, (∀ b o, s.heap.get? b = some o → h'.get? b = some o) → wpAny (model X.prog X.w) X.A (formatField (.str (listText (PyData.shownAll ds)) u) Str.empty) (EP X pins σ Q) X.xe { s with heap := h', toks := tk } :=
    fun h' u tk k => wpAny_formatField_str ⟨.str (listText (PyData.shownAll ds)), H, I.kept k, ⟨u, rfl⟩, q⟩ ⟨.str (listText (PyData.shownAll ds)), H, I.kept k, ⟨_, rfl⟩, q⟩ hz
  cases its with
  | nil =>
    cases rv
    cases hp
    simp only [PyData.shownAll, listText_nil] at fin
    exact call_list_repr_empty ty ho rfl ⟨_, _, rfl, fin s.heap _ _ fun _ _ z => z⟩
  | cons x l =>
    exact call_list_reprK ho rfl rfl hna (by simpa using hk.length_eq) (fun i y z => hk.item i y (by simpa using z)) gd (fun b _ => Clear.nil b) (by omega) (fun _ _ z => z) (fun h' u tk k => ⟨_, _, rfl, fin h' u tk k⟩) hz
/-! ### repr(o), by an own __repr__ that wants the guards -/
theorem run_in1G {X : Cx} {CX : CXT} {k : Nat} {f : Addr} {fd : FuncData} {ps : List Str} {sp : Sp} {E : XK} {pins : List (Addr × Obj)} {σ : L2.St} {H : Hp} {s : Shared} {us : List Value} {vs : List V} {Q : VK} (F : FnG X.prog X.w X.K X.mg X.base CX k f fd ps sp) (gd : X.A.guards = some []) (hb : Binds X.K fd ps []) (hr : Room k X.A.in1) (hx : Passes CX X E)
    (I : Inv X pins σ H s) (r : Vals vs us) (h : sp vs H Q E) : wpAny (model X.prog X.w) X.A.in1 (call (.ref f) us) (EP X pins σ Q) X.xe s := by
  have hl := F.len _ _ _ _ h
  refine wpAny_call (codeAny_mono (F.go (A := X.A.in1) (outer := X.stack) (s := s) (H := H) (args := ⟨us, []⟩) (us := us) (vs := vs) (E := E) gd hr I.env0.in1 (by
    have z := hb s us I.kIn (by rw [List.append_nil, ← hl]; exact r.length.symm)
    rw [List.append_nil] at z
    exact z) r h) fun r2 s2 hq => ?_)
  cases r2 with
  | error er => exact hx pins σ H s er s2 I hq
  | ok fl =>
    cases fl with
    | ret u => exact I.after hq
    | next => exact hq.elim
    | brk => exact hq.elim
    | cont => exact hq.elim
theorem call_reprOG {X : Cx} {CX : CXT} {k : Nat} {C f : Addr} {fd : FuncData} {ps : List Str} {sp : Sp} {E : XK} (hf : PySem.W.findIn X.K (.ref C) "__repr__" = some (some (.ref f))) (tf : PySem.W.typeIn X.K (.ref f) = some (.type "function")) (F : FnG X.prog X.w X.K X.mg X.base CX k f fd ps sp) (gd : X.A.guards = some []) (hb : Binds X.K fd ps []) (hr : Room k X.A.in1) (hx : Passes CX X E) : CallR X (.builtin "repr") (rReprO C sp E) := by
  intro pins s σ H xs us Q I r h
  obtain ⟨a, dx, fs, rfl, ha, q⟩ := h
  cases r with
  | cons r1 rr =>
    cases rr
    cases r1
    obtain ⟨mA, J, _⟩ := ins_get I.hok ha
    obtain ⟨od, J, _⟩ := J.look
    refine repr_ownW I.kIn J hf tf hr.units0 (wpAny_mono (run_in1G (us := [.ref a]) (vs := [.ref a]) F gd hb hr hx I (.cons rfl .nil) q) (fun v s2 hh => ?_) fun _ _ z => z)
    obtain ⟨x, H2, I2, rx, m, rfl, q2⟩ := hh
    obtain ⟨t, rfl⟩ := (show ∃ t, v = Value.str m t from rx)
    exact ⟨m, t, rfl, .str m, H2, I2, ⟨t, rfl⟩, q2⟩
/-! ### x == o, x of another kind -/
/-- the kinds that may stand left -/
inductive Lft (K : PySem.W.Frag) (H : Hp) : V → Prop
  | non : Lft K H .non
  | bl (b : Bool) : Lft K H (.bl b)
  | int (i : Int) : Lft K H (.int i)
  | str (s : Str) : Lft K H (.str s)
  | lst {l : Addr} {xs : List V} (e : H l = some (.lst xs)) : Lft K H (.ref l)
  | tup {l : Addr} {xs : List V} (e : H l = some (.tup xs)) : Lft K H (.ref l)
  | dK {l : Addr} {kvs : List (L2.Key × V)} (e : H l = some (.dK kvs)) : Lft K H (.ref l)
/-- the class is none of these kinds' -/
structure NoKin (K : PySem.W.Frag) (C : Addr) : Prop where
  sub : ∀ T ∈ ["NoneType", "bool", "int", "str", "list", "tuple", "dict"], PySem.W.subIn K (.ref C) (.type T) = some false
  mro : ∀ T ∈ ["list", "tuple", "dict"], PySem.W.mroIn K C (.type T) = some false
def noKinB (K : PySem.W.Frag) (C : Addr) : Bool := (["NoneType", "bool", "int", "str", "list", "tuple", "dict"].all fun T => decide (PySem.W.subIn K (.ref C) (.type T) = some false)) && (["list", "tuple", "dict"].all fun T => decide (PySem.W.mroIn K C (.type T) = some false))
theorem noKin_ok {K : PySem.W.Frag} {C : Addr} (h : noKinB K C = true) : NoKin K C := by
  obtain ⟨h1, h2⟩ := Bool.and_eq_true_iff.mp h
  exact ⟨fun T m => of_decide_eq_true (List.all_eq_true.mp h1 T m), fun T m => of_decide_eq_true (List.all_eq_true.mp h2 T m)⟩
def rEqRt (K : PySem.W.Frag) (C : Addr) (sp : Sp) (E : XK) : R2 := fun x y H Q => ∃ (a dx : Addr) (fs : List (Str × V)), y = .ref a ∧ H a = some (.ins C dx fs) ∧ Lft K H x ∧ sp [.ref a, x] H (fun v H2 => ∃ b : Bool, v = .bl b ∧ Q (.bl b) H2) E
theorem op_eqRt {X : Cx} {CX : CXT} {k : Nat} {C f : Addr} {fd : FuncData} {ps : List Str} {sp : Sp} {E : XK} (N : NoKin X.K C) (hf : PySem.W.findIn X.K (.ref C) "__eq__" = some (some (.ref f))) (tf : PySem.W.isFn X.K (.ref f) = true) (F : FnOk X.prog X.w X.K X.mg X.base CX k f fd ps sp) (hb : Binds X.K fd ps []) (hr : Room k X.A) (hx : Passes CX X E) :
    OpR X (compareOp .Eq) (rEqRt X.K C sp E) := by
  intro pins s σ H x y v u Q I rx ry h
  obtain ⟨a, dx, fs, rfl, ha, hl, q⟩ := h
  cases ry
  obtain ⟨mA, JM, _⟩ := ins_get I.hok ha
  have ho := JM.obj
  obtain ⟨od, J, _⟩ := JM.look
  have hc : ∀ (v : Value), RelV x v → wpAny (model X.prog X.w) X.A (call (.ref f) [.ref a, v]) (PySem.W.CmpBack (EP X pins σ Q)) X.xe s := fun v rx => wpAny_mono (run_fn (us := [.ref a, v]) (vs := [.ref a, x]) (dvs := []) (ds := []) F hr hb .nil hx I (.cons rfl (.cons rx .nil)) q) (fun w2 s2 hh => by
    obtain ⟨z, H2, I2, rz, b, rfl, q2⟩ := hh
    obtain rfl : w2 = Value.bool b := rz
    exact ⟨.bl b, H2, I2, rfl, q2⟩) fun _ _ z => z
  have lk : ∀ T ∈ ["list", "tuple", "dict"], PySem.W.Looks (model X.prog X.w) s.heap (isInstance (.ref a) (.type T)) false := fun T m => J.type.andThen (PySem.W.looks_mroIn I.kIn (N.mro T m))
  have nl := N.sub
  cases hl with
  | non =>
    have rx2 := rx
    obtain rfl : v = Value.none := rx
    exact eqRight I.kIn J (T := "NoneType") (id := "NoneType.__eq__") rfl PySem.F.slot_NoneType_eq (fun R r => declines_none r) (nl _ (by decide)) hf tf hr.units0 (hc _ rx2)
  | bl b =>
    have rx2 := rx
    obtain rfl : v = Value.bool b := rx
    exact eqRight I.kIn J (T := "bool") (show s.TypeIs (.bool b) "bool" from rfl) PySem.F.slot_bool_eq (fun R r => declines_bool b ho r) (nl _ (by decide)) hf tf hr.units0 (hc _ rx2)
  | int i =>
    obtain ⟨t, rfl⟩ := (show ∃ t, v = Value.int i t from rx)
    exact eqRight I.kIn J (T := "int") (typeIs_int s i t) PySem.F.slot_int_eq (fun R r => declines_int i t ho r) (nl _ (by decide)) hf tf hr.units0 (hc _ rx)
  | str z =>
    obtain ⟨t, rfl⟩ := (show ∃ t, v = Value.str z t from rx)
    exact eqRight I.kIn J (T := "str") (typeIs_str s z t) PySem.F.slot_str_eq (fun R r => declines_str z t ho r) (nl _ (by decide)) hf tf hr.units0 (hc _ rx)
  | @lst l xs e =>
    have rx2 := rx
    cases rx
    obtain ⟨_, its, n, rv, hl⟩ : xs.length ≤ sizeLine ∧ ∃ (its : List Value) (n : Nat), Vals xs its ∧ s.heap.get? l = some { cls := .type "list", data := .seq its.toArray n } := I.hok l _ e
    exact eqRight I.kIn J (T := "list") ⟨_, hl, rfl⟩ PySem.F.slot_list_eq (fun R r => declines_list hl (lk _ (by decide)) r) (nl _ (by decide)) hf tf hr.units0 (hc _ rx2)
  | @tup l xs e =>
    have rx2 := rx
    cases rx
    obtain ⟨_, its, rv, ⟨c, d0, dt, sl⟩, h1, h2, n, h3⟩ : xs.length ≤ sizeLine ∧ ∃ its : List Value, Vals xs its ∧ IsTup s.heap l its.toArray := I.hok l _ e
    obtain rfl : c = .type "tuple" := h2
    obtain rfl : dt = .seq its.toArray n := h3
    exact eqRight I.kIn J (T := "tuple") ⟨_, h1, rfl⟩ PySem.F.slot_tuple_eq (fun R r => declines_tuple h1 (lk _ (by decide)) r) (nl _ (by decide)) hf tf hr.units0 (hc _ rx2)
  | @dK l kvs e =>
    have rx2 := rx
    cases rx
    obtain ⟨z, hd, vs, rel, dd⟩ := dk_of I.hok e
    exact eqRight I.kIn J (T := "dict") dd.typeIs PySem.F.slot_dict_eq (fun R r => declines_dict dd.typeIs (lk _ (by decide)) r) (nl _ (by decide)) hf tf hr.units0 (hc _ rx2)
end Lw
namespace Tk
open PySem PySem.Spec PyProof.Rows L2 Lw Evl LamX TL
open Rm (R Ok Z0 Zp Fr fr_none fr_ne nt_lst nt_tup nt_dK NT Zn)
/-! ### the rows of a front -/
/-- the words, closed under their beginnings, in order -/
def clW (ws : List (List Str)) : List (List Str) := srtW ([] :: ws.flatMap begs)
theorem mem_begs {w u : List Str} : u ∈ begs w ↔ ∃ k, k ≤ w.length ∧ u = w.take k := by
  unfold begs
  rw [List.mem_map]
  constructor
  · rintro ⟨k, hk, rfl⟩
    exact ⟨k, by have := List.mem_range.mp hk; omega, rfl⟩
  · rintro ⟨k, hk, rfl⟩
    exact ⟨k, List.mem_range.mpr (by omega), rfl⟩
theorem mem_clW {ws : List (List Str)} {u : List Str} : u ∈ clW ws ↔ u = [] ∨ ∃ w ∈ ws, u ∈ begs w := by
  unfold clW
  rw [srtW_mem, List.mem_cons, List.mem_flatMap]
theorem nil_begs (w : List Str) : [] ∈ begs w := mem_begs.mpr ⟨0, Nat.zero_le _, rfl⟩
theorem self_begs (w : List Str) : w ∈ begs w := mem_begs.mpr ⟨w.length, Nat.le_refl _, List.take_length.symm⟩
theorem begs_begs {w u v : List Str} (h : u ∈ begs w) (k : v ∈ begs u) : v ∈ begs w := by
  obtain ⟨i, hi, rfl⟩ := mem_begs.mp h
  obtain ⟨j, hj, rfl⟩ := mem_begs.mp k
  rw [List.length_take] at hj
  exact mem_begs.mpr ⟨j, by omega, by rw [List.take_take, Nat.min_eq_left (by omega)]⟩
section
variable {ws us : List (List Str)} {w u : List Str}
theorem nil_clW : [] ∈ clW ws := mem_clW.mpr (.inl rfl)
theorem sub_clW (h : w ∈ ws) : w ∈ clW ws := mem_clW.mpr (.inr ⟨w, h, self_begs w⟩)
theorem begs_clW (h : w ∈ clW ws) (k : u ∈ begs w) : u ∈ clW ws := by
  rcases mem_clW.mp h with rfl | ⟨v, hv, hw⟩
  · obtain ⟨j, hj, rfl⟩ := mem_begs.mp k
    rw [List.take_nil]
    exact nil_clW
  · exact mem_clW.mpr (.inr ⟨v, hv, begs_begs hw k⟩)
theorem clW_isW (h : ∀ w ∈ ws, isW w = true) : ∀ w ∈ clW ws, isW w = true := fun w hw => by
  rcases mem_clW.mp hw with rfl | ⟨v, hv, hw⟩
  · rfl
  · exact begs_isW (h v hv) w hw
theorem clW_sd : Sd (clW ws) := srtW_sd _
theorem clW_nodup : (clW ws).Nodup := srtW_nodup _
theorem clW_same (h : ∀ u, u ∈ clW ws ↔ u ∈ clW us) : clW ws = clW us := sd_uniq clW_sd clW_sd h
theorem clW_of (h1 : ∀ w ∈ us, w ∈ clW ws) (h2 : ∀ w ∈ ws, w ∈ clW us) : clW us = clW ws := clW_same fun u => by
  rw [mem_clW, mem_clW]
  constructor
  · rintro (e | ⟨w, hw, hu⟩)
    · exact .inl e
    · exact mem_clW.mp (begs_clW (h1 w hw) hu)
  · rintro (e | ⟨w, hw, hu⟩)
    · exact .inl e
    · exact mem_clW.mp (begs_clW (h2 w hw) hu)
theorem clW_clW : clW (clW ws) = clW ws := clW_of (fun _ h => h) fun _ h => sub_clW (sub_clW h)
theorem clW_back : clW ((clW ws).reverse ++ ws) = clW ws := clW_of (fun w h => by
  rcases List.mem_append.mp h with h | h
  · exact List.mem_reverse.mp h
  · exact sub_clW h) fun w h => sub_clW (List.mem_append_right _ h)
theorem clW_more : clW (clW ws ++ [w]) = clW ws ↔ w ∈ clW ws := by
  constructor
  · intro e
    have z : w ∈ clW (clW ws ++ [w]) := sub_clW (List.mem_append_right _ (List.mem_singleton.mpr rfl))
    rw [e] at z
    exact z
  · intro h
    exact clW_of (fun u hu => by
      rcases List.mem_append.mp hu with hu | hu
      · exact hu
      · rw [List.mem_singleton.mp hu]
        exact h) fun u hu => sub_clW (List.mem_append_left _ (sub_clW hu))
theorem clW_srt : clW (srtW ws) = clW ws := clW_of (fun w h => sub_clW (srtW_mem.mp h)) fun w h => sub_clW (srtW_mem.mpr h)
theorem flat_len (h : ∀ w ∈ ws, w.length ≤ 3) : (ws.flatMap begs).length ≤ 4 * ws.length := by
  induction ws with
  | nil => exact Nat.le_refl _
  | cons w ws ih =>
    have h1 := ih fun x hx => h x (List.mem_cons_of_mem _ hx)
    have h2 := h w (List.mem_cons_self ..)
    rw [List.flatMap_cons, List.length_append, begs_len, List.length_cons]
    omega
theorem isW_3 (h : ∀ w ∈ ws, isW w = true) : ∀ w ∈ ws, w.length ≤ 3 := fun w hw => (isW_iff.mp (h w hw)).1
/-- tighter: each word has at most three beginnings but the empty one -/
theorem clW_len (h : ∀ w ∈ ws, w.length ≤ 3) : (clW ws).length ≤ 1 + 3 * ws.length := by
  have key : ∀ ws : List (List Str), (∀ w ∈ ws, w.length ≤ 3) → ∃ ps : List (List Str), ps.length ≤ 3 * ws.length ∧ ∀ w ∈ ws, ∀ u ∈ begs w, u = [] ∨ u ∈ ps := fun ws => by
    induction ws with
    | nil => exact fun _ => ⟨[], Nat.le_refl _, fun _ z => absurd z List.not_mem_nil⟩
    | cons w ws ih =>
      intro h
      obtain ⟨ps, h1, h2⟩ := ih fun x hx => h x (List.mem_cons_of_mem _ hx)
      have h3 := h w (List.mem_cons_self ..)
      refine ⟨[w.take 1, w.take 2, w.take 3] ++ ps, by rw [List.length_append, List.length_cons (a := w)]; show 3 + _ ≤ _; omega, fun x hx u hu => ?_⟩
      rcases List.mem_cons.mp hx with rfl | hx
      · obtain ⟨k, hk, rfl⟩ := mem_begs.mp hu
        rcases (by omega : k = 0 ∨ k = 1 ∨ k = 2 ∨ k = 3) with rfl | rfl | rfl | rfl
        · exact .inl rfl
        all_goals exact .inr (List.mem_append_left _ (by simp))
      · exact (h2 x hx u hu).imp id fun z => List.mem_append_right _ z
  obtain ⟨ps, h1, h2⟩ := key ws h
  have z : (clW ws).length ≤ ([] :: ps).length := nodup_le clW_nodup fun u hu => by
    rcases mem_clW.mp hu with rfl | ⟨w, hw, hu⟩
    · exact List.mem_cons_self ..
    · rcases h2 w hw u hu with rfl | m
      · exact List.mem_cons_self ..
      · exact List.mem_cons_of_mem _ m
  rw [List.length_cons] at z
  omega
/-- the empty word stands first -/
theorem clW_head : ∃ rs, clW ws = [] :: rs ∧ (∀ u ∈ rs, u ≠ []) ∧ clW ws = [] :: (clW ws).filter fun u => !u.isEmpty := by
  have sd := clW_sd (ws := ws)
  have m := nil_clW (ws := ws)
  generalize clW ws = zs at sd m
  cases zs with
  | nil => cases m
  | cons z zs =>
    unfold Sd at sd
    obtain ⟨h1, h2⟩ := List.pairwise_cons.mp sd
    have z0 : z = [] := by
      rcases List.mem_cons.mp m with e | e
      · exact e.symm
      · have a := ahead_le (h1 _ e)
        exact List.length_eq_zero_iff.mp (by
          have : z.length ≤ 0 := a
          omega)
    subst z0
    have ne : ∀ u ∈ zs, u ≠ [] := fun u hu e => by
      have a := h1 u hu
      rw [e, ahead_irr] at a
      cases a
    refine ⟨zs, rfl, ne, ?_⟩
    rw [List.filter_cons]
    have e : zs.filter (fun u => !u.isEmpty) = zs := List.filter_eq_self.mpr fun u hu => by
      cases u with
      | nil => exact absurd rfl (ne _ hu)
      | cons _ _ => rfl
    rw [e]
    rfl
end
/-! ### the law's own rows -/
def spAhead (K : PySem.W.Frag) : Sp := fun vs H Q _ => ∃ (v u : V) (xs ys : List Str), vs = [v, u] ∧ Wd K H v xs ∧ Wd K H u ys ∧ xs.length ≤ 100000 ∧ ∀ H', Ex H H' → Q (.bl (aheadW xs ys)) H'
def spSorted (K : PySem.W.Frag) : Sp := fun vs H Q _ => ∃ (l : Addr) (ws : List (List Str)), vs = [.ref l] ∧ LW K H l ws ∧ (∀ x ∈ ws, isW x = true) ∧ ws.length ≤ 1000 ∧ ∀ r H', H r = none → Ex H H' → LW K H' r (srtW ws) → Q (.ref r) H'
def spClosed (K : PySem.W.Frag) : Sp := fun vs H Q _ => ∃ (l : Addr) (ws : List (List Str)), vs = [.ref l] ∧ LW K H l ws ∧ (∀ x ∈ ws, isW x = true) ∧ ws.length ≤ 300 ∧ ∀ r H', H r = none → Ex H H' → LW K H' r (clW ws) → Q (.ref r) H'
def spNeedG (K : PySem.W.Frag) : Sp := fun vs H Q _ => ∃ (v : V) (ys : List Str), vs = [v] ∧ Wd K H v ys ∧ isW ys = true ∧ ∀ H', Ex H H' → Q .non H'
def spBeginG (K : PySem.W.Frag) : Sp := fun vs H Q _ => ∃ (v : V) (ys : List Str), vs = [v] ∧ Wd K H v ys ∧ isW ys = true ∧ ∀ l H', H l = none → Ex H H' → LW K H' l (begs ys) → Q (.ref l) H'
section
variable {K : PySem.W.Frag} {σ : L2.St} {H : Hp} {ta tb : TE} {w : List Str} {ws : List (List Str)} {l : Addr}
theorem ev_niEW (ha : EvW K ta σ H w) (hb : Ev tb σ H (.ref l)) (hl : LW K H l ws) (hw : isW w = true) (hws : ∀ u ∈ ws, isW u = true) : Ev (tOp (rNotInD K) ta tb) σ H (.bl (!decide (w ∈ ws))) := fun H1 e Q q =>
  ha H1 e _ fun v H2 e2 hv => hb H2 (e.trans e2) _ fun H3 e3 => by
    obtain ⟨us, h1, h2⟩ := lw_mono ((e.trans e2).trans e3) hl
    refine ⟨wD w, ws.map wD, dp_word (wd_mono e3 hv), .lst (SqL.of h1) (dpa_words h2), shaped_wD hw, shaped_wDs hws, ?_⟩
    rw [any_wD]
    exact q H3 (e2.trans e3)
end
end Tk
namespace Tk
open PySem PySem.Spec PyProof.Rows L2 Lw Evl LamX TL
open Rm (R Ok Z0 Zp Fr fr_none fr_ne nt_lst nt_tup nt_dK NT Zn)
/-! ### lists of told lists, compared -/
section
variable {K : PySem.W.Frag} {Z : Zn} {σ : L2.St} {H H0 H1 : Hp} {te ta tb : TE} {tri : List V} {ds : List PyData} {l : Addr} {n j : Nat}
theorem dpa_rep {d : PyData} : ∀ {rs : List V}, (∀ r ∈ rs, Dp K H r d) → DpAll K H rs (List.replicate rs.length d)
  | [], _ => .nil
  | r :: rs, h => .cons (h r (List.mem_cons_self ..)) (dpa_rep fun x hx => h x (List.mem_cons_of_mem _ hx))
theorem dp_cs (h : Cs H0 H l n tri) (hd : DpAll K H tri ds) : Dp K H (.ref l) (.list (List.replicate n (.list ds))) := by
  obtain ⟨_, rs, h1, h2, h3⟩ := h
  rw [← h2]
  exact .lst (SqL.of h1) (dpa_rep fun r hr => by
    obtain ⟨a, rfl, _, _, e⟩ := h3 r hr
    exact .lst (SqL.of e) hd)
/-- [..] * n -/
theorem dp_repN {a r : Addr} (h : H a = some (.lst tri)) (hr : H r = some (.lst (List.replicate n (.ref a)))) (hd : DpAll K H tri ds) : Dp K H (.ref r) (.list (List.replicate n (.list ds))) := by
  have z : DpAll K H (List.replicate n (V.ref a)) (List.replicate (List.replicate n (V.ref a)).length (PyData.list ds)) := dpa_rep fun x hx => by
    rw [List.eq_of_mem_replicate hx]
    exact .lst (SqL.of h) hd
  rw [List.length_replicate] at z
  exact .lst (SqL.of hr) z
theorem flat_rep (n : Nat) (v : V) : (List.replicate n [v]).flatten = List.replicate n v := by
  induction n with
  | zero => rfl
  | succ n ih => rw [List.replicate_succ, List.flatten_cons, ih, List.replicate_succ]; rfl
/-- what is told is what is due -/
theorem cs_due {m : Int} (hm : m.toNat = n) (h0 : 0 ≤ m ∧ m ≤ 100) (h : ∀ H1, R Z H H1 → Cs H0 H1 l n tri) (hj : σ[j]? = some (some (.ref l))) (ht : El Z te σ H tri) (hd : ∀ H, DpAll K H tri ds) (sh : SeqAt.shaped (.list (List.replicate n (.list ds))) = true) {Q : V → V → Hp → Prop} {H1 : Hp} (r : R Z H H1)
    (q : ∀ a b H2, R Z H1 H2 → Dp K H2 (.ref a) (.list (List.replicate n (.list ds))) → Dp K H2 (.ref b) (.list (List.replicate n (.list ds))) → Q (.ref a) (.ref b) H2) : tVar j σ H1 fun x H2 => tOp rRep (tLst (tCons te tNil)) (tC (.int m)) σ H2 fun y H3 => Q x y H3 := by
  refine ⟨_, hj, ht H1 r _ fun a H2 fa r2 ha => ⟨(by show 1 ≤ sizeLine; decide), fun b hb => ⟨b, m, [.ref a], rfl, rfl, upd_same, by omega, by omega, sz_of (by show 1 * m.toNat ≤ _; omega), fun c hc => ?_⟩⟩⟩
  rw [hm, flat_rep]
  have ab : a ≠ b := ne_of_none ha hb
  have r3 := (r2.new (o := .lst [.ref a]) hb).new (o := .lst (List.replicate n (V.ref a))) hc
  have ha3 : (upd (upd H2 b (.lst [.ref a])) c (.lst (List.replicate n (V.ref a)))) a = some (.lst tri) := by
    rw [upd_ne (ne_of_none (by rw [upd_ne ab]; exact ha) hc), upd_ne ab]
    exact ha
  exact q l c _ r3 (dp_cs (h _ (r.trans r3)) (hd _)) (dp_repN ha3 upd_same (hd _))
theorem et_neCs {m : Int} (hm : m.toNat = n) (h0 : 0 ≤ m ∧ m ≤ 100) (h : ∀ H1, R Z H H1 → Cs H0 H1 l n tri) (hj : σ[j]? = some (some (.ref l))) (ht : El Z te σ H tri) (hd : ∀ H, DpAll K H tri ds) (sh : SeqAt.shaped (.list (List.replicate n (.list ds))) = true) : Rm.Et Z (tTest (tOp (rNeD K) (tVar j) (tOp rRep (tLst (tCons te tNil)) (tC (.int m))))) σ H false := fun H1 r Q q =>
  cs_due (K := K) (Q := fun x y H2 => rNeD K x y H2 fun z H3 => ∃ b, z = .bl b ∧ Q b H3) hm h0 h hj ht hd sh r fun a b H2 r2 d1 d2 => ⟨_, _, d1, d2, sh, sh, false, by rw [SeqAt.eqv_refl _ (SeqAt.canLay_of_shaped sh)]; rfl, q H2 r2⟩
theorem ew_eqCs {m : Int} (hm : m.toNat = n) (h0 : 0 ≤ m ∧ m ≤ 100) (h : ∀ H1, R Z H H1 → Cs H0 H1 l n tri) (hj : σ[j]? = some (some (.ref l))) (ht : El Z te σ H tri) (hd : ∀ H, DpAll K H tri ds) (sh : SeqAt.shaped (.list (List.replicate n (.list ds))) = true) : Rm.Ew Z (tOp (rEqD K) (tVar j) (tOp rRep (tLst (tCons te tNil)) (tC (.int m)))) σ H (.bl true) := fun H1 r Q q =>
  cs_due (K := K) (Q := fun x y H2 => rEqD K x y H2 Q) hm h0 h hj ht hd sh r fun a b H2 r2 d1 d2 => ⟨_, _, d1, d2, sh, sh, by rw [SeqAt.eqv_refl _ (SeqAt.canLay_of_shaped sh)]; exact q H2 r2⟩
end
/-- no error is wanted -/
theorem passE0 {X : Cx} : Passes (L2.CX X.prog X.w) X E0 := fun _ _ _ _ _ _ _ h => by
  obtain ⟨_, _, _, _, _, _, _, _, _, _, _, _, z⟩ := h
  exact z.elim
end Tk
namespace Lw
open PySem PySem.Spec PyProof.Rows L2 Evl
/-- o == y by the class's own method -/
def EqO (P : Program) (w : World) (K : PySem.W.Frag) (mg : Str → Option Value) (base : Heap) (k : Nat) (C : Addr) (sp : Sp) : Prop :=
  ∃ f fd, PySem.W.findIn K (.ref C) "__eq__" = some (some (.ref f)) ∧ PySem.W.isFn K (.ref f) = true ∧ Binds K fd ["self", "other"] [] ∧ FnOk P w K mg base CX0 k f fd ["self", "other"] sp
theorem op_eqOK {X : Cx} {k : Nat} {C : Addr} {sp : Sp} {K : PySem.W.Frag} (q : EqO X.prog X.w X.K X.mg X.base k C sp) {j : Nat} (hr : Room j X.A) (hj : k ≤ j := by decide) (h : X.K = K := by rfl) : OpR X (compareOp .Eq) (rEqO K C sp E0) := by
  subst h
  obtain ⟨f, fd, h1, h2, hb, F⟩ := q
  exact op_eqO h1 h2 F hb (hr.mono hj) pass0
end Lw
namespace Lw
open PySem PySem.Spec PyProof.Rows L2 Evl
/-! ### a class whose one parameter has the empty tuple as its default -/
def MkD (P : Program) (w : World) (K : PySem.W.Frag) (mg : Str → Option Value) (base : Heap) (CX : CXT) (k : Nat) (x : Str) (C : Addr) (p : Str) (d : Addr) (sp : Sp) : Prop :=
  ∃ f fd, mg x = some (.ref C) ∧ Mk K C f ∧ Binds K fd ["self", p] [] ∧ Binds K fd ["self", p] [.ref d] ∧ KBn K fd ["self", p] 1 [p] (fun us ws => us ++ ws) (fun vs zs => vs ++ zs) ∧ FnOk P w K mg base CX k f fd ["self", p] sp
section
variable {X : Cx} {CX : CXT} {k : Nat} {C d : Addr} {x m q : Str} {sp : Sp} {p pos apos : Pos} {o e : Expr} {es : List Expr} {kws : List Keyword} {ta : TE} {t tk : TA} {E : XK} {pl : Sem Bool}
theorem pe_mkD (M : MkD X.prog X.w X.K X.mg X.base CX k x C q d sp) {j : Nat} (hr : Room j X.A) (hx : Passes CX X E) (ha : PA X (e :: es) t) (hj : k + 1 ≤ j := by decide) (hg : Gl X x := by rfl) (hdb : (x == ("__debug__" : Str)) = false := by decide)
    (he : starEach (e :: es) X.env = (false, eval e X.env) :: starEach es X.env := by rfl) (hpl : (backTo pos (starEach es X.env)).any (·.1) = false := by rfl) : PE X (.Call (.Name x p) (e :: es) [] pos) (tMake C sp [] E t) := by
  obtain ⟨f, fd, hm, mk, hb, _, _, F⟩ := M
  exact pe_make mk F (hr.mono hj) hg hm hb .nil hx ha hdb he hpl
theorem pe_mkD0 (M : MkD X.prog X.w X.K X.mg X.base CX k x C q d sp) {j : Nat} (hr : Room j X.A) (hx : Passes CX X E) (hj : k + 1 ≤ j := by decide) (hg : Gl X x := by rfl) (hdb : (x == ("__debug__" : Str)) = false := by decide) : PE X (.Call (.Name x p) [] [] pos) (tMake C sp [.ref d] E tNil) := by
  obtain ⟨f, fd, hm, mk, _, hb, _, F⟩ := M
  exact pe_make0 mk F (hr.mono hj) hg hm hb (.cons rfl .nil) hx hdb
theorem pe_mkDK (M : MkD X.prog X.w X.K X.mg X.base CX k x C q d sp) {j : Nat} (hr : Room j X.A) (hx : Passes CX X E) (hkw : PK X kws tk) (hj : k + 1 ≤ j := by decide) (hg : Gl X x := by rfl) (hdb : (x == ("__debug__" : Str)) = false := by decide)
    (hall : (backToKw pos (keywordEach kws X.env)).all (·.1.isSome) = true := by rfl) (hks : (backToKw pos (keywordEach kws X.env)).filterMap (·.1) = [q] := by rfl)
    (hpl : ((backTo pos (starEach [] X.env)).any (·.1) || (backToKw pos (keywordEach kws X.env)).any (·.1.isNone)) = false := by rfl) :
    PE X (.Call (.Name x p) [] kws pos) (tMakeK C 0 1 sp (fun vs zs => vs ++ zs) E tNil tk) := by
  obtain ⟨f, fd, hm, mk, _, _, hb, F⟩ := M
  exact pe_makeK0 (ks := [q]) (g := fun us ws => us ++ ws) mk F (hr.mono hj) hg hm hb hx hkw hall hks hdb hpl
end
/-! ### own special methods that let no error out -/
def SpO (P : Program) (w : World) (K : PySem.W.Frag) (mg : Str → Option Value) (base : Heap) (k : Nat) (C : Addr) (n : Str) (ps : List Str) (sp : Sp) : Prop :=
  ∃ f fd, PySem.W.findIn K (.ref C) n = some (some (.ref f)) ∧ PySem.W.typeIn K (.ref f) = some (.type "function") ∧ Binds K fd ps [] ∧ FnOk P w K mg base CX0 k f fd ps sp
def SpG (P : Program) (w : World) (K : PySem.W.Frag) (mg : Str → Option Value) (base : Heap) (k : Nat) (C : Addr) (n : Str) (ps : List Str) (sp : Sp) : Prop :=
  ∃ f fd, PySem.W.findIn K (.ref C) n = some (some (.ref f)) ∧ PySem.W.typeIn K (.ref f) = some (.type "function") ∧ Binds K fd ps [] ∧ FnG P w K mg base CX0 k f fd ps sp
/-- o != .. is the default one -/
structure NeO (K : PySem.W.Frag) (C : Addr) : Prop where
  ne : PySem.W.findIn K (.ref C) "__ne__" = some (some (.builtin "object.__ne__"))
  mo : PySem.W.mroIn K C (.type "object") = some true
section
variable {X : Cx} {K : PySem.W.Frag} {k j : Nat} {C : Addr} {sp : Sp} {ps : List Str}
theorem isFn_of {f : Addr} (h : PySem.W.typeIn K (.ref f) = some (.type "function")) : PySem.W.isFn K (.ref f) = true := by
  unfold PySem.W.isFn
  rw [h]
  rfl
theorem call_lenSp (q : SpO X.prog X.w X.K X.mg X.base k C "__len__" ps sp) (hr : Room j X.A) (hj : k + 1 ≤ j := by decide) : CallR X (.builtin "len") (rLenO C sp E0) := by
  obtain ⟨f, fd, h1, h2, hb, F⟩ := q
  exact call_lenO h1 h2 F hb (hr.mono hj).in1 pass0
theorem op_inSp (q : SpO X.prog X.w X.K X.mg X.base k C "__contains__" ps sp) (hr : Room j X.A) (hj : k ≤ j := by decide) : OpR X (compareOp .In) (rInO C sp E0) := by
  obtain ⟨f, fd, h1, h2, hb, F⟩ := q
  exact op_inO h1 h2 F hb (hr.mono hj) pass0
theorem op_eqSp (q : SpO X.prog X.w X.K X.mg X.base k C "__eq__" ps sp) (hr : Room j X.A) (hj : k ≤ j := by decide) (h : X.K = K := by rfl) : OpR X (compareOp .Eq) (rEqO K C sp E0) := by
  subst h
  obtain ⟨f, fd, h1, h2, hb, F⟩ := q
  exact op_eqO h1 (isFn_of h2) F hb (hr.mono hj) pass0
theorem op_eqRtSp (q : SpO X.prog X.w X.K X.mg X.base k C "__eq__" ps sp) (N : NoKin X.K C) (hr : Room j X.A) (hj : k ≤ j := by decide) (h : X.K = K := by rfl) : OpR X (compareOp .Eq) (rEqRt K C sp E0) := by
  subst h
  obtain ⟨f, fd, h1, h2, hb, F⟩ := q
  exact op_eqRt N h1 (isFn_of h2) F hb (hr.mono hj) pass0
theorem op_neSp (q : SpO X.prog X.w X.K X.mg X.base k C "__eq__" ps sp) (N : NeO X.K C) (hr : Room j X.A) (hj : k + 1 ≤ j := by decide) (h : X.K = K := by rfl) : OpR X (compareOp .NotEq) (rNeO K C sp E0) := by
  subst h
  obtain ⟨f, fd, h1, h2, hb, F⟩ := q
  exact op_neO h1 h2 N.ne N.mo F hb (hr.mono hj) pass0
theorem call_reprSp (q : SpG X.prog X.w X.K X.mg X.base k C "__repr__" ps sp) (gd : X.A.guards = some []) (hr : Room j X.A) (hj : k + 1 ≤ j := by decide) : CallR X (.builtin "repr") (rReprO C sp E0) := by
  obtain ⟨f, fd, h1, h2, hb, F⟩ := q
  exact call_reprOG h1 h2 F gd hb (hr.mono hj).in1 pass0
/-- o.f, a property -/
def PrO (P : Program) (w : World) (K : PySem.W.Frag) (mg : Str → Option Value) (base : Heap) (k : Nat) (C : Addr) (n : Str) (sp : Sp) : Prop :=
  Cls K C ∧ ∃ p g fd, PropOf K C n p g ∧ Binds K fd ["self"] [] ∧ FnOk P w K mg base CX0 k g fd ["self"] sp
theorem pe_propO {n : Str} {e : Expr} {pos : Pos} {ta : TE} (q : PrO X.prog X.w X.K X.mg X.base k C n sp) (he : PE X e ta) (hr : Room j X.A) (hj : k + 1 ≤ j := by decide) (hab : attributeBase e n X.env (eval e X.env) = eval e X.env := by rfl) : PE X (.Attribute e n pos) (tProp C sp [] E0 ta) := by
  obtain ⟨c, p, g, fd, hp, hb, F⟩ := q
  exact pe_prop he c hp F (hr.mono hj) hb .nil pass0 hab
theorem cr_maxK (hc : X.calm = true) (h : X.K = K := by rfl) : CallR X (.builtin "max") (rMax K) := h ▸ cr_max hc
theorem cr_sortedSK (h : X.K = K := by rfl) : CallR X (.builtin "sorted") (rSortedS K) := h ▸ cr_sortedS
end
/-! ### walks -/
/-- a walk, as the comprehensions want it -/
theorem w_it {J : It} {n : Nat} {G : Hp → Prop} {Y : Nat → Hp → V → Hp → Prop} (wk : Walk J n G Y) {B : V → Hp → (Hp → Prop) → Prop} {H1 : Hp} {Qd : Hp → Prop} (Pv : Nat → Hp → Prop) (h0 : Pv 0 H1) (hG : ∀ i H, i ≤ n → Pv i H → G H)
    (hs : ∀ i x H H2, i < n → Pv i H → Y i H x H2 → B x H2 (Pv (i + 1))) (hd : ∀ H, Pv n H → Qd H) :
    ∃ W : Nat → Nat → Hp → Prop, (∃ m, W 0 m H1) ∧ ∀ i m H, W i m H → (J.stop i H ∧ Qd H) ∨ (J.go i H ∧ ∃ N : Hp → Prop, (∀ H2, N H2 → ∃ l, l < m ∧ W (i + 1) l H2) ∧ ∀ x H2, J.yld i H x H2 → B x H2 N) := by
  refine ⟨fun i m H => i + m = n ∧ Pv i H, ⟨n, Nat.zero_add n, h0⟩, ?_⟩
  rintro i m H ⟨e, p⟩
  have le : i ≤ n := by omega
  rcases Nat.lt_or_eq_of_le le with lt | rfl
  · exact .inr ⟨wk.goes i H lt (hG i H le p), Pv (i + 1), fun H2 q => ⟨m - 1, by omega, by omega, q⟩, fun x H2 y => hs i x H H2 lt p (wk.yields i H x H2 lt (hG i H le p) y)⟩
  · exact .inl ⟨wk.stops H (hG i H le p), hd H p⟩
end Lw
namespace Tk
open PySem PySem.Spec PyProof.Rows L2 Lw Evl LamX TL
open Rm (R Ok Z0 Zp Fr fr_none fr_ne nt_lst nt_tup nt_dK NT Zn)
/-! ### a front as it stands -/
def FrAt (K : PySem.W.Frag) (CF : Addr) (H : Hp) (a : Addr) (ws : List (List Str)) : Prop := ∃ dx d, H a = some (.ins CF dx [("_words", .ref d)]) ∧ H d = some (.dT (dk ws))
/-- what its words may be told by -/
def GoodLot (K : PySem.W.Frag) (H : Hp) (v : V) (ws : List (List Str)) : Prop := (∃ l us, v = .ref l ∧ Sq H l us ∧ Paired (Wd K H) us ws ∧ (∀ w ∈ ws, isW w = true) ∧ ws.length ≤ 249) ∨ ∃ l, v = .ref l ∧ SqT K H l [] ∧ ws = []
def BadLot (K : PySem.W.Frag) (H : Hp) (v p : V) : Prop := (NoSeq K H v ∧ p = .non) ∨ ∃ (l : Addr) (us : List V) (m : Nat) (rest : List Bool), v = .ref l ∧ Sq H l us ∧ us.length ≤ 1000 ∧ Paired (WB K H) us (List.replicate m true ++ false :: rest) ∧ p = .int (m : Int)
/-- in_order of any value, or of the empty tuple that stands in the program -/
def spOrderF (K : PySem.W.Frag) (T : List (Addr × Str)) (CS : Addr) : Sp := fun vs H Q E => spOrder K T CS vs H Q E ∨ ∃ l : Addr, vs = [.ref l] ∧ SqT K H l [] ∧ Tabs T H ∧ ∀ r H', Fr H r → R (Z0 T) H H' → LW K H' r [] → Q (.ref r) H'
/-- Front(words) -/
def spFrI (K : PySem.W.Frag) (T : List (Addr × Str)) (CS CF : Addr) : Sp := fun vs H Q E => ∃ (a dx : Addr) (v : V) (H0 : Hp), vs = [.ref a, v] ∧ H = upd (upd H0 dx (.own a)) a (.ins CF dx []) ∧ H0 a = none ∧ H0 dx = none ∧ dx ≠ a ∧ Tabs T H0 ∧
  ((∃ p, BadLot K H0 v p ∧ Rz CS "position" p H0 E) ∨ ∃ ws, GoodLot K H0 v ws ∧ ∀ H', R (Z0 T) H0 H' → FrAt K CF H' a (clW ws) → Q .non H')
def singles (ws : List (List Str)) : List Str := (ws.filter fun w => decide (w.length = 1)).map fun w => w.headD ""
def frText (ws : List (List Str)) : Str := "Front(" ++ listText (PyData.shownAll ((ws.filter fun w => !w.isEmpty).map wD)) ++ ")"
def spFrWords (K : PySem.W.Frag) (CF : Addr) : Sp := fun vs H Q _ => ∃ a ws, vs = [.ref a] ∧ FrAt K CF H a ws ∧ ∀ l H', H l = none → Ex H H' → LW K H' l ws → Q (.ref l) H'
def spFrLet (K : PySem.W.Frag) (CF : Addr) : Sp := fun vs H Q _ => ∃ a ws, vs = [.ref a] ∧ FrAt K CF H a ws ∧ Sd ws ∧ ws.length ≤ 1000 ∧ (singles ws).length < 64 ∧ ∀ l H', H l = none → Ex H H' → H' l = some (.lst ((singles ws).map V.str)) → Q (.ref l) H'
def spFrLong (K : PySem.W.Frag) (CF : Addr) : Sp := fun vs H Q _ => ∃ a ws, vs = [.ref a] ∧ FrAt K CF H a ws ∧ ws ≠ [] ∧ ws.length ≤ 1000 ∧ ∀ (m : Int) H', Ex H H' → (∃ w ∈ ws, m = (w.length : Int)) → (∀ w ∈ ws, (w.length : Int) ≤ m) → Q (.int m) H'
def spFrIn (K : PySem.W.Frag) (CF : Addr) : Sp := fun vs H Q _ => ∃ a v ws, vs = [.ref a, v] ∧ FrAt K CF H a ws ∧ ((WB K H v false ∧ ∀ H', Ex H H' → Q (.bl false) H') ∨ ∃ w, Wd K H v w ∧ isW w = true ∧ ∀ H', Ex H H' → Q (.bl (decide (w ∈ ws))) H')
def spFrLen (K : PySem.W.Frag) (CF : Addr) : Sp := fun vs H Q _ => ∃ a ws, vs = [.ref a] ∧ FrAt K CF H a ws ∧ ∀ H', Ex H H' → Q (.int (ws.length : Int)) H'
def spFrEq (K : PySem.W.Frag) (CF : Addr) : Sp := fun vs H Q _ => ∃ (a : Addr) (v : V) (ws : List (List Str)), vs = [.ref a, v] ∧ FrAt K CF H a ws ∧ Sd ws ∧
  ((∃ t : Value, TyX K H v t ∧ PySem.W.kitOne K t (.ref CF) = some false ∧ ∀ H', Ex H H' → Q (.bl false) H') ∨ ∃ (b : Addr) (us : List (List Str)), v = .ref b ∧ FrAt K CF H b us ∧ Sd us ∧ ∀ H', Ex H H' → Q (.bl (decide (ws = us))) H')
def spFrRepr (K : PySem.W.Frag) (CF : Addr) : Sp := fun vs H Q _ => ∃ a ws, vs = [.ref a] ∧ FrAt K CF H a ws ∧ (∀ w ∈ ws, isW w = true) ∧ ws.length ≤ 300 ∧ ∀ H', Ex H H' → Q (.str (frText ws)) H'
section
variable {K : PySem.W.Frag} {Z : Zn} {H H1 : Hp} {a CF l d : Addr} {ws us : List (List Str)} {v p : V} {w : List Str}
theorem fr_ex (e : Ex H H1) (h : FrAt K CF H a ws) : FrAt K CF H1 a ws := by
  obtain ⟨dx, d, h1, h2⟩ := h
  exact ⟨dx, d, e _ _ h1, e _ _ h2⟩
theorem fr_R (r : R Z H H1) (h : FrAt K CF H a ws) : FrAt K CF H1 a ws := by
  obtain ⟨dx, d, h1, h2⟩ := h
  exact ⟨dx, d, r.st _ _ h1 Rm.nt_ins (r.a.nm h1 fun _ z => nomatch z), r.st _ _ h2 Rm.nt_dT (r.a.nm h2 fun _ z => nomatch z)⟩
theorem goodLot_ex (e : Ex H H1) (h : GoodLot K H v ws) : GoodLot K H1 v ws := by
  rcases h with ⟨l, us, h1, h2, h3, h4⟩ | ⟨l, h1, h2, h3⟩
  · exact .inl ⟨l, us, h1, sq_ex e h2, paired_mono (fun _ _ r => wd_mono e r) h3, h4⟩
  · exact .inr ⟨l, h1, ex_t e h2, h3⟩
theorem badLot_ex (e : Ex H H1) (h : BadLot K H v p) : BadLot K H1 v p := by
  rcases h with ⟨⟨t, h1, h2⟩, h3⟩ | ⟨l, us, m, rest, h1, h2, h3, h4, h5⟩
  · exact .inl ⟨⟨t, tyx_mono e h1, h2⟩, h3⟩
  · exact .inr ⟨l, us, m, rest, h1, sq_ex e h2, h3, paired_mono (fun _ _ r => wbv_mono e r) h4, h5⟩
theorem good_lot (h : LW K H l ws) (hw : ∀ w ∈ ws, isW w = true) (hz : ws.length ≤ 249) : GoodLot K H (.ref l) ws := by
  obtain ⟨us, h1, h2⟩ := h
  exact .inl ⟨l, us, rfl, .inl h1, h2, hw, hz⟩
theorem uniq_self (h : ws.Nodup) : uniq ws = ws := by
  have key : ∀ (ws ds : List (List Str)), (ds ++ ws).Nodup → ws.foldl addW ds = ds ++ ws := fun ws => by
    induction ws with
    | nil => intro ds _; simp
    | cons w ws ih =>
      intro ds hn
      have nw : w ∉ ds := fun m => by
        obtain ⟨_, _, z⟩ := List.nodup_append.mp hn
        exact z w m w (List.mem_cons_self ..) rfl
      rw [List.foldl_cons, show addW ds w = ds ++ [w] from if_neg nw, ih (ds ++ [w]) (by rw [List.append_assoc]; exact hn), List.append_assoc]
      rfl
  have z := key ws [] (by simpa using h)
  rw [List.nil_append] at z
  exact z
theorem sd_nodup (h : Sd ws) : ws.Nodup := List.Pairwise.imp (fun {a b} z e => by rw [e, ahead_irr] at z; cases z) h
/-- both in order, as many, all of the one in the other: the same -/
theorem sd_eq (h : Sd ws) (k : Sd us) (e : ws.length = us.length) (s : ∀ w ∈ ws, w ∈ us) : ws = us := sd_uniq h k fun u => ⟨s u, fun hu => by
  by_cases m : u ∈ ws
  · exact m
  · have z := nodup_le (l := u :: ws) (m := us) (List.nodup_cons.mpr ⟨m, sd_nodup h⟩) fun x hx => by
      rcases List.mem_cons.mp hx with rfl | hx
      · exact hu
      · exact s x hx
    rw [List.length_cons] at z
    omega⟩
theorem dk_len : (dk ws).length = ws.length := by
  unfold dk
  rw [List.length_map]
theorem dk_allT : AllT (dk ws) := fun p hp => by
  obtain ⟨w, _, rfl⟩ := List.mem_map.mp hp
  rfl
theorem dk_keys : (kw w ∈ (dk ws).map Prod.fst) ↔ w ∈ ws := by
  unfold dk
  rw [List.map_map, List.mem_map]
  constructor
  · rintro ⟨u, hu, e⟩
    rw [← kw_inj e]
    exact hu
  · intro h
    exact ⟨w, h, rfl⟩
theorem dk_in : (valV (dk ws) (kw w)).isSome = decide (w ∈ ws) := by
  rw [← valV_any]
  exact any_dk ws w
theorem dk_at {i : Nat} {k : List L2.Key} {v : V} (h : (dk ws)[i]? = some (k, v)) : ∃ w, ws[i]? = some w ∧ k = kw w := by
  unfold dk at h
  rw [List.getElem?_map] at h
  cases q : ws[i]? with
  | none =>
    rw [q] at h
    cases h
  | some w =>
    rw [q] at h
    cases h
    exact ⟨w, rfl, rfl⟩
/-! ### a dict of the words of a list -/
def dcP (K : PySem.W.Frag) (j : Nat) (σ : L2.St) (Q : VK) (x0 : V) (H : Hp) : Prop := ∃ a, x0 = .ref a ∧ (∃ xs, SqL K H a xs) ∧ ∀ D, H D = none → ∃ W : Nat → Nat → Hp → Prop, (∃ m, W 0 m (upd H D (.dT []))) ∧ ∀ i m H, W i m H →
      ((Itl K a).stop i H ∧ Q (.ref D) H) ∨ ((Itl K a).go i H ∧ ∃ N : Hp → Prop, (∀ H2, N H2 → ∃ l, l < m ∧ W (i + 1) l H2) ∧ ∀ x H2, (Itl K a).yld i H x H2 → gName j x (wipe σ [j]) H2 fun τ H3 => wipe τ [j] = wipe σ [j] ∧
        tVar j τ H3 fun y H4 => tC (.bl true) τ H4 fun z H5 => ∃ kvs k b, y = .ref b ∧ H5 b = some (.tup (k.map kV)) ∧ H5 D = some (.dT kvs) ∧ kvs.length < sizeLine ∧ N (upd H5 D (.dT (putK kvs k z))))
theorem dc_go {te : TE} {j : Nat} {σ : L2.St} {Q : VK} (h : te σ H (dcP K j σ Q)) : tDcT (iList K te) (gName j) (tVar j) (tC (.bl true)) [j] σ H Q := h
theorem dcW_at {j : Nat} {σ : L2.St} (hL : LW K H l ws) (hz : ws.length ≤ 100000) (hw : ∀ x, wipe ((wipe σ [j]).set j (some x)) [j] = wipe σ [j]) (hj : ∀ x, ((wipe σ [j]).set j (some x))[j]? = some (some x)) {Q : VK}
    (q : ∀ D H2, H D = none → Ex H H2 → H2 D = some (.dT (dk (uniq ws))) → Q (.ref D) H2) : dcP K j σ Q (.ref l) H := by
  obtain ⟨us, h1, hp⟩ := hL
  have len := Paired.length hp
  refine ⟨l, rfl, ⟨us, SqL.of h1⟩, fun D hD => ?_⟩
  refine dc_it walk_list (fun i H2 => Ex H H2 ∧ H2 D = some (.dT (dk (uniq (ws.take i))))) ⟨Ex.new hD, upd_same⟩ (fun i H2 _ p => ex_l p.1 (SqL.of h1)) (fun i x H2 H3 hi p y => ?_) fun H2 p => ?_
  · obtain ⟨rfl, hx⟩ := y
    obtain ⟨w, hw2, a, rfl, ha⟩ := paired_at hp hx
    refine ⟨hw _, _, hj _, dk (uniq (ws.take i)), kw w, a, rfl, by rw [kw_val]; exact p.1 _ _ ha, p.2, ?_, Ex.mut p.1 hD, ?_⟩
    · have h1 := uniq_len (ws.take i)
      rw [List.length_take] at h1
      rw [dk_len]
      exact sz_lt (by omega)
    · rw [put_dk, uniq_succ hw2]
      exact upd_same
  · obtain ⟨p1, p2⟩ := p
    rw [len, List.take_length] at p2
    exact q D H2 hD p1 p2
/-! ### [b for w in ws for b in beginnings(w)] -/
def lc2P (K : PySem.W.Frag) (i j : Nat) (vs : List Nat) (σ : L2.St) (Q : VK) (x0 : V) (H : Hp) : Prop := ∃ a, x0 = .ref a ∧ (∃ xs, SqL K H a xs) ∧ ∀ D, H D = none → ∃ W : Nat → Nat → Hp → Prop, (∃ m, W 0 m (upd H D (.lst []))) ∧ ∀ n m H, W n m H →
      ((Itl K a).stop n H ∧ Q (.ref D) H) ∨ ((Itl K a).go n H ∧ ∃ Nx : Hp → Prop, (∀ H', Nx H' → ∃ m', m' < m ∧ W (n + 1) m' H') ∧ ∀ x H', (Itl K a).yld n H x H' → gName i x (wipe σ vs) H' fun σ2 H2 => wipe σ2 vs = wipe σ vs ∧ tYes σ2 H2 fun b H3 =>
        if b = true then iList K (tCall (spBeginG K) [] E0 (tCons (tVar i) tNil)) σ2 H3 fun J1 H4 => ∃ W1 : Nat → Nat → Hp → Prop, (∃ m, W1 0 m H4) ∧ ∀ j2 k H, W1 j2 k H →
          (J1.stop j2 H ∧ Nx H) ∨ (J1.go j2 H ∧ ∃ Nx1 : Hp → Prop, (∀ H', Nx1 H' → ∃ k', k' < k ∧ W1 (j2 + 1) k' H') ∧ ∀ x H', J1.yld j2 H x H' → gName j x (wipe σ2 [j]) H' fun σ3 H5 => wipe σ3 [j] = wipe σ2 [j] ∧ tYes σ3 H5 fun b H6 =>
            if b = true then tVar j σ3 H6 fun y H7 => ∃ acc, H7 D = some (.lst acc) ∧ acc.length < sizeLine ∧ Nx1 (upd H7 D (.lst (acc ++ [y]))) else Nx1 H6)
        else Nx H3)
theorem lc2_go {te : TE} {i j : Nat} {vs : List Nat} {σ : L2.St} {Q : VK} (h : te σ H (lc2P K i j vs σ Q)) : tLc2 (iList K te) (gName i) tYes (iList K (tCall (spBeginG K) [] E0 (tCons (tVar i) tNil))) (gName j) tYes (tVar j) vs [j] σ H Q := h
theorem lc2_begs {i j : Nat} {vs : List Nat} {σ : L2.St} (hL : LW K H l ws) (hws : ∀ w ∈ ws, isW w = true) (hz : ws.length ≤ 1000) (hw : ∀ x, wipe ((wipe σ vs).set i (some x)) vs = wipe σ vs) (hi : ∀ x, ((wipe σ vs).set i (some x))[i]? = some (some x))
    (hw2 : ∀ x y, wipe ((wipe ((wipe σ vs).set i (some x)) [j]).set j (some y)) [j] = wipe ((wipe σ vs).set i (some x)) [j]) (hj : ∀ x y, ((wipe ((wipe σ vs).set i (some x)) [j]).set j (some y))[j]? = some (some y)) {Q : VK}
    (q : ∀ D H2, H D = none → Ex H H2 → LW K H2 D (ws.flatMap begs) → Q (.ref D) H2) : lc2P K i j vs σ Q (.ref l) H := by
  obtain ⟨us, h1, hp⟩ := hL
  have len := Paired.length hp
  refine ⟨l, rfl, ⟨us, SqL.of h1⟩, fun D hD => ?_⟩
  refine w_it walk_list (fun n H' => Ex H H' ∧ LW K H' D ((ws.take n).flatMap begs)) ⟨Ex.new hD, [], upd_same, .nil⟩ (fun n H' _ p => ex_l p.1 (SqL.of h1)) (fun n x H1 H2 hn p y => ?_) fun H' p => ?_
  · obtain ⟨rfl, hx⟩ := y
    obtain ⟨e1, hL1⟩ := p
    obtain ⟨w, hwn, hv⟩ := paired_at hp hx
    have hwm := List.mem_of_getElem? hwn
    have hww := hws w hwm
    have hn2 := (List.getElem?_eq_some_iff.mp hwn).1
    refine ⟨hw _, ?_⟩
    unfold tYes
    dsimp only
    rw [if_pos rfl]
    refine ⟨x, hi _, x, w, rfl, wd_mono e1 hv, hww, fun l2 H3 f3 e3 hL3 => ?_⟩
    obtain ⟨us2, g1, g2⟩ := hL3
    have len2 := Paired.length g2
    refine ⟨l2, rfl, ⟨us2, SqL.of g1⟩, ?_⟩
    obtain ⟨acc0, hD0, hp0⟩ := hL1
    have nD : l2 ≠ D := fun z => by
      rw [z, hD0] at f3
      cases f3
    have b4 : (begs w).length ≤ 4 := by
      have := (isW_iff.mp hww).1
      rw [begs_len]
      omega
    have l0 : acc0.length ≤ 4 * n := by
      rw [Paired.length hp0]
      have z := flat_len (ws := ws.take n) fun x hx => isW_3 hws x (List.mem_of_mem_take hx)
      rw [List.length_take] at z
      omega
    refine w_it walk_list (fun k H' => Ex H H' ∧ H' l2 = some (.lst us2) ∧ Paired (Wd K H') us2 (begs w) ∧ LW K H' D ((ws.take n).flatMap begs ++ (begs w).take k)) ⟨e1.trans e3, g1, g2, by rw [List.take_zero, List.append_nil]; exact lw_mono e3 ⟨acc0, hD0, hp0⟩⟩ (fun k H' _ p => SqL.of p.2.1) (fun k y H4 H5 hk p z => ?_) fun H' p => ?_
    · obtain ⟨rfl, hy⟩ := z
      obtain ⟨e4, k1, k2, acc, k3, k4⟩ := p
      obtain ⟨b, hb, hvb⟩ := paired_at k2 hy
      have hkb := (List.getElem?_eq_some_iff.mp hb).1
      refine ⟨hw2 _ _, ?_⟩
      rw [if_pos rfl]
      have la := Paired.length k4
      rw [List.length_append, List.length_take, ← Paired.length hp0] at la
      refine ⟨y, hj _ _, acc, k3, sz_lt (by omega), Ex.mut e4 hD, by rw [upd_ne nD]; exact k1, paired_mono (fun _ _ r => wd_upd k3 r) k2, acc ++ [y], upd_same, ?_⟩
      rw [List.take_add_one, hb, ← List.append_assoc]
      exact paired_app (paired_mono (fun _ _ r => wd_upd k3 r) k4) (.cons (wd_upd k3 hvb) .nil)
    · obtain ⟨e4, _, _, k3⟩ := p
      rw [len2, List.take_length] at k3
      refine ⟨e4, ?_⟩
      rw [List.take_add_one, hwn, List.flatMap_append]
      simpa using k3
  · obtain ⟨e1, h3⟩ := p
    rw [len, List.take_length] at h3
    exact q D H' hD e1 h3
/-! ### [f(w) for w in the front's words if g(w)] -/
theorem lk_lc {b : List Str → Bool} {B : List Str → V → Hp → Prop} {j : Nat} {vs : List Nat} {σ : L2.St} {tt : TT} {te td : TE} (hf : FrAt K CF H a ws) (hz : ws.length ≤ 40000)
    (hB : ∀ w v H H2, (∀ x ys, H x = some (.tup ys) → H2 x = some (.tup ys)) → B w v H → B w v H2) (hw : ∀ x, wipe ((wipe σ vs).set j (some x)) vs = wipe σ vs)
    (hd : ∀ dx d H1 (Q : VK), H1 a = some (.ins CF dx [("_words", .ref d)]) → Q (.ref d) H1 → td σ H1 Q)
    (ht : ∀ x w H1, Wd K H1 x w → w ∈ ws → EvT tt ((wipe σ vs).set j (some x)) H1 (b w)) (he : ∀ x w H1, Wd K H1 x w → w ∈ ws → b w = true → ∀ Q : VK, (∀ v H2, Ex H1 H2 → B w v H2 → Q v H2) → te ((wipe σ vs).set j (some x)) H1 Q) {Q : VK}
    (q : ∀ D xs H2, H D = none → Ex H H2 → H2 D = some (.lst xs) → Paired (fun v w => B w v H2) xs (ws.filter b) → Q (.ref D) H2) : tLockE (tLc (iKeys td) (gName j) tt te vs) σ H Q := by
  obtain ⟨dx, d, ha, hdd⟩ := hf
  have ad : a ≠ d := fun z => by
    rw [z, hdd] at ha
    cases ha
  refine ⟨d, _, hdd, trivial, fun od => ?_⟩
  have ha1 : (upd H d (.frz od (.dT (dk ws)))) a = some (.ins CF dx [("_words", .ref d)]) := by
    rw [upd_ne ad]
    exact ha
  refine hd dx d _ _ ha1 ⟨d, od, rfl, .inr ⟨dk ws, upd_same, fun D hD => ?_⟩⟩
  have Dd : D ≠ d := fun z => by
    rw [z, upd_same] at hD
    cases hD
  have hD0 : H D = none := by
    rw [upd_ne Dd] at hD
    exact hD
  have tk : ∀ i w, ws[i]? = some w → (ws.take (i + 1)).filter b = (ws.take i).filter b ++ (if b w = true then [w] else []) := fun i w hi => by
    rw [List.take_add_one, hi, List.filter_append]
    cases h : b w <;> simp [h]
  refine w_it (walk_keysT (kvs := dk ws)) (fun n H' => Ex (upd H d (.frz od (.dT (dk ws)))) H' ∧ ∃ xs, H' D = some (.lst xs) ∧ Paired (fun v w => B w v H') xs ((ws.take n).filter b)) ⟨Ex.new hD, [], upd_same, .nil⟩ (fun n H' _ p => p.1 _ _ upd_same) (fun n x H1 H2 hn p y => ?_) fun H' p => ?_
  · obtain ⟨rfl, k, v, r, hk, rfl, hr⟩ := y
    obtain ⟨e1, xs, h3, h4⟩ := p
    obtain ⟨w, hwn, rfl⟩ := dk_at hk
    have hv : Wd K H2 (.ref r) w := ⟨r, rfl, by rw [← kw_val]; exact hr⟩
    have hwm := List.mem_of_getElem? hwn
    have hn2 := (List.getElem?_eq_some_iff.mp hwn).1
    have lx := Paired.length h4
    have lf : ((ws.take n).filter b).length ≤ n := Nat.le_trans (List.length_filter_le ..) (by rw [List.length_take]; omega)
    refine ⟨hw _, ht _ w H2 hv hwm H2 (Ex.refl H2) _ fun H3 e3 => ?_⟩
    have up : ∀ {G : Hp}, Ex H2 G → Paired (fun v w => B w v G) xs ((ws.take n).filter b) := fun {G} e => paired_mono (fun v w r => hB w v _ _ (fun x ys z => e _ _ z) r) h4
    cases hb : b w with
    | false =>
      rw [if_neg (by decide)]
      refine ⟨e1.trans e3, xs, e3 _ _ h3, ?_⟩
      rw [tk n w hwn, hb, if_neg (by decide), List.append_nil]
      exact up e3
    | true =>
      rw [if_pos rfl]
      refine he _ w H3 (wd_mono e3 hv) hwm hb _ fun v H4 e4 hv4 => ?_
      have e34 := e3.trans e4
      have tu : ∀ x ys, H4 x = some (.tup ys) → (upd H4 D (.lst (xs ++ [v]))) x = some (.tup ys) := fun x ys z => by
        rw [upd_ne fun z2 => by
          rw [z2, e34 _ _ h3] at z
          cases z]
        exact z
      refine ⟨xs, e34 _ _ h3, sz_lt (by omega), Ex.mut (e1.trans e34) hD, xs ++ [v], upd_same, ?_⟩
      rw [tk n w hwn, hb, if_pos rfl]
      exact paired_app (paired_mono (fun v w r => hB w v _ _ tu r) (up e34)) (.cons (hB w v _ _ tu hv4) .nil)
  · obtain ⟨e1, xs, h3, h4⟩ := p
    rw [dk_len, List.take_length] at h4
    have h5 : H' d = some (.frz od (.dT (dk ws))) := e1 _ _ upd_same
    refine ⟨h5, q D xs _ hD0 (fun x o hx => ?_) (by rw [upd_ne Dd]; exact h3) (paired_mono (fun v w r => hB w v _ _ (fun x ys z => by
      rw [upd_ne fun z2 => by
        rw [z2, h5] at z
        cases z]
      exact z) r) h4)⟩
    by_cases c : x = d
    · rw [c] at hx ⊢
      rw [hdd] at hx
      rw [← hx]
      exact upd_same
    · rw [upd_ne c]
      exact e1 _ _ (by rw [upd_ne c]; exact hx)
end
/-! ### letters put in order -/
theorem sd_ones {xs : List Str} (h : Sd (xs.map fun x => [x])) : xs.Pairwise fun x y => x.cps.toList < y.cps.toList := by
  have z := List.pairwise_map.mp h
  refine List.Pairwise.imp (fun {a b} r => ?_) z
  have e : aheadW [a] [b] = decide (a.cps.toList < b.cps.toList) := by
    unfold aheadW
    rw [if_pos (show [a].length = [b].length from rfl)]
    unfold lexW
    by_cases c : a = b
    · subst c
      simp [lexW]
    · simp [c]
  rw [e] at r
  exact of_decide_eq_true r
end Tk
namespace Tk
open PySem PySem.Spec PyProof.Rows L2 Lw Evl LamX TL
open Rm (R Ok Z0 Zp Fr fr_none fr_ne nt_lst nt_tup nt_dK NT Zn)
theorem lt_ones (x y : Str) : aheadW [x] [y] = decide (x.cps.toList < y.cps.toList) := by
  unfold aheadW
  rw [if_pos (show [x].length = [y].length from rfl)]
  unfold lexW
  by_cases c : x = y
  · subst c
    simp [lexW]
  · simp [c]
theorem rising_sd : ∀ (r : List Str) (p : Str), risingS p r = true → (p :: r).Nodup → Sd ((p :: r).map fun x => [x])
  | [], p, _, _ => by
    unfold Sd
    simp
  | x :: r, p, h, n => by
    obtain ⟨h1, h2⟩ := Bool.and_eq_true_iff.mp (show (!ltCps x.cps.toList p.cps.toList && risingS x r) = true from h)
    obtain ⟨n1, n2⟩ := List.nodup_cons.mp n
    have ih := rising_sd r x h2 n2
    have px : aheadW [p] [x] = true := by
      rcases ahead_conn (xs := [p]) (ys := [x]) (fun e => n1 (by
        rw [List.cons.inj e |>.1]
        exact List.mem_cons_self ..)) with z | z
      · exact z
      · rw [lt_ones, ← ltCps_eq] at z
        rw [z] at h1
        cases h1
    unfold Sd at ih ⊢
    rw [List.map_cons, List.pairwise_cons]
    refine ⟨fun u hu => ?_, ih⟩
    rw [List.map_cons] at hu ih
    rcases List.mem_cons.mp hu with rfl | hu
    · exact px
    · exact ahead_trans px ((List.pairwise_cons.mp ih).1 u hu)
theorem sort_same {xs ys : List Str} (hp : ys.Perm xs) (hs : sortedS ys = true) (h : Sd (xs.map fun x => [x])) : ys = xs := by
  have nx : xs.Nodup := by
    have z := sd_nodup h
    exact List.Pairwise.imp (fun {a b} r e => r (by rw [e])) (List.pairwise_map.mp z)
  have ny : ys.Nodup := hp.nodup_iff.mpr nx
  have sy : Sd (ys.map fun x => [x]) := by
    cases ys with
    | nil => exact List.Pairwise.nil
    | cons y ys => exact rising_sd ys y hs ny
  have e := sd_uniq sy h fun u => by
    rw [List.mem_map, List.mem_map]
    exact ⟨fun ⟨x, hx, e⟩ => ⟨x, hp.mem_iff.mp hx, e⟩, fun ⟨x, hx, e⟩ => ⟨x, hp.mem_iff.mpr hx, e⟩⟩
  have z := congrArg (List.map fun w : List Str => w.headD "") e
  rw [List.map_map, List.map_map] at z
  simpa [Function.comp_def] using z
theorem singles_map (ws : List (List Str)) : (singles ws).map (fun x => [x]) = ws.filter fun w => decide (w.length = 1) := by
  unfold singles
  rw [List.map_map]
  have key : ∀ l : List (List Str), (∀ w ∈ l, w.length = 1) → l.map ((fun x => [x]) ∘ fun w : List Str => w.headD "") = l := fun l => by
    induction l with
    | nil => intro _; rfl
    | cons w l ih =>
      intro h
      rw [List.map_cons, ih fun x hx => h x (List.mem_cons_of_mem _ hx)]
      have hw := h w (List.mem_cons_self ..)
      match w, hw with
      | [x], _ => rfl
  exact key _ fun w hw => of_decide_eq_true (List.mem_filter.mp hw).2
theorem singles_sd {ws : List (List Str)} (h : Sd ws) : Sd ((singles ws).map fun x => [x]) := by
  rw [singles_map]
  exact List.Pairwise.sublist List.filter_sublist h
section
variable {K : PySem.W.Frag} {TT : List (Addr × Str)} {CS : Addr} {H : Hp} {v : V} {ws : List (List Str)} {Q : VK} {E : XK}
theorem good_ord (hg : GoodLot K H v ws) (ht : Tabs TT H) (k : ∀ r H', Fr H r → R (Z0 TT) H H' → LW K H' r (srtW ws) → Q (.ref r) H') : spOrderF K TT CS [v] H Q E := by
  rcases hg with ⟨l, us, rfl, h2, h3, h4, h5⟩ | ⟨l, rfl, h2, rfl⟩
  · exact .inl (ord_good h2 ht (by have := Paired.length h3; omega) h3 h4 k)
  · exact .inr ⟨l, rfl, h2, ht, k⟩
theorem bad_ord {p : V} (hb : BadLot K H v p) (ht : Tabs TT H) (x : Rz CS "position" p H E) : spOrderF K TT CS [v] H Q E := by
  rcases hb with ⟨⟨t, h1, h2⟩, rfl⟩ | ⟨l, us, m, rest, rfl, h2, h3, h4, rfl⟩
  · exact .inl (ord_odd h1 h2 ht x)
  · exact .inl (ord_bad h2 ht h3 h4 x)
theorem goodLot_isW (hg : GoodLot K H v ws) : (∀ w ∈ ws, isW w = true) ∧ ws.length ≤ 249 := by
  rcases hg with ⟨l, us, rfl, h2, h3, h4, h5⟩ | ⟨l, rfl, h2, rfl⟩
  · exact ⟨h4, h5⟩
  · exact ⟨fun _ z => absurd z List.not_mem_nil, by decide⟩
end
end Tk
namespace Tk
open PySem PySem.Spec PyProof.Rows L2 Lw Evl LamX TL
theorem lst_len {ws : List (List Str)} (h : ∀ w ∈ ws, isW w = true) (hn : ws.length ≤ 300) : (listText (PyData.shownAll (ws.map wD))).length ≤ 1000000 := by
  have key : ∀ ds : List PyData, (∀ d ∈ ds, Rok d) → ((PyData.shownAll ds).map (·.length)).sum ≤ 2500 * ds.length ∧ (PyData.shownAll ds).length = ds.length := by
    intro ds
    induction ds with
    | nil => intro _; exact ⟨by simp [PyData.shownAll], by simp [PyData.shownAll]⟩
    | cons d ds ih =>
      intro h
      obtain ⟨b, c⟩ := ih fun x hx => h x (List.mem_cons_of_mem _ hx)
      obtain ⟨h1, h2, h3⟩ := h d (List.mem_cons_self ..)
      refine ⟨?_, by simp [PyData.shownAll, c]⟩
      simp only [PyData.shownAll, List.map_cons, List.sum_cons, List.length_cons]
      omega
  obtain ⟨b, c⟩ := key (ws.map wD) (roks_wD h)
  have := listText_len_le (PyData.shownAll (ws.map wD))
  rw [List.length_map] at b c
  omega
end Tk
namespace K21
open PySem PySem.Spec PyProof.Rows L2 Lw Evl LamX Tk
open Rm (R Ok Z0 Zp Fr fr_none)
open LwX (XC XF)
section
variable {P : Program} {w : World} {K : PySem.W.Frag} {mg : Str → Option Value} {base : Heap}
abbrev s_is_letter : Stmt := topS 15
theorem sc_is_letter : FnScope ["value", "sign"] ["value"] (defScope s_is_letter) := ⟨rfl, rfl, rfl, by decide +kernel, rfl, by decide +kernel, by decide +kernel⟩
theorem ok_is_letter {f : Addr} {fd : FuncData} (F : FunD K "is_letter" "is_letter" (defArgs s_is_letter) (defBody s_is_letter) (defScope s_is_letter) [] [] f fd) (T : Tx P w K mg base)  : FnOk P w K mg base CX0 1 f fd ["value"] (spLetter K) := by
  refine fnO F sc_is_letter (fun vs H Q E h => ?_) (fun cdv A outer s H vs Q E hr h => ?_)
  · obtain ⟨v, b, rfl, _⟩ := h
    rfl
  · skip
    refine ⟨_, PSs.nox ((pss_cons (ps_if (PW.pt (pw_or (pt_not (pt_val (pe_callB (call_isiK1 (K := K)) (by rfl) T.m_isinstance (by decide +kernel) (pa_cons (pv 0) (pa_cons (pe_bltn (v := .ty "str") (by rfl) T.m_str (by decide +kernel) rfl) pa_nil))))) (pw_or1 (pt_not (pt_chain op_le op_le pe_int (pe_callB call_len_str (by rfl) T.m_len (by decide +kernel) (pa_cons (pv 0) pa_nil)) (pe_glob (v := .int 8) (by rfl) T.g_MOST_SIGNS.choose_spec ⟨_, rfl⟩)))))) (pss_one (ps_ret pe_bl)) pss_nil)
      (pss_one (ps_ret (pe_callB (cr_allK (K := K)) (by rfl) T.m_all (by decide +kernel) (pa_cons (pe_lc (own := [("sign", 1)]) (g := gName 1) (tt := tYes) rfl sc_is_letter.nd (pi_str (pv 0)) (blkOk_by (own := [("sign", 1)]) (N := ["value", "sign"]) (sc := defScope s_is_letter) (by decide +kernel)) (fun _ _ _ _ _ => pg_name (i := 1) sc_is_letter.nd rfl (by first | exact Or.inl rfl | exact Or.inr rfl)) (fun _ _ _ _ _ => pts_nil) (fun _ _ _ _ _ => (pe_chain op_le_str op_le_str pe_str (pv 1) pe_str))) pa_nil)))))), ?_⟩
    obtain ⟨v, b, rfl, hb, q⟩ := h
    cases hb with
    | str s hs =>
      have e1 : isL s = ((decide ((1 : Int) ≤ (s.length : Int)) && decide ((s.length : Int) ≤ 8)) && s.cps.toList.all fun c => decide (97 ≤ c) && decide (c ≤ 122)) := by
        rw [isL_app0]
        congr 1
        congr 1
        · exact decide_eq_decide.mpr (by omega)
        · exact decide_eq_decide.mpr (by omega)
      refine q_when (b := !true || !(decide ((1 : Int) ≤ (s.length : Int)) && decide ((s.length : Int) ≤ 8))) (et_or (et_not (et_B (ev_isi (ev_var rfl) (fun _ _ => .base (.str s)) rfl))) (fun _ => et_not (et_chainI ev_c (ev_lenS (ev_var rfl) hs) ev_c))) (fun z H1 e => ?_) (fun z H1 e => ?_)
      · refine s_ret ev_c fun H2 e2 => ?_
        have : isL s = false := by
          rw [e1]
          cases q : (decide ((1 : Int) ≤ (s.length : Int)) && decide ((s.length : Int) ≤ 8)) with
          | false => rfl
          | true =>
            rw [q] at z
            cases z
        rw [← this]
        exact q H2 (e.trans e2)
      · have hc : (decide ((1 : Int) ≤ (s.length : Int)) && decide ((s.length : Int) ≤ 8)) = true := by
          cases q : (decide ((1 : Int) ≤ (s.length : Int)) && decide ((s.length : Int) ≤ 8)) with
          | true => rfl
          | false =>
            rw [q] at z
            cases z
        have e2 : isL s = (s.cps.toList.map fun c => decide (97 ≤ c) && decide (c ≤ 122)).all id := by
          rw [e1, hc, List.all_map]
          rfl
        refine s_ret (ev_all (bs := s.cps.toList.map fun c => decide (97 ≤ c) && decide (c ≤ 122)) (el_lcS (fun i => .bl ((fun c => decide (97 ≤ c) && decide (c ≤ 122)) (s.cps.toList.getD i 0))) (ev_var rfl) (by have := len_cps s; have h8 := of_decide_eq_true (Bool.and_eq_true_iff.mp hc).2; simp only [Array.length_toList] at this; omega) (fun _ => rfl) (fun i c H2 e2 hc2 => ?_)) ?_) fun H2 e3 => ?_
        · have z := ev_chainS (σ := (wipe (L2.start [Str.ofString "value", Str.ofString "sign"] [V.str s]) (List.map (fun x => x.snd) [(Str.ofString "sign", 1)])).set 1 (some (.str ⟨#[c]⟩))) (H := H2) (ta := tC (.str "a")) (tb := tVar 1) (tc := tC (.str "z")) (a := sgn 97) (b := sgn c) (c := sgn 122) ev_c (ev_var rfl) ev_c
          rw [leS_sgn, leS_sgn] at z
          have hg : s.cps.toList.getD i 0 = c := by
            rw [List.getD_eq_getElem?_getD, Array.getElem?_toList, hc2]
            rfl
          show Ev _ _ _ (V.bl (decide (97 ≤ s.cps.toList.getD i 0) && decide (s.cps.toList.getD i 0 ≤ 122)))
          rw [hg]
          exact z
        · have z := range_get s.cps.toList 0 (fun c => V.bl (decide (97 ≤ c) && decide (c ≤ 122)))
          rw [Array.length_toList] at z
          rw [List.map_map]
          exact z
        · rw [← e2]
          exact q H2 (e.trans e3)
    | oth ht hn =>
      refine q_when (b := !false || false) (et_or (et_not (et_B (ev_isi (ev_var rfl) (fun _ e => tyx_mono e ht) hn))) (fun z => by cases z)) (fun _ H1 e => ?_) (fun z => by cases z)
      exact s_ret ev_c fun H2 e2 => q H2 (e.trans e2)

abbrev s_is_word : Stmt := topS 16
theorem sc_is_word : FnScope ["value", "part"] ["value"] (defScope s_is_word) := ⟨rfl, rfl, rfl, by decide +kernel, rfl, by decide +kernel, by decide +kernel⟩
theorem ok_is_word {f : Addr} {fd : FuncData} (F : FunD K "is_word" "is_word" (defArgs s_is_word) (defBody s_is_word) (defScope s_is_word) [] [] f fd) (T : Tx P w K mg base) (dis_letter : CalO P w K mg base CX0 1 "is_letter" ["value"] (spLetter K)) : FnOk P w K mg base CX0 2 f fd ["value"] (spWord K) := by
  refine fnO F sc_is_word (fun vs H Q E h => ?_) (fun cdv A outer s H vs Q E hr h => ?_)
  · obtain ⟨v, b, rfl, _⟩ := h
    rfl
  · skip
    refine ⟨_, PSs.nox ((pss_cons (ps_if (PW.pt (pw_or (pt_not (pt_val (pe_callB (call_isiK1 (K := K)) (by rfl) T.m_isinstance (by decide +kernel) (pa_cons (pv 0) (pa_cons (pe_bltn (v := .ty "tuple") (by rfl) T.m_tuple (by decide +kernel) rfl) pa_nil))))) (pw_or1 (pt_cmpR op_gt (pe_callB (call_lenK (K := K)) (by rfl) T.m_len (by decide +kernel) (pa_cons (pv 0) pa_nil)) (pe_glob (v := .int 3) (by rfl) T.g_MOST_IN_WORD.choose_spec ⟨_, rfl⟩) (nomark _))))) (pss_one (ps_ret pe_bl)) pss_nil)
      (pss_one (ps_ret (pe_callB (cr_allK (K := K)) (by rfl) T.m_all (by decide +kernel) (pa_cons (pe_lc (own := [("part", 1)]) (g := gName 1) (tt := tYes) rfl sc_is_word.nd (pi_tupK (K := K) (pv 0)) (blkOk_by (own := [("part", 1)]) (N := ["value", "part"]) (sc := defScope s_is_word) (by decide +kernel)) (fun _ _ _ _ _ => pg_name (i := 1) sc_is_word.nd rfl (by first | exact Or.inl rfl | exact Or.inr rfl)) (fun _ _ _ _ _ => pts_nil) (fun _ _ _ _ _ => (pe_calO dis_letter hr pass0 (pa_cons (pv 1) pa_nil)))) pa_nil)))))), ?_⟩
    obtain ⟨v, b, rfl, hb, q⟩ := h
    cases hb with
    | @tup a vs bs h ht hl hb =>
      refine q_when (b := !true || decide ((vs.length : Int) > 3)) (et_or (et_not (et_B (ev_isi (ev_var rfl) (fun _ e => tyx_mono e ht) rfl))) (fun _ => et_test (ev_op (ev_lenT (ev_var rfl) h) ev_c rv_I0))) (fun z H1 e => ?_) (fun z H1 e => ?_)
      · refine s_ret ev_c fun H2 e2 => ?_
        have h3 : ¬ vs.length ≤ 3 := by
          have z2 : decide ((vs.length : Int) > 3) = true := z
          have := of_decide_eq_true z2
          omega
        have z := q H2 (e.trans e2)
        rw [decide_eq_false h3] at z
        exact z
      · have h3 : vs.length ≤ 3 := by
          have z2 : decide ((vs.length : Int) > 3) = false := z
          have := of_decide_eq_false z2
          omega
        refine s_ret (ev_all (bs := bs) (el_lcT (fun i => .bl (bs.getD i false)) (ev_var rfl) (ex_t e h) hl (fun _ => rfl) (fun i x H2 e2 hx => ?_)) ?_) fun H2 e3 => ?_
        · obtain ⟨y, hy, r⟩ := paired_get hb hx
          have hg : bs.getD i false = y := by
            rw [List.getD_eq_getElem?_getD, hy]
            rfl
          show Ev _ _ _ (V.bl (bs.getD i false))
          rw [hg]
          exact ev_letter (ev_var rfl) (lb_mono (e.trans e2) r)
        · rw [Paired.length hb]
          exact range_get bs false V.bl
        · have z := q H2 (e.trans e3)
          rw [decide_eq_true h3] at z
          exact z
    | oth ht hn =>
      refine q_when (b := !false || false) (et_or (et_not (et_B (ev_isi (ev_var rfl) (fun _ e => tyx_mono e ht) hn))) (fun z => by cases z)) (fun _ H1 e => ?_) (fun z => by cases z)
      exact s_ret ev_c fun H2 e2 => q H2 (e.trans e2)

abbrev s_is_list : Stmt := topS 2
theorem sc_is_list : FnScope ["value"] ["value"] (defScope s_is_list) := ⟨rfl, rfl, rfl, by decide +kernel, rfl, by decide +kernel, by decide +kernel⟩
theorem ok_is_list {f : Addr} {fd : FuncData} (F : FunD K "is_list" "is_list" (defArgs s_is_list) (defBody s_is_list) (defScope s_is_list) [] [] f fd) (T : Tx P w K mg base)  : FnOk P w K mg base CX0 1 f fd ["value"] (spIsList K) := by
  refine fnO F sc_is_list (fun vs H Q E h => ?_) (fun cdv A outer s H vs Q E hr h => ?_)
  · obtain ⟨v, t, b, rfl, _⟩ := h
    rfl
  · skip
    refine ⟨_, PSs.nox ((pss_one (ps_ret (pe_callB (call_isiTK (K := K)) (by rfl) T.m_isinstance (by decide +kernel) (pa_cons (pv 0) (pa_cons (pe_tup (pa_cons (pe_bltn (v := .ty "list") (by rfl) T.m_list (by decide +kernel) rfl) (pa_cons (pe_bltn (v := .ty "tuple") (by rfl) T.m_tuple (by decide +kernel) rfl) pa_nil))) pa_nil)))))), ?_⟩
    obtain ⟨v, t, b, rfl, ht, hc, q⟩ := h
    refine ⟨_, rfl, (by show 2 ≤ sizeLine; decide), fun p hp => ?_⟩
    exact ⟨v, p, [.ty "list", .ty "tuple"], .type t, [.type "list", .type "tuple"], b, rfl, upd_same, .cons (.ty _) (.cons (.ty _) .nil), tyx_mono (Ex.new hp) ht, hc, q _ (Ex.new hp)⟩

variable {TT : List (Addr × Str)} {c0 P0 CS : Addr}
abbrev s_in_order : Stmt := topS 19
theorem sc_in_order : FnScope ["words", "position", "word", "different"] ["words"] (defScope s_in_order) := ⟨rfl, rfl, rfl, by decide +kernel, rfl, by decide +kernel, by decide +kernel⟩
theorem ok_in_order {f : Addr} {fd : FuncData} (F : FunD K "in_order" "in_order" (defArgs s_in_order) (defBody s_in_order) (defScope s_in_order) [] [] f fd) (T : Tx P w K mg base) (hC : CodeAt K f c0) (TB : TabB base mg c0 P0) (hmT : (P0, ("in_order.<locals>.<lambda>" : Str)) ∈ TT) (huT : ∀ z ∈ TT, z.1 = P0 → z.2 = ("in_order.<locals>.<lambda>" : Str)) (xInvalidWords : XRz P w K mg base 1 "InvalidWords" CS "position") (dis_list : CalO P w K mg base CX0 1 "is_list" ["value"] (spIsList K)) (dis_word : CalO P w K mg base CX0 2 "is_word" ["value"] (spWord K)) : FnOk P w K mg base (L2.CX P w) 3 f fd ["words"] (spOrderF K TT CS) := by
  refine fnOc hC F sc_in_order (fun vs H Q E h => ?_) (fun A outer s H vs Q E hr h => ?_)
  · exact h.elim (fun ⟨_, e, _⟩ => e ▸ rfl) (fun ⟨_, e, _⟩ => e ▸ rfl)
  · skip
    refine ⟨_, (pss_cons (ps_if (pt_not (pt_val (pe_calO dis_list hr pass0 (pa_cons (pv 0) pa_nil)))) (pss_one (ps_rz xInvalidWords hr rfl (takes_of rfl rfl rfl rfl) pe_non)) pss_nil)
      (pss_cons (ps_for (passes_of rfl) rfl (pi_enumSK (K := K) (by rfl) T.m_enumerate (pa_cons (pv 0) pa_nil)) (pg_tup (n := 2) rfl (pgs_cons (pg_name (i := 1) sc_in_order.nd rfl (by first | exact Or.inl rfl | exact Or.inr rfl)) (pgs_cons (pg_name (i := 2) sc_in_order.nd rfl (by first | exact Or.inl rfl | exact Or.inr rfl)) pgs_nil))) (pss_one (ps_if (pt_not (pt_val (pe_calO dis_word hr pass0 (pa_cons (pv 2) pa_nil)))) (pss_one (ps_rz xInvalidWords hr rfl (takes_of rfl rfl rfl rfl) (pv 1))) pss_nil)))
      (pss_cons (ps_setDcT (i := 3) (own := [("word", 2)]) (g := gName 2) (Nat.lt_of_le_of_lt (Nat.le_add_right _ 64) hr.units) rfl sc_in_order.nd rfl rfl (swD rfl rfl rfl (by decide +kernel)) (pi_seqS (K := K) (pv 0)) (blkOk_by (own := [("word", 2)]) (N := ["words", "position", "word", "different"]) (sc := defScope s_in_order) (by decide +kernel)) (fun _ _ _ _ _ => pg_name (i := 2) sc_in_order.nd rfl (Or.inl rfl)) (fun _ _ _ _ _ => (pv 2)) (fun _ _ _ _ _ => pe_bl))
      (pss_one (ps_ret (pe_sortRow (T := TT) (c := c0) (P := P0) (K := K) (by rfl) T.m_sorted T.m_len (pe_callTy (call_list_dT rfl) (by rfl) T.m_list (by decide +kernel) (pa_cons (pv 3) pa_nil)) TB rfl hmT huT hr.depth hr.units ⟨rfl, rfl, rfl, by decide +kernel, by decide +kernel, rfl, rfl⟩ rfl (by decide) (fun _ _ _ _ _ _ => rfl))))))), ?_⟩
    rcases h with h | ⟨l, rfl, hl, ht, q⟩
    rotate_left
    · refine q_when (b := !true) (et_not (et_B (ev_isList (ev_var rfl) (tyx_tup hl) rfl))) (fun z => by cases z) fun _ H1 e1 => ?_
      refine ⟨_, rfl, l, rfl, .inr ⟨[], ex_t e1 hl, for_it walkEnumT (fun i σ H2 => ∃ a b, σ = [some (.ref l), a, b, none] ∧ Ex H1 H2) ⟨_, _, rfl, Ex.refl H1⟩ (fun _ _ H2 _ p => ex_t p.choose_spec.choose_spec.2 (ex_t e1 hl)) (fun i x2 σ H2 H3 hi p y => absurd hi (Nat.not_lt_zero _)) fun σ H2 p => ?_⟩⟩
      obtain ⟨a, b, rfl, e2⟩ := p
      have e02 := e1.trans e2
      refine ⟨_, rfl, l, rfl, .inr ⟨[], ex_t e02 hl, fun D hD => dc_it walk_tup (fun i H3 => H3 = upd H2 D (.dT [])) rfl (fun i H3 _ p => by rw [p]; exact ex_t (e02.trans (Ex.new hD)) hl) (fun i x H3 H4 hi p y => absurd hi (Nat.not_lt_zero _)) fun H3 p => ?_⟩⟩
      subst p
      refine ⟨_, rfl, D, [], rfl, .inl upd_same, fun p bs hp hk => ?_⟩
      have e4 : Ex H (upd (upd H2 D (.dT [])) p (.lst (bs.map V.ref))) := (e02.trans (Ex.new hD)).trans (Ex.new hp)
      refine ⟨ht.ext e4, p, [], rfl, ⟨_, upd_same, keysW (ds := []) (by cases hk; exact .nil)⟩, by decide, fun r H5 x5 t5 hr hL => ?_⟩
      have o4 : Ok (Z0 TT) (upd (upd H2 D (.dT [])) p (.lst (bs.map V.ref))) := ⟨ht.ext e4, fun _ z => z.elim⟩
      have r4 := R.of (Z := Z0 TT) ⟨ht, fun _ z => z.elim⟩ e4
      rw [List.mergeSort_nil] at hL
      exact q _ H5 (r4.fr (fr_none hr)) (r4.trans (Rm.R.lamP o4 hmT x5 t5)) hL
    obtain ⟨v, rfl, ht, h⟩ := h
    rcases h with ⟨t, hty, hk, x⟩ | ⟨l, us, bs, rfl, hl, hz, hp, x, q⟩
    · exact q_when (b := !false) (et_not (et_B (ev_isList (ev_var rfl) hty hk))) (fun _ H1 e1 => rz_ex e1 x) (fun z => by cases z)
    obtain ⟨t, hty, hk⟩ : ∃ t, TyX K H (.ref l) (.type t) ∧ PySem.W.kitAny K (.type t) [.type "list", .type "tuple"] = some true := by
      rcases hl with h1 | h1
      · exact ⟨"list", .base (.lst h1), rfl⟩
      · exact ⟨"tuple", tyx_tup (SqT.of h1), rfl⟩
    refine q_when (b := !true) (et_not (et_B (ev_isList (ev_var rfl) hty hk))) (fun z => by cases z) fun _ H1 e1 => ?_
    have done : (∀ j, j < us.length → bs[j]? = some true) → ∀ b ∈ bs, b = true := fun h b hb => by
      obtain ⟨i, hi, rfl⟩ := List.getElem_of_mem hb
      have z := h i (by rw [Paired.length hp]; exact hi)
      rw [List.getElem?_eq_getElem hi] at z
      exact Option.some.inj z
    have fin : ∀ a b H2, Ex H H2 → (∀ b ∈ bs, b = true) → tSeq (tAsg (tDcT (iSeqS K (tVar 0)) (gName 2) (tVar 2) (tC (V.bl true)) [2]) (gName 3)) (tRet (tSortRow K TT P0 (tCB (fun xs H Q => ∃ d kvs, xs = [V.ref d] ∧ Rd H d (HO.dT kvs) ∧ ∀ (p : Addr) (bs : List Addr), H p = none → IsKeys H kvs bs → Q (V.ref p) (upd H p (HO.lst (List.map V.ref bs)))) (tCons (tVar 3) tNil)))) { nx := fun _ H' => Q .non H', rt := Q } [some (.ref l), a, b, none] H2 := fun a b H2 e2 all => by
      obtain ⟨ws, hws, q⟩ := q all
      have lz := Paired.length hws
      have sw : LW K H2 l ws ∨ TW K H2 l ws := hl.imp (fun h => ⟨us, e2 _ _ h, paired_mono (fun _ _ r => wd_mono e2 r) hws⟩) fun h => ⟨us, e2 _ _ h, paired_mono (fun _ _ r => wd_mono e2 r) hws⟩
      exact q_asgDc (K := K) (ws := ws) (i := 3) (j := 2) (σ := [some (.ref l), a, b, none]) (esw_either (ev_var rfl) sw) (by omega) (fun _ => rfl) (fun _ => rfl) fun D H3 hD e3 hd => ⟨_, rfl, D, dk (uniq ws), rfl, .inl hd, fun p bs hp hk => by
        have e4 : Ex H (upd H3 p (.lst (bs.map V.ref))) := (e2.trans e3).trans (Ex.new hp)
        have le := uniq_len ws
        refine ⟨ht.ext e4, p, uniq ws, rfl, ⟨_, upd_same, paired_mono (fun _ _ r => wd_mono (Ex.new hp) r) (keysW hk)⟩, by omega, fun r H5 x5 t5 hr hL => ?_⟩
        have o4 : Ok (Z0 TT) (upd H3 p (.lst (bs.map V.ref))) := ⟨ht.ext e4, fun _ z => z.elim⟩
        have r4 := R.of (Z := Z0 TT) ⟨ht, fun _ z => z.elim⟩ e4
        rw [sort_words (uniq_nodup ws) fun u => uniq_mem] at hL
        exact q _ H5 (r4.fr (fr_none hr)) (r4.trans (Rm.R.lamP o4 hmT x5 t5)) hL⟩
    rcases hl with h1 | h1
    · refine ⟨_, rfl, l, rfl, .inl ⟨us, SqL.of (e1 _ _ h1), for_it walk_enum (fun i σ H2 => ∃ a b, σ = [some (.ref l), a, b, none] ∧ Ex H1 H2 ∧ ∀ j, j < i → bs[j]? = some true) ⟨_, _, rfl, Ex.refl H1, fun j z => absurd z (Nat.not_lt_zero _)⟩ (fun _ _ H2 _ p => ex_l p.choose_spec.choose_spec.2.1 (SqL.of (e1 _ _ h1))) (fun i x2 σ H2 H3 hi p y => ?_) fun σ H2 p => ?_⟩⟩
      · obtain ⟨a, b, rfl, e2, pr⟩ := p
        obtain ⟨T, xi, xv, rfl, hT, rfl, hi1, hv1⟩ := y
        obtain ⟨c, hc, hb⟩ := paired_at hp hv1
        have e3 : Ex H1 (upd H2 T (.tup [xi, xv])) := e2.trans (Ex.new hT)
        obtain rfl : xi = .int (i : Int) := (Option.some.inj hi1).symm
        refine ⟨T, _, rfl, SqT.of upd_same, rfl, _, _, rfl, _, _, rfl, rfl, ?_⟩
        refine s_when (b := !c) (et_not (et_B (ev_word (ev_var rfl) (wbv_mono (e1.trans e3) hb)))) (fun z H5 e5 => ⟨_, rfl, rz_ex ((e1.trans e3).trans e5) (x i (by cases c <;> simp_all) pr)⟩) fun z H5 e5 => ⟨_, _, rfl, e3.trans e5, fun j hj => ?_⟩
        by_cases q : j < i
        · exact pr j q
        · obtain rfl : j = i := by omega
          cases c <;> simp_all
      · obtain ⟨a, b, rfl, e2, pr⟩ := p
        exact fin a b H2 (e1.trans e2) (done pr)
    · refine ⟨_, rfl, l, rfl, .inr ⟨us, SqT.of (e1 _ _ h1), for_it walkEnumT (fun i σ H2 => ∃ a b, σ = [some (.ref l), a, b, none] ∧ Ex H1 H2 ∧ ∀ j, j < i → bs[j]? = some true) ⟨_, _, rfl, Ex.refl H1, fun j z => absurd z (Nat.not_lt_zero _)⟩ (fun _ _ H2 _ p => ex_t p.choose_spec.choose_spec.2.1 (SqT.of (e1 _ _ h1))) (fun i x2 σ H2 H3 hi p y => ?_) fun σ H2 p => ?_⟩⟩
      · obtain ⟨a, b, rfl, e2, pr⟩ := p
        obtain ⟨T, xi, xv, rfl, hT, rfl, hi1, hv1⟩ := y
        obtain ⟨c, hc, hb⟩ := paired_at hp hv1
        have e3 : Ex H1 (upd H2 T (.tup [xi, xv])) := e2.trans (Ex.new hT)
        obtain rfl : xi = .int (i : Int) := (Option.some.inj hi1).symm
        refine ⟨T, _, rfl, SqT.of upd_same, rfl, _, _, rfl, _, _, rfl, rfl, ?_⟩
        refine s_when (b := !c) (et_not (et_B (ev_word (ev_var rfl) (wbv_mono (e1.trans e3) hb)))) (fun z H5 e5 => ⟨_, rfl, rz_ex ((e1.trans e3).trans e5) (x i (by cases c <;> simp_all) pr)⟩) fun z H5 e5 => ⟨_, _, rfl, e3.trans e5, fun j hj => ?_⟩
        by_cases q : j < i
        · exact pr j q
        · obtain rfl : j = i := by omega
          cases c <;> simp_all
      · obtain ⟨a, b, rfl, e2, pr⟩ := p
        exact fin a b H2 (e1.trans e2) (done pr)

end
end K21
namespace Tk
open PySem PySem.Spec PyProof.Rows L2 Lw Evl TL
theorem join_len (cs : List Nat) : (Str.join (Str.ofString "") (cs.map sgn)).length = cs.length := by
  have e : ∀ cs : List Nat, joinL [] ((cs.map sgn).map tl) = cs := fun cs => by
    induction cs with
    | nil => rfl
    | cons c r ih =>
      cases r with
      | nil => rfl
      | cons d r =>
        show [c] ++ ([] ++ joinL [] (([d] : List Nat) :: (r.map sgn).map tl)) = _
        have ih2 : joinL [] (([d] : List Nat) :: (r.map sgn).map tl) = d :: r := ih
        rw [ih2]
        rfl
  have z : tl (Str.join (Str.ofString "") (cs.map sgn)) = cs := by rw [tl_join, show tl (Str.ofString "") = [] from rfl, e]
  rw [len_tl, z]
theorem near_len {s y : Str} (h : s.length ≤ 5) (hy : y ∈ near s) : y.length ≤ 6 := by
  obtain ⟨i, hi, rfl⟩ := List.mem_map.mp hy
  have e : (cutS s none (some 7)).cps.toList = s.cps.toList.take 7 := cutS_take s 7
  have l1 : (sgn (97 + i)).length = 1 := rfl
  rw [len_app, l1, len_cps, e, List.length_take, ← len_cps]
  omega
end Tk
namespace K21
open PySem PySem.Spec PyProof.Rows L2 Lw Evl LamX Tk
open Rm (R Ok Z0 Zp Fr fr_none fr_ne nt_lst nt_tup)
open LwX (XC XF)
theorem ix_seqK {X : Cx} {K : PySem.W.Frag} (h : X.K = K := by rfl) : IxR X (rIx K) := h ▸ ix_seq
section
variable {P : Program} {w : World} {K : PySem.W.Frag} {mg : Str → Option Value} {base : Heap}
/-- one of a list, or a sign of a text -/
def spPickX (K : PySem.W.Frag) : Sp := fun vs H Q _ => (∃ (p l : Addr) (xs : List V), vs = [.ref p, .ref l] ∧ Po p H ∧ H l = some (.lst xs) ∧ l ≠ p ∧ 0 < xs.length ∧ xs.length < 100000 ∧ ∀ (v : V) (H' : Hp), v ∈ xs → Xp p H H' → Q v H') ∨
  ∃ (p : Addr) (z : Str), vs = [.ref p, .str z] ∧ Po p H ∧ 0 < z.length ∧ z.length ≤ 1000 ∧ ∀ (c : Nat) (H' : Hp), c ∈ z.cps.toList → Xp p H H' → Q (.str (sgn c)) H'
abbrev s_pick : Stmt := topS 31
theorem sc_pick : FnScope ["_law_pot_here", "_law_some"] ["_law_pot_here", "_law_some"] (defScope s_pick) := ⟨rfl, rfl, rfl, by decide +kernel, rfl, by decide +kernel, by decide +kernel⟩
theorem ok_pick {f : Addr} {fd : FuncData} (F : FunD K "_law_pick" "_law_pick" (defArgs s_pick) (defBody s_pick) (defScope s_pick) [] [] f fd) (T : Tx P w K mg base) (d_law_draw : Cal P w K mg base CX0 1 "_law_draw" ["_law_pot_here", "_law_sides"] spDraw) : FnG P w K mg base CX0 2 f fd ["_law_pot_here", "_law_some"] (spPickX K) := by
  refine fnG F sc_pick (fun vs H Q E h => ?_) (fun cdv A outer s H vs Q E gd hr h => ?_)
  · exact h.elim (fun ⟨_, _, _, e, _⟩ => e ▸ rfl) (fun ⟨_, _, e, _⟩ => e ▸ rfl)
  · skip
    refine ⟨_, PSs.nox ((pss_one (ps_ret (pe_ix (ix_seqK (K := K)) (pv 1) (pe_cal d_law_draw gd hr (pa_cons (pv 0) (pa_cons (pe_callB (callR_or (call_lenK (K := K)) call_len_str) (by rfl) T.m_len (by decide +kernel) (pa_cons (pv 1) pa_nil)) pa_nil))) (fun _ _ => rfl))))), ?_⟩
    rcases h with ⟨p, l, xs, rfl, hp, hl, hne, h0, h1, q⟩ | ⟨p, z, rfl, hp, h0, h1, q⟩
    · refine ⟨_, rfl, _, rfl, _, rfl, .inl ⟨l, _, rfl, .inl (SqL.of hl), p, _, rfl, hp, by omega, by omega, fun d H' d0 d1 x => ?_⟩⟩
      obtain ⟨v, a1, a2⟩ := atI_mem d0 d1
      exact .inl ⟨l, _, _, v, rfl, rfl, SqL.of (x.1 _ _ hne hl), a1, q v H' a2 x⟩
    · refine ⟨_, rfl, _, rfl, _, rfl, .inr ⟨z, rfl, sz_of (by omega), p, _, rfl, hp, by omega, by omega, fun d H' d0 d1 x => ?_⟩⟩
      obtain ⟨n, rfl⟩ := Int.eq_ofNat_of_zero_le d0
      have hn : n < z.cps.toList.length := by
        have := len_cps z
        omega
      exact .inr (.inr ⟨z, _, z.cps.toList[n], rfl, rfl, sz_of (by omega), atI_nat (List.getElem?_eq_getElem hn), q _ H' (List.getElem_mem hn) x⟩)

def ABC : Str := Str.ofString "abcdefghijklmnopqrstuvwxyz"
theorem abc_mem {c : Nat} (h : c ∈ ABC.cps.toList) : 97 ≤ c ∧ c ≤ 122 := by
  have e : ABC.cps.toList = (List.range 26).map (97 + ·) := by decide +kernel
  rw [e] at h
  obtain ⟨k, hk, rfl⟩ := List.mem_map.mp h
  have := List.mem_range.mp hk
  omega
/-- some different letters -/
def spTags : Sp := fun vs H Q _ => ∃ (T : List (Addr × Str)) (p : Addr) (n : Nat), vs = [.ref p, .int (n : Int)] ∧ Ok (Zp T p) H ∧ 1 ≤ n ∧ n ≤ 3 ∧
  ∀ (l : Addr) (xs : List Str) (H' : Hp), Fr H l → R (Zp T p) H H' → H' l = some (.lst (xs.map V.str)) → xs.length = n → (∀ x ∈ xs, isL x = true) → (∀ x ∈ xs, x.length ≤ 6) → xs.Nodup → Q (.ref l) H'
abbrev s_tags : Stmt := topS 32
theorem sc_tags : FnScope ["_law_pot_here", "_law_amount", "_law_found", "_law_signs", "_law_turn", "_law_tag", "_law_at", "_law_near_here", "_law_sign", "_law_new"] ["_law_pot_here", "_law_amount"] (defScope s_tags) := ⟨rfl, rfl, rfl, by decide +kernel, rfl, by decide +kernel, by decide +kernel⟩
theorem ok_tags {f : Addr} {fd : FuncData} (F : FunD K "_law_tags" "_law_tags" (defArgs s_tags) (defBody s_tags) (defScope s_tags) [] [] f fd) (T : Tx P w K mg base) (d_law_draw : Cal P w K mg base CX0 1 "_law_draw" ["_law_pot_here", "_law_sides"] spDraw) (d_law_pick : Cal P w K mg base CX0 2 "_law_pick" ["_law_pot_here", "_law_some"] (spPickX K)) : FnG P w K mg base CX0 3 f fd ["_law_pot_here", "_law_amount"] spTags := by
  refine fnG F sc_tags (fun vs H Q E h => ?_) (fun cdv A outer s H vs Q E gd hr h => ?_)
  · obtain ⟨T, p, n, rfl, _⟩ := h
    rfl
  · skip
    refine ⟨_, PSs.nox ((pss_cons (ps_asg (pe_tup (pa_cons (pe_lst pa_nil) (pa_cons pe_str pa_nil))) (pg_tup (n := 2) rfl (pgs_cons (pg_name (i := 2) sc_tags.nd rfl (by first | exact Or.inl rfl | exact Or.inr rfl)) (pgs_cons (pg_name (i := 3) sc_tags.nd rfl (by first | exact Or.inl rfl | exact Or.inr rfl)) pgs_nil))))
      (pss_cons (ps_for PassesOwn.never rfl (pi_range1 (by rfl) T.m_range (pa_cons (pv 1) pa_nil)) (pg_name (i := 4) sc_tags.nd rfl (by first | exact Or.inl rfl | exact Or.inr rfl)) (Evl.pss_cut (ps_set (i := 5) sc_tags.nd rfl (by first | exact Or.inl rfl | exact Or.inr rfl) (pe_joinK (K := K) pe_str (pe_lc (own := [("_law_at", 6)]) (g := gName 6) (tt := tYes) rfl sc_tags.nd (pi_range1 (by rfl) T.m_range (pa_cons (pe_op op_add pe_int (pe_op op_mul (pe_cal d_law_draw gd hr (pa_cons (pv 0) (pa_cons pe_int pa_nil))) (pe_cal d_law_draw gd hr (pa_cons (pv 0) (pa_cons pe_int pa_nil))))) pa_nil)) (blkOk_by (own := [("_law_at", 6)]) (N := ["_law_pot_here", "_law_amount", "_law_found", "_law_signs", "_law_turn", "_law_tag", "_law_at", "_law_near_here", "_law_sign", "_law_new"]) (sc := defScope s_tags) (by decide +kernel)) (fun _ _ _ _ _ => pg_name (i := 6) sc_tags.nd rfl (by first | exact Or.inl rfl | exact Or.inr rfl)) (fun _ _ _ _ _ => pts_nil) (fun _ _ _ _ _ => (pe_cal d_law_pick gd hr (pa_cons (pv 0) (pa_cons (pv 3) pa_nil)))))))
      (pss_cons (ps_set (i := 7) sc_tags.nd rfl (by first | exact Or.inl rfl | exact Or.inr rfl) (pe_op op_cat (pe_lst (pa_cons (pv 5) pa_nil)) (pe_lc (own := [("_law_sign", 8)]) (g := gName 8) (tt := tYes) rfl sc_tags.nd (pi_str (pv 3)) (blkOk_by (own := [("_law_sign", 8)]) (N := ["_law_pot_here", "_law_amount", "_law_found", "_law_signs", "_law_turn", "_law_tag", "_law_at", "_law_near_here", "_law_sign", "_law_new"]) (sc := defScope s_tags) (by decide +kernel)) (fun _ _ _ _ _ => pg_name (i := 8) sc_tags.nd rfl (by first | exact Or.inl rfl | exact Or.inr rfl)) (fun _ _ _ _ _ => pts_nil) (fun _ _ _ _ _ => (pe_op op_add_str (pe_slice sl_str (pv 5) po_none (po_some pe_int)) (pv 8))))))
      (pss_one (ps_expr (pe_bm PySem.F.plainAttrs_list PySem.F.slot_list_append PySem.F.type_list_append mt_append (pv 2) (pa_cons (pe_ix (ix_listK (K := K)) (pe_lc (own := [("_law_new", 9)]) (g := gName 9) rfl sc_tags.nd (pi_listK (K := K) (pv 7)) (blkOk_by (own := [("_law_new", 9)]) (N := ["_law_pot_here", "_law_amount", "_law_found", "_law_signs", "_law_turn", "_law_tag", "_law_at", "_law_near_here", "_law_sign", "_law_new"]) (sc := defScope s_tags) (by decide +kernel)) (fun _ _ _ _ _ => pg_name (i := 9) sc_tags.nd rfl (by first | exact Or.inl rfl | exact Or.inr rfl)) (fun _ _ _ _ _ => (pts_one (pt_cmpR (op_notInK (K := K)) (pv 9) (pv 2) (by rfl)))) (fun _ _ _ _ _ => (pv 9))) pe_int (fun _ _ => rfl)) pa_nil)))))))
      (pss_one (ps_ret (pe_callBK (cr_sortStr (K := K) hr.units) (by rfl) T.m_sorted (by decide +kernel) (pa_cons (pv 2) pa_nil) (pk_cons (pe_bltn (v := .ty "str") (by rfl) T.m_str (by decide +kernel) rfl) pk_nil))))))), ?_⟩
    obtain ⟨T, p, n, rfl, o, n1, n3, q⟩ := h
    have po := o.2 p rfl
    refine ⟨Nat.zero_le _, fun l hl => ⟨(by show 2 ≤ sizeLine; decide), fun t ht => ⟨t, _, rfl, SqT.of upd_same, rfl, _, _, rfl, _, _, rfl, rfl, ?_⟩⟩⟩
    have fl : Fr H l := fr_none hl
    have nl : ¬ (Zp T p).M l := o.fresh fl
    have r1 : R (Zp T p) H (upd (upd H l (.lst [])) t (.tup [.ref l, .str ABC])) := ((R.refl o).new hl).new ht
    have hl1 : (upd (upd H l (.lst [])) t (.tup [.ref l, .str ABC])) l = some (.lst []) := by
      rw [upd_ne (ne_of_none upd_same ht)]
      exact upd_same
    refine ⟨_, rfl, _, rfl, by omega, by omega, for_range (lo := 0) (n := ((n : Int)).toNat) (fun i σ H' => ∃ a b c d e f, σ = [some (.ref p), some (.int (n : Int)), some (.ref l), some (.str ABC), a, b, c, d, e, f] ∧ R (Zp T p) H H' ∧ ∃ xs : List Str, H' l = some (.lst (xs.map V.str)) ∧ xs.length = i ∧ (∀ x ∈ xs, isL x = true ∧ x.length ≤ 6) ∧ xs.Nodup) ⟨_, _, _, _, _, _, rfl, r1, [], hl1, rfl, fun _ z => absurd z List.not_mem_nil, List.nodup_nil⟩ (fun i σ H1 hi hP => ?_) (fun σ H1 hP => ?_)⟩
    · obtain ⟨a, b, c, d, e, f, rfl, r, xs, hx, hn, hL, hN⟩ := hP
      refine ⟨fun σ' H2 => ∃ (sg : Str) (a b c d e : Option V), σ' = [some (.ref p), some (.int (n : Int)), some (.ref l), some (.str ABC), a, some (.str sg), b, c, d, e] ∧ (isL sg = true ∧ sg.length ≤ 5) ∧ R (Zp T p) H H2 ∧ H2 l = some (.lst (xs.map V.str)), ?_, ?_⟩
      · refine ⟨⟨_, rfl⟩, _, rfl, p, 3, rfl, r.b.2 p rfl, by decide, by decide, fun d1 H2 a0 a1 x2 => ⟨_, rfl, p, 3, rfl, x2.2, by decide, by decide, fun d2 H3 b0 b1 x3 => ?_⟩⟩
        have hm : 0 ≤ d1 * d2 ∧ d1 * d2 ≤ 4 := by
          rcases (by omega : d1 = 0 ∨ d1 = 1 ∨ d1 = 2) with rfl | rfl | rfl <;> omega
        refine ⟨_, _, rfl, rfl, .inl ⟨by omega, by omega⟩, _, _, rfl, rfl, _, rfl, by omega, by omega, fun D hD => ?_⟩
        have r2 := r.trans (Rm.R.xp r.b.1 (r.b.2 p rfl) x2)
        have r3 := r2.trans (Rm.R.xp r2.b.1 (r2.b.2 p rfl) x3)
        have hx3 := (Rm.R.xp r2.b.1 (r2.b.2 p rfl) x3).lst ((Rm.R.xp r.b.1 (r.b.2 p rfl) x2).lst hx nl) nl
        refine lcD_R1 (Z := Zp T p) (B := fun _ v => ∃ c, v = .str (sgn c) ∧ 97 ≤ c ∧ c ≤ 122) r3.b hD (by omega) (fun _ _ _ _ b => b) (fun _ => rfl) (fun i H4 hi r4 Q q => ?_) (fun us H4 r4 hu hlen hb => ?_)
        · exact ⟨_, rfl, _, rfl, .inr ⟨p, ABC, rfl, r4.b.2 p rfl, by decide, by decide, fun c H5 hc x5 => q _ H5 (Rm.R.xp r4.b.1 (r4.b.2 p rfl) x5) ⟨c, rfl, abc_mem hc⟩⟩⟩
        · obtain ⟨cs, rfl, hcl, hcs⟩ := sgns_of hb
          have hsum : ((cs.map sgn).map (·.length)).sum + (cs.map sgn).length * (Str.ofString "").length ≤ 16777216 := by
            rw [sum_sgn, List.length_map, show (Str.ofString "").length = 0 from rfl]
            omega
          refine ⟨_, D, cs.map sgn, rfl, rfl, .inl (SqL.of hu), hsum, ?_⟩
          rw [TL.join_eq]
          exact ⟨_, _, _, _, _, _, rfl, ⟨isL_join hcs (by omega) (by omega), Nat.le_trans (Nat.le_of_eq (join_len cs)) (by omega)⟩, r3.trans r4, r4.lst hx3 nl⟩
      · rintro σ' H2 ⟨sg, a, b, c, d, e, rfl, hsg, r2, hx2⟩
        have eN : EvL (tOp rCat (tLst (tCons (tVar 5) tNil)) (tLc (iStr (tVar 3)) (gName 8) tYes (tOp (fun x y H Q => ∃ i j, x = V.str i ∧ y = V.str j ∧ i.length + j.length ≤ sizeLine ∧ Q (V.str (i ++ j)) H) (tSl rSlS (tVar 5) tNoPart (tPart (tC (V.int 7)))) (tVar 8)) [8])) [some (.ref p), some (.int (n : Int)), some (.ref l), some (.str ABC), a, some (.str sg), b, c, d, e] H2 ((sg :: near sg).map V.str) := by
          have z := el_cat (el_lst (ea_cons (σ := [some (.ref p), some (.int (n : Int)), some (.ref l), some (.str ABC), a, some (.str sg), b, c, d, e]) (H := H2) (ev_var (i := 5) rfl) ea_nil) (by show 1 ≤ 100000; decide)) (el_lcS (z := ABC) (j := 8) (vs := [8]) (te := tOp (fun x y H Q => ∃ i j, x = V.str i ∧ y = V.str j ∧ i.length + j.length ≤ sizeLine ∧ Q (V.str (i ++ j)) H) (tSl rSlS (tVar 5) tNoPart (tPart (tC (V.int 7)))) (tVar 8)) (fun i => .str (cutS sg none (some 7) ++ sgn (97 + i))) (ev_var (i := 3) rfl) (by decide +kernel) (fun _ => rfl) (fun i c H3 e3 hc => ?_)) (by
            rw [List.length_map, List.length_range]
            show 1 + ABC.cps.size ≤ 100000
            decide +kernel)
          · exact z
          · have hc2 : c = 97 + i := by
              have e : ABC.cps.toList = (List.range 26).map (97 + ·) := by decide +kernel
              have z : ABC.cps.toList[i]? = some c := by rw [Array.getElem?_toList]; exact hc
              rw [e, List.getElem?_map] at z
              cases q : (List.range 26)[i]? with
              | none =>
                rw [q] at z
                cases z
              | some k =>
                rw [q] at z
                have := (List.getElem?_eq_some_iff.mp q).2
                rw [List.getElem_range] at this
                have z : 97 + k = c := Option.some.inj z
                omega
            subst hc2
            have hl8 := isL_len hsg.1
            exact ev_addX (ev_cutS (ev_var rfl) eo_none (eo_some ev_c) (by omega)) (ev_var rfl) (by
              have l7 : (cutS sg none (some 7)).length ≤ 8 := by
                rw [len_cps, show (cutS sg none (some 7)).cps.toList = _ from cutS_take sg 7, List.length_take, ← len_cps]
                omega
              have l1 : (⟨#[97 + i]⟩ : Str).length = 1 := rfl
              show (cutS sg none (some 7)).length + (⟨#[97 + i]⟩ : Str).length ≤ 1000
              omega)
        have hi3 : xs.length ≤ 2 := by omega
        obtain ⟨y, hy, hny⟩ := fresh_one (m := xs) (near_nodup sg) (by
          have : (near sg).length = 26 := by
            unfold near
            rw [List.length_map, List.length_range]
          omega)
        have hF : y ∈ (sg :: near sg).filter fun x => !decide (x ∈ xs) := List.mem_filter.mpr ⟨List.mem_cons_of_mem _ hy, by simp [hny]⟩
        have hall : ∀ z ∈ (sg :: near sg).filter (fun x => !decide (x ∈ xs)), (isL z = true ∧ z.length ≤ 6) ∧ z ∉ xs := fun z hz => by
          obtain ⟨z1, z2⟩ := List.mem_filter.mp hz
          refine ⟨?_, by simpa using z2⟩
          rcases List.mem_cons.mp z1 with rfl | z1
          · exact ⟨hsg.1, by have := hsg.2; omega⟩
          · exact ⟨near_isL hsg.1 z1, near_len hsg.2 z1⟩
        refine q_asgL eN fun m H3 hm e3 hN3 => ?_
        have r3 : R (Zp T p) H H3 := r2.ex e3
        have hx3 := e3 _ _ hx2
        have hzN : (sg :: near sg).length ≤ 40000 := by
          show (near sg).length + 1 ≤ 40000
          unfold near
          rw [List.length_map, List.length_range]
          decide
        have eF := el_notin (K := K) (σ := [some (.ref p), some (.int (n : Int)), some (.ref l), some (.str ABC), a, some (.str sg), b, some (.ref m), d, e]) (H := H3) (ta := tVar 7) (tb := tVar 2) (j := 9) (vs := [9]) (xs := sg :: near sg) (ys := xs) (ev_var rfl) (fun x H4 e4 => ev_var rfl) (SqL.of hN3) (SqL.of hx3) hzN (fun _ => rfl) (fun _ => rfl)
        generalize hG : ((sg :: near sg).filter fun x => !decide (x ∈ xs)) = G at hF hall eF
        cases G with
        | nil => cases hF
        | cons y0 rest =>
          obtain ⟨z1, z2⟩ := hall y0 (List.mem_cons_self ..)
          refine s_app (K := K) hx3 (ev_var rfl) (ev_opL1 eF (fun _ _ => ev_c) (fun q H4 hq e4 => rv_ixL (sq_of hq) (show atI ((y0 :: rest).map V.str) ((0 : Nat) : Int) = some (V.str y0) from atI_nat rfl))) (by rw [List.length_map]; omega) fun H4 e4 => ⟨_, _, _, _, _, _, rfl, (r3.ex e4).mut fl (e4 _ _ hx3) trivial, xs ++ [y0], ?_, by rw [List.length_append, hn]; rfl, fun z hz => ?_, ?_⟩
          · rw [upd_same, List.map_append]
            rfl
          · rcases List.mem_append.mp hz with hz | hz
            · exact hL z hz
            · rw [List.mem_singleton.mp hz]
              exact z1
          · exact List.nodup_append.mpr ⟨hN, List.pairwise_singleton _ _, fun u hu v hv e => z2 (by rw [← List.mem_singleton.mp hv, ← e]; exact hu)⟩
    · obtain ⟨a, b, c, d, e, f, rfl, r, xs, hx, hn, hL, hN⟩ := hP
      have hn2 : ((n : Int)).toNat = n := by omega
      refine ⟨_, rfl, l, xs, rfl, rfl, SqL.of hx, by omega, fun r0 h0 => ?_⟩
      have pm := List.mergeSort_perm xs (PySem.W.dataLe false PyData.str)
      exact q r0 _ _ (r.fr (fr_none h0)) (r.new h0) upd_same (by rw [pm.length_eq]; omega) (fun x hx => (hL x (pm.mem_iff.mp hx)).1) (fun x hx => (hL x (pm.mem_iff.mp hx)).2) (pm.nodup_iff.mpr hN)

end
end K21
namespace K21
open PySem PySem.Spec PyProof.Rows L2 Lw Evl LamX Tk
open Rm (R Ok Z0 Zp Fr fr_none fr_ne nt_lst nt_tup)
open LwX (XC XF)
section
variable {P : Program} {w : World} {K : PySem.W.Frag} {mg : Str → Option Value} {base : Heap}
/-- all words over some letters, the shorter ones first -/
def spAll (K : PySem.W.Frag) : Sp := fun vs H Q _ => ∃ (l : Addr) (xs : List Str) (n : Nat), vs = [.ref l, .int (n : Int)] ∧ H l = some (.lst (xs.map V.str)) ∧ xs.length ≤ 3 ∧ n ≤ 3 ∧
  ∀ r H', H r = none → Ex H H' → LW K H' r (allW xs n) → Q (.ref r) H'
abbrev s_all : Stmt := topS 33
theorem sc_all : FnScope ["_law_tags_here", "_law_most", "_law_found", "_law_last", "_law_turn", "_law_longer", "_law_verse", "_law_tag"] ["_law_tags_here", "_law_most"] (defScope s_all) := ⟨rfl, rfl, rfl, by decide +kernel, rfl, by decide +kernel, by decide +kernel⟩
theorem ok_all {f : Addr} {fd : FuncData} (F : FunD K "_law_all" "_law_all" (defArgs s_all) (defBody s_all) (defScope s_all) [] [] f fd) (T : Tx P w K mg base)  : FnG P w K mg base CX0 1 f fd ["_law_tags_here", "_law_most"] (spAll K) := by
  refine fnG F sc_all (fun vs H Q E h => ?_) (fun cdv A outer s H vs Q E gd hr h => ?_)
  · obtain ⟨l, xs, n, rfl, _⟩ := h
    rfl
  · skip
    refine ⟨_, PSs.nox ((pss_cons (ps_par (i := 2) (j := 3) (by rfl) sc_all.nd rfl rfl (by decide) rfl rfl (pa_cons (pe_lst (pa_cons (pe_tup pa_nil) pa_nil)) (pa_cons (pe_lst (pa_cons (pe_tup pa_nil) pa_nil)) pa_nil)) (by rfl))
      (pss_cons (ps_for PassesOwn.never rfl (pi_range1 (by rfl) T.m_range (pa_cons (pv 1) pa_nil)) (pg_name (i := 4) sc_all.nd rfl (by first | exact Or.inl rfl | exact Or.inr rfl)) (pss_cons (ps_set (i := 5) sc_all.nd rfl (by first | exact Or.inl rfl | exact Or.inr rfl) (pe_lst pa_nil))
      (pss_cons (ps_for PassesOwn.never rfl (pi_listK (K := K) (pv 3)) (pg_name (i := 6) sc_all.nd rfl (by first | exact Or.inl rfl | exact Or.inr rfl)) (pss_one (ps_expr (pe_bm PySem.F.plainAttrs_list PySem.F.slot_list_extend PySem.F.type_list_extend mt_extend (pv 5) (pa_cons (pe_lc (own := [("_law_tag", 7)]) (g := gName 7) (tt := tYes) rfl sc_all.nd (pi_listK (K := K) (pv 0)) (blkOk_by (own := [("_law_tag", 7)]) (N := ["_law_tags_here", "_law_most", "_law_found", "_law_last", "_law_turn", "_law_longer", "_law_verse", "_law_tag"]) (sc := defScope s_all) (by decide +kernel)) (fun _ _ _ _ _ => pg_name (i := 7) sc_all.nd rfl (by first | exact Or.inl rfl | exact Or.inr rfl)) (fun _ _ _ _ _ => pts_nil) (fun _ _ _ _ _ => (pe_op (op_catAK (K := K)) (pv 6) (pe_tup (pa_cons (pv 7) pa_nil))))) pa_nil)))))
      (pss_cons (ps_set (i := 3) sc_all.nd rfl (by first | exact Or.inl rfl | exact Or.inr rfl) (pv 5))
      (pss_one (ps_set (i := 2) sc_all.nd rfl (by first | exact Or.inl rfl | exact Or.inr rfl) (pe_op op_cat (pv 2) (pv 3))))))))
      (pss_one (ps_ret (pv 2)))))), ?_⟩
    obtain ⟨l, xs, n, rfl, hl, hx3, hn3, q⟩ := h
    have e0 : ∀ {σ : L2.St} {H : Hp}, EvLW K (tLst (tCons (tTup tNil) tNil)) σ H [[]] := elw_lst (eaw_cons (ew_tup (ys := []) ea_nil (Nat.zero_le _)) eaw_nil) (by show 1 ≤ 100000; decide)
    refine q_par (e0 H (Ex.refl H) _ fun f0 H1 hf0 e1 hF0 => e0 H1 (Ex.refl H1) _ fun g0 H2 hg0 e2 hG0 => ?_)
    have pw : ∀ k, k ≤ 3 → (lvW xs k).length ≤ 27 := fun k hk => by
      rw [lvW_len]
      have h1 : xs.length ^ k ≤ 3 ^ k := Nat.pow_le_pow_left hx3 k
      have h2 : 3 ^ k ≤ 3 ^ 3 := Nat.pow_le_pow_right (by decide) hk
      omega
    have aw : ∀ k, k ≤ 3 → (allW xs k).length ≤ 1 + 27 * k := fun k => by
      induction k with
      | zero => intro _; exact Nat.le_refl 1
      | succ k ih =>
        intro hk
        have h1 := ih (by omega)
        have h2 := pw (k + 1) hk
        rw [allW, List.length_append]
        omega
    refine ⟨_, rfl, _, rfl, by omega, by omega, for_range (lo := 0) (n := ((n : Int)).toNat) (fun i σ H' => ∃ f g a b c d, σ = [some (.ref l), some (.int (n : Int)), some (.ref f), some (.ref g), a, b, c, d] ∧ Ex H H' ∧ H f = none ∧ LW K H' f (allW xs i) ∧ LW K H' g (lvW xs i)) ⟨f0, g0, _, _, _, _, rfl, e1.trans e2, hf0, lw_mono e2 hF0, hG0⟩ (fun i σ H3 hi hP => ?_) (fun σ H3 hP => ?_)⟩
    · obtain ⟨f, g, a, b, c, d, rfl, e3, hf, hF, us, hu, hp⟩ := hP
      refine q_asgL (el_lst (vs := []) ea_nil (Nat.zero_le _)) fun lo H4 hlo e4 hL => ?_
      have hu4 := e4 _ _ hu
      have hp4 := paired_mono (fun _ _ r => wd_mono e4 r) hp
      have li := pw i (by omega)
      have lu : us.length = (lvW xs i).length := Paired.length hp
      refine q_forL (K := K) (ev_var rfl) (SqL.of hu4) (fun j σ' H' => ∃ b c, σ' = [some (.ref l), some (.int (n : Int)), some (.ref f), some (.ref g), some (.int ((0 : Int) + (i : Int))), some (.ref lo), b, c] ∧ Ex H3 H' ∧ Ex H3 H' ∧ ∃ vs, H' lo = some (.lst vs) ∧ Paired (Wd K H') vs (((lvW xs i).take j).flatMap fun w => xs.map fun x => w ++ [x])) (fun H5 e5 => ⟨_, _, rfl, e4.trans e5, e4.trans e5, [], e5 _ _ hL, by rw [List.take_zero]; exact .nil⟩) (fun j σ' H' _ p => ?_) (fun j x σ' H' hj p => ?_) (fun σ' H' p => ?_)
      · obtain ⟨_, _, _, e5, _⟩ := p
        exact SqL.of (e5 _ _ hu)
      · obtain ⟨b, c, rfl, e5, _, vs, hv, hpv⟩ := p
        obtain ⟨w, hw, rw_⟩ := paired_at hp hj
        have rw5 := wd_mono e5 rw_
        have hl5 := e5 _ _ (e3 _ _ hl)
        have hj2 := (List.getElem?_eq_some_iff.mp hw).1
        have fl : (((lvW xs i).take j).flatMap fun w => xs.map fun x => w ++ [x]).length ≤ 81 := by
          have key : ∀ ws : List (List Str), (ws.flatMap fun w => xs.map fun x => w ++ [x]).length ≤ 3 * ws.length := fun ws => by
            induction ws with
            | nil => exact Nat.le_refl 0
            | cons w ws ih =>
              rw [List.flatMap_cons, List.length_append, List.length_map, List.length_cons]
              omega
          have z := key ((lvW xs i).take j)
          rw [List.length_take] at z
          omega
        refine ⟨_, rfl, .inl ⟨rfl, _, SqL.of hv⟩, elw_LS (fun x => w ++ [x]) (ev_var rfl) (SqL.of hl5) (by omega) (fun _ => rfl) (fun x H6 e6 hx => ew_cat (ew_of (ev_var rfl) (wd_mono e6 rw5)) (ew_tup (ys := [x]) (ea_cons (ev_var rfl) ea_nil) (by show 1 ≤ 100000; decide)) (by
            have := mem_lvW.mp (List.mem_of_getElem? hw)
            show w.length + 1 ≤ _
            omega)) H' (Ex.refl H') _ fun m H6 hm e6 hM => ?_⟩
        obtain ⟨cs, hcs, hpc⟩ := hM
        have lv := Paired.length hpv
        have lc := Paired.length hpc
        rw [List.length_map] at lc
        have hv6 := e6 _ _ hv
        refine ⟨lo, m, vs, cs, rfl, rfl, hv6, hcs, sz_of (by omega), _, _, rfl, Ex.mut (e5.trans e6) hlo, Ex.mut (e5.trans e6) hlo, vs ++ cs, upd_same, ?_⟩
        have ts : (lvW xs i).take (j + 1) = (lvW xs i).take j ++ [w] := by
          rw [List.take_add_one, hw]
          rfl
        rw [ts, List.flatMap_append]
        refine paired_app (paired_mono (fun _ _ r => wd_upd hv6 (wd_mono e6 r)) hpv) ?_
        rw [List.flatMap_cons, List.flatMap_nil, List.append_nil]
        exact paired_mono (fun _ _ r => wd_upd hv6 r) hpc
      · obtain ⟨b, c, rfl, e5, _, vs, hv, hpv⟩ := p
        rw [lu, List.take_length] at hpv
        refine q_asg (v := .ref lo) (ev_var rfl) fun H6 e6 => ?_
        obtain ⟨fs, hfs, hpf⟩ := lw_mono (e5.trans e6) hF
        have lf := Paired.length hpf
        have lv := Paired.length hpv
        have al := aw i (by omega)
        have pl := pw (i + 1) (by omega)
        have hpv2 : Paired (Wd K H') vs (lvW xs (i + 1)) := hpv
        have lv2 := Paired.length hpv2
        refine ⟨_, rfl, _, rfl, f, lo, fs, vs, rfl, rfl, hfs, e6 _ _ hv, sz_of (by omega), fun t ht => ⟨t, lo, _, _, _, _, rfl, ((e3.trans e5).trans e6).trans (Ex.new ht), fresh_back ((e3.trans e5).trans e6) ht, ⟨fs ++ vs, upd_same, ?_⟩, ⟨vs, ?_, ?_⟩⟩⟩
        · rw [allW]
          exact paired_app (paired_mono (fun _ _ r => wd_mono (Ex.new ht) r) hpf) (paired_mono (fun _ _ r => wd_mono (e6.trans (Ex.new ht)) r) hpv2)
        · exact (e6.trans (Ex.new ht)) _ _ hv
        · exact paired_mono (fun _ _ r => wd_mono (e6.trans (Ex.new ht)) r) hpv2
    · obtain ⟨f, g, a, b, c, d, rfl, e3, hf, hF, _⟩ := hP
      have hn2 : ((n : Int)).toNat = n := by omega
      rw [hn2] at hF
      exact s_ret (ev_var rfl) fun H4 e4 => q f H4 hf (e3.trans e4) (lw_mono e4 hF)

/-- a row of one to three different words -/
def spVerses (K : PySem.W.Frag) : Sp := fun vs H Q _ => ∃ (T : List (Addr × Str)) (p l : Addr) (xs : List Str), vs = [.ref p, .ref l] ∧ Ok (Zp T p) H ∧ H l = some (.lst (xs.map V.str)) ∧ 1 ≤ xs.length ∧ xs.length ≤ 3 ∧ (∀ x ∈ xs, isL x = true) ∧ xs.Nodup ∧
  ∀ r ws H', Fr H r → R (Zp T p) H H' → LW K H' r ws → okWs ws → (∀ w ∈ ws, ∀ y ∈ w, y ∈ xs) → 1 ≤ ws.length → ws.length ≤ 3 → Q (.ref r) H'
abbrev s_verses : Stmt := topS 35
theorem sc_verses : FnScope ["_law_pot_here", "_law_tags_here", "_law_found", "_law_menu", "_law_turn", "_law_at", "_law_turned", "_law_verse"] ["_law_pot_here", "_law_tags_here"] (defScope s_verses) := ⟨rfl, rfl, rfl, by decide +kernel, rfl, by decide +kernel, by decide +kernel⟩
theorem ok_verses {f : Addr} {fd : FuncData} (F : FunD K "_law_verses" "_law_verses" (defArgs s_verses) (defBody s_verses) (defScope s_verses) [] [] f fd) (T : Tx P w K mg base) (d_law_draw : Cal P w K mg base CX0 1 "_law_draw" ["_law_pot_here", "_law_sides"] spDraw) (d_law_all : Cal P w K mg base CX0 1 "_law_all" ["_law_tags_here", "_law_most"] (spAll K)) : FnG P w K mg base CX0 3 f fd ["_law_pot_here", "_law_tags_here"] (spVerses K) := by
  refine fnG F sc_verses (fun vs H Q E h => ?_) (fun cdv A outer s H vs Q E gd hr h => ?_)
  · obtain ⟨T, p, l, xs, rfl, _⟩ := h
    rfl
  · skip
    refine ⟨_, PSs.nox ((pss_cons (ps_asg (pe_tup (pa_cons (pe_lst pa_nil) (pa_cons (pe_slice (sl_listK (K := K)) (pe_cal d_law_all gd hr (pa_cons (pv 1) (pa_cons pe_int pa_nil))) (po_some pe_int) po_none) pa_nil))) (pg_tup (n := 2) rfl (pgs_cons (pg_name (i := 2) sc_verses.nd rfl (by first | exact Or.inl rfl | exact Or.inr rfl)) (pgs_cons (pg_name (i := 3) sc_verses.nd rfl (by first | exact Or.inl rfl | exact Or.inr rfl)) pgs_nil))))
      (pss_cons (ps_for PassesOwn.never rfl (pi_range1 (by rfl) T.m_range (pa_cons (pe_op op_add pe_int (pe_cal d_law_draw gd hr (pa_cons (pv 0) (pa_cons pe_int pa_nil)))) pa_nil)) (pg_name (i := 4) sc_verses.nd rfl (by first | exact Or.inl rfl | exact Or.inr rfl)) (pss_cons (ps_set (i := 5) sc_verses.nd rfl (by first | exact Or.inl rfl | exact Or.inr rfl) (pe_cal d_law_draw gd hr (pa_cons (pv 0) (pa_cons (pe_callB (call_lenK (K := K)) (by rfl) T.m_len (by decide +kernel) (pa_cons (pv 3) pa_nil)) pa_nil))))
      (pss_cons (ps_set (i := 6) sc_verses.nd rfl (by first | exact Or.inl rfl | exact Or.inr rfl) (pe_op op_cat (pe_slice (sl_listK (K := K)) (pv 3) (po_some (pv 5)) po_none) (pe_slice (sl_listK (K := K)) (pv 3) po_none (po_some (pv 5)))))
      (pss_one (ps_expr (pe_bm PySem.F.plainAttrs_list PySem.F.slot_list_append PySem.F.type_list_append mt_append (pv 2) (pa_cons (pe_ix (ix_listK (K := K)) (pe_lc (own := [("_law_verse", 7)]) (g := gName 7) rfl sc_verses.nd (pi_listK (K := K) (pv 6)) (blkOk_by (own := [("_law_verse", 7)]) (N := ["_law_pot_here", "_law_tags_here", "_law_found", "_law_menu", "_law_turn", "_law_at", "_law_turned", "_law_verse"]) (sc := defScope s_verses) (by decide +kernel)) (fun _ _ _ _ _ => pg_name (i := 7) sc_verses.nd rfl (by first | exact Or.inl rfl | exact Or.inr rfl)) (fun _ _ _ _ _ => (pts_one (pt_cmpR (op_notInDK (K := K) hr.u65) (pv 7) (pv 2) (by rfl)))) (fun _ _ _ _ _ => (pv 7))) pe_int (fun _ _ => rfl)) pa_nil)))))))
      (pss_one (ps_ret (pv 2)))))), ?_⟩
    obtain ⟨T, p, l, xs, rfl, o, hl, x1, x3, hx, hn, q⟩ := h
    have nl := ls_nm o hl
    refine ⟨Nat.zero_le _, fun f hf => ⟨_, rfl, l, xs, 3, rfl, (Ex.new hf) _ _ hl, x3, by decide, fun a H1 ha e1 hA => ?_⟩⟩
    obtain ⟨us, hu, hp⟩ := hA
    refine ⟨1, rfl, a, us, rfl, SqL.of hu, fun m hm => ⟨(by show 2 ≤ sizeLine; decide), fun t ht => ⟨t, _, rfl, SqT.of upd_same, rfl, _, _, rfl, _, _, rfl, rfl, ?_⟩⟩⟩
    have cu : cutV us (some (1 : Int)) none = us.drop 1 := cut_from us 1 (by
      rw [Paired.length hp, allW_cons]
      exact Nat.succ_le_succ (Nat.zero_le _))
    rw [cu] at ht ⊢
    have ff : Fr H f := fr_none hf
    have nf : ¬ (Zp T p).M f := o.fresh ff
    have r0 : R (Zp T p) H (upd H f (.lst [])) := (R.refl o).new hf
    have r1 := ((r0.ex e1).new (o := .lst (us.drop 1)) hm).new (o := .tup [.ref f, .ref m]) ht
    have e2 : Ex H1 (upd (upd H1 m (.lst (us.drop 1))) t (.tup [.ref f, .ref m])) := (Ex.new hm).trans (Ex.new ht)
    have hf2 : (upd (upd H1 m (.lst (us.drop 1))) t (.tup [.ref f, .ref m])) f = some (.lst []) := e2 _ _ (e1 _ _ upd_same)
    have hm2 : LW K (upd (upd H1 m (.lst (us.drop 1))) t (.tup [.ref f, .ref m])) m (wdsW xs 3) := ⟨us.drop 1, by rw [upd_ne (ne_of_none upd_same ht)]; exact upd_same, paired_mono (fun _ _ r => wd_mono e2 r) (paired_drop 1 hp)⟩
    generalize upd (upd H1 m (.lst (us.drop 1))) t (.tup [.ref f, .ref m]) = H2 at r1 hf2 hm2
    have po := r1.b.2 p rfl
    refine ⟨_, rfl, p, 3, rfl, po, by decide, by decide, fun d H3 d0 d1 x3' => ?_⟩
    have r3 := r1.trans (Rm.R.xp r1.b.1 po x3')
    have hf3 := (Rm.R.xp r1.b.1 po x3').lst hf2 nf
    have hm3 := lw_RO (Rm.R.xp r1.b.1 po x3') hm2
    refine ⟨_, _, rfl, rfl, _, rfl, by omega, by omega, for_range (lo := 0) (n := ((1 : Int) + d).toNat) (fun i σ H' => ∃ a b c e, σ = [some (.ref p), some (.ref l), some (.ref f), some (.ref m), a, b, c, e] ∧ R (Zp T p) H H' ∧ LW K H' m (wdsW xs 3) ∧ ∃ ws, LW K H' f ws ∧ ws.length = i ∧ okWs ws ∧ ∀ w ∈ ws, ∀ y ∈ w, y ∈ xs) ⟨_, _, _, _, rfl, r3, hm3, [], ⟨[], hf3, .nil⟩, rfl, ⟨fun _ z => absurd z List.not_mem_nil, List.nodup_nil⟩, fun _ z => absurd z List.not_mem_nil⟩ (fun i σ H4 hi hP => ?_) (fun σ H4 hP => ?_)⟩
    · obtain ⟨a, b, c, e, rfl, r4, hm4, ws, hw4, hwl, hok, hin⟩ := hP
      have tl := three_le x1 hn
      have ml : (wdsW xs 3).length ≤ 1000 := by
        have h1 : (allW xs 3).length = 1 + (wdsW xs 3).length := by
          rw [allW_cons, List.length_cons]
          omega
        have h2 : (allW xs 3).length = 1 + xs.length ^ 1 + xs.length ^ 2 + xs.length ^ 3 := by
          simp only [allW, List.length_append, lvW_len]
          rfl
        have p1 : xs.length ^ 1 ≤ 3 ^ 1 := Nat.pow_le_pow_left x3 1
        have p2 : xs.length ^ 2 ≤ 3 ^ 2 := Nat.pow_le_pow_left x3 2
        have p3 : xs.length ^ 3 ≤ 3 ^ 3 := Nat.pow_le_pow_left x3 3
        omega
      obtain ⟨ms, hms, hmp⟩ := hm4
      have mln := Paired.length hmp
      refine ⟨_, rfl, _, rfl, m, ms, rfl, .inl (SqL.of hms), p, _, rfl, r4.b.2 p rfl, by omega, by omega, fun at_ H5 a0 a1 x5 => ?_⟩
      have r45 := Rm.R.xp r4.b.1 (r4.b.2 p rfl) x5
      have r5 := r4.trans r45
      have hm5 := lw_RO r45 ⟨ms, hms, hmp⟩
      have hw5 := lw_RO r45 hw4
      obtain ⟨k, rfl⟩ := Int.eq_ofNat_of_zero_le a0
      have hk : k ≤ (wdsW xs 3).length := by omega
      refine q_asgLW (elw_cat (elw_drop (ev_var rfl) hm5 (eo_some (ev_var rfl)) eo_none hk) (elw_take (ev_var rfl) hm5 eo_none (eo_some (ev_var rfl)) hk) (by rw [List.length_drop, List.length_take]; omega)) fun tu H6 htu e6 hT => ?_
      have hw6 := lw_mono e6 hw5
      obtain ⟨y, hy, hny⟩ := fresh_one (m := ws) (wdsW_nodup hn 3) (by omega)
      have mem_t : ∀ z, z ∈ (wdsW xs 3).drop k ++ (wdsW xs 3).take k ↔ z ∈ wdsW xs 3 := fun z => by
        rw [List.mem_append, or_comm, ← List.mem_append, List.take_append_drop]
      have hF : y ∈ ((wdsW xs 3).drop k ++ (wdsW xs 3).take k).filter fun z => !decide (z ∈ ws) := List.mem_filter.mpr ⟨(mem_t y).mpr hy, by simp [hny]⟩
      have hall : ∀ z ∈ ((wdsW xs 3).drop k ++ (wdsW xs 3).take k).filter (fun z => !decide (z ∈ ws)), isW z = true ∧ z ≠ [] ∧ z ∉ ws ∧ ∀ y ∈ z, y ∈ xs := fun z hz => by
        obtain ⟨z1, z2⟩ := List.mem_filter.mp hz
        obtain ⟨z3, z4, z5⟩ := (mem_wdsW hn).mp ((mem_t z).mp z1)
        exact ⟨isW_of hx z4 z5, z3, by simpa using z2, z5⟩
      obtain ⟨ts, hts, htp⟩ := hT
      have tln := Paired.length htp
      rw [List.length_append, List.length_drop, List.length_take] at tln
      have eF := elw_LF (K := K) (σ := [some (.ref p), some (.ref l), some (.ref f), some (.ref m), some (.int ((0 : Int) + (i : Int))), some (.int (k : Int)), some (.ref tu), e]) (H := H6) (ta := tVar 6) (j := 7) (vs := [7]) (te := tVar 7) (tt := tTest (tOp (rNotInD K) (tVar 7) (tVar 2))) (fun z => !decide (z ∈ ws)) (fun z => z) (ev_var rfl) hts htp (by omega) (fun _ => rfl) (fun x z H7 e7 hz zm => by
          obtain ⟨fs, hfs, hfp⟩ := lw_mono e7 hw6
          obtain ⟨_, z4, z5⟩ := (mem_wdsW hn).mp ((mem_t z).mp zm)
          exact et_test (ev_niW (ev_var rfl) (ev_var rfl) hz hfs hfp (isW_of hx z4 z5) (okWs_isW hok))) (fun x z H7 e7 hz _ _ => ew_of (ev_var rfl) hz)
      rw [List.map_id'] at eF
      generalize hG : (((wdsW xs 3).drop k ++ (wdsW xs 3).take k).filter fun z => !decide (z ∈ ws)) = G at hF hall eF
      cases G with
      | nil => cases hF
      | cons y0 rest =>
        obtain ⟨z1, z2, z3, z4⟩ := hall y0 (List.mem_cons_self ..)
        obtain ⟨fs, hfs, hap⟩ := lw_app (w := y0) hw6
        have fln : fs.length = ws.length := by
          obtain ⟨us2, q1, q2⟩ := hw6
          rw [hfs] at q1
          cases q1
          exact Paired.length q2
        refine s_appW (K := K) hfs (ev_var rfl) (ew_at0 eF) (by omega) fun v H7 e7 hv => ⟨_, _, _, _, rfl, ((r5.ex e6).ex e7).mut ff (e7 _ _ hfs) trivial, ?_, ws ++ [y0], hap v H7 e7 hv, by rw [List.length_append, hwl]; rfl, ⟨fun z hz => ?_, ?_⟩, fun z hz => ?_⟩
        · refine lw_upd (e7 _ _ hfs) (fun z => ?_) (lw_mono (e6.trans e7) hm5)
          obtain ⟨ms5, q1, q2⟩ := hm5
          rw [z] at q1
          rw [(e6 _ _ q1)] at hfs
          cases hfs
          have := Paired.length q2
          omega
        · rcases List.mem_append.mp hz with hz | hz
          · exact hok.1 z hz
          · rw [List.mem_singleton.mp hz]
            exact ⟨z1, z2⟩
        · exact List.nodup_append.mpr ⟨hok.2, List.pairwise_singleton _ _, fun u hu v hv e => z3 (by rw [← List.mem_singleton.mp hv, ← e]; exact hu)⟩
        · rcases List.mem_append.mp hz with hz | hz
          · exact hin z hz
          · rw [List.mem_singleton.mp hz]
            exact z4
    · obtain ⟨a, b, c, e, rfl, r4, hm4, ws, hw4, hwl, hok, hin⟩ := hP
      exact s_ret (ev_var rfl) fun H5 e5 => q f ws H5 ff (r4.ex e5) (lw_mono e5 hw4) hok hin (by omega) (by omega)

def spSaw (K : PySem.W.Frag) : Sp := fun vs H Q _ => ∃ (T : List (Addr × Str)) (p l : Addr) (xs : List Str), vs = [.ref p, .ref l] ∧ Ok (Zp T p) H ∧ H l = some (.lst (xs.map V.str)) ∧ 1 ≤ xs.length ∧ xs.length ≤ 3 ∧ (∀ x ∈ xs, isL x = true) ∧ xs.Nodup ∧
  ∀ g r s ws ms H', R (Zp T p) H H' → H' g = some (.tup [.ref r, .ref s]) → LW K H' r ws → okWs ws → (∀ w ∈ ws, ∀ y ∈ w, y ∈ xs) → 1 ≤ ws.length → ws.length ≤ 3 → LW K H' s ms → okWs ms → (∀ w ∈ ms, ∀ y ∈ w, y ∈ xs) → 1 ≤ ms.length → ms.length ≤ 3 → Q (.ref g) H'
abbrev s_saw : Stmt := topS 36
theorem sc_saw : FnScope ["_law_pot_here", "_law_tags_here"] ["_law_pot_here", "_law_tags_here"] (defScope s_saw) := ⟨rfl, rfl, rfl, by decide +kernel, rfl, by decide +kernel, by decide +kernel⟩
theorem ok_saw {f : Addr} {fd : FuncData} (F : FunD K "_law_saw" "_law_saw" (defArgs s_saw) (defBody s_saw) (defScope s_saw) [] [] f fd) (T : Tx P w K mg base) (d_law_verses : Cal P w K mg base CX0 3 "_law_verses" ["_law_pot_here", "_law_tags_here"] (spVerses K)) : FnG P w K mg base CX0 4 f fd ["_law_pot_here", "_law_tags_here"] (spSaw K) := by
  refine fnG F sc_saw (fun vs H Q E h => ?_) (fun cdv A outer s H vs Q E gd hr h => ?_)
  · obtain ⟨T, p, l, xs, rfl, _⟩ := h
    rfl
  · skip
    refine ⟨_, PSs.nox ((pss_one (ps_ret (pe_tup (pa_cons (pe_cal d_law_verses gd hr (pa_cons (pv 0) (pa_cons (pv 1) pa_nil))) (pa_cons (pe_cal d_law_verses gd hr (pa_cons (pv 0) (pa_cons (pv 1) pa_nil))) pa_nil)))))), ?_⟩
    obtain ⟨T, p, l, xs, rfl, o, hl, x1, x3, hx, hn, q⟩ := h
    have nl := ls_nm o hl
    refine ⟨_, rfl, _, rfl, T, p, l, xs, rfl, o, hl, x1, x3, hx, hn, fun r ws H1 fr r1 hL ok1 in1 w1 w3 => ?_⟩
    refine ⟨_, rfl, _, rfl, T, p, l, xs, rfl, r1.b, r1.lst hl nl, x1, x3, hx, hn, fun s ms H2 fs r2 hM ok2 in2 m1 m3 => ?_⟩
    refine ⟨(by show 2 ≤ sizeLine; decide), fun t ht => ?_⟩
    exact q t r s ws ms _ ((r1.trans r2).new ht) upd_same (lw_mono (Ex.new ht) (lw_RO r2 hL)) ok1 in1 w1 w3 (lw_mono (Ex.new ht) hM) ok2 in2 m1 m3

end
end K21
namespace K21
open PySem PySem.Spec PyProof.Rows L2 Lw Evl LamX Tk
open Rm (R Ok Z0 Zp Fr fr_none fr_ne nt_lst nt_tup)
open LwX (XC XF)
section
variable {P : Program} {w : World} {K : PySem.W.Frag} {mg : Str → Option Value} {base : Heap} {TT : List (Addr × Str)} {CY CT CM CS : Addr}
abbrev s_is_row : Stmt := topS 25
theorem sc_is_row : FnScope ["value"] ["value"] (defScope s_is_row) := ⟨rfl, rfl, rfl, by decide +kernel, rfl, by decide +kernel, by decide +kernel⟩
theorem ok_is_row {f : Addr} {fd : FuncData} (F : FunD K "is_row" "is_row" (defArgs s_is_row) (defBody s_is_row) (defScope s_is_row) [] [] f fd) (T : Tx P w K mg base) (OSy : OwnC K mg "Saying" CY) (CIM : CInt K CY "MOST" 3) (dis_list : CalO P w K mg base CX0 1 "is_list" ["value"] (spIsList K)) : FnOk P w K mg base CX0 2 f fd ["value"] (spIsRow K) := by
  refine fnO F sc_is_row (fun vs H Q E h => ?_) (fun cdv A outer s H vs Q E hr h => ?_)
  · obtain ⟨v, b, rfl, _⟩ := h
    rfl
  · skip
    refine ⟨_, PSs.nox ((pss_one (ps_ret (pe_and (pe_calO dis_list hr pass0 (pa_cons (pv 0) pa_nil)) (pe_one (pe_chain op_le op_le pe_int (pe_callB (call_lenK (K := K)) (by rfl) T.m_len (by decide +kernel) (pa_cons (pv 0) pa_nil)) (pe_cvalK (K := K) (pe_glob (v := .ref CY) (by rfl) OSy.g rfl)))))))), ?_⟩
    obtain ⟨v, b, rfl, hb, q⟩ := h
    rcases hb with ⟨⟨t, ht, hk⟩, rfl⟩ | ⟨l, us, rfl, hl, hz, rfl⟩
    · exact s_ret (v := .bl (false && false)) (ev_andV (ev_isList (ev_var rfl) ht hk) (fun z => by cases z)) fun H1 e => q H1 e
    · obtain ⟨t, ht, hk⟩ := sq_ty (K := K) hl
      refine s_ret (ev_andV (ev_isList (ev_var rfl) ht hk) (fun _ => ev_chainI ev_c (ev_lenQ (ev_var rfl) hl) (ev_cint CIM ev_c))) fun H1 e => ?_
      rw [Bool.true_and]
      exact q H1 e

abbrev s_first_wrong : Stmt := topS 26
theorem sc_first_wrong : FnScope ["words", "position", "word"] ["words"] (defScope s_first_wrong) := ⟨rfl, rfl, rfl, by decide +kernel, rfl, by decide +kernel, by decide +kernel⟩
theorem ok_first_wrong {f : Addr} {fd : FuncData} (F : FunD K "first_wrong" "first_wrong" (defArgs s_first_wrong) (defBody s_first_wrong) (defScope s_first_wrong) [] [] f fd) (T : Tx P w K mg base) (dis_word : CalO P w K mg base CX0 2 "is_word" ["value"] (spWord K)) : FnOk P w K mg base CX0 3 f fd ["words"] (spFW K) := by
  refine fnO F sc_first_wrong (fun vs H Q E h => ?_) (fun cdv A outer s H vs Q E hr h => ?_)
  · obtain ⟨l, us, ws, rfl, _⟩ := h
    rfl
  · skip
    refine ⟨_, PSs.nox ((pss_cons (ps_for PassesOwn.never rfl (pi_enumSK (K := K) (by rfl) T.m_enumerate (pa_cons (pv 0) pa_nil)) (pg_tup (n := 2) rfl (pgs_cons (pg_name (i := 1) sc_first_wrong.nd rfl (by first | exact Or.inl rfl | exact Or.inr rfl)) (pgs_cons (pg_name (i := 2) sc_first_wrong.nd rfl (by first | exact Or.inl rfl | exact Or.inr rfl)) pgs_nil))) (pss_one (ps_if (PW.pt (pw_or (pt_not (pt_val (pe_calO dis_word hr pass0 (pa_cons (pv 2) pa_nil)))) (pw_or (pt_not (pt_truthK (K := K) (pv 2))) (pw_or1 (pt_cmpR (op_inQ (K := K) hr.u65) (pv 2) (pe_slice (sl_seqK (K := K)) (pv 0) po_none (po_some (pv 1))) (by rfl)))))) (pss_one (ps_ret (pv 1))) pss_nil)))
      (pss_one (ps_ret pe_non)))), ?_⟩
    obtain ⟨l, us, ws, rfl, hl, hz, hp, ok, q⟩ := h
    have wl : ws.length ≤ us.length := by
      have z := Paired.length hp
      rw [List.length_take] at z
      omega
    unfold tSeq
    refine for_enumQ (K := K) rfl hl (fun i σ' H' => ∃ a b, σ' = [some (.ref l), a, b] ∧ Ex H H' ∧ i ≤ ws.length) ⟨_, _, rfl, Ex.refl H, Nat.zero_le _⟩ (fun i σ' H' p => p.choose_spec.choose_spec.2.1) (fun i x σ' H' T hi p hT => ?_) (fun σ' H' p => ?_)
    · obtain ⟨a, b, rfl, e, iw⟩ := p
      refine ⟨T, _, rfl, SqT.of upd_same, rfl, _, _, rfl, _, _, rfl, rfl, ?_⟩
      have e1 : Ex H (upd H' T (.tup [.int (i : Int), x])) := e.trans (Ex.new hT)
      have hl1 := sq_ex e1 hl
      by_cases c : i = ws.length
      · rcases q with ⟨q1, q2⟩ | ⟨y, hy, hw, q⟩
        · have := (List.getElem?_eq_some_iff.mp hi).1
          omega
        · subst c
          rw [hy] at hi
          cases hi
          rcases hw with hw | ⟨z, hz1, hz2, hz3⟩
          · exact s_when (b := !false || false) (et_or (et_not (et_B (ev_word (ev_var rfl) (wbv_mono e1 hw)))) (fun z => by cases z)) (fun _ H2 e2 => s_ret (ev_var rfl) fun H3 e3 => q H3 ((e1.trans e2).trans e3)) (fun z => by cases z)
          · have hp1 := paired_mono (fun _ _ r => wd_mono e1 r) hp
            have ct := eq_take (K := K) (σ := [some (.ref l), some (.int (ws.length : Int)), some x]) (to := tNoPart) (th := tPart (tVar 1)) (n := ws.length) (eq_var (ev_var (i := 0) rfl) hl1) eo_none (eo_some (ev_var rfl)) (by omega)
            have hb : (!true || (!(!z.isEmpty) || decide (z ∈ ws))) = true := by
              rcases hz3 with n | n <;> simp [n]
            refine s_when (b := !true || (!(!z.isEmpty) || decide (z ∈ ws))) (et_or (et_not (et_B (ev_word (ev_var rfl) (wb_word (wd_mono e1 hz1) hz2)))) (fun _ => et_or (et_not (et_truW (ev_var rfl) (wd_mono e1 hz1))) (fun _ => et_test (ev_inQ (ev_var rfl) ct (wd_mono e1 hz1) hp1 hz2 (okWs_isW ok))))) (fun _ H2 e2 => s_ret (ev_var rfl) fun H3 e3 => q H3 ((e1.trans e2).trans e3)) (fun n => by rw [hb] at n; cases n)
      · have il : i < ws.length := by omega
        obtain ⟨w, hw, rw_⟩ := paired_at hp (show (us.take ws.length)[i]? = some x by rw [List.getElem?_take, if_pos il]; exact hi)
        have wm := List.mem_of_getElem? hw
        obtain ⟨o1, o2⟩ := ok.1 w wm
        have hp1 := paired_mono (fun _ _ r => wd_mono e1 r) (paired_take i hp)
        rw [List.take_take, Nat.min_eq_left iw] at hp1
        have ct := eq_take (K := K) (σ := [some (.ref l), some (.int (i : Int)), some x]) (to := tNoPart) (th := tPart (tVar 1)) (n := i) (eq_var (ev_var (i := 0) rfl) hl1) eo_none (eo_some (ev_var rfl)) (by omega)
        have nm : w ∉ ws.take i := fun m => by
          obtain ⟨j, hj, e⟩ := List.getElem_of_mem m
          rw [List.length_take] at hj
          rw [List.getElem_take] at e
          have hji : j < i := by omega
          obtain ⟨hi2, e2⟩ := List.getElem?_eq_some_iff.mp hw
          have z := List.pairwise_iff_getElem.mp ok.2 j i (by omega) hi2 hji
          exact z (by rw [e, e2])
        have ne : (!w.isEmpty) = true := by
          cases w with
          | nil => exact absurd rfl o2
          | cons y ys => rfl
        have hb : (!true || (!(!w.isEmpty) || decide (w ∈ ws.take i))) = false := by simp [ne, nm]
        refine s_when (b := !true || (!(!w.isEmpty) || decide (w ∈ ws.take i))) (et_or (et_not (et_B (ev_word (ev_var rfl) (wb_word (wd_mono e1 rw_) o1)))) (fun _ => et_or (et_not (et_truW (ev_var rfl) (wd_mono e1 rw_))) (fun _ => et_test (ev_inQ (ev_var rfl) ct (wd_mono e1 rw_) hp1 o1 fun u hu => okWs_isW ok u (List.mem_of_mem_take hu))))) (fun n => by rw [hb] at n; cases n) (fun _ H2 e2 => ⟨_, _, rfl, e1.trans e2, il⟩)
    · obtain ⟨a, b, rfl, e, iw⟩ := p
      rcases q with ⟨q1, q2⟩ | ⟨y, hy, _⟩
      · show tRet (tC V.non) { nx := fun _ H' => Q V.non H', rt := Q } [some (.ref l), a, b] H'
        refine s_ret (v := V.non) ev_c fun H2 e2 => ?_
        exact q2 H2 (e.trans e2)
      · have := (List.getElem?_eq_some_iff.mp hy).1
        omega

abbrev s_sy_init : Stmt := inClass (topS 27) 1
theorem sc_sy_init : FnScope ["self", "triggers", "makes"] ["self", "triggers", "makes"] (defScope s_sy_init) := ⟨rfl, rfl, rfl, by decide +kernel, rfl, by decide +kernel, by decide +kernel⟩
theorem ok_sy_init {f : Addr} {fd : FuncData} (F : FunD K "__init__" "Saying.__init__" (defArgs s_sy_init) (defBody s_sy_init) (defScope s_sy_init) [] [] f fd) (T : Tx P w K mg base) (OSy : OwnC K mg "Saying" CY) (nT : NoAttr K CY "_triggers") (nM : NoAttr K CY "_makes") (xInvalidTriggers : XRz P w K mg base 1 "InvalidTriggers" CT "position") (xInvalidMakes : XRz P w K mg base 1 "InvalidMakes" CM "position") (dis_row : CalO P w K mg base CX0 2 "is_row" ["value"] (spIsRow K)) (dfirst_wrong : CalO P w K mg base CX0 3 "first_wrong" ["words"] (spFW K)) (din_order : CalO P w K mg base (L2.CX P w) 3 "in_order" ["words"] (spOrderF K TT CS)) : FnOk P w K mg base (L2.CX P w) 4 f fd ["self", "triggers", "makes"] (spSay K TT CT CM CY) := by
  refine fnO F sc_sy_init (fun vs H Q E h => ?_) (fun cdv A outer s H vs Q E hr h => ?_)
  · obtain ⟨a, dx, t, m, H0, rfl, _⟩ := h
    rfl
  · skip
    refine ⟨_, (pss_cons (ps_if (pt_not (pt_val (pe_calO dis_row hr pass0 (pa_cons (pv 1) pa_nil)))) (pss_one (ps_rz xInvalidTriggers hr rfl (takes_of rfl rfl rfl rfl) pe_non)) pss_nil)
      (pss_cons (ps_if (pt_cmpR op_notN (pe_calO dfirst_wrong hr pass0 (pa_cons (pv 1) pa_nil)) pe_non (nomark _)) (pss_one (ps_rz xInvalidTriggers hr rfl (takes_of rfl rfl rfl rfl) (pe_calO dfirst_wrong hr pass0 (pa_cons (pv 1) pa_nil)))) pss_nil)
      (pss_cons (ps_if (pt_not (pt_val (pe_calO dis_row hr pass0 (pa_cons (pv 2) pa_nil)))) (pss_one (ps_rz xInvalidMakes hr rfl (takes_of rfl rfl rfl rfl) pe_non)) pss_nil)
      (pss_cons (ps_if (pt_cmpR op_notN (pe_calO dfirst_wrong hr pass0 (pa_cons (pv 2) pa_nil)) pe_non (nomark _)) (pss_one (ps_rz xInvalidMakes hr rfl (takes_of rfl rfl rfl rfl) (pe_calO dfirst_wrong hr pass0 (pa_cons (pv 2) pa_nil)))) pss_nil)
      (pss_cons (ps_fldK (pv 0) (pe_calO din_order hr (passes_call (takes_of rfl rfl rfl rfl) fun _ _ _ _ h => h) (pa_cons (pv 1) pa_nil)))
      (pss_one (ps_fldK (pv 0) (pe_calO din_order hr (passes_call (takes_of rfl rfl rfl rfl) fun _ _ _ _ h => h) (pa_cons (pv 2) pa_nil))))))))), ?_⟩
    obtain ⟨a, dx, t, m, H0, rfl, rfl, na, nd, ne, ht, h⟩ := h
    have na2 : (upd H0 dx (.own a)) a = none := by
      rw [upd_ne ne.symm]
      exact na
    have e0 : Ex H0 (upd (upd H0 dx (.own a)) a (.ins CY dx [])) := (Ex.new nd).trans (Ex.new na2)
    rcases h with ⟨p, hb, x⟩ | ⟨ts, hg, h⟩
    · exact q_badrow (K := K) rfl (bad_ex e0 hb) fun H1 e1 => rz_ex (e0.trans e1) x
    refine q_goodrow (K := K) rfl (good_ex e0 hg) fun H1 e1 => ?_
    rcases h with ⟨p, hb, x⟩ | ⟨ms, hgm, q⟩
    · exact q_badrow (K := K) rfl (bad_ex (e0.trans e1) hb) fun H2 e2 => rz_ex ((e0.trans e1).trans e2) x
    refine q_goodrow (K := K) rfl (good_ex (e0.trans e1) hgm) fun H2 e2 => ?_
    have e02 := (e0.trans e1).trans e2
    have ha2 : H2 a = some (.ins CY dx []) := (e1.trans e2) _ _ upd_same
    have r2 : R (Z0 TT) H0 H2 := .of ⟨ht, fun _ z => z.elim⟩ e02
    obtain ⟨l, us, rfl, sq, hp, ok, t1, t3⟩ := good_R r2 hg
    have lu := Paired.length hp
    unfold tSeq
    refine s_fld (call_v rfl (.inl (ord_good (TT := TT) sq r2.b.1 (by omega) hp (okWs_isW ok) fun lt H3 flt r3 hL3 => ?_)))
    refine ⟨_, rfl, a, CY, dx, [], rfl, ?_, OSy.cl, nT, by decide, ?_⟩
    · exact r3.st _ _ ha2 Rm.nt_ins fun z => z
    have ha3 := r3.st _ _ ha2 Rm.nt_ins fun z => z
    have r4 : R (Z0 TT) H0 (upd H3 a (.ins CY dx [("_triggers", .ref lt)])) := (r2.trans r3).mut (fr_none na) ha3 trivial
    have hL4 : LW K (upd H3 a (.ins CY dx [("_triggers", .ref lt)])) lt (srtW ts) := lw_updN ha3 (fun _ z => nomatch z) (fun _ z => nomatch z) hL3
    have ha4 : (upd H3 a (.ins CY dx [("_triggers", .ref lt)])) a = some (.ins CY dx [("_triggers", .ref lt)]) := upd_same
    show sFld K (tVar 0) (tCall (spOrderF K TT CS) [] E (tCons (tVar 2) tNil)) "_makes" { nx := fun _ H' => Q .non H', rt := Q } _ (upd H3 a (.ins CY dx [("_triggers", .ref lt)]))
    generalize upd H3 a (.ins CY dx [("_triggers", .ref lt)]) = H4 at r4 hL4 ha4
    obtain ⟨l2, us2, rfl, sq2, hp2, ok2, m1, m3⟩ := good_R r4 hgm
    have lu2 := Paired.length hp2
    refine s_fld (call_v rfl (.inl (ord_good (TT := TT) sq2 r4.b.1 (by omega) hp2 (okWs_isW ok2) fun lm H5 flm r5 hL5 => ?_)))
    refine ⟨_, rfl, a, CY, dx, [("_triggers", .ref lt)], rfl, ?_, OSy.cl, nM, by show 1 < 1000; decide, ?_⟩
    · exact r5.st _ _ ha4 Rm.nt_ins fun z => z
    have ha5 := r5.st _ _ ha4 Rm.nt_ins fun z => z
    have r6 : R (Z0 TT) H0 (upd H5 a (.ins CY dx [("_triggers", .ref lt), ("_makes", .ref lm)])) := (r4.trans r5).mut (fr_none na) ha5 trivial
    exact q _ r6 ⟨dx, lt, lm, upd_same, lw_updN ha5 (fun _ z => nomatch z) (fun _ z => nomatch z) (lw_RO r5 hL4), lw_updN ha5 (fun _ z => nomatch z) (fun _ z => nomatch z) hL5⟩

abbrev s_sy_wt : Stmt := inClass (topS 27) 8
theorem sc_sy_wt : FnScope ["self", "triggers"] ["self", "triggers"] (defScope s_sy_wt) := ⟨rfl, rfl, rfl, by decide +kernel, rfl, by decide +kernel, by decide +kernel⟩
theorem ok_sy_wt {f : Addr} {fd : FuncData} (F : FunD K "with_triggers" "Saying.with_triggers" (defArgs s_sy_wt) (defBody s_sy_wt) (defScope s_sy_wt) [] [] f fd) (T : Tx P w K mg base) (OSy : OwnC K mg "Saying" CY) (nM : NoAttr K CY "_makes") (MSy : MkO P w K mg base (L2.CX P w) 4 "Saying" CY ["triggers", "makes"] (spSay K TT CT CM CY)) : FnOk P w K mg base (L2.CX P w) 6 f fd ["self", "triggers"] (spWT K TT CT CY) := by
  refine fnO F sc_sy_wt (fun vs H Q E h => ?_) (fun cdv A outer s H vs Q E hr h => ?_)
  · obtain ⟨a, t, ts, ms, rfl, _⟩ := h
    rfl
  · skip
    refine ⟨_, (pss_one (ps_ret (pe_mkO MSy hr (passes_call (takes_of rfl rfl rfl rfl) fun _ _ _ _ h => h) (pa_cons (pv 1) (pa_cons (pe_fldK (pv 0)) pa_nil))))), ?_⟩
    obtain ⟨a, t, ts, ms, rfl, ⟨dx, lt, lm, ha, hT, hM⟩, ok, m1, m3, ht, h⟩ := h
    refine ⟨_, rfl, _, rfl, a, CY, dx, _, .ref lm, rfl, ha, OSy.cl, nM, rfl, fun x dx2 nx nd ne => ⟨x, dx2, t, .ref lm, H, rfl, rfl, nx, nd, ne, ht, ?_⟩⟩
    rcases h with h | ⟨us, hg, q⟩
    · exact .inl h
    · exact .inr ⟨us, hg, .inr ⟨ms, good_lw hM ok m1 m3, fun H' r hs => ⟨rfl, q x H' (fr_none nx) r hs⟩⟩⟩

abbrev s_sy_wm : Stmt := inClass (topS 27) 9
theorem sc_sy_wm : FnScope ["self", "makes"] ["self", "makes"] (defScope s_sy_wm) := ⟨rfl, rfl, rfl, by decide +kernel, rfl, by decide +kernel, by decide +kernel⟩
theorem ok_sy_wm {f : Addr} {fd : FuncData} (F : FunD K "with_makes" "Saying.with_makes" (defArgs s_sy_wm) (defBody s_sy_wm) (defScope s_sy_wm) [] [] f fd) (T : Tx P w K mg base) (OSy : OwnC K mg "Saying" CY) (nT : NoAttr K CY "_triggers") (MSy : MkO P w K mg base (L2.CX P w) 4 "Saying" CY ["triggers", "makes"] (spSay K TT CT CM CY)) : FnOk P w K mg base (L2.CX P w) 6 f fd ["self", "makes"] (spWM K TT CM CY) := by
  refine fnO F sc_sy_wm (fun vs H Q E h => ?_) (fun cdv A outer s H vs Q E hr h => ?_)
  · obtain ⟨a, m, ts, ms, rfl, _⟩ := h
    rfl
  · skip
    refine ⟨_, (pss_one (ps_ret (pe_mkO MSy hr (passes_call (takes_of rfl rfl rfl rfl) fun _ _ _ _ h => h) (pa_cons (pe_fldK (pv 0)) (pa_cons (pv 1) pa_nil))))), ?_⟩
    obtain ⟨a, m, ts, ms, rfl, ⟨dx, lt, lm, ha, hT, hM⟩, ok, t1, t3, ht, h⟩ := h
    refine ⟨_, rfl, a, CY, dx, _, .ref lt, rfl, ha, OSy.cl, nT, rfl, _, rfl, fun x dx2 nx nd ne => ⟨x, dx2, .ref lt, m, H, rfl, rfl, nx, nd, ne, ht, .inr ⟨ts, good_lw hT ok t1 t3, ?_⟩⟩⟩
    rcases h with h | ⟨us, hg, q⟩
    · exact .inl h
    · exact .inr ⟨us, hg, fun H' r hs => ⟨rfl, q x H' (fr_none nx) r hs⟩⟩

abbrev s_sy_eq : Stmt := inClass (topS 27) 10
theorem sc_sy_eq : FnScope ["self", "other"] ["self", "other"] (defScope s_sy_eq) := ⟨rfl, rfl, rfl, by decide +kernel, rfl, by decide +kernel, by decide +kernel⟩
theorem ok_sy_eq {f : Addr} {fd : FuncData} (F : FunD K "__eq__" "Saying.__eq__" (defArgs s_sy_eq) (defBody s_sy_eq) (defScope s_sy_eq) [] [] f fd) (T : Tx P w K mg base) (OSy : OwnC K mg "Saying" CY) (nT : NoAttr K CY "_triggers") (nM : NoAttr K CY "_makes") : FnOk P w K mg base CX0 1 f fd ["self", "other"] (spSyEq K CY) := by
  refine fnO F sc_sy_eq (fun vs H Q E h => ?_) (fun cdv A outer s H vs Q E hr h => ?_)
  · obtain ⟨a, v, ts, ms, rfl, _⟩ := h
    rfl
  · skip
    refine ⟨_, PSs.nox ((pss_one (ps_ret (pe_and (pe_callB (call_isiK1 (K := K)) (by rfl) T.m_isinstance (by decide +kernel) (pa_cons (pv 1) (pa_cons (pe_glob (v := .ref CY) (by rfl) OSy.g rfl) pa_nil))) (pe_and (pe_cmpR (op_eqDK (K := K) hr.units) (pe_fldK (pv 0)) (pe_fldK (pv 1)) (nomark _)) (pe_one (pe_cmpR (op_eqDK (K := K) hr.units) (pe_fldK (pv 0)) (pe_fldK (pv 1)) (nomark _)))))))), ?_⟩
    obtain ⟨a, v, ts, ms, rfl, ⟨dx, lt, lm, ha, hT, hM⟩, h1, h2, h⟩ := h
    rcases h with ⟨t, ht, hk, q⟩ | ⟨b, us, ns, rfl, ⟨dy, ls, ln, hb, hU, hN⟩, h3, h4, q⟩
    · exact ⟨_, rfl, _, _, t, .ref CY, false, rfl, .own CY, ht, hk, _, rfl, q H (Ex.refl H)⟩
    · refine s_ret (ev_andV (a := true) (fun H1 e Q q => ⟨_, rfl, _, .ref CY, _, .ref CY, true, rfl, .own CY, OSy.ty (e _ _ hb), OSy.self_, q H1 (Ex.refl H1)⟩) (fun _ => ev_andV (ev_eqLW (ev_fld OSy nT (ev_var rfl) ha rfl) (ev_fld OSy nT (ev_var rfl) hb rfl) hT hU h1 h3) (fun _ => ev_eqLW (ev_fld OSy nM (ev_var rfl) ha rfl) (ev_fld OSy nM (ev_var rfl) hb rfl) hM hN h2 h4))) fun H1 e1 => ?_
      rw [Bool.true_and]
      exact q H1 e1

end
end K21
namespace K21
open PySem PySem.Spec PyProof.Rows L2 Lw Evl LamX Tk
open Rm (R Ok Z0 Zp Fr fr_none)
open LwX (XC XF)
section
variable {P : Program} {w : World} {K : PySem.W.Frag} {mg : Str → Option Value} {base : Heap}
abbrev s_need_word : Stmt := topS 17
theorem sc_need_word : FnScope ["value"] ["value"] (defScope s_need_word) := ⟨rfl, rfl, rfl, by decide +kernel, rfl, by decide +kernel, by decide +kernel⟩
theorem ok_need_word {f : Addr} {fd : FuncData} (F : FunD K "need_word" "need_word" (defArgs s_need_word) (defBody s_need_word) (defScope s_need_word) [] [] f fd) (T : Tx P w K mg base) (dis_word : CalO P w K mg base CX0 2 "is_word" ["value"] (spWord K)) : FnOk P w K mg base CX0 3 f fd ["value"] (spNeedG K) := by
  refine fnO F sc_need_word (fun vs H Q E h => ?_) (fun cdv A outer s H vs Q E hr h => ?_)
  · obtain ⟨v, ys, rfl, _⟩ := h
    rfl
  · skip
    refine ⟨_, PSs.nox ((pss_one (ps_if (pt_not (pt_val (pe_calO dis_word hr pass0 (pa_cons (pv 0) pa_nil)))) (pss_one ps_dead) pss_nil))), ?_⟩
    obtain ⟨v, ys, rfl, hv, hw, q⟩ := h
    exact s_when (b := !true) (et_not (et_B (ev_word (ev_var rfl) (wb_word hv hw)))) (fun z => by cases z) (fun _ H1 e => q H1 e)

abbrev s_beginnings : Stmt := topS 18
theorem sc_beginnings : FnScope ["word", "many"] ["word"] (defScope s_beginnings) := ⟨rfl, rfl, rfl, by decide +kernel, rfl, by decide +kernel, by decide +kernel⟩
theorem ok_beginnings {f : Addr} {fd : FuncData} (F : FunD K "beginnings" "beginnings" (defArgs s_beginnings) (defBody s_beginnings) (defScope s_beginnings) [] [] f fd) (T : Tx P w K mg base) (dneed_word : CalO P w K mg base CX0 3 "need_word" ["value"] (spNeedG K)) : FnOk P w K mg base CX0 4 f fd ["word"] (spBeginG K) := by
  refine fnO F sc_beginnings (fun vs H Q E h => ?_) (fun cdv A outer s H vs Q E hr h => ?_)
  · obtain ⟨v, ys, rfl, _⟩ := h
    rfl
  · skip
    refine ⟨_, PSs.nox ((pss_cons (ps_expr (pe_calO dneed_word hr pass0 (pa_cons (pv 0) pa_nil)))
      (pss_one (ps_ret (pe_lc (own := [("many", 1)]) (g := gName 1) (tt := tYes) rfl sc_beginnings.nd (pi_range1 (by rfl) T.m_range (pa_cons (pe_op op_add (pe_callB (call_lenK (K := K)) (by rfl) T.m_len (by decide +kernel) (pa_cons (pv 0) pa_nil)) pe_int) pa_nil)) (blkOk_by (own := [("many", 1)]) (N := ["word", "many"]) (sc := defScope s_beginnings) (by decide +kernel)) (fun _ _ _ _ _ => pg_name (i := 1) sc_beginnings.nd rfl (by first | exact Or.inl rfl | exact Or.inr rfl)) (fun _ _ _ _ _ => pts_nil) (fun _ _ _ _ _ => (pe_slice (sl_tupAK (K := K)) (pv 0) po_none (po_some (pv 1))))))))), ?_⟩
    obtain ⟨v, ys, rfl, hv, hw, q⟩ := h
    have h3 := (isW_iff.mp hw).1
    refine ⟨_, rfl, v, ys, rfl, hv, hw, fun H1 e1 => ?_⟩
    refine s_retLW (ws := begs ys) (elw_R1 (n := ys.length + 1) (fun i => ys.take i) (ea_cons (ev_op (ev_lenW (ev_var rfl) (wd_mono e1 hv)) ev_c rv_I0) ea_nil) (by omega) (fun _ => rfl) (fun i H2 e2 hi => ew_to (ew_of (ev_var rfl) (wd_mono (e1.trans e2) hv)) eo_none (eo_some (ev_var rfl)) (by omega))) fun l H2 hl e2 hL => q l H2 (fresh_back e1 hl) (e1.trans e2) hL

end
end K21
namespace Tk
open PySem PySem.Spec PyProof.Rows L2 Lw Evl LamX TL
/-! ### texts of signs of the first plane -/
def Lo (s : Str) : Prop := ∀ c ∈ s.cps.toList, c < 65536
theorem lo_c {s : Str} (h : (s.cps.toList.all fun c => decide (c < 65536)) = true) : Lo s := fun c hc => of_decide_eq_true (List.all_eq_true.mp h c hc)
theorem lo_app {a b : Str} (h : Lo a) (k : Lo b) : Lo (a ++ b) := fun c hc => by
  rw [cps_app] at hc
  exact (List.mem_append.mp hc).elim (h c) (k c)
theorem lo_letter {s : Str} (h : isL s = true) : Lo s := fun c hc => by
  have := (isL_iff.mp h).2 c hc
  omega
theorem lo_ite {b : Prop} [Decidable b] {x y : Str} (h : Lo x) (k : Lo y) : Lo (if b then x else y) := by
  split
  · exact h
  · exact k
theorem lo_from : ∀ (ts : List Str) (k : Nat) (acc : Str), Lo acc → (∀ t ∈ ts, Lo t) → Lo (textFrom k acc ts)
  | [], _, _, h, _ => h
  | t :: ts, k, acc, h, ht => lo_from ts (k + 1) _ (lo_app (lo_app h (by split <;> exact lo_c (by decide +kernel))) (ht t (List.mem_cons_self ..))) fun x hx => ht x (List.mem_cons_of_mem _ hx)
theorem lo_list {ts : List Str} (h : ∀ t ∈ ts, Lo t) : Lo (listText ts) := lo_app (lo_from ts 0 _ (lo_c (by decide +kernel)) h) (lo_c (by decide +kernel))
theorem lo_joinL {a : List Nat} (ha : ∀ c ∈ a, c < 65536) : ∀ {ts : List (List Nat)}, (∀ t ∈ ts, ∀ c ∈ t, c < 65536) → ∀ c ∈ joinL a ts, c < 65536
  | [], _, c, hc => by cases hc
  | [t], h, c, hc => h t (List.mem_cons_self ..) c hc
  | t :: u :: ts, h, c, hc => by
    have e : joinL a (t :: u :: ts) = t ++ (a ++ joinL a (u :: ts)) := rfl
    rw [e] at hc
    rcases List.mem_append.mp hc with hc | hc
    · exact h t (List.mem_cons_self ..) c hc
    · rcases List.mem_append.mp hc with hc | hc
      · exact ha c hc
      · exact lo_joinL ha (ts := u :: ts) (fun x hx => h x (List.mem_cons_of_mem _ hx)) c hc
theorem lo_join {a : Str} {ts : List Str} (ha : Lo a) (h : ∀ t ∈ ts, Lo t) : Lo (Str.join a ts) := fun c hc => by
  have e : tl (Str.join a ts) = joinL (tl a) (ts.map tl) := tl_join a ts
  have hc2 : c ∈ tl (Str.join a ts) := hc
  rw [e] at hc2
  exact lo_joinL ha (fun t ht => by
    obtain ⟨s, hs, rfl⟩ := List.mem_map.mp ht
    exact h s hs) c hc2
theorem lo_tup {ts : List Str} (h : ∀ t ∈ ts, Lo t) : Lo (tupleText ts) := lo_app (lo_app (lo_c (by decide +kernel)) (lo_join (lo_c (by decide +kernel)) h)) (by split <;> exact lo_c (by decide +kernel))
theorem repr_ch : ∀ q ∈ [39, 34], ∀ c ∈ List.range' 97 26, PySem.Builtin.Str.reprChar q c = [c] := by decide +kernel
theorem lo_fold (q : Nat) (hq : q ∈ [39, 34]) : ∀ (l : List Nat) (acc : Array Nat), (∀ c ∈ l, 97 ≤ c ∧ c ≤ 122) → (∀ c ∈ acc.toList, c < 65536) → ∀ c ∈ (l.foldl (fun out c => out ++ (PySem.Builtin.Str.reprChar q c).toArray) acc).toList, c < 65536
  | [], acc, _, h, c, hc => h c hc
  | x :: l, acc, hl, h, c, hc => by
    have hx := hl x (List.mem_cons_self ..)
    rw [List.foldl_cons] at hc
    refine lo_fold q hq l _ (fun y hy => hl y (List.mem_cons_of_mem _ hy)) (fun y hy => ?_) c hc
    rw [repr_ch q hq x (List.mem_range'_1.mpr ⟨hx.1, by omega⟩)] at hy
    simp only [Array.toList_append, List.mem_append, List.mem_singleton] at hy
    rcases hy with hy | hy
    · exact h y hy
    · rw [hy]
      omega
theorem lo_repr {s : Str} (h : isL s = true) : Lo (reprText s) := fun c hc => by
  have hq : reprQuote s ∈ [39, 34] := by
    unfold reprQuote
    split <;> simp
  have q5 : reprQuote s < 65536 := by
    rcases List.mem_cons.mp hq with e | e
    · omega
    · have := List.mem_singleton.mp e
      omega
  unfold reprText at hc
  simp only [Array.toList_push, List.mem_append, List.mem_singleton] at hc
  rcases hc with hc | hc
  · rw [← Array.foldl_toList] at hc
    exact lo_fold _ hq s.cps.toList _ (isL_iff.mp h).2 (fun y hy => by
      simp only [List.mem_singleton] at hy
      omega) c hc
  · omega
theorem lo_wD {w : List Str} (h : isW w = true) : Lo (wD w).shown := by
  have hl := (isW_iff.mp h).2
  unfold wD
  simp only [PyData.shown]
  refine lo_tup fun t ht => ?_
  have key : ∀ ys : List Str, (∀ y ∈ ys, isL y = true) → ∀ t ∈ PyData.shownAll (ys.map PyData.str), Lo t := fun ys => by
    induction ys with
    | nil =>
      intro _ t ht
      simp [PyData.shownAll] at ht
    | cons y ys ih =>
      intro h t ht
      simp only [List.map_cons, PyData.shownAll, PyData.shown, List.mem_cons] at ht
      rcases ht with rfl | ht
      · exact lo_repr (h y (List.mem_cons_self ..))
      · exact ih (fun x hx => h x (List.mem_cons_of_mem _ hx)) t ht
  exact key w hl t ht
theorem lo_wDs {ws : List (List Str)} (h : ∀ w ∈ ws, isW w = true) : Lo (listText (PyData.shownAll (ws.map wD))) := lo_list fun t ht => by
  induction ws with
  | nil => simp [PyData.shownAll] at ht
  | cons w ws ih =>
    simp only [List.map_cons, PyData.shownAll, List.mem_cons] at ht
    rcases ht with rfl | ht
    · exact lo_wD (h w (List.mem_cons_self ..))
    · exact ih (fun x hx => h x (List.mem_cons_of_mem _ hx)) ht
theorem lo_fr {ws : List (List Str)} (h : ∀ w ∈ ws, isW w = true) : Lo (frText ws) := lo_app (lo_app (lo_c (by decide +kernel)) (lo_wDs fun w hw => h w (List.mem_filter.mp hw).1)) (lo_c (by decide +kernel))
theorem fr_len {ws : List (List Str)} (h : ∀ w ∈ ws, isW w = true) (hn : ws.length ≤ 300) : (frText ws).length ≤ 1000007 := by
  have a := lst_len (ws := ws.filter fun w => !w.isEmpty) (fun w hw => h w (List.mem_filter.mp hw).1) (Nat.le_trans (List.length_filter_le ..) hn)
  have e1 : (("Front(" : Str)).length = 6 := by rfl
  have e2 : ((")" : Str)).length = 1 := by rfl
  unfold frText
  rw [len_app, len_app, e1, e2]
  omega
theorem fr_shown {ws : List (List Str)} (h : ∀ w ∈ ws, isW w = true) (hn : ws.length ≤ 300) : (PyData.str (frText ws)).shown.length ≤ 10000072 := by
  have z := PySem.StrLaws.reprText_len (frText ws) fun c hc => Nat.lt_trans (lo_fr h c hc) (by decide)
  have y := fr_len h hn
  simp only [PyData.shown]
  omega
theorem int_shown {n : Nat} (h : n ≤ 300) : (PyData.int (n : Int)).shown.length ≤ 10 := by
  have key : ((List.range 301).all fun n => decide ((PyData.int (n : Int)).shown.length ≤ 10)) = true := by decide +kernel
  exact of_decide_eq_true (List.all_eq_true.mp key n (List.mem_range.mpr (by omega)))
end Tk
namespace Tk
open PySem PySem.Spec PyProof.Rows L2 Lw Evl LamX TL
open Rm (R Ok Z0 Zp Fr fr_none)
/-- the rows of a front that the law draws -/
structure Rows (ws : List (List Str)) : Prop where
  sd : Sd ws
  w : ∀ u ∈ ws, isW u = true
  head : ws = [] :: ws.filter fun u => !u.isEmpty
  len : ws.length ≤ 185
  few : (singles ws).length < 64
theorem Rows.ne {ws : List (List Str)} (h : Rows ws) : ws ≠ [] := fun e => by
  have z := h.head
  rw [e] at z
  cases z
theorem Rows.drop {ws : List (List Str)} (h : Rows ws) : ws.drop 1 = ws.filter fun u => !u.isEmpty := by
  have z := congrArg (List.drop 1) h.head
  rw [List.drop_succ_cons, List.drop_zero] at z
  exact z
theorem Rows.pos {ws : List (List Str)} (h : Rows ws) : 1 ≤ ws.length := by
  have := List.length_pos_iff.mpr h.ne
  omega
/-- what a front tells -/
def told5 (ws : List (List Str)) (m : Nat) : List PyData := [.list (ws.map wD), .list ((singles ws).map PyData.str), .int (m : Int), .int (ws.length : Int), .str (frText ws)]
theorem singles_isL {ws : List (List Str)} (h : ∀ u ∈ ws, isW u = true) : ∀ s ∈ singles ws, isL s = true := fun s hs => by
  obtain ⟨w, hw, rfl⟩ := List.mem_map.mp hs
  obtain ⟨h1, h2⟩ := List.mem_filter.mp hw
  have h3 := of_decide_eq_true h2
  match w, h3, h1 with
  | [x], _, h1 => exact (isW_iff.mp (h _ h1)).2 x (List.mem_singleton.mpr rfl)
theorem told_ok {ws : List (List Str)} {m : Nat} (h : Rows ws) (hm : m ≤ 300) : (listText (PyData.shownAll (told5 ws m))).length ≤ sizeLine ∧ PyData.depthAll (told5 ws m) ≤ 40 := by
  have hl : ws.length ≤ 300 := Nat.le_trans h.len (by decide)
  have a1 : (PyData.list (ws.map wD)).shown.length ≤ 1000000 := by
    simp only [PyData.shown]
    exact lst_len h.w hl
  have a1d : (PyData.list (ws.map wD)).depth ≤ 12 := by
    have z := (sz_sum (n := 7600) (k := 11) (pw_sz h.w)).2.2
    simp only [PyData.depth]
    omega
  have a2 : Sz 30000 1 (.list ((singles ws).map PyData.str)) := sz_lst (n := 302) (k := 0) (fun d hd => by
    obtain ⟨s, hs, rfl⟩ := List.mem_map.mp hd
    exact sz_str (tok_letter (singles_isL h.w s hs)) (by decide)) (by
    have := h.few
    rw [List.length_map]
    omega)
  have a3 := int_shown hm
  have a4 := int_shown hl
  have a5 := fr_shown h.w hl
  have z := listText_len_le (PyData.shownAll (told5 ws m))
  have b2 := a2.1
  have b3 := a2.2
  unfold told5 at z ⊢
  simp only [PyData.shownAll, List.map_cons, List.map_nil, List.sum_cons, List.sum_nil, List.length_cons, List.length_nil] at z
  refine ⟨?_, ?_⟩
  · rw [sizeLine_eq]
    simp only [PyData.shownAll]
    omega
  · simp only [PyData.depthAll, PyData.depth] at a1d b3 ⊢
    omega
section
variable {P : Program} {w : World} {K : PySem.W.Frag} {σ : L2.St} {H H1 : Hp} {ta te : TE} {tt : TT} {j : Nat} {vs : List Nat} {l : Addr} {ws : List (List Str)} {xs : List Str}
theorem sw_letters (h : ∀ s ∈ xs, isL s = true) : Paired (Sw P w H) (xs.map V.str) (xs.map PyData.str) := by
  induction xs with
  | nil => exact .nil
  | cons x xs ih => exact .cons (sw_str (tok_mono (tok_letter (h x (List.mem_cons_self ..))) (by decide)) H) (ih fun s hs => h s (List.mem_cons_of_mem _ hs))
theorem sw_lw (h : LW K H l ws) (hw : ∀ u ∈ ws, isW u = true) : Sw P w H (.ref l) (.list (ws.map wD)) := by
  obtain ⟨us, h1, h2⟩ := h
  exact sw_lst h1 (pw_sw h2 hw)
theorem sw_nat {n : Nat} (h : n ≤ 300) : Sw P w H (.int (n : Int)) (.int (n : Int)) := sw_of (rw_int _) (by
  simp only [PyData.showable, decide_eq_true_eq]
  exact Nat.lt_of_le_of_lt (Nat.log2_le_self _) (by simp; omega)) (Nat.le_trans (int_shown h) (by decide))
theorem sw_fr (hw : ∀ u ∈ ws, isW u = true) (hn : ws.length ≤ 300) : Sw P w H (.str (frText ws)) (.str (frText ws)) := sw_of (rw_str _) rfl (by
  have := fr_shown hw hn
  rw [sizeLine_eq]
  omega)
theorem sw_told {m : Nat} {l1 l2 : Addr} (h : Rows ws) (hm : m ≤ 300) (h1 : LW K H l1 ws) (h2 : H l2 = some (.lst ((singles ws).map V.str))) : Paired (Sw P w H) [.ref l1, .ref l2, .int (m : Int), .int (ws.length : Int), .str (frText ws)] (told5 ws m) :=
  have hl : ws.length ≤ 300 := Nat.le_trans h.len (by decide)
  .cons (sw_lw h1 h.w) (.cons (sw_lst h2 (sw_letters (singles_isL h.w))) (.cons (sw_nat hm) (.cons (sw_nat hl) (.cons (sw_fr h.w hl) .nil))))
/-- [v(w) for w in ws if g(w)] -/
theorem el_WF (g : List Str → Bool) (v : List Str → V) (h : Ev ta σ H (.ref l)) (hl : LW K H l ws) (hz : ws.length ≤ 40000) (hw : ∀ x, wipe ((wipe σ vs).set j (some x)) vs = wipe σ vs)
    (ht : ∀ (x : V) (w : List Str) H1, Ex H H1 → Wd K H1 x w → w ∈ ws → EvT tt ((wipe σ vs).set j (some x)) H1 (g w)) (he : ∀ (x : V) (w : List Str) H1, Ex H H1 → Wd K H1 x w → w ∈ ws → g w = true → Ev te ((wipe σ vs).set j (some x)) H1 (v w)) :
    EvL (tLc (iList K ta) (gName j) tt te vs) σ H ((ws.filter g).map v) := by
  obtain ⟨us, h1, hp⟩ := hl
  have z := given_filter ws [] g v
  rw [← z, ← Paired.length hp]
  refine el_lcL (fun i => g (ws.getD i [])) (fun i => v (ws.getD i [])) h (SqL.of h1) (by rw [Paired.length hp]; exact hz) hw (fun i x H1 e hi => ?_) (fun i x H1 e hi hb => ?_)
  · obtain ⟨w, hw2, r⟩ := paired_at hp hi
    rw [show ws.getD i [] = w by rw [List.getD_eq_getElem?_getD, hw2]; rfl]
    exact ht x w H1 e (wd_mono e r) (List.mem_of_getElem? hw2)
  · obtain ⟨w, hw2, r⟩ := paired_at hp hi
    rw [show ws.getD i [] = w by rw [List.getD_eq_getElem?_getD, hw2]; rfl] at hb ⊢
    exact he x w H1 e (wd_mono e r) (List.mem_of_getElem? hw2) hb
theorem et_len1 {v : V} {w : List Str} (h : Ev te σ H v) (hv : Wd K H v w) : EvT (tTest (tOp rEq (tCB (rLenS K) (tCons te tNil)) (tC (.int 1)))) σ H (decide (w.length = 1)) := by
  have z := et_test (ev_op (r := rEq) (ev_lenW (K := K) h hv) (ev_c (v := .int 1)) (rv_eq rfl))
  rw [show decide (V.int (w.length : Int) = V.int 1) = decide (w.length = 1) from decide_eq_decide.mpr ⟨fun e => by injection e with e; omega, fun e => by rw [e]; rfl⟩] at z
  exact z
/-- repr(a) == repr(b), what is shown the same -/
theorem repr_same {a b : Addr} {us vs : List V} {ds : List PyData} (ha : Ev ta σ H (.ref a)) (hb : Ev te σ H (.ref b)) (h1 : H a = some (.lst us)) (h2 : H b = some (.lst vs)) (p1 : ∀ H1, Ex H H1 → Paired (Sw P w H1) us ds) (p2 : ∀ H1, Ex H H1 → Paired (Sw P w H1) vs ds)
    (hz : (listText (PyData.shownAll ds)).length ≤ sizeLine ∧ PyData.depthAll ds ≤ 40) : Ev (tOp rEq (tCB (rReprS P w) (tCons ta tNil)) (tCB (rReprS P w) (tCons te tNil))) σ H (.bl true) := fun H1 e Q q =>
  ha H1 e _ fun H2 e2 => ⟨a, us, ds, rfl, (e.trans e2) _ _ h1, p1 _ (e.trans e2), hz.1, hz.2, hb H2 (e.trans e2) _ fun H3 e3 => ⟨b, vs, ds, rfl, ((e.trans e2).trans e3) _ _ h2, p2 _ ((e.trans e2).trans e3), hz.1, hz.2, rfl, by
    rw [decide_eq_true rfl]
    exact q H3 (e2.trans e3)⟩⟩
end
/-! ### promises of the law's own defs over a front -/
def spShown (K : PySem.W.Frag) : Sp := fun vs H Q _ => ∃ (l : Addr) (ws : List (List Str)), vs = [.ref l] ∧ LW K H l ws ∧ Rows ws ∧ ∀ H', Ex H H' → Q (.str (frText ws)) H'
def spTells (K : PySem.W.Frag) (CF : Addr) : Sp := fun vs H Q _ => ∃ (a l : Addr) (ws : List (List Str)), vs = [.ref a, .ref l] ∧ FrAt K CF H a ws ∧ LW K H l ws ∧ Rows ws ∧ ∀ H', Ex H H' → Q (.bl true) H'
end Tk
namespace Tk
open PySem PySem.Spec PyProof.Rows L2 Lw Evl LamX TL
theorem q_asgX {te : TE} {i : Nat} {tz : TS} {D : Ends} {σ : L2.St} {H : Hp} (h : te σ H fun v H1 => tz D (σ.set i (some v)) H1) : tSeq (tAsg te (gName i)) tz D σ H := h
theorem tc_el {te : TE} {tk : TA} {r : List V → Hp → VK → Prop} {σ : L2.St} {H : Hp} {Q : List V → Hp → Prop} {xs : List V} (h : EvL te σ H xs) (k : ∀ l H1, H l = none → Ex H H1 → H1 l = some (.lst xs) → r [.ref l] H1 fun x H2 => tk σ H2 fun vs H3 => Q (x :: vs) H3) : tCons (tCB r (tCons te tNil)) tk σ H Q := h H (Ex.refl H) _ k
theorem tc_v {te : TE} {tk : TA} {σ : L2.St} {H : Hp} {Q : List V → Hp → Prop} (h : te σ H fun x H2 => tk σ H2 fun vs H3 => Q (x :: vs) H3) : tCons te tk σ H Q := h
theorem tl_of {ta : TA} {σ : L2.St} {H : Hp} {Q : VK} (h : ta σ H fun xs H1 => xs.length ≤ sizeLine ∧ ∀ p, H1 p = none → Q (.ref p) (upd H1 p (.lst xs))) : tLst ta σ H Q := h
end Tk
namespace Tk
open PySem PySem.Spec PyProof.Rows L2 Lw Evl LamX TL
open Rm (R Ok Z0 Zp Fr fr_none fr_ne nt_lst nt_tup nt_dK NT Zn)
theorem op_repTF {X : Cx} {K : PySem.W.Frag} (h : X.K = K := by rfl) : OpR X (binaryOp .Mult) (rRepT K) := h ▸ op_repT
section
variable {P : Program} {w : World} {K : PySem.W.Frag} {Z : Zn} {H H0 H1 H2 : Hp} {σ : L2.St} {te ta tb : TE} {tk : TA} {v : V} {s : Str} {d : PyData} {a l CF : Addr} {ws us : List (List Str)} {x : List Str} {j : Nat} {vs : List Nat} {xs : List V} {bs : List Bool}
/-! ### values that are no words -/
def Nw (K : PySem.W.Frag) : Hp → Hp → V → Prop := fun _ H v => WB K H v false
theorem up_nw : Up (Nw K) := ⟨fun e h => wbv_mono e h, fun _ h => h⟩
theorem nw_of (h : EO te σ H (GA P w K d)) : ∀ H1, Ex H H1 → ∀ Q : VK, (∀ v H2, Ex H1 H2 → Nw K H1 H2 v → Q v H2) → te σ H1 Q := fun H1 e Q q => h H1 e Q fun v H2 e2 f => q v H2 e2 (ft_now f).2
theorem nw_lst (h : Ev te σ H (.ref l)) (hl : H l = some (.lst xs)) : ∀ H1, Ex H H1 → ∀ Q : VK, (∀ v H2, Ex H1 H2 → Nw K H1 H2 v → Q v H2) → te σ H1 Q := fun H1 e Q q => h H1 e Q fun H2 e2 => q _ H2 e2 (.oth (t := "list") (.base (.lst ((e.trans e2) _ _ hl))) rfl)
theorem nw_rep4 (h : Ev te σ H (.str s)) (hs : s.length ≤ 1000) : ∀ H1, Ex H H1 → ∀ Q : VK, (∀ v H2, Ex H1 H2 → Nw K H1 H2 v → Q v H2) → tOp (rRepT K) (tTup (tCons te tNil)) (tC (.int 4)) σ H1 Q := fun H1 e Q q => h H1 e _ fun H2 e2 =>
  ⟨(by show 1 ≤ sizeLine; decide), fun a na => ⟨a, 4, [.str s], rfl, rfl, SqT.of upd_same, (fun z => nomatch z), by decide, by decide, Nat.le_of_ble_eq_true rfl, fun p np => q _ _ ((e2.trans (Ex.new na)).trans (Ex.new np)) (by
    have z := wb_any (K := K) (H := upd (upd H2 a (.tup [.str s])) p (.tup (List.replicate (4 : Int).toNat [V.str s]).flatten)) (v := .ref p) (ys := [s, s, s, s]) ⟨p, rfl, upd_same⟩ (Nat.le_of_ble_eq_true rfl) (fun y hy => by
      have e : y = s := by simpa using hy
      rw [e]
      exact hs)
    exact z)⟩⟩
/-- {} within a tuple -/
theorem ei_dnew : EO tDNewK σ H (GB P w K (.dict []) false) := fun H1 e Q q => fun p hp => q _ _ (Ex.new hp) (ft_imp (ft_new (G := fun _ => True) (ft_pure fun _ => trivial) (Ex.refl H1) hp nt_dK) fun H3 z => ⟨sw_of (rw_dk (ds := []) z.1 rfl) rfl (by show (2 : Nat) ≤ sizeLine; decide), .oth (t := "dict") (.base (.dK z.1)) rfl⟩)
/-! ### x in front -/
theorem ev_inFr (ha : Ev ta σ H v) (hb : Ev tb σ H (.ref a)) (hf : FrAt K CF H a ws) (hv : Wd K H v x) (hx : isW x = true) : Ev (tOp (rInO CF (spFrIn K CF) E0) ta tb) σ H (.bl (decide (x ∈ ws))) := fun H1 e Q q =>
  ha H1 e _ fun H2 e2 => hb H2 (e.trans e2) _ fun H3 e3 => by
    have e13 := e2.trans e3
    have hf3 := fr_ex (e.trans e13) hf
    obtain ⟨dx, d, h1, h2⟩ := id hf3
    exact ⟨a, dx, _, rfl, h1, a, v, ws, rfl, hf3, .inr ⟨x, wd_mono (e.trans e13) hv, hx, fun H4 e4 => ⟨_, rfl, q H4 (e13.trans e4)⟩⟩⟩
theorem ev_inFrN (ha : Ev ta σ H v) (hb : Ev tb σ H (.ref a)) (hf : FrAt K CF H a ws) (hv : WB K H v false) : Ev (tOp (rInO CF (spFrIn K CF) E0) ta tb) σ H (.bl false) := fun H1 e Q q =>
  ha H1 e _ fun H2 e2 => hb H2 (e.trans e2) _ fun H3 e3 => by
    have e13 := e2.trans e3
    have hf3 := fr_ex (e.trans e13) hf
    obtain ⟨dx, d, h1, h2⟩ := id hf3
    exact ⟨a, dx, _, rfl, h1, a, v, ws, rfl, hf3, .inl ⟨wbv_mono (e.trans e13) hv, fun H4 e4 => ⟨_, rfl, q H4 (e13.trans e4)⟩⟩⟩
/-- any([..]) -/
theorem ev_any (h : EvL te σ H xs) (hx : xs = bs.map V.bl) : Ev (tCB (rAny K) (tCons te tNil)) σ H (.bl (bs.any id)) := fun H1 e Q q => h H1 e _ fun p H2 _ e2 hl => ⟨p, bs, rfl, SqL.of (by rw [← hx]; exact hl), q H2 e2⟩
/-- [f(x) for x in xs], all the same -/
theorem el_same (v : V) (h : Ev ta σ H (.ref l)) (hl : H l = some (.lst xs)) (hz : xs.length ≤ 40000) (hw : ∀ x, wipe ((wipe σ vs).set j (some x)) vs = wipe σ vs) (he : ∀ x H1, Ex H H1 → x ∈ xs → Ev te ((wipe σ vs).set j (some x)) H1 v) : EvL (tLc (iList K ta) (gName j) tYes te vs) σ H (List.replicate xs.length v) := by
  have z := el_lcL (K := K) (t := tYes) (fun _ => true) (fun _ => v) h (SqL.of hl) hz hw (fun i x H1 e hi => et_yes) (fun i x H1 e hi _ => he x H1 e (List.mem_of_getElem? hi))
  have e : given xs.length (fun _ => true) (fun _ => v) = List.replicate xs.length v := by
    unfold given
    rw [List.filter_eq_self.mpr fun _ _ => rfl, List.map_const', List.length_range]
  rw [e] at z
  exact z
/-- repr(a) != repr(b), both the same new lists -/
theorem et_neRepr {ds : List PyData} (h1 : EvL ta σ H xs) (h2 : EvL tb σ H xs) (p : ∀ H1, Paired (Sw P w H1) xs ds) (hz : (listText (PyData.shownAll ds)).length ≤ sizeLine ∧ PyData.depthAll ds ≤ 40) : EvT (tTest (tOp rNe (tCB (rReprS P w) (tCons ta tNil)) (tCB (rReprS P w) (tCons tb tNil)))) σ H false := fun H1 e Q q =>
  h1 H1 e _ fun a H2 _ e2 ha => ⟨a, xs, ds, rfl, ha, p _, hz.1, hz.2, h2 H2 (e.trans e2) _ fun b H3 _ e3 hb => ⟨b, xs, ds, rfl, hb, p _, hz.1, hz.2, rfl, false, by rw [decide_eq_true rfl]; rfl, q H3 (e2.trans e3)⟩⟩
theorem sw_bls (bs : List Bool) (H : Hp) : Paired (Sw P w H) (bs.map V.bl) (bs.map PyData.bool) := by
  induction bs with
  | nil => exact .nil
  | cons b bs ih => exact .cons (sw_of (rw_bl b) rfl (by cases b <;> decide +kernel)) ih
theorem bls_ok {bs : List Bool} (h : bs.length ≤ 1000) : (listText (PyData.shownAll (bs.map PyData.bool))).length ≤ sizeLine ∧ PyData.depthAll (bs.map PyData.bool) ≤ 40 := by
  obtain ⟨z1, z2, z3⟩ := sz_sum (n := 302) (k := 0) (ds := bs.map PyData.bool) fun d hd => by
    obtain ⟨b, _, rfl⟩ := List.mem_map.mp hd
    exact sz_bl b
  rw [List.length_map] at z1 z2
  have := listText_len_le (PyData.shownAll (bs.map PyData.bool))
  refine ⟨?_, by omega⟩
  rw [sizeLine_eq]
  omega
end
/-! ### promises -/
structure Signs (H : Hp) (p g : Addr) (xs : List Str) : Prop where
  at_ : H g = some (.lst (xs.map V.str))
  ne : g ≠ p
  pos : 0 < xs.length
  le : xs.length ≤ 8
  l : ∀ x ∈ xs, isL x = true
theorem signs_R {T : List (Addr × Str)} {p g : Addr} {xs : List Str} {H H1 : Hp} (r : R (Zp T p) H H1) (h : Signs H p g xs) : Signs H1 p g xs := ⟨r.lst h.at_ h.ne, h.ne, h.pos, h.le, h.l⟩
theorem signs_ex {p g : Addr} {xs : List Str} {H H1 : Hp} (e : Ex H H1) (h : Signs H p g xs) : Signs H1 p g xs := ⟨e _ _ h.at_, h.ne, h.pos, h.le, h.l⟩
theorem signs_0 {p g : Addr} {xs : List Str} {H : Hp} {K : PySem.W.Frag} (h : Signs H p g xs) : ∃ s, isL s = true ∧ ∀ {σ : L2.St} {k : Nat} {H1 : Hp}, Ex H H1 → σ[k]? = some (some (.ref g)) → Ev (tOp (rIxL K) (tVar k) (tC (.int 0))) σ H1 (.str s) := by
  refine ⟨xs[0]'h.pos, h.l _ (List.getElem_mem _), fun {σ k H1} e hk => ?_⟩
  exact ev_op (ev_var hk) ev_c (rv_ixL (SqL.of (e _ _ h.at_)) (show atI (xs.map V.str) ((0 : Nat) : Int) = some (.str (xs[0]'h.pos)) from atI_nat (by rw [List.getElem?_map, List.getElem?_eq_getElem h.pos]; rfl)))
def spHolds (K : PySem.W.Frag) (CF : Addr) : Sp := fun vs H Q _ => ∃ (T : List (Addr × Str)) (p a l g : Addr) (xs : List Str) (ws : List (List Str)), vs = [.ref p, .ref a, .ref l, .ref g] ∧ Ok (Zp T p) H ∧ FrAt K CF H a ws ∧ LW K H l ws ∧ Rows ws ∧ Signs H p g xs ∧ ∀ H', R (Zp T p) H H' → Q (.bl true) H'
end Tk
namespace Lw
open PySem PySem.Spec PyProof.Rows L2 Evl
/-- what the class's == needs to know of other kinds -/
structure OthK (K : PySem.W.Frag) (C : Addr) : Prop where
  kin : NoKin K C
  nf : ∀ t ∈ ["NoneType", "bool", "int", "str", "list", "tuple", "dict"], PySem.W.notFirst K C (.type t) = true
  ko : ∀ t ∈ ["NoneType", "bool", "int", "str", "list", "tuple", "dict"], PySem.W.kitOne K (.type t) (.ref C) = some false
def othB (K : PySem.W.Frag) (C : Addr) : Bool := noKinB K C && (["NoneType", "bool", "int", "str", "list", "tuple", "dict"].all fun t => PySem.W.notFirst K C (.type t) && decide (PySem.W.kitOne K (.type t) (.ref C) = some false))
theorem oth_ok {K : PySem.W.Frag} {C : Addr} (h : othB K C = true) : OthK K C := by
  obtain ⟨h1, h2⟩ := Bool.and_eq_true_iff.mp h
  exact ⟨noKin_ok h1, fun t m => (Bool.and_eq_true_iff.mp (List.all_eq_true.mp h2 t m)).1, fun t m => of_decide_eq_true (Bool.and_eq_true_iff.mp (List.all_eq_true.mp h2 t m)).2⟩
end Lw
namespace Tk
open PySem PySem.Spec PyProof.Rows L2 Lw Evl LamX TL
open Rm (R Ok Z0 Zp Fr fr_none fr_ne nt_lst nt_tup nt_dK NT Zn)
section
variable {P : Program} {w : World} {K : PySem.W.Frag} {Z : Zn} {H H0 H1 H2 : Hp} {σ : L2.St} {te ta tb : TE} {tk : TA} {v : V} {s : Str} {d : PyData} {a l b CF CS p : Addr} {ws us : List (List Str)} {j : Nat} {vs : List Nat} {xs : List V} {TT : List (Addr × Str)} {E : XK} {Q : VK}
theorem fr_lst {o : HO} (h : FrAt K CF H a ws) (hb : H b = some (.lst xs)) : FrAt K CF (upd H b o) a ws := by
  obtain ⟨dx, d, h1, h2⟩ := h
  have n1 : a ≠ b := fun z => by
    rw [z, hb] at h1
    cases h1
  have n2 : d ≠ b := fun z => by
    rw [z, hb] at h2
    cases h2
  refine ⟨dx, d, ?_, ?_⟩
  · rw [upd_ne n1]
    exact h1
  · rw [upd_ne n2]
    exact h2
theorem r0_up (ok : Ok Z H1) (hT : Z.T = TT) (r : R (Z0 TT) H1 H2) : R Z H1 H2 := by
  subst hT
  exact ⟨ok, ⟨r.b.1, fun a m => by
    obtain ⟨i, j, e, z⟩ := ok.2 a m
    exact ⟨i, j, r.st _ _ e nt_lst fun y => y, z⟩⟩, fun x o e n _ => r.st x o e n fun y => y⟩
/-- an expression that gives words that a front can be made of -/
def EvG (K : PySem.W.Frag) (te : TE) (σ : L2.St) (H : Hp) (ws : List (List Str)) : Prop := ∀ H1, Ex H H1 → ∀ Q : VK, (∀ v H2, Ex H1 H2 → GoodLot K H2 v ws → Q v H2) → te σ H1 Q
theorem eg_var (h : Ev te σ H v) (hg : GoodLot K H v ws) : EvG K te σ H ws := fun H1 e Q q => h H1 e Q fun H2 e2 => q v H2 e2 (goodLot_ex (e.trans e2) hg)
theorem eg_new (h : EvLW K te σ H ws) (hw : ∀ u ∈ ws, isW u = true) (hz : ws.length ≤ 249) : EvG K te σ H ws := fun H1 e Q q => h H1 e Q fun l H2 _ e2 hL => q _ H2 e2 (good_lot hL hw hz)
theorem eg_tuple (h : Ev te σ H (.ref l)) (hl : LW K H l ws) (hw : ∀ u ∈ ws, isW u = true) (hz : ws.length ≤ 249) : EvG K (tCB (rTupleK K) (tCons te tNil)) σ H ws := fun H1 e Q q => h H1 e _ fun H2 e2 => by
  obtain ⟨us, h1, h2⟩ := lw_mono (e.trans e2) hl
  exact ⟨l, us, rfl, .inl ⟨SqL.of h1, fun t ht => q _ _ (e2.trans (Ex.new ht)) (.inl ⟨t, us, rfl, .inr upd_same, paired_mono (fun _ _ r => wd_mono (Ex.new ht) r) h2, hw, hz⟩)⟩⟩
/-- .. a new front -/
def Ef (Z : Zn) (K : PySem.W.Frag) (CF : Addr) (te : TE) (σ : L2.St) (H : Hp) (ws : List (List Str)) : Prop := ∀ H1, R Z H H1 → ∀ Q : VK, (∀ x H2, Fr H1 x → R Z H1 H2 → FrAt K CF H2 x ws → Q (.ref x) H2) → te σ H1 Q
theorem ef_mk (hT : Z.T = TT) (h : ∀ H1, R Z H H1 → EvG K te σ H1 ws) : Ef Z K CF (tMake CF (spFrI K TT CS CF) [] E (tCons te tNil)) σ H (clW ws) := fun H1 r Q q => h H1 r H1 (Ex.refl H1) _ fun v H2 e hg x dx nx nd ne => by
  have o2 := (R.of r.b e).b
  refine ⟨x, dx, v, H2, rfl, rfl, nx, nd, ne, by rw [← hT]; exact o2.1, .inr ⟨ws, hg, fun H3 r3 hf => ⟨rfl, q x H3 ((R.of r.b e).fr (fr_none nx)) ((R.of r.b e).trans (r0_up o2 hT r3)) hf⟩⟩⟩
theorem ef_mkK (hT : Z.T = TT) (h : ∀ H1, R Z H H1 → EvG K te σ H1 ws) : Ef Z K CF (tMakeK CF 0 1 (spFrI K TT CS CF) (fun vs zs => vs ++ zs) E tNil (tCons te tNil)) σ H (clW ws) := fun H1 r Q q => h H1 r H1 (Ex.refl H1) _ fun v H2 e hg => ⟨rfl, rfl, fun x dx nx nd ne => by
  have o2 := (R.of r.b e).b
  refine ⟨x, dx, v, H2, rfl, rfl, nx, nd, ne, by rw [← hT]; exact o2.1, .inr ⟨ws, hg, fun H3 r3 hf => ⟨rfl, q x H3 ((R.of r.b e).fr (fr_none nx)) ((R.of r.b e).trans (r0_up o2 hT r3)) hf⟩⟩⟩⟩
theorem ef_mk0 {dA : Addr} (hT : Z.T = TT) (hd : ∀ H, SqT K H dA []) : Ef Z K CF (tMake CF (spFrI K TT CS CF) [.ref dA] E tNil) σ H (clW []) := fun H1 r Q q x dx nx nd ne =>
  ⟨x, dx, .ref dA, H1, rfl, rfl, nx, nd, ne, by rw [← hT]; exact r.b.1, .inr ⟨[], .inr ⟨dA, rfl, hd _, rfl⟩, fun H3 r3 hf => ⟨rfl, q x H3 (fr_none nx) (r0_up r.b hT r3) hf⟩⟩⟩
/-! ### == of fronts -/
theorem eqo_at (ha : FrAt K CF H a ws) (hb : FrAt K CF H b us) (sa : Sd ws) (sb : Sd us) (q : ∀ H1, Ex H H1 → Q (.bl (decide (ws = us))) H1) : rEqO K CF (spFrEq K CF) E0 (.ref a) (.ref b) H Q := by
  obtain ⟨dx, d, h1, h2⟩ := id ha
  obtain ⟨dy, e, h3, h4⟩ := id hb
  exact ⟨a, dx, _, rfl, h1, .inr ⟨b, dy, _, rfl, h3⟩, a, .ref b, ws, rfl, ha, sa, .inr ⟨b, us, rfl, hb, sb, fun H1 e => ⟨_, rfl, q H1 e⟩⟩⟩
theorem neo_at (ha : FrAt K CF H a ws) (hb : FrAt K CF H b us) (sa : Sd ws) (sb : Sd us) (q : ∀ H1, Ex H H1 → Q (.bl (!decide (ws = us))) H1) : rNeO K CF (spFrEq K CF) E0 (.ref a) (.ref b) H Q := by
  obtain ⟨dx, d, h1, h2⟩ := id ha
  obtain ⟨dy, e, h3, h4⟩ := id hb
  exact ⟨a, dx, _, rfl, h1, .inr ⟨b, dy, _, rfl, h3⟩, a, .ref b, ws, rfl, ha, sa, .inr ⟨b, us, rfl, hb, sb, fun H1 e => ⟨_, rfl, q H1 e⟩⟩⟩
theorem ev_eqF (ha : Ev ta σ H (.ref a)) (hb : Ev tb σ H (.ref b)) (fa : FrAt K CF H a ws) (fb : FrAt K CF H b us) (sa : Sd ws) (sb : Sd us) : Ev (tOp (rEqO K CF (spFrEq K CF) E0) ta tb) σ H (.bl (decide (ws = us))) := fun H1 e Q q =>
  ha H1 e _ fun H2 e2 => hb H2 (e.trans e2) _ fun H3 e3 => eqo_at (fr_ex ((e.trans e2).trans e3) fa) (fr_ex ((e.trans e2).trans e3) fb) sa sb fun H4 e4 => q H4 ((e2.trans e3).trans e4)
theorem ev_neF (ha : Ev ta σ H (.ref a)) (hb : Ev tb σ H (.ref b)) (fa : FrAt K CF H a ws) (fb : FrAt K CF H b us) (sa : Sd ws) (sb : Sd us) : Ev (tOp (rNeO K CF (spFrEq K CF) E0) ta tb) σ H (.bl (!decide (ws = us))) := fun H1 e Q q =>
  ha H1 e _ fun H2 e2 => hb H2 (e.trans e2) _ fun H3 e3 => neo_at (fr_ex ((e.trans e2).trans e3) fa) (fr_ex ((e.trans e2).trans e3) fb) sa sb fun H4 e4 => q H4 ((e2.trans e3).trans e4)
/-- Front(..) == front, Front(..) != front -/
theorem ew_eqE {us : List (List Str)} (h : Ef Z K CF ta σ H us) (hb : σ[j]? = some (some (.ref b))) (fb : FrAt K CF H b ws) (su : Sd us) (sw : Sd ws) : Rm.Ew Z (tOp (rEqO K CF (spFrEq K CF) E0) ta (tVar j)) σ H (.bl (decide (us = ws))) := fun H1 r Q q =>
  h H1 r _ fun x H2 fx r2 hx => ⟨_, hb, eqo_at hx (fr_R (r.trans r2) fb) su sw fun H3 e3 => q H3 (r2.ex e3)⟩
theorem ew_neE {us : List (List Str)} (h : Ef Z K CF ta σ H us) (hb : σ[j]? = some (some (.ref b))) (fb : FrAt K CF H b ws) (su : Sd us) (sw : Sd ws) : Rm.Ew Z (tOp (rNeO K CF (spFrEq K CF) E0) ta (tVar j)) σ H (.bl (!decide (us = ws))) := fun H1 r Q q =>
  h H1 r _ fun x H2 fx r2 hx => ⟨_, hb, neo_at hx (fr_R (r.trans r2) fb) su sw fun H3 e3 => q H3 (r2.ex e3)⟩
theorem ew_eqEE {us : List (List Str)} (h : Ef Z K CF ta σ H us) (k : Ef Z K CF tb σ H ws) (su : Sd us) (sw : Sd ws) : Rm.Ew Z (tOp (rEqO K CF (spFrEq K CF) E0) ta tb) σ H (.bl (decide (us = ws))) := fun H1 r Q q =>
  h H1 r _ fun x H2 fx r2 hx => k H2 (r.trans r2) _ fun y H3 fy r3 hy => eqo_at (fr_R r3 hx) hy su sw fun H4 e4 => q H4 ((r2.trans r3).ex e4)
/-! ### values of other kinds beside a front -/
def Oq (K : PySem.W.Frag) : Hp → Hp → V → Prop := fun _ H v => Lft K H v ∧ ∃ t ∈ ["NoneType", "bool", "int", "str", "list", "tuple", "dict"], TyX K H v (.type t)
theorem lft_ex (e : Ex H H1) (h : Lft K H v) : Lft K H1 v := by
  cases h with
  | non => exact .non
  | bl b => exact .bl b
  | int i => exact .int i
  | str s => exact .str s
  | lst h => exact .lst (e _ _ h)
  | tup h => exact .tup (e _ _ h)
  | dK h => exact .dK (e _ _ h)
theorem up_oq : Up (Oq K) := ⟨fun e ⟨h, t, m, k⟩ => ⟨lft_ex e h, t, m, tyx_mono e k⟩, fun _ h => h⟩
theorem oq_ev (h : Ev te σ H v) (k : ∀ H, Oq K H H v) : ∀ H1, Ex H H1 → ∀ Q : VK, (∀ v H2, Ex H1 H2 → Oq K H1 H2 v → Q v H2) → te σ H1 Q := fun H1 e Q q => h H1 e Q fun H2 e2 => q v H2 e2 (k H2)
theorem oq_non (H : Hp) : Oq K H H .non := ⟨.non, "NoneType", by decide, .base .non⟩
theorem oq_bl (b : Bool) (H : Hp) : Oq K H H (.bl b) := ⟨.bl b, "bool", by decide, .base (.bl b)⟩
theorem oq_int (i : Int) (H : Hp) : Oq K H H (.int i) := ⟨.int i, "int", by decide, .base (.int i)⟩
theorem oq_str (s : Str) (H : Hp) : Oq K H H (.str s) := ⟨.str s, "str", by decide, .base (.str s)⟩
theorem oq_lst {xs : List V} (h : H l = some (.lst xs)) : Oq K H0 H (.ref l) := ⟨.lst h, "list", by decide, .base (.lst h)⟩
theorem oq_tup {xs : List V} (h : H l = some (.tup xs)) : Oq K H0 H (.ref l) := ⟨.tup h, "tuple", by decide, tyx_tup (SqT.of h)⟩
theorem oq_dK {kvs : List (L2.Key × V)} (h : H l = some (.dK kvs)) : Oq K H0 H (.ref l) := ⟨.dK h, "dict", by decide, .base (.dK h)⟩
theorem oq_lstV {xs : List V} (h : Ev te σ H (.ref l)) (hl : H l = some (.lst xs)) : ∀ H1, Ex H H1 → ∀ Q : VK, (∀ v H2, Ex H1 H2 → Oq K H1 H2 v → Q v H2) → te σ H1 Q := fun H1 e Q q => h H1 e Q fun H2 e2 => q _ H2 e2 (oq_lst ((e.trans e2) _ _ hl))
theorem oq_tupV {xs : List V} (h : Ev te σ H (.ref l)) (hl : H l = some (.lst xs)) : ∀ H1, Ex H H1 → ∀ Q : VK, (∀ v H2, Ex H1 H2 → Oq K H1 H2 v → Q v H2) → tCB (rTupleK K) (tCons te tNil) σ H1 Q := fun H1 e Q q => h H1 e _ fun H2 e2 => ⟨l, xs, rfl, .inl ⟨SqL.of ((e.trans e2) _ _ hl), fun t ht => q _ _ (e2.trans (Ex.new ht)) (oq_tup upd_same)⟩⟩
theorem oq_nil : ∀ H1, Ex H H1 → ∀ Q : VK, (∀ v H2, Ex H1 H2 → Oq K H1 H2 v → Q v H2) → tTup tNil σ H1 Q := fun H1 e Q q => ⟨Nat.zero_le _, fun p hp => q _ _ (Ex.new hp) (oq_tup upd_same)⟩
theorem oq_dnew : ∀ H1, Ex H H1 → ∀ Q : VK, (∀ v H2, Ex H1 H2 → Oq K H1 H2 v → Q v H2) → tDNewK σ H1 Q := fun H1 e Q q => fun p hp => q _ _ (Ex.new hp) (oq_dK upd_same)
/-- front == thing or thing == front -/
theorem ev_odd (O : OthK K CF) (ha : Ev ta σ H (.ref a)) (hb : Ev tb σ H v) (hf : FrAt K CF H a ws) (sd : Sd ws) (hv : Oq K H H v) : Ev (tOrV (tOp (rEqO K CF (spFrEq K CF) E0) ta tb) (tOp (rEqRt K CF (spFrEq K CF) E0) tb ta)) σ H (.bl (false || false)) := by
  refine ev_orV (fun H1 e Q q => ha H1 e _ fun H2 e2 => hb H2 (e.trans e2) _ fun H3 e3 => ?_) fun _ H1 e Q q => hb H1 e _ fun H2 e2 => ha H2 (e.trans e2) _ fun H3 e3 => ?_
  · have hf3 := fr_ex ((e.trans e2).trans e3) hf
    obtain ⟨dx, d, h1, h2⟩ := id hf3
    obtain ⟨hl, t, m, ht⟩ := (up_oq (K := K)).up (H0 := H) ((e.trans e2).trans e3) hv
    exact ⟨a, dx, _, rfl, h1, .inl ⟨t, ht, O.nf t m⟩, a, v, ws, rfl, hf3, sd, .inl ⟨_, ht, O.ko t m, fun H4 e4 => ⟨_, rfl, q H4 ((e2.trans e3).trans e4)⟩⟩⟩
  · have hf3 := fr_ex ((e.trans e2).trans e3) hf
    obtain ⟨dx, d, h1, h2⟩ := id hf3
    obtain ⟨hl, t, m, ht⟩ := (up_oq (K := K)).up (H0 := H) ((e.trans e2).trans e3) hv
    exact ⟨a, dx, _, rfl, h1, hl, a, v, ws, rfl, hf3, sd, .inl ⟨_, ht, O.ko t m, fun H4 e4 => ⟨_, rfl, q H4 ((e2.trans e3).trans e4)⟩⟩⟩
theorem elw_revcat {K' : PySem.W.Frag} {us : List (List Str)} (ha : Ev ta σ H (.ref a)) (hb : Ev tb σ H (.ref b)) (h1 : LW K H a us) (h2 : LW K H b ws) (hz : us.length + ws.length ≤ 100000) : EvLW K (tOp rCat (tRevL K' ta) tb) σ H (us.reverse ++ ws) := fun H1 e Q q => ha H1 e _ fun H2 e2 => by
  obtain ⟨vs, v1, v2⟩ := lw_mono (e.trans e2) h1
  refine ⟨a, vs, rfl, SqL.of v1, fun p hp => hb _ ((e.trans e2).trans (Ex.new hp)) _ fun H3 e3 => ?_⟩
  obtain ⟨zs, z1, z2⟩ := lw_mono (((e.trans e2).trans (Ex.new hp)).trans e3) h2
  have l1 := Paired.length v2
  have l2 := Paired.length z2
  refine ⟨p, b, vs.reverse, zs, rfl, rfl, e3 _ _ upd_same, z1, sz_of (by rw [List.length_reverse]; omega), fun t ht => q t _ (fresh_back ((e2.trans (Ex.new hp)).trans e3) ht) (((e2.trans (Ex.new hp)).trans e3).trans (Ex.new ht)) ⟨_, upd_same, ?_⟩⟩
  exact paired_mono (fun _ _ r => wd_mono (Ex.new ht) r) (paired_app (paired_mono (fun _ _ r => wd_mono ((Ex.new hp).trans e3) r) (paired_rev v2)) z2)
theorem oq_repr (h : Ev te σ H (.ref a)) (hf : FrAt K CF H a ws) (hw : ∀ u ∈ ws, isW u = true) (hz : ws.length ≤ 300) : ∀ H1, Ex H H1 → ∀ Q : VK, (∀ v H2, Ex H1 H2 → Oq K H1 H2 v → Q v H2) → tCB (rReprO CF (spFrRepr K CF) E0) (tCons te tNil) σ H1 Q := fun H1 e Q q => h H1 e _ fun H2 e2 => by
  have hf2 := fr_ex (e.trans e2) hf
  obtain ⟨dx, d, h1, h2⟩ := id hf2
  exact ⟨a, dx, _, rfl, h1, a, ws, rfl, hf2, hw, hz, fun H3 e3 => ⟨_, rfl, q _ H3 (e2.trans e3) (oq_str _ H3)⟩⟩
theorem oq_len {xs : List V} (h : Ev te σ H (.ref l)) (hl : H l = some (.lst xs)) : ∀ H1, Ex H H1 → ∀ Q : VK, (∀ v H2, Ex H1 H2 → Oq K H1 H2 v → Q v H2) → tCB (rLenS K) (tCons te tNil) σ H1 Q := fun H1 e Q q => h H1 e _ fun H2 e2 => ⟨l, xs, rfl, .inl (SqL.of ((e.trans e2) _ _ hl)), q _ H2 e2 (oq_int _ H2)⟩
theorem rows_clW {ls : List (List Str)} (hw : ∀ u ∈ ls, isW u = true) (hz : ls.length ≤ 60) (hf : (singles (clW ls)).length < 64) : Rows (clW ls) := by
  obtain ⟨rs, _, _, h⟩ := clW_head (ws := ls)
  exact ⟨clW_sd, clW_isW hw, h, by have := clW_len (isW_3 hw); omega, hf⟩
/-- front == mate and mate == front and not front != mate -/
theorem ev_mates (ha : Ev ta σ H (.ref a)) (hb : Ev tb σ H (.ref b)) (fa : FrAt K CF H a ws) (fb : FrAt K CF H b ws) (sd : Sd ws) : Ev (tAndV (tOp (rEqO K CF (spFrEq K CF) E0) ta tb) (tAndV (tOp (rEqO K CF (spFrEq K CF) E0) tb ta) (tNotV (tOp (rNeO K CF (spFrEq K CF) E0) ta tb)))) σ H (.bl true) := by
  have z := ev_andV (ev_eqF ha hb fa fb sd sd) fun _ => ev_andV (ev_eqF hb ha fb fa sd sd) fun _ => ev_notV (ev_neF ha hb fa fb sd sd)
  rw [decide_eq_true (rfl : ws = ws)] at z
  exact z
theorem call_two {sp : Sp} (h : ta σ H fun x H1 => tb σ H1 fun y H2 => sp [x, y] H2 Q E) : tCall sp [] E (tCons ta (tCons tb tNil)) σ H Q := h
theorem eg_nil : EvG K (tTup tNil) σ H [] := fun H1 e Q q => ⟨Nat.zero_le _, fun t ht => q _ _ (Ex.new ht) (.inl ⟨t, [], rfl, .inr upd_same, .nil, fun _ z => absurd z List.not_mem_nil, by decide⟩)⟩
theorem few_singles {ls : List (List Str)} {xs : List Str} (h : ∀ w ∈ ls, ∀ y ∈ w, y ∈ xs) : (singles (clW ls)).length ≤ xs.length := by
  refine nodup_le (List.Pairwise.imp (fun {a b} r e => r (by rw [e])) (List.pairwise_map.mp (sd_nodup (singles_sd (clW_sd (ws := ls)))))) fun s hs => ?_
  obtain ⟨w, hw, rfl⟩ := List.mem_map.mp hs
  obtain ⟨h1, h2⟩ := List.mem_filter.mp hw
  have h3 := of_decide_eq_true h2
  rcases mem_clW.mp h1 with rfl | ⟨u, hu, hb⟩
  · cases h3
  · obtain ⟨k, _, rfl⟩ := mem_begs.mp hb
    refine h u hu _ (List.mem_of_mem_take (i := k) ?_)
    generalize u.take k = z at h3
    match z, h3 with
    | [x], _ => exact List.mem_singleton.mpr rfl
end
def spKept (K : PySem.W.Frag) (T : List (Addr × Str)) : Sp := fun vs H Q _ => ∃ (l m : Addr) (ls : List (List Str)), vs = [.ref l, .ref m] ∧ Tabs T H ∧ LW K H l ls ∧ (∀ u ∈ ls, isW u = true) ∧ ls.length ≤ 60 ∧ LW K H m (clW ls) ∧ Rows (clW ls) ∧ ∀ H', R (Z0 T) H H' → Q (.bl true) H'
def spEquals (K : PySem.W.Frag) (T : List (Addr × Str)) (CF : Addr) : Sp := fun vs H Q _ => ∃ (p a l m g : Addr) (xs : List Str) (ls : List (List Str)), vs = [.ref p, .ref a, .ref l, .ref m, .ref g] ∧ Ok (Zp T p) H ∧ FrAt K CF H a (clW ls) ∧ LW K H l ls ∧ (∀ u ∈ ls, isW u = true) ∧ ls.length ≤ 60 ∧ LW K H m (clW ls) ∧ Rows (clW ls) ∧ Signs H p g xs ∧ ∀ H', R (Zp T p) H H' → Q (.bl true) H'
end Tk
namespace Lw
open PySem PySem.Spec PyProof.Rows L2 Evl
/-! ### o // text, o | p, o & p by own methods -/
section
variable {prog : Program} {w : World} {A : Around} {E : Value → Shared → Prop} {s : Shared} {K : PySem.W.Frag} {a C f : Addr} {ox : Obj} {od : Option Obj} {Q : Value → Shared → Prop}
theorem fills_none {T nm : String} (h1 : typeLookup (.type T) (PySem.dunder nm) = pure none) (h2 : typeLookup (.type T) (PySem.dunderR nm) = pure none) : fillsNumberSlot (.type T) nm = pure false := by
  unfold fillsNumberSlot
  simp only [h1, h2, pure_bind]
  rfl
theorem fills_str_fdiv : fillsNumberSlot (.type "str") "floordiv" = pure false := fills_none (by rw [typeLookup_type, builtinLookup_eq_fast]; kernel_rfl) (by rw [typeLookup_type, builtinLookup_eq_fast]; kernel_rfl)
theorem binLeft {op : Operator} {y : Value} {T : String} (X : K.In s.heap) (J : PySem.W.InstAt s.heap a ox C od) (hy : s.TypeIs y T) (fb : fillsNumberSlot (.type T) op.info.2 = pure false) (hc : PySem.W.selfFirst K C = true)
    (hs : PySem.W.findIn K (.ref C) (PySem.dunder op.info.2) = some (some (.ref f))) (hf : PySem.W.isFn K (.ref f) = true) (h : wpAny (model prog w) A (call (.ref f) [.ref a, y]) (PySem.W.CmpBack Q) E s) : wpAny (model prog w) A (binaryOp op (.ref a) y) Q E s := by
  obtain ⟨cd, hcd, hm⟩ := PySem.W.any_some hc
  obtain ⟨rest, hm⟩ : ∃ rest, cd.mro = .ref C :: rest := by
    cases q : cd.mro with
    | nil => rw [q] at hm; cases hm
    | cons a r => rw [q] at hm; exact ⟨r, by rw [List.head?_cons] at hm; cases (beq_iff_eq.mp hm); rfl⟩
  unfold binaryOp
  refine wpAny_holding (wpAny_bind ?_)
  unfold binaryOp1
  refine wpAny_bind (J.type.here (wpAny_bind (wpAny_typeOf hy (wpAny_bind ((PySem.W.fills_K X hcd hm hs).here ?_)))))
  have ne : (Value.ref C == Value.type T) = false := rfl
  simp only [ne, Bool.false_eq_true, if_false]
  refine wpAny_bind (wpAny_of_eq fb ?_)
  simp only [Bool.and_false, Bool.false_eq_true, if_false, Bool.false_and, Bool.true_and, Bool.and_true]
  refine wpAny_bind (wpAny_pure ?_)
  simp only [Bool.false_eq_true, if_false, if_true]
  refine wpAny_bind (m := tryMethod (.ref a) _ y) ?_
  unfold tryMethod
  refine wpAny_bind (PySem.W.special_fn X J hs (beq_iff_eq.mp hf) (wpAny_mono h (fun v s' hv => ?_) fun _ _ e => e))
  cases v <;> first | exact hv.elim | exact wpAny_pure (wpAny_pure (wpAny_pure hv))
end
/-- o // letter -/
def rFdO (C : Addr) (sp : Sp) (E : XK) : R2 := fun x y H Q => ∃ (a dx : Addr) (fs : List (Str × V)) (z : Str), x = .ref a ∧ y = .str z ∧ H a = some (.ins C dx fs) ∧ sp [.ref a, y] H (fun v H2 => ∃ r, v = .ref r ∧ Q (.ref r) H2) E
theorem op_fdO {X : Cx} {CX : CXT} {k : Nat} {C f : Addr} {fd : FuncData} {ps : List Str} {sp : Sp} {E : XK} (hc : PySem.W.selfFirst X.K C = true) (hf : PySem.W.findIn X.K (.ref C) "__floordiv__" = some (some (.ref f))) (tf : PySem.W.isFn X.K (.ref f) = true) (F : FnOk X.prog X.w X.K X.mg X.base CX k f fd ps sp) (hb : Binds X.K fd ps []) (hr : Room k X.A) (hx : Passes CX X E) :
    OpR X (binaryOp .FloorDiv) (rFdO C sp E) := by
  intro pins s σ H x y v u Q I rx ry h
  obtain ⟨a, dx, fs, z, rfl, rfl, ha, q⟩ := h
  cases rx
  obtain ⟨t, rfl⟩ := (show ∃ t, u = Value.str z t from ry)
  obtain ⟨mA, J, _⟩ := ins_get I.hok ha
  obtain ⟨od, J, _⟩ := J.look
  refine binLeft (op := .FloorDiv) I.kIn J (typeIs_str s z t) fills_str_fdiv hc hf tf (wpAny_mono (run_fn (us := [.ref a, .str z t]) (vs := [.ref a, .str z]) (dvs := []) (ds := []) F hr hb .nil hx I (.cons rfl (.cons ⟨t, rfl⟩ .nil)) q) (fun w2 s2 hh => ?_) fun _ _ z => z)
  obtain ⟨o, H2, I2, ro, r, rfl, q2⟩ := hh
  obtain rfl : w2 = Value.ref r := ro
  exact ⟨.ref r, H2, I2, rfl, q2⟩
/-- o | p, o & p, instances of one class -/
def rBinO (C : Addr) (sp : Sp) (E : XK) : R2 := fun x y H Q => ∃ (a dx b dy : Addr) (fs gs : List (Str × V)), x = .ref a ∧ y = .ref b ∧ H a = some (.ins C dx fs) ∧ H b = some (.ins C dy gs) ∧ sp [.ref a, .ref b] H (fun v H2 => ∃ r, v = .ref r ∧ Q (.ref r) H2) E
theorem op_binO {X : Cx} {CX : CXT} {k : Nat} {C f : Addr} {fd : FuncData} {ps : List Str} {sp : Sp} {E : XK} {op : Operator} (hc : PySem.W.selfFirst X.K C = true) (hf : PySem.W.findIn X.K (.ref C) (PySem.dunder op.info.2) = some (some (.ref f))) (tf : PySem.W.isFn X.K (.ref f) = true) (F : FnOk X.prog X.w X.K X.mg X.base CX k f fd ps sp) (hb : Binds X.K fd ps []) (hr : Room k X.A) (hx : Passes CX X E) :
    OpR X (binaryOp op) (rBinO C sp E) := by
  intro pins s σ H x y v u Q I rx ry h
  obtain ⟨a, dx, b, dy, fs, gs, rfl, rfl, ha, hb2, q⟩ := h
  cases rx
  cases ry
  obtain ⟨mA, J, _⟩ := ins_get I.hok ha
  obtain ⟨od, J, _⟩ := J.look
  obtain ⟨mB, J2, _⟩ := ins_get I.hok hb2
  obtain ⟨od2, J2, _⟩ := J2.look
  obtain ⟨m, fr⟩ := I.fr
  refine PySem.W.binop_K (op := op) fr I.ok.mod.kin J J2.type hc hf tf (wpAny_mono (run_fn (us := [.ref a, .ref b]) (vs := [.ref a, .ref b]) (dvs := []) (ds := []) F hr hb .nil hx I (.cons rfl (.cons rfl .nil)) q) (fun w2 s2 hh => ?_) fun _ _ z => z)
  obtain ⟨o, H2, I2, ro, r, rfl, q2⟩ := hh
  obtain rfl : w2 = Value.ref r := ro
  exact ⟨.ref r, H2, I2, rfl, q2⟩
/-- the special method n of the class x, that may let errors out -/
def SpX (P : Program) (w : World) (K : PySem.W.Frag) (mg : Str → Option Value) (base : Heap) (CX : CXT) (k : Nat) (C : Addr) (n : Str) (ps : List Str) (sp : Sp) : Prop :=
  PySem.W.selfFirst K C = true ∧ ∃ f fd, PySem.W.findIn K (.ref C) n = some (some (.ref f)) ∧ PySem.W.isFn K (.ref f) = true ∧ Binds K fd ps [] ∧ FnOk P w K mg base CX k f fd ps sp
section
variable {X : Cx} {CX : CXT} {k j : Nat} {C : Addr} {sp : Sp} {ps : List Str} {E : XK}
theorem op_fdSp (q : SpX X.prog X.w X.K X.mg X.base CX k C "__floordiv__" ps sp) (hr : Room j X.A) (hx : Passes CX X E) (hj : k ≤ j := by decide) : OpR X (binaryOp .FloorDiv) (rFdO C sp E) := by
  obtain ⟨h0, f, fd, h1, h2, hb, F⟩ := q
  exact op_fdO h0 h1 h2 F hb (hr.mono hj) hx
theorem op_orSp (q : SpX X.prog X.w X.K X.mg X.base CX k C "__or__" ps sp) (hr : Room j X.A) (hx : Passes CX X E) (hj : k ≤ j := by decide) : OpR X (binaryOp .BitOr) (rBinO C sp E) := by
  obtain ⟨h0, f, fd, h1, h2, hb, F⟩ := q
  exact op_binO h0 h1 h2 F hb (hr.mono hj) hx
theorem op_andSp (q : SpX X.prog X.w X.K X.mg X.base CX k C "__and__" ps sp) (hr : Room j X.A) (hx : Passes CX X E) (hj : k ≤ j := by decide) : OpR X (binaryOp .BitAnd) (rBinO C sp E) := by
  obtain ⟨h0, f, fd, h1, h2, hb, F⟩ := q
  exact op_binO h0 h1 h2 F hb (hr.mono hj) hx
end
end Lw
namespace Lw
open PySem PySem.Spec PyProof.Rows L2 Evl
/-! ### d < e, of alike data -/
def rLtD (K : PySem.W.Frag) : R2 := fun x y H Q => ∃ d e, Dp K H x d ∧ Dp K H y e ∧ PySem.W.alike d e = true ∧ d ≠ .none ∧ min d.depth e.depth ≤ 64 ∧ Q (.bl (PySem.W.dataLt d e)) H
theorem op_ltD {X : Cx} {K : PySem.W.Frag} (hu : X.A.units + 64 < cLine) (h : X.K = K := by rfl) : OpR X (compareOp .Lt) (rLtD K) := by
  subst h
  intro pins s σ H x y v u Q I rx ry h
  obtain ⟨d, e, hd, he, ha, hn, hz, q⟩ := h
  obtain ⟨as, r1⟩ := Dp.reads I d x v hd rx
  obtain ⟨bs, r2⟩ := Dp.reads I e y u he ry
  exact PySem.W.lt_data r1 r2 ha hn (by omega) ⟨.bl _, H, I, rfl, q⟩
end Lw
namespace Tk
open PySem PySem.Spec PyProof.Rows L2 Lw Evl LamX TL
open Rm (R Ok Z0 Zp Fr fr_none fr_ne nt_lst nt_tup nt_dK NT Zn)
section
variable {P : Program} {w : World} {K : PySem.W.Frag} {Z : Zn} {H H0 H1 H2 : Hp} {σ : L2.St} {te ta tb td : TE} {tt : TT} {tk : TA} {v u : V} {s : Str} {a l b CF : Addr} {ws us : List (List Str)} {x y : List Str} {j n : Nat} {vs : List Nat} {xs : List V} {E : XK} {Q : VK}
theorem paired_maps {α β γ : Type} {S : α → γ → Prop} {f : β → γ} : ∀ {xs : List α} {ys : List β}, Paired (fun v w => S v (f w)) xs ys → Paired S xs (ys.map f)
  | _, _, .nil => .nil
  | _, _, .cons r t => .cons r (paired_maps t)
/-- [f(w) for w in the front's words if g(w)], words -/
theorem elw_lkF {g : List Str → Bool} {f : List Str → List Str} (hf : FrAt K CF H a ws) (hz : ws.length ≤ 40000) (hw : ∀ x, wipe ((wipe σ vs).set j (some x)) vs = wipe σ vs)
    (hd : ∀ dx d H1 (Q : VK), H1 a = some (.ins CF dx [("_words", .ref d)]) → Q (.ref d) H1 → td σ H1 Q) (ht : ∀ x w H1, Wd K H1 x w → w ∈ ws → EvT tt ((wipe σ vs).set j (some x)) H1 (g w))
    (he : ∀ x w H1, Wd K H1 x w → w ∈ ws → g w = true → EvW K te ((wipe σ vs).set j (some x)) H1 (f w)) : EvLW K (tLockE (tLc (iKeys td) (gName j) tt te vs)) σ H ((ws.filter g).map f) := fun H1 e Q q =>
  lk_lc (b := g) (B := fun w v H => Wd K H v (f w)) (fr_ex e hf) hz (fun w v H H2 h r => by
    obtain ⟨b, rfl, z⟩ := r
    exact ⟨b, rfl, h _ _ z⟩) hw hd ht (fun x w H1 hv hm hb Q k => he x w H1 hv hm hb H1 (Ex.refl H1) Q k) fun D xs H2 hD e2 hx hp => q D H2 hD e2 ⟨xs, hx, paired_maps hp⟩
/-- .. where the test and the element look at objects that stand since H -/
theorem lk_all {g : List Str → Bool} (hf : FrAt K CF H a ws) (hz : ws.length ≤ 40000) (hw : ∀ x, wipe ((wipe σ vs).set j (some x)) vs = wipe σ vs) (hd : ∀ dx d H1 (Q : VK), H1 a = some (.ins CF dx [("_words", .ref d)]) → Q (.ref d) H1 → td σ H1 Q)
    (he : ∀ x w H1, Wd K H1 x w → w ∈ ws → Ev te ((wipe σ vs).set j (some x)) H1 (.bl (g w))) : EvL (tLockE (tLc (iKeys td) (gName j) tYes te vs)) σ H ((ws.map g).map V.bl) := fun H1 e Q q =>
  lk_lc (b := fun _ => true) (B := fun w v _ => v = .bl (g w)) (fr_ex e hf) hz (fun _ _ _ _ _ r => r) hw hd (fun _ _ _ _ _ => et_yes) (fun x w H1 hv hm _ Q k => he x w H1 hv hm H1 (Ex.refl H1) Q fun H2 e2 => k _ H2 e2 rfl) fun D xs H2 hD e2 hx hp => q D H2 hD e2 (by
    rw [List.filter_eq_self.mpr fun _ _ => rfl] at hp
    have z : xs = (ws.map g).map V.bl := by
      rw [List.map_map]
      clear hx q hf hz he
      induction hp with
      | nil => rfl
      | cons r t ih => rw [List.map_cons, r, ih]; rfl
    rw [← z]
    exact hx)
theorem elw_words (h : Ev ta σ H (.ref a)) (hf : FrAt K CF H a ws) : EvLW K (tMeth CF "words" (spFrWords K CF) [] E0 ta tNil) σ H ws := fun H1 e Q q => h H1 e _ fun H2 e2 => by
  have hf2 := fr_ex (e.trans e2) hf
  obtain ⟨dx, d, h1, h2⟩ := id hf2
  exact ⟨a, dx, _, rfl, h1, rfl, a, ws, rfl, hf2, fun l H3 nl e3 hL => q l H3 (fresh_back e2 nl) (e2.trans e3) hL⟩
/-- w[n:] -/
theorem ew_from {ys : List Str} {to th : TO} (ha : EvW K ta σ H ys) (h1 : EvO to σ H (some (n : Int))) (h2 : EvO th σ H none) : EvW K (tSl (rSlA K) ta to th) σ H (ys.drop n) := fun H1 e Q q =>
  ha H1 e _ fun v H2 e2 ⟨a, ea, hx⟩ => h1 H2 (e.trans e2) _ fun H3 e3 => h2 H3 ((e.trans e2).trans e3) _ fun H4 e4 => by
    have hx4 := (e3.trans e4) _ _ hx
    have e14 := (e2.trans e3).trans e4
    have cut : cutV (ys.map V.str) (some (n : Int)) none = (ys.drop n).map V.str ∨ ys.length < n := by
      by_cases c : n ≤ ys.length
      · left
        rw [cut_from _ n (by rw [List.length_map]; exact c), List.map_drop]
      · right
        omega
    refine ⟨a, ys.map V.str, ea, SqT.of hx4, fun z => ?_, fun z p hp => ?_⟩
    · have z1 : HT.sIx (ys.map V.str).length 0 (some (n : Int)) = 0 := z.1
      rw [HT.sIx_nat, List.length_map] at z1
      have e : ys.drop n = ys := by
        rcases Nat.eq_zero_or_pos n with h0 | h0
        · rw [h0, List.drop_zero]
        · have : ys.length = 0 := by omega
          rw [List.length_eq_zero_iff.mp this, List.drop_nil]
      rw [e] at q
      exact q _ H4 e14 ⟨a, rfl, hx4⟩
    · refine q _ _ (e14.trans (Ex.new hp)) ⟨p, rfl, ?_⟩
      rw [upd_same]
      rcases cut with c | c
      · exact congrArg (fun z => some (HO.tup z)) c
      · have e : ys.drop n = [] := List.drop_eq_nil_of_le (by omega)
        rw [e]
        have z : cutV (ys.map V.str) (some (n : Int)) none = [] := by
          unfold cutV
          rw [HT.sIx_nat, List.length_map]
          refine List.eq_nil_of_length_eq_zero ?_
          rw [List.length_take, List.length_drop, List.length_map]
          omega
        exact congrArg (fun z => some (HO.tup z)) z
theorem ev_eqEW (ha : EvW K ta σ H x) (hb : EvW K tb σ H y) (hx : isW x = true) (hy : isW y = true) : Ev (tOp (rEqD K) ta tb) σ H (.bl (decide (x = y))) := fun H1 e Q q => ha H1 e _ fun v H2 e2 hv => hb H2 (e.trans e2) _ fun u H3 e3 hu =>
  ⟨wD x, wD y, dp_word (wd_mono e3 hv), dp_word hu, shaped_wD hx, shaped_wD hy, by rw [eqv_wD]; exact q H3 (e2.trans e3)⟩
/-- w not in the front's words -/
theorem ev_dnin (ha : EvW K ta σ H x) (hd : ∀ dx d H1 (Q : VK), H1 a = some (.ins CF dx [("_words", .ref d)]) → Q (.ref d) H1 → td σ H1 Q) (hf : FrAt K CF H a ws) : Ev (tDNotIn ta td) σ H (.bl (!decide (x ∈ ws))) := fun H1 e Q q => ha H1 e _ fun v H2 e2 hv => by
  obtain ⟨dx, d, h1, h2⟩ := fr_ex (e.trans e2) hf
  obtain ⟨b, rfl, hb⟩ := hv
  refine hd dx d H2 _ h1 ⟨d, _, rfl, DGet.t (k := kw x) h2 (by rw [kw_val]; exact hb), ?_⟩
  rw [dk_in]
  exact q H2 e2
end
/-! ### rows closed under their beginnings -/
structure Cl (ws : List (List Str)) : Prop where
  sd : Sd ws
  nil : [] ∈ ws
  beg : ∀ w ∈ ws, ∀ u ∈ begs w, u ∈ ws
theorem cl_clW (ls : List (List Str)) : Cl (clW ls) := ⟨clW_sd, nil_clW, fun _ hw _ hu => begs_clW hw hu⟩
theorem Cl.self {ws : List (List Str)} (h : Cl ws) : clW ws = ws := sd_uniq clW_sd h.sd fun u => by
  rw [mem_clW]
  exact ⟨fun z => z.elim (fun e => e ▸ h.nil) fun ⟨w, hw, hu⟩ => h.beg w hw u hu, fun hu => .inr ⟨u, hu, self_begs u⟩⟩
theorem sd_filter {ws : List (List Str)} (h : Sd ws) (g : List Str → Bool) : Sd (ws.filter g) := List.Pairwise.sublist List.filter_sublist h
theorem beg_len {w u : List Str} (h : u ∈ begs w) : u.length ≤ w.length := by
  obtain ⟨k, _, rfl⟩ := mem_begs.mp h
  rw [List.length_take]
  omega
theorem Cl.cut {ws : List (List Str)} (h : Cl ws) (n : Nat) : Cl (ws.filter fun w => decide (w.length ≤ n)) := ⟨sd_filter h.sd _, List.mem_filter.mpr ⟨h.nil, decide_eq_true (Nat.zero_le _)⟩, fun w hw u hu => by
  obtain ⟨h1, h2⟩ := List.mem_filter.mp hw
  have h3 := of_decide_eq_true h2
  have := beg_len hu
  exact List.mem_filter.mpr ⟨h.beg w h1 u hu, decide_eq_true (by omega)⟩⟩
theorem Cl.and {ws us : List (List Str)} (h : Cl ws) (k : Cl us) : Cl (ws.filter fun w => decide (w ∈ us)) := ⟨sd_filter h.sd _, List.mem_filter.mpr ⟨h.nil, decide_eq_true k.nil⟩, fun w hw u hu => by
  obtain ⟨h1, h2⟩ := List.mem_filter.mp hw
  exact List.mem_filter.mpr ⟨h.beg w h1 u hu, decide_eq_true (k.beg w (of_decide_eq_true h2) u hu)⟩⟩
theorem ahead_tail {s : Str} {u v : List Str} : aheadW (s :: u) (s :: v) = aheadW u v := by
  unfold aheadW
  simp only [List.length_cons, Nat.add_right_cancel_iff, Nat.add_lt_add_iff_right]
  split
  · conv => lhs; unfold lexW
    rw [if_pos rfl]
  · rfl
/-- the rows behind a letter -/
def bhW (ws : List (List Str)) (s : Str) : List (List Str) := (ws.filter fun w => decide (w.take 1 = [s])).map fun w => w.drop 1
theorem mem_bhW {ws : List (List Str)} {s : Str} {u : List Str} : u ∈ bhW ws s ↔ s :: u ∈ ws := by
  unfold bhW
  rw [List.mem_map]
  constructor
  · rintro ⟨w, hw, rfl⟩
    obtain ⟨h1, h2⟩ := List.mem_filter.mp hw
    have h3 := of_decide_eq_true h2
    cases w with
    | nil => cases h3
    | cons x w =>
      rw [List.take_succ_cons, List.take_zero] at h3
      cases h3
      exact h1
  · intro h
    exact ⟨s :: u, List.mem_filter.mpr ⟨h, by simp⟩, rfl⟩
theorem Cl.behind {ws : List (List Str)} {s : Str} (h : Cl ws) (hs : [s] ∈ ws) : Cl (bhW ws s) := by
  refine ⟨?_, mem_bhW.mpr hs, fun w hw u hu => mem_bhW.mpr (h.beg _ (mem_bhW.mp hw) _ ?_)⟩
  · unfold bhW Sd
    refine List.pairwise_map.mpr ?_
    have key : ∀ l : List (List Str), Sd l → (∀ w ∈ l, w.take 1 = [s]) → l.Pairwise fun a b => aheadW (a.drop 1) (b.drop 1) = true := fun l => by
      induction l with
      | nil => exact fun _ _ => .nil
      | cons w l ih =>
        intro hl hk
        obtain ⟨h1, h2⟩ := List.pairwise_cons.mp hl
        refine List.pairwise_cons.mpr ⟨fun v hv => ?_, ih h2 fun x hx => hk x (List.mem_cons_of_mem _ hx)⟩
        have a := h1 v hv
        have e1 := hk w (List.mem_cons_self ..)
        have e2 := hk v (List.mem_cons_of_mem _ hv)
        cases w with
        | nil => cases e1
        | cons x w =>
          cases v with
          | nil => cases e2
          | cons y v =>
            rw [List.take_succ_cons, List.take_zero] at e1 e2
            cases e1
            cases e2
            rw [ahead_tail] at a
            exact a
    exact key _ (sd_filter h.sd _) fun w hw => of_decide_eq_true (List.mem_filter.mp hw).2
  · obtain ⟨k, hk, rfl⟩ := mem_begs.mp hu
    exact mem_begs.mpr ⟨k + 1, by rw [List.length_cons]; omega, rfl⟩
/-! ### promises -/
def spNeedFG (K : PySem.W.Frag) (CF : Addr) : Sp := fun vs H Q _ => ∃ a ws, vs = [.ref a] ∧ FrAt K CF H a ws ∧ ∀ H', Ex H H' → Q .non H'
def spNeedLG : Sp := fun vs H Q _ => ∃ s : Str, vs = [.str s] ∧ isL s = true ∧ ∀ H', Ex H H' → Q .non H'
def spCountG : Sp := fun vs H Q _ => ∃ n : Nat, vs = [.int (n : Int)] ∧ ∀ H', Ex H H' → Q (.bl true) H'
def spCut (K : PySem.W.Frag) (T : List (Addr × Str)) (CF : Addr) : Sp := fun vs H Q _ => ∃ (a : Addr) (n : Nat) (ws : List (List Str)), vs = [.ref a, .int (n : Int)] ∧ Tabs T H ∧ FrAt K CF H a ws ∧ (∀ u ∈ ws, isW u = true) ∧ ws.length ≤ 249 ∧
  ∀ x H', Fr H x → R (Z0 T) H H' → FrAt K CF H' x (clW (ws.filter fun w => decide (w.length ≤ n))) → Q (.ref x) H'
def spFd (K : PySem.W.Frag) (T : List (Addr × Str)) (CF : Addr) : Sp := fun vs H Q _ => ∃ (a : Addr) (s : Str) (ws : List (List Str)), vs = [.ref a, .str s] ∧ Tabs T H ∧ FrAt K CF H a ws ∧ (∀ u ∈ ws, isW u = true) ∧ ws.length ≤ 249 ∧ isL s = true ∧ [s] ∈ ws ∧
  ∀ x H', Fr H x → R (Z0 T) H H' → FrAt K CF H' x (clW (bhW ws s)) → Q (.ref x) H'
def spFrOr (K : PySem.W.Frag) (T : List (Addr × Str)) (CF : Addr) : Sp := fun vs H Q _ => ∃ (a b : Addr) (ws us : List (List Str)), vs = [.ref a, .ref b] ∧ Tabs T H ∧ FrAt K CF H a ws ∧ FrAt K CF H b us ∧ (∀ u ∈ ws, isW u = true) ∧ (∀ u ∈ us, isW u = true) ∧ ws.length + us.length ≤ 249 ∧
  ∀ x H', Fr H x → R (Z0 T) H H' → FrAt K CF H' x (clW (ws ++ us)) → Q (.ref x) H'
def spFrAnd (K : PySem.W.Frag) (T : List (Addr × Str)) (CF : Addr) : Sp := fun vs H Q _ => ∃ (a b : Addr) (ws us : List (List Str)), vs = [.ref a, .ref b] ∧ Tabs T H ∧ FrAt K CF H a ws ∧ FrAt K CF H b us ∧ (∀ u ∈ ws, isW u = true) ∧ (∀ u ∈ us, isW u = true) ∧ ws.length ≤ 249 ∧
  ∀ x H', Fr H x → R (Z0 T) H H' → FrAt K CF H' x (clW (ws.filter fun w => decide (w ∈ us))) → Q (.ref x) H'
def lfW (ws : List (List Str)) (s : Str) : List (List Str) := (ws.filter fun w => decide (w.length < 3)).map fun w => [s] ++ w
def spLift (K : PySem.W.Frag) (T : List (Addr × Str)) (CF : Addr) : Sp := fun vs H Q _ => ∃ (a : Addr) (s : Str) (ws : List (List Str)), vs = [.ref a, .str s] ∧ Tabs T H ∧ FrAt K CF H a ws ∧ (∀ u ∈ ws, isW u = true) ∧ ws.length ≤ 249 ∧ isL s = true ∧
  ∀ x H', Fr H x → R (Z0 T) H H' → FrAt K CF H' x (clW (lfW ws s)) → Q (.ref x) H'
def spWithin (K : PySem.W.Frag) (CF : Addr) : Sp := fun vs H Q _ => ∃ (a b : Addr) (ws us : List (List Str)), vs = [.ref a, .ref b] ∧ FrAt K CF H a ws ∧ FrAt K CF H b us ∧ (∀ u ∈ ws, isW u = true) ∧ ws.length ≤ 249 ∧ ∀ H', Ex H H' → Q (.bl ((ws.map fun w => decide (w ∈ us)).all id)) H'
end Tk
namespace Tk
open PySem PySem.Spec PyProof.Rows L2 Lw Evl LamX TL
open Rm (R Ok Z0 Zp Fr fr_none fr_ne nt_lst nt_tup nt_dK NT Zn)
section
variable {P : Program} {w : World} {K : PySem.W.Frag} {Z : Zn} {H H0 H1 H2 : Hp} {σ : L2.St} {te ta tb td : TE} {tt : TT} {tk : TA} {v u : V} {s : Str} {a l b CF d : Addr} {ws us : List (List Str)} {x y : List Str} {j n : Nat} {vs : List Nat} {xs : List V} {E : XK} {Q : VK}
/-- a front whose words may be locked -/
def FrAtR (K : PySem.W.Frag) (CF : Addr) (H : Hp) (a : Addr) (ws : List (List Str)) : Prop := ∃ dx d, H a = some (.ins CF dx [("_words", .ref d)]) ∧ Rd H d (.dT (dk ws))
theorem frR_of (h : FrAt K CF H a ws) : FrAtR K CF H a ws := by
  obtain ⟨dx, d, h1, h2⟩ := h
  exact ⟨dx, d, h1, .inl h2⟩
theorem frR_ex (e : Ex H H1) (h : FrAtR K CF H a ws) : FrAtR K CF H1 a ws := by
  obtain ⟨dx, d, h1, h2⟩ := h
  exact ⟨dx, d, e _ _ h1, h2.elim (fun z => .inl (e _ _ z)) fun ⟨o, z⟩ => .inr ⟨o, e _ _ z⟩⟩
/-- all that stood stands, a dict perhaps locked -/
def Lk (H H1 : Hp) : Prop := ∀ x o, H x = some o → H1 x = some o ∨ ∃ od kvs, o = .dT kvs ∧ H1 x = some (.frz od (.dT kvs))
theorem lk_of {kvs : List (List L2.Key × V)} {od : Obj} (hd : H d = some (.dT kvs)) (e : Ex (upd H d (.frz od (.dT kvs))) H1) : Lk H H1 := fun x o hx => by
  by_cases c : x = d
  · subst c
    rw [hd] at hx
    cases hx
    exact .inr ⟨od, _, rfl, e _ _ upd_same⟩
  · exact .inl (e _ _ (by rw [upd_ne c]; exact hx))
theorem frR_lk (h : Lk H H1) (hf : FrAt K CF H a ws) : FrAtR K CF H1 a ws := by
  obtain ⟨dx, d, h1, h2⟩ := hf
  refine ⟨dx, d, (h _ _ h1).elim id fun ⟨_, _, z, _⟩ => (nomatch z), (h _ _ h2).elim .inl fun ⟨od, kvs, z, y⟩ => ?_⟩
  cases z
  exact .inr ⟨_, y⟩
def spFrInR (K : PySem.W.Frag) (CF : Addr) : Sp := fun vs H Q _ => ∃ a v ws, vs = [.ref a, v] ∧ FrAtR K CF H a ws ∧ ((WB K H v false ∧ ∀ H', Ex H H' → Q (.bl false) H') ∨ ∃ w, Wd K H v w ∧ isW w = true ∧ ∀ H', Ex H H' → Q (.bl (decide (w ∈ ws))) H')
theorem ev_inFrR (ha : Ev ta σ H v) (hb : Ev tb σ H (.ref a)) (hf : FrAtR K CF H a ws) (hv : Wd K H v x) (hx : isW x = true) : Ev (tOp (rInO CF (spFrInR K CF) E0) ta tb) σ H (.bl (decide (x ∈ ws))) := fun H1 e Q q =>
  ha H1 e _ fun H2 e2 => hb H2 (e.trans e2) _ fun H3 e3 => by
    have e13 := e2.trans e3
    have hf3 := frR_ex (e.trans e13) hf
    obtain ⟨dx, d, h1, h2⟩ := id hf3
    exact ⟨a, dx, _, rfl, h1, a, v, ws, rfl, hf3, .inr ⟨x, wd_mono (e.trans e13) hv, hx, fun H4 e4 => ⟨_, rfl, q H4 (e13.trans e4)⟩⟩⟩
theorem s_retF {D : Ends} (o : Ok Z H) (h : Ef Z K CF te σ H us) (k : ∀ x H1, Fr H x → R Z H H1 → FrAt K CF H1 x us → D.rt (.ref x) H1) : tRet te D σ H := h H (.refl o) _ k
theorem fr_exB (e : Ex H H1) {x : Addr} (h : Fr H1 x) : Fr H x := fun o z => h o (e _ _ z)
theorem lk_ex (e : Ex H H1) (h : Lk H1 H2) : Lk H H2 := fun x o z => h x o (e x o z)
theorem lk_lcX {b : List Str → Bool} {B : List Str → V → Hp → Prop} {j : Nat} {vs : List Nat} {σ : L2.St} {tt : TT} {te td : TE} (hf : FrAt K CF H a ws) (hz : ws.length ≤ 40000)
    (hB : ∀ w v H H2, (∀ x ys, H x = some (.tup ys) → H2 x = some (.tup ys)) → B w v H → B w v H2) (hw : ∀ x, wipe ((wipe σ vs).set j (some x)) vs = wipe σ vs)
    (hd : ∀ dx d H1 (Q : VK), H1 a = some (.ins CF dx [("_words", .ref d)]) → Q (.ref d) H1 → td σ H1 Q)
    (ht : ∀ x w H1, Lk H H1 → Wd K H1 x w → w ∈ ws → EvT tt ((wipe σ vs).set j (some x)) H1 (b w)) (he : ∀ x w H1, Lk H H1 → Wd K H1 x w → w ∈ ws → b w = true → ∀ Q : VK, (∀ v H2, Ex H1 H2 → B w v H2 → Q v H2) → te ((wipe σ vs).set j (some x)) H1 Q) {Q : VK}
    (q : ∀ D xs H2, H D = none → Ex H H2 → H2 D = some (.lst xs) → Paired (fun v w => B w v H2) xs (ws.filter b) → Q (.ref D) H2) : tLockE (tLc (iKeys td) (gName j) tt te vs) σ H Q := by
  obtain ⟨dx, d, ha, hdd⟩ := hf
  have ad : a ≠ d := fun z => by
    rw [z, hdd] at ha
    cases ha
  refine ⟨d, _, hdd, trivial, fun od => ?_⟩
  have ha1 : (upd H d (.frz od (.dT (dk ws)))) a = some (.ins CF dx [("_words", .ref d)]) := by
    rw [upd_ne ad]
    exact ha
  refine hd dx d _ _ ha1 ⟨d, od, rfl, .inr ⟨dk ws, upd_same, fun D hD => ?_⟩⟩
  have Dd : D ≠ d := fun z => by
    rw [z, upd_same] at hD
    cases hD
  have hD0 : H D = none := by
    rw [upd_ne Dd] at hD
    exact hD
  have tk : ∀ i w, ws[i]? = some w → (ws.take (i + 1)).filter b = (ws.take i).filter b ++ (if b w = true then [w] else []) := fun i w hi => by
    rw [List.take_add_one, hi, List.filter_append]
    cases h : b w <;> simp [h]
  refine w_it (walk_keysT (kvs := dk ws)) (fun n H' => Ex (upd H d (.frz od (.dT (dk ws)))) H' ∧ ∃ xs, H' D = some (.lst xs) ∧ Paired (fun v w => B w v H') xs ((ws.take n).filter b)) ⟨Ex.new hD, [], upd_same, .nil⟩ (fun n H' _ p => p.1 _ _ upd_same) (fun n x H1 H2 hn p y => ?_) fun H' p => ?_
  · obtain ⟨rfl, k, v, r, hk, rfl, hr⟩ := y
    obtain ⟨e1, xs, h3, h4⟩ := p
    obtain ⟨w, hwn, rfl⟩ := dk_at hk
    have hv : Wd K H2 (.ref r) w := ⟨r, rfl, by rw [← kw_val]; exact hr⟩
    have hwm := List.mem_of_getElem? hwn
    have hn2 := (List.getElem?_eq_some_iff.mp hwn).1
    have lx := Paired.length h4
    have lf : ((ws.take n).filter b).length ≤ n := Nat.le_trans (List.length_filter_le ..) (by rw [List.length_take]; omega)
    refine ⟨hw _, ht _ w H2 (lk_of hdd e1) hv hwm H2 (Ex.refl H2) _ fun H3 e3 => ?_⟩
    have up : ∀ {G : Hp}, Ex H2 G → Paired (fun v w => B w v G) xs ((ws.take n).filter b) := fun {G} e => paired_mono (fun v w r => hB w v _ _ (fun x ys z => e _ _ z) r) h4
    cases hb : b w with
    | false =>
      rw [if_neg (by decide)]
      refine ⟨e1.trans e3, xs, e3 _ _ h3, ?_⟩
      rw [tk n w hwn, hb, if_neg (by decide), List.append_nil]
      exact up e3
    | true =>
      rw [if_pos rfl]
      refine he _ w H3 (lk_of hdd (e1.trans e3)) (wd_mono e3 hv) hwm hb _ fun v H4 e4 hv4 => ?_
      have e34 := e3.trans e4
      have tu : ∀ x ys, H4 x = some (.tup ys) → (upd H4 D (.lst (xs ++ [v]))) x = some (.tup ys) := fun x ys z => by
        rw [upd_ne fun z2 => by
          rw [z2, e34 _ _ h3] at z
          cases z]
        exact z
      refine ⟨xs, e34 _ _ h3, sz_lt (by omega), Ex.mut (e1.trans e34) hD, xs ++ [v], upd_same, ?_⟩
      rw [tk n w hwn, hb, if_pos rfl]
      exact paired_app (paired_mono (fun v w r => hB w v _ _ tu r) (up e34)) (.cons (hB w v _ _ tu hv4) .nil)
  · obtain ⟨e1, xs, h3, h4⟩ := p
    rw [dk_len, List.take_length] at h4
    have h5 : H' d = some (.frz od (.dT (dk ws))) := e1 _ _ upd_same
    refine ⟨h5, q D xs _ hD0 (fun x o hx => ?_) (by rw [upd_ne Dd]; exact h3) (paired_mono (fun v w r => hB w v _ _ (fun x ys z => by
      rw [upd_ne fun z2 => by
        rw [z2, h5] at z
        cases z]
      exact z) r) h4)⟩
    by_cases c : x = d
    · rw [c] at hx ⊢
      rw [hdd] at hx
      rw [← hx]
      exact upd_same
    · rw [upd_ne c]
      exact e1 _ _ (by rw [upd_ne c]; exact hx)
theorem elw_lkX {g : List Str → Bool} {f : List Str → List Str} (hf : FrAt K CF H a ws) (hz : ws.length ≤ 40000) (hw : ∀ x, wipe ((wipe σ vs).set j (some x)) vs = wipe σ vs)
    (hd : ∀ dx d H1 (Q : VK), H1 a = some (.ins CF dx [("_words", .ref d)]) → Q (.ref d) H1 → td σ H1 Q) (ht : ∀ x w H1, Lk H H1 → Wd K H1 x w → w ∈ ws → EvT tt ((wipe σ vs).set j (some x)) H1 (g w))
    (he : ∀ x w H1, Lk H H1 → Wd K H1 x w → w ∈ ws → g w = true → EvW K te ((wipe σ vs).set j (some x)) H1 (f w)) : EvLW K (tLockE (tLc (iKeys td) (gName j) tt te vs)) σ H ((ws.filter g).map f) := fun H1 e Q q =>
  lk_lcX (b := g) (B := fun w v H => Wd K H v (f w)) (fr_ex e hf) hz (fun w v H H2 h r => by
    obtain ⟨b, rfl, z⟩ := r
    exact ⟨b, rfl, h _ _ z⟩) hw hd (fun x w H1 k => ht x w H1 (lk_ex e k)) (fun x w H1 k hv hm hb Q q => he x w H1 (lk_ex e k) hv hm hb H1 (Ex.refl H1) Q q) fun D xs H2 hD e2 hx hp => q D H2 hD e2 ⟨xs, hx, paired_maps hp⟩
theorem elw_lkI {g : List Str → Bool} (hf : FrAt K CF H a ws) (hz : ws.length ≤ 40000) (hw : ∀ x, wipe ((wipe σ vs).set j (some x)) vs = wipe σ vs)
    (hd : ∀ dx d H1 (Q : VK), H1 a = some (.ins CF dx [("_words", .ref d)]) → Q (.ref d) H1 → td σ H1 Q) (ht : ∀ x w H1, Lk H H1 → Wd K H1 x w → w ∈ ws → EvT tt ((wipe σ vs).set j (some x)) H1 (g w))
    (hj : ∀ x, ((wipe σ vs).set j (some x))[j]? = some (some x)) : EvLW K (tLockE (tLc (iKeys td) (gName j) tt (tVar j) vs)) σ H (ws.filter g) := by
  have h := elw_lkX (g := g) (f := fun w => w) (te := tVar j) hf hz hw hd ht fun x w H3 _ hv _ _ => Lw.ew_of (ev_var (hj x)) hv
  rw [List.map_id'] at h
  exact h
theorem ew_upto {ys : List Str} {to th : TO} (ha : EvW K ta σ H ys) (h1 : EvO to σ H none) (h2 : EvO th σ H (some (n : Int))) : EvW K (tSl (rSlA K) ta to th) σ H (ys.take n) := by
  rcases Nat.le_total n ys.length with hn | hn
  · exact ew_to ha h1 h2 hn
  · rw [List.take_of_length_le hn]
    intro H1 e Q q
    refine ha H1 e _ fun v H2 e2 ⟨a, ea, hx⟩ => h1 H2 (e.trans e2) _ fun H3 e3 => h2 H3 ((e.trans e2).trans e3) _ fun H4 e4 => ?_
    have hx4 := (e3.trans e4) _ _ hx
    have e14 := (e2.trans e3).trans e4
    refine ⟨a, ys.map V.str, ea, SqT.of hx4, fun z => q _ H4 e14 ⟨a, rfl, hx4⟩, fun z p hp => ?_⟩
    refine q _ _ (e14.trans (Ex.new hp)) ⟨p, rfl, ?_⟩
    have z : cutV (ys.map V.str) none (some (n : Int)) = ys.map V.str := by
      rw [cut_to2, List.take_of_length_le (by rw [List.length_map]; exact hn)]
    rw [upd_same]
    exact congrArg (fun z => some (HO.tup z)) z
theorem ok0 {TT : List (Addr × Str)} (ht : Tabs TT H) (e : Ex H H1) : Ok (Z0 TT) H1 := ⟨ht.ext e, fun _ z => z.elim⟩
theorem r0_ex {TT : List (Addr × Str)} (ht : Tabs TT H) (e : Ex H H1) : R (Z0 TT) H H1 := .of ⟨ht, fun _ z => z.elim⟩ e
theorem lk_allX {g : List Str → Bool} (hf : FrAt K CF H a ws) (hz : ws.length ≤ 40000) (hw : ∀ x, wipe ((wipe σ vs).set j (some x)) vs = wipe σ vs) (hd : ∀ dx d H1 (Q : VK), H1 a = some (.ins CF dx [("_words", .ref d)]) → Q (.ref d) H1 → td σ H1 Q)
    (he : ∀ x w H1, Lk H H1 → Wd K H1 x w → w ∈ ws → Ev te ((wipe σ vs).set j (some x)) H1 (.bl (g w))) : EvL (tLockE (tLc (iKeys td) (gName j) tYes te vs)) σ H ((ws.map g).map V.bl) := fun H1 e Q q =>
  lk_lcX (b := fun _ => true) (B := fun w v _ => v = .bl (g w)) (fr_ex e hf) hz (fun _ _ _ _ _ r => r) hw hd (fun _ _ _ _ _ _ => et_yes) (fun x w H1 k hv hm _ Q q => he x w H1 (lk_ex e k) hv hm H1 (Ex.refl H1) Q fun H2 e2 => q _ H2 e2 rfl) fun D xs H2 hD e2 hx hp => q D H2 hD e2 (by
    rw [List.filter_eq_self.mpr fun _ _ => rfl] at hp
    have z : xs = (ws.map g).map V.bl := by
      rw [List.map_map]
      clear hx q hf hz he
      induction hp with
      | nil => rfl
      | cons r t ih => rw [List.map_cons, r, ih]; rfl
    rw [← z]
    exact hx)
end
end Tk
namespace K21
open PySem PySem.Spec PyProof.Rows L2 Lw Evl LamX Tk
open Rm (R Ok Z0 Zp Fr fr_none)
open LwX (XC XF)
section
variable {P : Program} {w : World} {K : PySem.W.Frag} {mg : Str → Option Value} {base : Heap} {TT : List (Addr × Str)} {CS CF dA : Addr}
abbrev s_fr_init : Stmt := inClass (topS 22) 1
theorem sc_fr_init : FnScope ["self", "words", "begun", "word", "start"] ["self", "words"] (defScope s_fr_init) := ⟨rfl, rfl, rfl, by decide +kernel, rfl, by decide +kernel, by decide +kernel⟩
theorem ok_fr_init {f : Addr} {fd : FuncData} (F : FunD K "__init__" "Front.__init__" (defArgs s_fr_init) (defBody s_fr_init) (defScope s_fr_init) [V.ref dA] [] f fd) (T : Tx P w K mg base) (OFr : OwnC K mg "Front" CF) (nW : NoAttr K CF "_words") (din_order : CalO P w K mg base (L2.CX P w) 3 "in_order" ["words"] (spOrderF K TT CS)) (dbeginnings : CalO P w K mg base CX0 4 "beginnings" ["word"] (spBeginG K)) : FnOk P w K mg base (L2.CX P w) 5 f fd ["self", "words"] (spFrI K TT CS CF) := by
  refine fnO F sc_fr_init (fun vs H Q E h => ?_) (fun cdv A outer s H vs Q E hr h => ?_)
  · obtain ⟨a, dx, v, H0, rfl, _⟩ := h
    rfl
  · skip
    refine ⟨_, (pss_cons (ps_set (i := 2) sc_fr_init.nd rfl (by first | exact Or.inl rfl | exact Or.inr rfl) (pe_op op_cat (pe_lst (pa_cons (pe_tup pa_nil) pa_nil)) (pe_lc2 (own := [("word", 3), ("start", 4)]) (vs1 := [4]) (g := gName 3) (g1 := gName 4) (tt := tYes) (tt1 := tYes) rfl sc_fr_init.nd (pi_listK (K := K) (pe_calO din_order hr (passes_call (takes_of rfl rfl rfl rfl) fun _ _ _ _ h => h) (pa_cons (pv 1) pa_nil))) (blkOk_by (own := [("word", 3), ("start", 4)]) (N := ["self", "words", "begun", "word", "start"]) (sc := defScope s_fr_init) (by decide +kernel)) (by decide) (fun _ _ _ _ _ => pg_name (i := 3) sc_fr_init.nd rfl (by first | exact Or.inl rfl | exact Or.inr rfl)) (fun _ _ _ _ _ => pts_nil) (fun _ _ _ _ _ => (pi_listK (K := K) (pe_calO dbeginnings hr pass0 (pa_cons (pv 3) pa_nil)))) (fun _ _ _ _ _ => pg_name (i := 4) sc_fr_init.nd rfl (by first | exact Or.inl rfl | exact Or.inr rfl)) (fun _ _ _ _ _ => pts_nil) (fun _ _ _ _ _ => (pv 4)))))
      (pss_one (ps_fldK (pv 0) (pe_dcT (own := [("word", 3)]) (g := gName 3) (Nat.lt_of_le_of_lt (Nat.le_add_right _ 64) hr.units) rfl sc_fr_init.nd (pi_listK (K := K) (pe_calO din_order hr (passes_call (takes_of rfl rfl rfl rfl) fun _ _ _ _ h => h) (pa_cons (pv 2) pa_nil))) (blkOk_by (own := [("word", 3)]) (N := ["self", "words", "begun", "word", "start"]) (sc := defScope s_fr_init) (by decide +kernel)) (fun _ _ _ _ _ => pg_name (i := 3) sc_fr_init.nd rfl (Or.inl rfl)) (fun _ _ _ _ _ => (pv 3)) (fun _ _ _ _ _ => pe_bl))))), ?_⟩
    obtain ⟨a, dx, v, H0, rfl, rfl, na, nd, ne, ht, h⟩ := h
    have na2 : (upd H0 dx (.own a)) a = none := by
      rw [upd_ne ne.symm]
      exact na
    have e0 : Ex H0 (upd (upd H0 dx (.own a)) a (.ins CF dx [])) := (Ex.new nd).trans (Ex.new na2)
    have ha0 : (upd (upd H0 dx (.own a)) a (.ins CF dx [])) a = some (.ins CF dx []) := upd_same
    generalize upd (upd H0 dx (.own a)) a (.ins CF dx []) = H1 at e0 ha0
    refine ⟨Nat.zero_le _, fun p1 hp1 => ⟨(by show 1 ≤ sizeLine; decide), fun l1 hl1 => ?_⟩⟩
    have e1 : Ex H0 (upd (upd H1 p1 (.tup [])) l1 (.lst [.ref p1])) := (e0.trans (Ex.new hp1)).trans (Ex.new hl1)
    have ha1 : (upd (upd H1 p1 (.tup [])) l1 (.lst [.ref p1])) a = some (.ins CF dx []) := (Ex.new hl1) _ _ ((Ex.new hp1) _ _ ha0)
    have hl : (upd (upd H1 p1 (.tup [])) l1 (.lst [.ref p1])) l1 = some (.lst [.ref p1]) := upd_same
    have hp : (upd (upd H1 p1 (.tup [])) l1 (.lst [.ref p1])) p1 = some (.tup []) := (Ex.new hl1) _ _ upd_same
    have fl1 : H0 l1 = none := fresh_back (e0.trans (Ex.new hp1)) hl1
    generalize upd (upd H1 p1 (.tup [])) l1 (.lst [.ref p1]) = H2 at e1 ha1 hl hp
    refine lc2_go ?_
    rcases h with ⟨p, hb, x⟩ | ⟨ws, hg, q⟩
    · exact call_v rfl (bad_ord (badLot_ex e1 hb) (ht.ext e1) (rz_ex e1 x))
    obtain ⟨hw, hz⟩ := goodLot_isW hg
    have r2 : R (Z0 TT) H0 H2 := .of ⟨ht, fun _ z => z.elim⟩ e1
    refine call_v rfl (good_ord (goodLot_ex e1 hg) r2.b.1 fun r H3 fr r3 hL3 => ?_)
    have sw := srtW_isW hw
    have sz := srtW_len ws
    refine lc2_begs hL3 sw (by omega) (fun _ => rfl) (fun _ => rfl) (fun _ _ => rfl) (fun _ _ => rfl) fun D H4 hD e4 hL4 => ?_
    obtain ⟨zs, hz4, pz4⟩ := hL4
    have hl4 : H4 l1 = some (.lst [.ref p1]) := e4 _ _ (r3.lst hl fun z => z)
    have hp4 : H4 p1 = some (.tup []) := e4 _ _ (r3.tup hp)
    have fl := flat_len (isW_3 sw)
    have lz := Paired.length pz4
    refine ⟨l1, D, [.ref p1], zs, rfl, rfl, hl4, hz4, sz_of (by show 1 + _ ≤ _; omega), fun t ht5 => ?_⟩
    have r5 : R (Z0 TT) H0 (upd H4 t (.lst ([.ref p1] ++ zs))) := ((r2.trans r3).ex e4).new ht5
    have ha5 : (upd H4 t (.lst ([.ref p1] ++ zs))) a = some (.ins CF dx []) := (Ex.new ht5) _ _ (e4 _ _ (r3.st _ _ ha1 Rm.nt_ins fun z => z))
    have hL5 : LW K (upd H4 t (.lst ([.ref p1] ++ zs))) t ([] :: (srtW ws).flatMap begs) := ⟨_, upd_same, .cons ⟨p1, rfl, (Ex.new ht5) _ _ hp4⟩ (paired_mono (fun _ _ r => wd_mono (Ex.new ht5) r) pz4)⟩
    generalize upd H4 t (.lst ([.ref p1] ++ zs)) = H5 at r5 ha5 hL5
    show sFld K (tVar 0) (tDcT (iList K (tCall (spOrderF K TT CS) [] E (tCons (tVar 2) tNil))) (gName 3) (tVar 3) (tC (V.bl true)) [3]) "_words" { nx := fun _ H' => Q .non H', rt := Q } _ H5
    refine s_fld (dc_go ?_)
    have cw : ∀ u ∈ [] :: (srtW ws).flatMap begs, isW u = true := fun u hu => by
      rcases List.mem_cons.mp hu with rfl | hu
      · rfl
      · obtain ⟨v, hv, hu⟩ := List.mem_flatMap.mp hu
        exact begs_isW (sw v hv) u hu
    obtain ⟨ys, hy, py⟩ := hL5
    have ly := Paired.length py
    rw [List.length_cons] at ly
    refine call_v rfl (.inl (ord_good (TT := TT) (.inl hy) r5.b.1 (by omega) py cw fun s H6 fs r6 hL6 => ?_))
    rw [show srtW ([] :: (srtW ws).flatMap begs) = clW ws from clW_srt] at hL6
    have cl := clW_len (isW_3 hw)
    refine dcW_at hL6 (by omega) (fun _ => rfl) (fun _ => rfl) fun D2 H7 hD2 e7 hd7 => ?_
    rw [uniq_self clW_nodup] at hd7
    have r7 : R (Z0 TT) H0 H7 := (r5.trans r6).ex e7
    have ha7 : H7 a = some (.ins CF dx []) := e7 _ _ (r6.st _ _ ha5 Rm.nt_ins fun z => z)
    refine ⟨_, rfl, a, CF, dx, [], rfl, ha7, OFr.cl, nW, by decide, ?_⟩
    refine q _ (r7.mut (fr_none na) ha7 trivial) ⟨dx, D2, upd_same, ?_⟩
    rw [upd_ne fun z => by
      rw [z, ha7] at hd7
      cases hd7]
    exact hd7

abbrev s_fr_words : Stmt := inClass (topS 22) 3
theorem sc_fr_words : FnScope ["self"] ["self"] (defScope s_fr_words) := ⟨rfl, rfl, rfl, by decide +kernel, rfl, by decide +kernel, by decide +kernel⟩
theorem ok_fr_words {f : Addr} {fd : FuncData} (F : FunD K "words" "Front.words" (defArgs s_fr_words) (defBody s_fr_words) (defScope s_fr_words) [] [] f fd) (T : Tx P w K mg base) (OFr : OwnC K mg "Front" CF) (nW : NoAttr K CF "_words") : FnOk P w K mg base CX0 1 f fd ["self"] (spFrWords K CF) := by
  refine fnO F sc_fr_words (fun vs H Q E h => ?_) (fun cdv A outer s H vs Q E hr h => ?_)
  · obtain ⟨a, ws, rfl, _⟩ := h
    rfl
  · skip
    refine ⟨_, PSs.nox ((pss_one (ps_ret (pe_callTy (call_list_dT rfl) (by rfl) T.m_list (by decide +kernel) (pa_cons (pe_fldK (pv 0)) pa_nil))))), ?_⟩
    obtain ⟨a, ws, rfl, ⟨dx, d, ha, hd⟩, q⟩ := h
    exact ⟨_, rfl, a, CF, dx, _, .ref d, rfl, ha, OFr.cl, nW, rfl, d, dk ws, rfl, .inl hd, fun p bs hp hk => q p _ hp (Ex.new hp) ⟨_, upd_same, paired_mono (fun _ _ r => wd_mono (Ex.new hp) r) (keysW hk)⟩⟩

abbrev s_fr_letters : Stmt := inClass (topS 22) 4
theorem sc_fr_letters : FnScope ["self", "word"] ["self"] (defScope s_fr_letters) := ⟨rfl, rfl, rfl, by decide +kernel, rfl, by decide +kernel, by decide +kernel⟩
theorem ok_fr_letters {f : Addr} {fd : FuncData} (F : FunD K "letters" "Front.letters" (defArgs s_fr_letters) (defBody s_fr_letters) (defScope s_fr_letters) [] [] f fd) (T : Tx P w K mg base) (OFr : OwnC K mg "Front" CF) (nW : NoAttr K CF "_words") : FnOk P w K mg base CX0 1 f fd ["self"] (spFrLet K CF) := by
  refine fnO F sc_fr_letters (fun vs H Q E h => ?_) (fun cdv A outer s H vs Q E hr h => ?_)
  · obtain ⟨a, ws, rfl, _⟩ := h
    rfl
  · skip
    refine ⟨_, PSs.nox ((pss_one (ps_ret (pe_callB (cr_sortedSK (K := K)) (by rfl) T.m_sorted (by decide +kernel) (pa_cons (pe_lock (pe_lc (own := [("word", 1)]) (g := gName 1) rfl sc_fr_letters.nd (pi_keys (pe_fldK (pv 0))) (blkOk_by (own := [("word", 1)]) (N := ["self", "word"]) (sc := defScope s_fr_letters) (by decide +kernel)) (fun _ _ _ _ _ => pg_name (i := 1) sc_fr_letters.nd rfl (by first | exact Or.inl rfl | exact Or.inr rfl)) (fun _ _ _ _ _ => (pts_one (pt_cmpR op_eq (pe_callB (call_lenK (K := K)) (by rfl) T.m_len (by decide +kernel) (pa_cons (pv 1) pa_nil)) pe_int (nomark _)))) (fun _ _ _ _ _ => (pe_ix (ix_tupK2 (K := K)) (pv 1) pe_int (fun _ _ => rfl))))) pa_nil))))), ?_⟩
    obtain ⟨a, ws, rfl, hf, sd, hz, h64, q⟩ := h
    refine lk_lc (b := fun w => decide (w.length = 1)) (B := fun w v _ => v = .str (w.headD "")) hf (by omega) (fun _ _ _ _ _ r => r) (fun _ => rfl) (fun dx d H1 Q h q => ⟨_, rfl, a, CF, dx, _, .ref d, rfl, h, OFr.cl, nW, rfl, q⟩) (fun x w H1 hv _ => ?_) (fun x w H1 hv _ hb Q k => ?_) fun D xs H2 hD e2 hx hp => ?_
    · have z := et_test (ev_op (r := rEq) (ev_lenW (K := K) (σ := (wipe (L2.start [Str.ofString "self", Str.ofString "word"] [V.ref a]) (List.map (fun x => x.snd) [(Str.ofString "word", 1)])).set 1 (some x)) (H := H1) (te := tVar 1) (ev_var rfl) hv) (ev_c (v := .int 1)) (rv_eq rfl))
      rw [show decide (V.int (w.length : Int) = V.int 1) = decide (w.length = 1) from decide_eq_decide.mpr ⟨fun e => by injection e with e; omega, fun e => by rw [e]; rfl⟩] at z
      exact z
    · obtain ⟨b, rfl, hb2⟩ := hv
      have h1 := of_decide_eq_true hb
      match w, h1 with
      | [s], _ => exact ev_atW (i := 0) (ev_var rfl) ev_c hb2 rfl H1 (Ex.refl H1) Q fun H2 e2 => k _ H2 e2 rfl
    · have e : xs = (singles ws).map V.str := by
        unfold singles
        rw [List.map_map]
        clear hx
        generalize ws.filter (fun w => decide (w.length = 1)) = fs at hp
        induction hp with
        | nil => rfl
        | cons r t ih => rw [List.map_cons, r, ih]; rfl
      rw [e] at hx
      exact ⟨D, singles ws, rfl, SqL.of hx, h64, fun ys p pm srt hp => by
        rw [sort_same pm srt (singles_sd sd)]
        exact q p _ (fresh_back e2 hp) (e2.trans (Ex.new hp)) upd_same⟩

abbrev s_fr_in : Stmt := inClass (topS 22) 6
theorem sc_fr_in : FnScope ["self", "value"] ["self", "value"] (defScope s_fr_in) := ⟨rfl, rfl, rfl, by decide +kernel, rfl, by decide +kernel, by decide +kernel⟩
theorem ok_fr_in {f : Addr} {fd : FuncData} (F : FunD K "__contains__" "Front.__contains__" (defArgs s_fr_in) (defBody s_fr_in) (defScope s_fr_in) [] [] f fd) (T : Tx P w K mg base) (OFr : OwnC K mg "Front" CF) (nW : NoAttr K CF "_words") (dis_word : CalO P w K mg base CX0 2 "is_word" ["value"] (spWord K)) : FnOk P w K mg base CX0 3 f fd ["self", "value"] (spFrInR K CF) := by
  refine fnO F sc_fr_in (fun vs H Q E h => ?_) (fun cdv A outer s H vs Q E hr h => ?_)
  · obtain ⟨a, v, ws, rfl, _⟩ := h
    rfl
  · skip
    refine ⟨_, PSs.nox ((pss_one (ps_ret (pe_and (pe_calO dis_word hr pass0 (pa_cons (pv 1) pa_nil)) (pe_one (pe_cmp (pc_din (Nat.lt_of_le_of_lt (Nat.add_le_add_left (show 1 ≤ 64 by decide) _) hr.units) (pv 1) (pe_fldK (pv 0))) (by rfl))))))), ?_⟩
    obtain ⟨a, v, ws, rfl, hf, h⟩ := h
    rcases h with ⟨hb, q⟩ | ⟨x, hv, hx, q⟩
    · exact s_ret (v := .bl (false && false)) (ev_andV (ev_word (ev_var rfl) hb) (fun z => by cases z)) fun H1 e => q H1 e
    · refine s_ret (v := .bl (true && decide (x ∈ ws))) (ev_andV (ev_word (ev_var rfl) (wb_word hv hx)) fun _ H1 e Q k => ?_) fun H1 e => by rw [Bool.true_and]; exact q H1 e
      obtain ⟨dx, d, ha, hd⟩ := frR_ex e hf
      obtain ⟨b, rfl, hb⟩ := wd_mono e hv
      refine ⟨_, rfl, _, rfl, a, CF, dx, _, .ref d, rfl, ha, OFr.cl, nW, rfl, d, _, rfl, .inr ⟨_, kw x, b, hd, rfl, (by rw [kw_val]; exact hb), rfl⟩, ?_⟩
      rw [dk_in]
      exact k H1 (Ex.refl H1)

abbrev s_fr_len : Stmt := inClass (topS 22) 7
theorem sc_fr_len : FnScope ["self"] ["self"] (defScope s_fr_len) := ⟨rfl, rfl, rfl, by decide +kernel, rfl, by decide +kernel, by decide +kernel⟩
theorem ok_fr_len {f : Addr} {fd : FuncData} (F : FunD K "__len__" "Front.__len__" (defArgs s_fr_len) (defBody s_fr_len) (defScope s_fr_len) [] [] f fd) (T : Tx P w K mg base) (OFr : OwnC K mg "Front" CF) (nW : NoAttr K CF "_words") : FnOk P w K mg base CX0 1 f fd ["self"] (spFrLen K CF) := by
  refine fnO F sc_fr_len (fun vs H Q E h => ?_) (fun cdv A outer s H vs Q E hr h => ?_)
  · obtain ⟨a, ws, rfl, _⟩ := h
    rfl
  · skip
    refine ⟨_, PSs.nox ((pss_one (ps_ret (pe_callB call_len_dT (by rfl) T.m_len (by decide +kernel) (pa_cons (pe_fldK (pv 0)) pa_nil))))), ?_⟩
    obtain ⟨a, ws, rfl, ⟨dx, d, ha, hd⟩, q⟩ := h
    refine ⟨_, rfl, a, CF, dx, _, .ref d, rfl, ha, OFr.cl, nW, rfl, d, dk ws, rfl, hd, ?_⟩
    rw [dk_len]
    exact q H (Ex.refl H)

abbrev s_fr_eq : Stmt := inClass (topS 22) 15
theorem sc_fr_eq : FnScope ["self", "other"] ["self", "other"] (defScope s_fr_eq) := ⟨rfl, rfl, rfl, by decide +kernel, rfl, by decide +kernel, by decide +kernel⟩
theorem ok_fr_eq {f : Addr} {fd : FuncData} (F : FunD K "__eq__" "Front.__eq__" (defArgs s_fr_eq) (defBody s_fr_eq) (defScope s_fr_eq) [] [] f fd) (T : Tx P w K mg base) (OFr : OwnC K mg "Front" CF) (nW : NoAttr K CF "_words") : FnOk P w K mg base CX0 1 f fd ["self", "other"] (spFrEq K CF) := by
  refine fnO F sc_fr_eq (fun vs H Q E h => ?_) (fun cdv A outer s H vs Q E hr h => ?_)
  · obtain ⟨a, v, ws, rfl, _⟩ := h
    rfl
  · skip
    refine ⟨_, PSs.nox ((pss_one (ps_ret (pe_and (pe_callB (call_isiK1 (K := K)) (by rfl) T.m_isinstance (by decide +kernel) (pa_cons (pv 1) (pa_cons (pe_glob (v := .ref CF) (by rfl) OFr.g rfl) pa_nil))) (pe_one (pe_cmpR (op_eqT hr.units) (pe_fldK (pv 0)) (pe_fldK (pv 1)) (nomark _))))))), ?_⟩
    obtain ⟨a, v, ws, rfl, ⟨dx, d, ha, hd⟩, sd, h⟩ := h
    rcases h with ⟨t, ht, hk, q⟩ | ⟨b, us, rfl, ⟨dy, e, hb, he⟩, sd2, q⟩
    · exact ⟨_, rfl, _, _, t, .ref CF, false, rfl, .own CF, ht, hk, _, rfl, q H (Ex.refl H)⟩
    · refine ⟨_, rfl, _, .ref CF, _, .ref CF, true, rfl, .own CF, OFr.ty hb, OFr.self_, _, rfl, _, rfl, a, CF, dx, _, .ref d, rfl, ha, OFr.cl, nW, rfl, _, rfl, b, CF, dy, _, .ref e, rfl, hb, OFr.cl, nW, rfl, d, e, dk ws, dk us, rfl, rfl, hd, he, dk_allT, dk_allT, fun z hz => ?_⟩
      have z2 : z = decide (ws = us) := by
        rw [Bool.eq_iff_iff, hz, decide_eq_true_iff, dk_len, dk_len]
        constructor
        · rintro ⟨h1, h2⟩
          exact sd_eq sd sd2 h1 fun w hw => dk_keys.mp (h2 _ (List.mem_map.mpr ⟨w, hw, rfl⟩))
        · rintro rfl
          refine ⟨rfl, fun p hp => List.mem_map.mpr ⟨p, hp, rfl⟩⟩
      rw [z2]
      exact q H (Ex.refl H)

abbrev s_fr_repr : Stmt := inClass (topS 22) 16
theorem sc_fr_repr : FnScope ["self", "shown", "word"] ["self"] (defScope s_fr_repr) := ⟨rfl, rfl, rfl, by decide +kernel, rfl, by decide +kernel, by decide +kernel⟩
theorem ok_fr_repr {f : Addr} {fd : FuncData} (F : FunD K "__repr__" "Front.__repr__" (defArgs s_fr_repr) (defBody s_fr_repr) (defScope s_fr_repr) [] [] f fd) (T : Tx P w K mg base) (OFr : OwnC K mg "Front" CF) (nW : NoAttr K CF "_words") : FnG P w K mg base CX0 1 f fd ["self"] (spFrRepr K CF) := by
  refine fnG F sc_fr_repr (fun vs H Q E h => ?_) (fun cdv A outer s H vs Q E gd hr h => ?_)
  · obtain ⟨a, ws, rfl, _⟩ := h
    rfl
  · skip
    refine ⟨_, PSs.nox ((pss_cons (ps_lock (ps_setLc (i := 1) (own := [("word", 2)]) (g := gName 2) rfl sc_fr_repr.nd rfl rfl (sw_true rfl rfl rfl (by decide +kernel)) (pi_keys (pe_fldK (pv 0))) (blkOk_by (own := [("word", 2)]) (N := ["self", "shown", "word"]) (sc := defScope s_fr_repr) (by decide +kernel)) (fun _ _ _ _ _ => pg_name (i := 2) sc_fr_repr.nd rfl (by first | exact Or.inl rfl | exact Or.inr rfl)) (fun _ _ _ _ _ => (pts_one (pt_truthK (K := K) (pv 2)))) (fun _ _ _ _ _ => (pv 2))))
      (pss_one (ps_ret (pe_joined (PJ.cons pe_str (PJ.cons (pe_fmtRL (P := P) (w := w) gd hr.units (pv 1)) (PJ.cons pe_str PJ.nil)))))))), ?_⟩
    obtain ⟨a, ws, rfl, hf, hw, hz, q⟩ := h
    refine lk_lc (b := fun w => !w.isEmpty) (B := fun w v H => Wd K H v w) hf (by omega) (fun w v H H2 h r => by
      obtain ⟨b, rfl, e⟩ := r
      exact ⟨b, rfl, h _ _ e⟩) (fun _ => rfl) (fun dx d H1 Q h q => ⟨_, rfl, a, CF, dx, _, .ref d, rfl, h, OFr.cl, nW, rfl, q⟩) (fun x w H1 hv _ => et_truW (ev_var rfl) hv) (fun x w H1 hv _ hb Q k => ⟨_, rfl, k _ H1 (Ex.refl H1) hv⟩) fun D xs H2 hD e2 hx hp => ?_
    have fw : ∀ w ∈ ws.filter (fun w => !w.isEmpty), isW w = true := fun w h => hw w (List.mem_filter.mp h).1
    have fl : (ws.filter fun w => !w.isEmpty).length ≤ ws.length := List.length_filter_le ..
    obtain ⟨r1, r2, r3⟩ := lst_rok (roks_wD fw) (by rw [List.length_map]; omega)
    have lt := lst_len fw (by omega)
    have le : (Str.empty ++ ("Front(" : Str)).length = 6 := by rfl
    have l2 : ((")" : Str)).length = 1 := by rfl
    refine ⟨_, rfl, (by show (6 : Nat) ≤ sizeLine; decide), _, rfl, D, xs, _, rfl, hx, rws_words hp, r1, r2, r3, _, rfl, (by rw [len_app, le, sizeLine_eq]; omega), _, rfl, (by rw [len_app, len_app, le, l2, sizeLine_eq]; omega), ?_⟩
    exact q H2 e2

end
end K21
namespace Tk
open PySem PySem.Spec PyProof.Rows L2 Lw Evl LamX TL PySem.W
open Rm (R Ok Z0 Zp Fr fr_none fr_ne nt_lst nt_tup nt_dK NT Zn)
/-! ### words of equally many letters, in the order of what is shown of them -/
theorem fold_ch : ∀ (l : List Nat) (acc : Array Nat), (∀ c ∈ l, 97 ≤ c ∧ c ≤ 122) → (l.foldl (fun out c => out ++ (PySem.Builtin.Str.reprChar 39 c).toArray) acc).toList = acc.toList ++ l
  | [], acc, _ => by rw [List.foldl_nil, List.append_nil]
  | x :: l, acc, h => by
    have hx := h x (List.mem_cons_self ..)
    rw [List.foldl_cons, fold_ch l _ (fun y hy => h y (List.mem_cons_of_mem _ hy)), repr_ch 39 (List.mem_cons_self ..) x (List.mem_range'_1.mpr ⟨hx.1, by omega⟩)]
    simp
theorem tl_repr {s : Str} (h : isL s = true) : tl (PySem.reprText s) = 39 :: (tl s ++ [39]) := by
  have hq : reprQuote s = 39 := by
    have hc := (isL_iff.mp h).2
    have n : s.cps.contains 39 = false := by
      rw [Bool.eq_false_iff]
      intro z
      have z2 : 39 ∈ s.cps.toList := by simpa using z
      have := hc 39 z2
      omega
    unfold reprQuote
    split
    · rename_i z
      simp_all
    · rfl
  unfold tl PySem.reprText
  rw [hq, Array.toList_push, ← Array.foldl_toList, fold_ch _ _ (isL_iff.mp h).2]
  rfl
def tlW (e : List Nat) : List Str → List Nat
  | [] => e
  | y :: ys => 44 :: 32 :: 39 :: (tl y ++ 39 :: tlW e ys)
theorem joinL_tlW {e : List Nat} : ∀ (ys : List Str) (y : Str), (∀ z ∈ y :: ys, isL z = true) → joinL [44, 32] ((y :: ys).map fun z => tl (PySem.reprText z)) ++ e = 39 :: (tl y ++ 39 :: tlW e ys)
  | [], y, h => by
    show tl (PySem.reprText y) ++ e = _
    rw [tl_repr (h y (List.mem_cons_self ..))]
    simp [tlW]
  | z :: ys, y, h => by
    show tl (PySem.reprText y) ++ ([44, 32] ++ joinL [44, 32] ((z :: ys).map fun z => tl (PySem.reprText z))) ++ e = _
    have ih := joinL_tlW (e := e) ys z (fun x hx => h x (List.mem_cons_of_mem _ hx))
    rw [tl_repr (h y (List.mem_cons_self ..)), List.append_assoc, List.append_assoc, ih]
    simp [tlW]
theorem tl_shown {ys : List Str} (h : ∀ y ∈ ys, isL y = true) : tl (wD ys).shown = match ys with
    | [] => [40, 41]
    | y :: zs => 40 :: 39 :: (tl y ++ 39 :: tlW (if zs.length = 0 then [44, 41] else [41]) zs) := by
  unfold wD
  rw [PyData.shown_tuple, PyData.shownAll_strs]
  cases ys with
  | nil =>
    show tl (Str.ofString "(" ++ (Str.ofString ", ").join (List.map reprText []) ++ Str.ofString (if ((List.map PyData.str []).length == 1) = true then ",)" else ")")) = [40, 41]
    clear h
    decide +kernel
  | cons y zs =>
    have e1 : tl (("(" : Str) ++ Str.join ", " ((y :: zs).map PySem.reprText) ++ (if ((y :: zs).map PyData.str).length == 1 then ",)" else ")" : String)) = 40 :: (joinL [44, 32] ((y :: zs).map fun z => tl (PySem.reprText z)) ++ (if zs.length = 0 then [44, 41] else [41])) := by
      have j : tl (Str.join ", " ((y :: zs).map PySem.reprText)) = joinL [44, 32] ((y :: zs).map fun z => tl (PySem.reprText z)) := by
        rw [tl_join, List.map_map]
        rfl
      rw [show tl (("(" : Str) ++ Str.join ", " ((y :: zs).map PySem.reprText) ++ (if ((y :: zs).map PyData.str).length == 1 then ",)" else ")" : String)) = tl ("(" : Str) ++ tl (Str.join ", " ((y :: zs).map PySem.reprText)) ++ tl ((if ((y :: zs).map PyData.str).length == 1 then ",)" else ")" : String) : Str) from by
        unfold tl
        rw [tl_app, tl_app], j]
      cases zs with
      | nil => rfl
      | cons z zs => rfl
    rw [e1, joinL_tlW zs y h]
theorem lt_quote {u v : List Nat} : ∀ {a b : List Nat}, (∀ c ∈ a, 39 < c) → (∀ c ∈ b, 39 < c) → ((a ++ 39 :: u) < (b ++ 39 :: v) ↔ if a = b then u < v else a < b)
  | [], [], _, _ => by simp [List.cons_lt_cons_iff]
  | [], d :: b, _, h => by
    have := h d (List.mem_cons_self ..)
    simp [List.cons_lt_cons_iff, this]
  | c :: a, [], h, _ => by
    have := h c (List.mem_cons_self ..)
    simp only [List.cons_append, List.nil_append, List.cons_lt_cons_iff]
    rw [if_neg (fun z => nomatch z)]
    constructor
    · rintro (z | ⟨z, _⟩) <;> omega
    · intro z
      exact absurd z (by simp)
  | c :: a, d :: b, h, k => by
    have ih := lt_quote (u := u) (v := v) (a := a) (b := b) (fun x hx => h x (List.mem_cons_of_mem _ hx)) (fun x hx => k x (List.mem_cons_of_mem _ hx))
    simp only [List.cons_append, List.cons_lt_cons_iff, ih, List.cons.injEq]
    by_cases e : c = d
    · subst e
      by_cases e2 : a = b <;> simp [e2]
    · simp [e]
theorem isL_39 {s : Str} (h : isL s = true) : ∀ c ∈ tl s, 39 < c := fun c hc => by
  have := (isL_iff.mp h).2 c hc
  omega
theorem tl_eq {x y : Str} : tl x = tl y ↔ x = y := ⟨fun h => ext_tl h, fun h => by rw [h]⟩
theorem lt_tlW {e : List Nat} : ∀ {xs ys : List Str}, (∀ x ∈ xs, isL x = true) → (∀ y ∈ ys, isL y = true) → xs.length = ys.length → (tlW e xs < tlW e ys ↔ lexW xs ys = true)
  | [], [], _, _, _ => by
    show e < e ↔ false = true
    exact ⟨fun z => absurd z (List.lt_irrefl e), fun z => nomatch z⟩
  | x :: xs, y :: ys, h, k, n => by
    have ih := lt_tlW (e := e) (xs := xs) (ys := ys) (fun x hx => h x (List.mem_cons_of_mem _ hx)) (fun x hx => k x (List.mem_cons_of_mem _ hx)) (Nat.succ.inj n)
    have q := lt_quote (u := tlW e xs) (v := tlW e ys) (isL_39 (h x (List.mem_cons_self ..))) (isL_39 (k y (List.mem_cons_self ..)))
    show 44 :: 32 :: 39 :: (tl x ++ 39 :: tlW e xs) < 44 :: 32 :: 39 :: (tl y ++ 39 :: tlW e ys) ↔ (if x = y then lexW xs ys else decide (tl x < tl y)) = true
    simp only [List.cons_lt_cons_iff, Nat.lt_irrefl, false_or, true_and, q, tl_eq]
    by_cases e2 : x = y
    · rw [if_pos e2, if_pos e2, ih]
    · rw [if_neg e2, if_neg e2, decide_eq_true_iff]
def kS (ys : List Str) : PyData := .str (wD ys).shown
theorem lt_kS {xs ys : List Str} (h : ∀ x ∈ xs, isL x = true) (k : ∀ y ∈ ys, isL y = true) (n : xs.length = ys.length) : dataLt (kS xs) (kS ys) = lexW xs ys := by
  unfold kS
  rw [dataLt_str]
  have e : tl (wD xs).shown < tl (wD ys).shown ↔ lexW xs ys = true := by
    rw [tl_shown h, tl_shown k]
    match xs, ys, n with
    | [], [], _ => exact ⟨fun z => absurd z (List.lt_irrefl _), fun z => nomatch z⟩
    | x :: xs, y :: ys, n =>
      have nn : xs.length = ys.length := Nat.succ.inj n
      have z := lt_tlW (e := if ys.length = 0 then [44, 41] else [41]) h k n
      dsimp only
      rw [nn]
      rw [← z]
      show 40 :: 39 :: _ < 40 :: 39 :: _ ↔ 44 :: 32 :: 39 :: _ < 44 :: 32 :: 39 :: _
      simp only [List.cons_lt_cons_iff, Nat.lt_irrefl, false_or, true_and]
  have f : ∀ b : Bool, (tl (wD xs).shown < tl (wD ys).shown ↔ b = true) → decide (tl (wD xs).shown < tl (wD ys).shown) = b := fun b hb => by
    cases b with
    | true => exact decide_eq_true (hb.mpr rfl)
    | false => exact decide_eq_false fun z => nomatch hb.mp z
  exact f _ e
/-- different words of n letters, sorted by what is shown of them -/
theorem sort_shown {ds : List (List Str)} {n : Nat} (hn : ds.Nodup) (hl : ∀ u ∈ ds, u.length = n) (hw : ∀ u ∈ ds, ∀ y ∈ u, isL y = true) : ds.mergeSort (dataLe false kS) = srtW ds := by
  have p : (ds.mergeSort (dataLe false kS)).Perm ds := List.mergeSort_perm ds _
  have s : (ds.mergeSort (dataLe false kS)).Pairwise fun a b => dataLe false kS a b = true := sort_pairwise (sortLe_total _ _ _) ds
  have nd : (ds.mergeSort (dataLe false kS)).Nodup := (List.Perm.nodup_iff p).mpr hn
  refine sd_uniq ?_ (srtW_sd ds) fun u => by rw [p.mem_iff, srtW_mem]
  refine List.Pairwise.imp_of_mem (fun {a b} ha hb r => ?_) (List.pairwise_and_iff.mpr ⟨s, nd⟩)
  have ha := p.mem_iff.mp ha
  have hb := p.mem_iff.mp hb
  obtain ⟨h1, h2⟩ := r
  have h1 : (!dataLt (kS b) (kS a)) = true := h1
  have e : b.length = a.length := (hl b hb).trans (hl a ha).symm
  rw [lt_kS (hw b hb) (hw a ha) e] at h1
  rcases ahead_conn (show a ≠ b from h2) with z | z
  · exact z
  · unfold aheadW at z
    rw [if_pos e] at z
    rw [z] at h1
    cases h1
end Tk
namespace Tk
open PySem PySem.Spec PyProof.Rows L2 Lw Evl LamX TL
open Rm (R Ok Z0 Zp Fr fr_none fr_ne nt_lst nt_tup nt_dK NT Zn)
/-! ### sorted(words, key=str) -/
def rSortStrW (K : PySem.W.Frag) : List V → List V → Hp → VK → Prop := fun vs zs H Q => ∃ (a : Addr) (ws : List (List Str)), vs = [.ref a] ∧ zs = [.ty "str"] ∧ LW K H a ws ∧ (∀ u ∈ ws, isW u = true) ∧ ws.length ≤ 100000 ∧
  ∀ p, H p = none → (∀ o us, Paired (Wd K H) us (ws.mergeSort (PySem.W.dataLe false kS)) → o = HO.lst us → Q (.ref p) (upd H p o))
section
variable {K : PySem.W.Frag}
def SW (K : PySem.W.Frag) (H : Hp) (h : Heap) (v : Value) (ys : List Str) : Prop := ∃ a, v = .ref a ∧ Wd K H (.ref a) ys ∧ ∃ as, Reads h (.ref a) (wD ys) as
end
theorem svals_of {X : Cx} {pins : List (Addr × Obj)} {σ : L2.St} {H : Hp} {s : Shared} (I : Inv X pins σ H s) : ∀ {us : List V} {ws : List (List Str)} {vs : List Value}, Paired (Wd X.K H) us ws → Vals us vs → PySem.W.EachIs (SW X.K H s.heap) vs ws
  | [], [], _, .nil, .nil => .nil
  | _ :: _, _ :: _, _, .cons r t, .cons q z => by
    obtain ⟨a, rfl, ha⟩ := id r
    cases q
    obtain ⟨as, rd⟩ := Dp.reads I _ _ _ (dp_word r) (show RelV (.ref a) (.ref a) from rfl)
    exact .cons ⟨a, rfl, r, as, rd⟩ (svals_of I t z)
theorem svals_back {K : PySem.W.Frag} {H : Hp} {h : Heap} : ∀ {ws : List (List Str)} {vs : List Value}, PySem.W.EachIs (SW K H h) vs ws → ∃ us, Vals us vs ∧ Paired (Wd K H) us ws
  | _, _, .nil => ⟨[], .nil, .nil⟩
  | _, _, .cons r t => by
    obtain ⟨us, h1, h2⟩ := svals_back t
    obtain ⟨a, rfl, hw, _⟩ := r
    exact ⟨.ref a :: us, .cons rfl h1, .cons hw h2⟩
theorem cr_sortStrW {X : Cx} {K : PySem.W.Frag} (gd : X.A.guards = some []) (hu : X.A.units + 64 < cLine) (h : X.K = K := by rfl) : CallRK X (.builtin "sorted") [Str.ofString "key"] (rSortStrW K) := by
  subst h
  intro pins s σ H vs zs us ws Q I r rz h
  obtain ⟨a, xs, rfl, rfl, ⟨es, hs, hp⟩, hw, hz, q⟩ := h
  obtain rfl := Vals.ref1 r
  obtain ⟨w1, rfl, e1⟩ := vals1 rz
  obtain rfl : w1 = Value.type "str" := e1
  obtain ⟨its, rv, hl, hz2⟩ := I.list (SqL.of hs)
  refine PySem.W.sorted_key_data (R := SW X.K H s.heap) (b := false) kS hl.isList (svals_of I hp rv) (fun d hd e he => ?_) (.inr fun d hd => ?_) (sz_of hz) (fun x _ => by simp only [kS, PyData.depth]; omega) (PyProof.Rows.ksk_s1 _ _) (fun _ => PyProof.Rows.ksk_l1 _ _) (fun a => ksk_ty a)
    (fun v x r hx h3 tk kp => ?_) (fun out cnt h3 tk kp fr hD len eo => ?_)
  · obtain ⟨x, _, rfl⟩ := List.mem_map.mp hd
    obtain ⟨y, _, rfl⟩ := List.mem_map.mp he
    rfl
  · obtain ⟨x, _, rfl⟩ := List.mem_map.mp hd
    exact ⟨(fun z => nomatch z), (fun xs z => nomatch z)⟩
  · obtain ⟨b, rfl, _, as, rd⟩ := r
    have ok := rok_wD (hw x hx)
    have dd : (wD x).depth ≤ 2 := by
      unfold wD
      rw [PyData.depth]
      have := (lay_strs fun y hy => strOk_of ((isW_iff.mp (hw x hx)).2 y hy)).2
      omega
    refine PySem.str_of_reads rd ok.1 (fun z => ?_) (show X.A.guards = some [] from gd) (by show X.A.units + 1 + 1 + ((wD x).depth + 3) < cLine; omega) (fun b o e => kp b o e) (fun h' u tk2 k2 => ?_) ?_
    · have n : (wD x).hasDict = false := by
        unfold wD
        rw [PyData.hasDict]
        exact nodict_strs x
      rw [n] at z
      cases z
    · exact ⟨h', tk2, rfl, k2, .str _ _⟩
    · exact sz_of (Nat.le_trans ok.2.1 (by decide))
  · obtain ⟨us2, v2, p2⟩ := svals_back eo
    have hn : H (s.heap.objs.size + 1) = none := I.hok.fresh (Nat.le_succ _)
    have l2 : us2.length ≤ sizeLine := by
      rw [Paired.length p2, List.length_mergeSort]
      exact sz_of hz
    exact ⟨.ref _, upd H (s.heap.objs.size + 1) (.lst us2), I.laid (t' := tk) kp (Nat.le_succ _) ⟨l2, out, cnt, v2, hD⟩, rfl, q _ hn _ us2 p2 rfl⟩
end Tk
namespace Tk
open PySem PySem.Spec PyProof.Rows L2 Lw Evl LamX TL
open Rm (R Ok Z0 Zp Fr fr_none fr_ne nt_lst nt_tup nt_dK NT Zn)
/-! ### dict(pairs), each a word with True -/
def PrW (K : PySem.W.Frag) (H : Hp) (p : Addr) (w : List Str) : Prop := ∃ b, SqT K H p [.ref b, .bl true] ∧ H b = some (.tup (w.map V.str))
def rDictW (K : PySem.W.Frag) : List V → Hp → VK → Prop := fun vs H Q => ∃ (a : Addr) (ps : List Addr) (ws : List (List Str)), vs = [.ref a] ∧ SqL K H a (ps.map V.ref) ∧ Paired (PrW K H) ps ws ∧ ws.length ≤ 40000 ∧ ∀ p, H p = none → Q (.ref p) (upd H p (.dT (dk (uniq ws))))
section
variable {X : Cx} {pins : List (Addr × Obj)} {σ : L2.St} {H : Hp} {s : Shared}
theorem prw_of (I : Inv X pins σ H s) : ∀ {ps : List Addr} {ws : List (List Str)}, Paired (PrW X.K H) ps ws → ∃ L : List (List L2.Key × Addr × Value), L.length = ps.length ∧ (∀ (j : Nat) (p : Addr), ps[j]? = some p → ∃ q : List L2.Key × Addr × Value, L[j]? = some q ∧ IsTup s.heap p #[.ref q.2.1, q.2.2]) ∧
    (∀ x ∈ L, H x.2.1 = some (.tup (x.1.map kV))) ∧ ∀ ds acc, KT H (dk ds) acc → KT H (dk (ws.foldl addW ds)) (PySem.storedAllH acc L)
  | [], [], .nil => ⟨[], rfl, fun j p e => by simp at e, fun x hx => absurd hx List.not_mem_nil, fun ds acc r => r⟩
  | p :: ps, w :: ws, .cons ⟨b, hp, hb⟩ t => by
    obtain ⟨L, h1, h2, h3, h4⟩ := prw_of I t
    obtain ⟨its, rv, ht, _⟩ := I.tuple hp
    obtain ⟨u, y, ei, ru, ry⟩ := vals2 rv
    subst ei
    cases ru
    have hk : H b = some (.tup ((kw w).map kV)) := by rw [kw_val]; exact hb
    refine ⟨(kw w, b, y) :: L, by rw [List.length_cons, List.length_cons, h1], fun j q e => ?_, fun x hx => ?_, fun ds acc r => ?_⟩
    · cases j with
      | zero =>
        obtain rfl : p = q := Option.some.inj e
        exact ⟨_, rfl, ht⟩
      | succ j => exact h2 j q (by simpa using e)
    · rcases List.mem_cons.mp hx with rfl | hx
      · exact hk
      · exact h3 x hx
    · have z := h4 (addW ds w) (storedH acc (kw w) b y) (by
        rw [← put_dk]
        exact r.put (kw w) hk ry)
      exact z
theorem call_dictW {K : PySem.W.Frag} (hc : X.calm = true) (hu : X.A.units + 64 < cLine) (h : X.K = K := by rfl) : CallR X (.type "dict") (rDictW K) := by
  subst h
  intro pins s σ H xs us Q I r q
  obtain ⟨a, ps, ws, rfl, hs, hp, hz, q⟩ := q
  obtain rfl := Vals.ref1 r
  obtain ⟨its, rv, pl, hz2⟩ := I.list hs
  have ei := refs_at rv
  subst ei
  rw [List.length_map] at hz2
  obtain ⟨L, h1, h2, h3, h4⟩ := prw_of I hp
  obtain ⟨o, n, ho, hcl, hd, hdat⟩ := pl
  have lw := Paired.length hp
  have pz : (L.map fun q => (Value.ref q.2.1, q.2.2)).length = ps.length := by rw [List.length_map, h1]
  have P := PySem.PairArg.list (prog := X.prog) (w := X.w) a (ps.map Value.ref).toArray (fun j => ps.getD j 0) (L.map fun q => (Value.ref q.2.1, q.2.2))
  refine PySem.call_dict_pairsH (knd := tupleKind (mixKind X.prog X.w)) (ps := L) P (I.ok.hd hc) (tupleKind_room_in1 (A := X.A.in1) (by show X.A.units + 1 + 1 < cLine; omega)) ⟨⟨o, n, ho, hcl, hd, hdat⟩, ?_, fun j k v hj => ?_⟩ ⟨by rw [List.length_map], fun i key v hi => ?_⟩ (fun h' kp x hx => ?_) (by rw [pz]; exact hz2) fun h' tk hd' kp => ?_
  · rw [pz]
    simp
  · rw [List.getElem?_map] at hj
    obtain ⟨q, hq, e⟩ := Option.map_eq_some_iff.mp hj
    cases e
    have hjl : j < ps.length := by
      rw [← h1]
      exact (List.getElem?_eq_some_iff.mp hq).1
    have hpj := List.getElem?_eq_getElem hjl
    obtain ⟨q2, hq2, ht⟩ := h2 j _ hpj
    rw [hq] at hq2
    cases hq2
    have e1 : ps.getD j 0 = ps[j] := by rw [List.getD_eq_getElem?_getD, hpj]; rfl
    show _ = some (Value.ref (ps.getD j 0)) ∧ PairAt s.heap (ps.getD j 0) _ _
    rw [e1]
    refine ⟨by simp [hpj], .inl ?_⟩
    exact ht
  · have hi : (L.map fun q => (Value.ref q.2.1, q.2.2))[i]? = some (key, v) := hi
    rw [List.getElem?_map] at hi
    obtain ⟨q, hq, e⟩ := Option.map_eq_some_iff.mp hi
    cases e
    exact ⟨q.1, q.2.1, hq, rfl⟩
  · obtain ⟨o2, its2, n2, k1, k2, k3, k4⟩ := key_of I.hok (h3 x hx)
    exact ⟨o2, its2, n2, kp _ _ (Nat.ne_of_lt (Heap.lt_size k1)) (fun z => nomatch z) k1, k2, k3, k4⟩
  · have kt := h4 [] [] .nil
    have sm : (s.heap.objs.size == sysModules) = false := beq_eq_false_iff_ne.mpr (Nat.ne_of_gt I.big)
    have hn : H s.heap.objs.size = none := I.hok.fresh (Nat.le_refl _)
    have le : (dk (uniq ws)).length ≤ sizeLine := by
      have z := uniq_len ws
      have e : (dk (uniq ws)).length = (uniq ws).length := by unfold dk; rw [List.length_map]
      rw [e]
      exact sz_of (by omega)
    obtain ⟨od, es, ep, a1, a2, a3, a4, _, a5⟩ := hd'
    refine ⟨.ref s.heap.objs.size, upd H s.heap.objs.size (.dT (dk (uniq ws))), I.laid (t' := tk) (fun b o e => kp b o (fun z => nomatch z) e) (Nat.le_refl _) ⟨le, sm, _, KT.keeps kt (fun b ys e => ?_), od, es, ep, a1, a2, a3, a4, a5⟩, rfl, q _ hn⟩
    rw [upd_ne (ne_of_none e hn)]
    exact e
end
end Tk
namespace Tk
open PySem PySem.Spec PyProof.Rows L2 Lw Evl LamX TL
open Rm (R Ok Z0 Zp Fr fr_none fr_ne nt_lst nt_tup nt_dK NT Zn)
/-! ### rows and fronts in order -/
theorem alike_strs : ∀ (x y : List Str), PySem.W.alikeAll (x.map PyData.str) (y.map PyData.str) = true
  | [], _ => by rw [List.map_nil, PySem.W.alikeAll]
  | _ :: _, [] => by rw [List.map_nil, List.map_cons, PySem.W.alikeAll]
  | a :: x, b :: y => by
    rw [List.map_cons, List.map_cons, PySem.W.alikeAll, PySem.W.alike, alike_strs x y]
    rfl
theorem alike_wD (x y : List Str) : PySem.W.alike (wD x) (wD y) = true := by
  unfold wD
  rw [PySem.W.alike]
  exact alike_strs x y
theorem alike_rows : ∀ (ws us : List (List Str)), PySem.W.alikeAll (ws.map wD) (us.map wD) = true
  | [], _ => by rw [List.map_nil, PySem.W.alikeAll]
  | _ :: _, [] => by rw [List.map_nil, List.map_cons, PySem.W.alikeAll]
  | a :: x, b :: y => by
    rw [List.map_cons, List.map_cons, PySem.W.alikeAll, alike_wD, alike_rows x y]
    rfl
def frD (ws : List (List Str)) : PyData := .tuple [.int (ws.length : Int), .list (ws.map wD)]
def rowsLt (ws us : List (List Str)) : Bool := PyProof.Rows.lexLt itemOrd (PySem.W.keyToksAll (ws.map wD)) (PySem.W.keyToksAll (us.map wD))
def ltFr (ws us : List (List Str)) : Bool := if ws.length ≠ us.length then decide (ws.length < us.length) else rowsLt ws us
theorem rowsLt_cons (x y : List Str) (ws us : List (List Str)) : rowsLt (x :: ws) (y :: us) = if x = y then rowsLt ws us else PySem.W.dataLt (wD x) (wD y) := by
  unfold rowsLt
  rw [List.map_cons, List.map_cons]
  by_cases c : x = y
  · rw [if_pos c, PySem.W.dataLt_all_yes (alike_wD x y) (by rw [eqv_wD, decide_eq_true c])]
  · rw [if_neg c, PySem.W.dataLt_all_no (alike_wD x y) (by rw [eqv_wD, decide_eq_false c])]
theorem alike_frD (ws us : List (List Str)) : PySem.W.alike (frD ws) (frD us) = true := by
  unfold frD
  rw [PySem.W.alike, PySem.W.alikeAll, PySem.W.alike, PySem.W.alikeAll, PySem.W.alike, alike_rows, PySem.W.alikeAll]
  rfl
theorem lt_frD (ws us : List (List Str)) : PySem.W.dataLt (frD ws) (frD us) = ltFr ws us := by
  unfold frD ltFr
  rw [PySem.W.dataLt_tuple]
  by_cases c : ws.length = us.length
  · rw [if_neg (fun z => z c), PySem.W.dataLt_all_yes (by rw [PySem.W.alike]) (by rw [c]; simp [PyData.eqv])]
    unfold rowsLt
    have al : PySem.W.alike (PyData.list (ws.map wD)) (PyData.list (us.map wD)) = true := by
      rw [PySem.W.alike]
      exact alike_rows ws us
    cases e : PyData.eqv (.list (ws.map wD)) (.list (us.map wD)) with
    | true =>
      rw [PySem.W.dataLt_all_yes al e]
      have t := (PySem.W.toksAll_eqv _ _ (alike_rows ws us)).1 (by rw [PyData.eqv] at e; exact e)
      rw [t]
      have l := PySem.W.lex_pre (PySem.W.keyToksAll (us.map wD)) [] []
      rw [List.append_nil] at l
      rw [l, PySem.W.keyToksAll]
      exact (PySem.W.lex_pre [Sum.inl 0] [] []).symm ▸ rfl
    | false => rw [PySem.W.dataLt_all_no al e, PySem.W.dataLt_list]
  · rw [if_pos c, PySem.W.dataLt_all_no (by rw [PySem.W.alike]) (by simp [PyData.eqv]; omega), PySem.W.dataLt_int]
    congr 1
    exact propext Int.ofNat_lt
theorem rowsLt_nil : rowsLt [] [] = false := by
  unfold rowsLt
  rw [List.map_nil, PySem.W.keyToksAll]
  rfl
theorem frD_depth (ws us : List (List Str)) (h : ∀ u ∈ ws, isW u = true) : min (frD ws).depth (frD us).depth ≤ 64 := by
  have k : PyData.depthAll (ws.map wD) ≤ 1 := by
    induction ws with
    | nil => rw [List.map_nil, PyData.depthAll]; omega
    | cons x ws ih =>
      have a := ih fun u hu => h u (List.mem_cons_of_mem _ hu)
      have l2 : PyData.depthAll (x.map PyData.str) = 0 := by
        clear ih h a
        induction x with
        | nil => rw [List.map_nil, PyData.depthAll]
        | cons y x ih => rw [List.map_cons, PyData.depthAll, ih, PyData.depth]; rfl
      rw [List.map_cons, PyData.depthAll, wD, PyData.depth, l2]
      omega
  have : (frD ws).depth ≤ 4 := by
    unfold frD
    rw [PyData.depth, PyData.depthAll, PyData.depthAll, PyData.depthAll, PyData.depth, PyData.depth]
    omega
  omega
section
variable {P : Program} {w : World} {K : PySem.W.Frag} {Z : Zn} {H H0 H1 H2 : Hp} {σ : L2.St} {te ta tb td : TE} {v u : V} {a l b CF d : Addr} {ws us : List (List Str)} {Q : VK}
theorem dp_fr {p l : Addr} (hp : H p = some (.tup [.int (ws.length : Int), .ref l])) (hl : LW K H l ws) : Dp K H (.ref p) (frD ws) := by
  obtain ⟨xs, h1, h2⟩ := hl
  exact .tup (SqT.of hp) (.cons (.int _) (.cons (.lst (SqL.of h1) (dpa_words h2)) .nil))
theorem tp_fr (h : Ev ta σ H (.ref a)) (hf : FrAt K CF H a ws) (hz : ws.length ≤ 1000) : ∀ H1, Ex H H1 → ∀ Q : VK, (∀ p l H2, Ex H1 H2 → H2 p = some (.tup [.int (ws.length : Int), .ref l]) → LW K H2 l ws → Q (.ref p) H2) →
    tTup (tCons (tCB (rLenO CF (spFrLen K CF) E0) (tCons ta tNil)) (tCons (tMeth CF "words" (spFrWords K CF) [] E0 ta tNil) tNil)) σ H1 Q := fun H1 e Q q => h H1 e _ fun H2 e2 => by
  have hf2 := fr_ex (e.trans e2) hf
  obtain ⟨dx, d, h1, h2⟩ := id hf2
  refine ⟨a, dx, _, rfl, h1, a, ws, rfl, hf2, fun H3 e3 => ⟨_, rfl, by omega, by omega, ?_⟩⟩
  refine elw_words h hf H3 ((e.trans e2).trans e3) _ fun l H4 nl e4 hL => ⟨(by show 2 ≤ sizeLine; decide), fun p hp => ?_⟩
  exact q p l _ (((e2.trans e3).trans e4).trans (Ex.new hp)) upd_same (lw_mono (Ex.new hp) hL)
theorem ev_before (ha : Ev ta σ H (.ref a)) (hb : Ev tb σ H (.ref b)) (hf : FrAt K CF H a ws) (hg : FrAt K CF H b us) (hw : ∀ u ∈ ws, isW u = true) (hz : ws.length ≤ 1000) (ky : us.length ≤ 1000) :
    Ev (tOp (rLtD K) (tTup (tCons (tCB (rLenO CF (spFrLen K CF) E0) (tCons ta tNil)) (tCons (tMeth CF "words" (spFrWords K CF) [] E0 ta tNil) tNil))) (tTup (tCons (tCB (rLenO CF (spFrLen K CF) E0) (tCons tb tNil)) (tCons (tMeth CF "words" (spFrWords K CF) [] E0 tb tNil) tNil)))) σ H (.bl (ltFr ws us)) := fun H1 e Q q =>
  tp_fr ha hf hz H1 e _ fun p l H2 e2 hp hL => tp_fr hb hg ky H2 (e.trans e2) _ fun r m H3 e3 hr hM =>
    ⟨frD ws, frD us, dp_fr (e3 _ _ hp) (lw_mono e3 hL), dp_fr hr hM, alike_frD ws us, (fun z => by unfold frD at z; cases z), frD_depth ws us hw, by rw [lt_frD]; exact q H3 (e2.trans e3)⟩
end
def spBefore (K : PySem.W.Frag) (CF : Addr) : Sp := fun vs H Q _ => ∃ (a b : Addr) (ws us : List (List Str)), vs = [.ref a, .ref b] ∧ FrAt K CF H a ws ∧ FrAt K CF H b us ∧ (∀ u ∈ ws, isW u = true) ∧ ws.length ≤ 1000 ∧ us.length ≤ 1000 ∧ ∀ H', Ex H H' → Q (.bl (ltFr ws us)) H'
end Tk
namespace Tk
open PySem PySem.Spec PyProof.Rows L2 Lw Evl LamX TL
open Rm (R Ok Z0 Zp Fr fr_none fr_ne nt_lst nt_tup nt_dK NT Zn)
section
variable {P : Program} {w : World} {K : PySem.W.Frag} {Z : Zn} {H H0 H1 H2 : Hp} {σ : L2.St} {te ta tb td : TE} {tt : TT} {v u : V} {a l b CF d : Addr} {ws us : List (List Str)} {j : Nat} {vs : List Nat} {Q : VK}
/-- [f(w) for w in ws if g(w)], new words -/
theorem elw_WF (g : List Str → Bool) (f : List Str → List Str) (h : Ev ta σ H (.ref l)) (hl : LW K H l ws) (hz : ws.length ≤ 40000) (hw : ∀ x, wipe ((wipe σ vs).set j (some x)) vs = wipe σ vs)
    (ht : ∀ (x : V) (w : List Str) H1, Ex H H1 → Wd K H1 x w → w ∈ ws → EvT tt ((wipe σ vs).set j (some x)) H1 (g w)) (he : ∀ (x : V) (w : List Str) H1, Ex H H1 → Wd K H1 x w → w ∈ ws → g w = true → EvW K te ((wipe σ vs).set j (some x)) H1 (f w)) :
    EvLW K (tLc (iList K ta) (gName j) tt te vs) σ H ((ws.filter g).map f) := fun H0 e Q q => h H0 e _ fun H1 e1 => by
  obtain ⟨us, h1, hp⟩ := lw_mono (e.trans e1) hl
  have hlen := Paired.length hp
  refine ⟨l, rfl, ⟨us, SqL.of h1⟩, fun Dl hD => ?_⟩
  refine lc_list (xs := us) (fun n H' => Ex H1 H' ∧ LW K H' Dl (((ws.take n).filter g).map f)) ⟨Ex.new hD, [], upd_same, .nil⟩ (fun i H' _ p => SqL.of (p.1 _ _ h1)) (fun i x H' hi p => ?_) (fun H' p => ?_)
  · obtain ⟨p1, xs, p2, p3⟩ := p
    obtain ⟨w, hw2, r⟩ := paired_at hp hi
    have r2 := wd_mono p1 r
    have hm := List.mem_of_getElem? hw2
    have hi2 := (List.getElem?_eq_some_iff.mp hw2).1
    have lx := Paired.length p3
    have lf : (((ws.take i).filter g).map f).length ≤ i := by
      rw [List.length_map]
      exact Nat.le_trans (List.length_filter_le ..) (by rw [List.length_take]; omega)
    have tk : ((ws.take (i + 1)).filter g).map f = ((ws.take i).filter g).map f ++ (if g w = true then [f w] else []) := by
      rw [List.take_add_one, hw2, List.filter_append, List.map_append]
      cases h : g w <;> simp [h]
    refine ⟨hw _, ht _ w H' ((e.trans e1).trans p1) r2 hm H' (Ex.refl H') _ fun H3 e3 => ?_⟩
    cases hb : g w with
    | false =>
      rw [if_neg (by decide)]
      refine ⟨p1.trans e3, ?_⟩
      rw [tk, hb, if_neg (by decide), List.append_nil]
      exact lw_mono e3 ⟨xs, p2, p3⟩
    | true =>
      rw [if_pos rfl]
      refine he _ w H3 (((e.trans e1).trans p1).trans e3) (wd_mono e3 r2) hm hb H3 (Ex.refl H3) _ fun v H4 e4 hv => ?_
      have e34 := e3.trans e4
      have keep : ∀ {v : V} {zs : List Str}, Wd K H4 v zs → Wd K (upd H4 Dl (.lst (xs ++ [v]))) v zs := fun {v zs} hz => by
        obtain ⟨a, rfl, hz⟩ := hz
        refine ⟨a, rfl, ?_⟩
        have hd := e34 _ _ p2
        rw [upd_ne (fun q => by rw [q, hd] at hz; cases hz)]
        exact hz
      have keep2 : ∀ {u : V} {zs : List Str}, Wd K H4 u zs → Wd K (upd H4 Dl (.lst (xs ++ [v]))) u zs := fun {u zs} hz => by
        obtain ⟨a, rfl, hz⟩ := hz
        refine ⟨a, rfl, ?_⟩
        have hd := e34 _ _ p2
        rw [upd_ne (fun q => by rw [q, hd] at hz; cases hz)]
        exact hz
      refine ⟨xs, e34 _ _ p2, sz_lt (by omega), Ex.mut ((p1.trans e3).trans e4) hD, xs ++ [v], upd_same, ?_⟩
      rw [tk, hb, if_pos rfl]
      exact paired_app (paired_mono (fun _ _ r => keep2 (wd_mono e34 r)) p3) (.cons (keep2 hv) .nil)
  · obtain ⟨p1, p2⟩ := p
    rw [hlen, List.take_length] at p2
    exact q Dl H' (fresh_back e1 hD) (e1.trans p1) p2
theorem ev_neEW {x y : List Str} (ha : EvW K ta σ H x) (hb : EvW K tb σ H y) (hx : isW x = true) (hy : isW y = true) : Ev (tOp (rNeD K) ta tb) σ H (.bl (!decide (x = y))) := fun H1 e Q q => ha H1 e _ fun v H2 e2 hv => hb H2 (e.trans e2) _ fun u H3 e3 hu =>
  ⟨wD x, wD y, dp_word (wd_mono e3 hv), dp_word hu, shaped_wD hx, shaped_wD hy, by rw [eqv_wD]; exact q H3 (e2.trans e3)⟩
theorem wD_depth (x : List Str) : (wD x).depth ≤ 1 := by
  have l2 : PyData.depthAll (x.map PyData.str) = 0 := by
    induction x with
    | nil => rw [List.map_nil, PyData.depthAll]
    | cons y x ih => rw [List.map_cons, PyData.depthAll, ih, PyData.depth]; rfl
  rw [wD, PyData.depth, l2]
  omega
theorem ev_ltEW {x y : List Str} (ha : EvW K ta σ H x) (hb : EvW K tb σ H y) : Ev (tOp (rLtD K) ta tb) σ H (.bl (PySem.W.dataLt (wD x) (wD y))) := fun H1 e Q q => ha H1 e _ fun v H2 e2 hv => hb H2 (e.trans e2) _ fun u H3 e3 hu =>
  ⟨wD x, wD y, dp_word (wd_mono e3 hv), dp_word hu, alike_wD x y, (fun z => by unfold wD at z; cases z), Nat.le_trans (Nat.min_le_left ..) (Nat.le_trans (wD_depth x) (by decide)), q H3 (e2.trans e3)⟩
theorem ew_ixLW {i : Nat} {x : List Str} (ha : Ev ta σ H (.ref l)) (hb : Ev tb σ H (.int (i : Int))) (hl : LW K H l ws) (hi : ws[i]? = some x) : EvW K (tOp (rIxL K) ta tb) σ H x := fun H1 e Q q => ha H1 e _ fun H2 e2 => hb H2 (e.trans e2) _ fun H3 e3 => by
  obtain ⟨us, h1, hp⟩ := lw_mono ((e.trans e2).trans e3) hl
  have hlt : i < us.length := by
    rw [Paired.length hp]
    exact (List.getElem?_eq_some_iff.mp hi).1
  obtain ⟨w, hw, r⟩ := paired_at hp (List.getElem?_eq_getElem hlt)
  rw [hi] at hw
  cases hw
  exact ⟨l, us, i, _, rfl, rfl, SqL.of h1, atI_nat (List.getElem?_eq_getElem hlt), q _ H3 (e2.trans e3) r⟩
theorem ev_lenLW (h : Ev ta σ H (.ref l)) (hl : LW K H l ws) : Ev (tCB (rLenS K) (tCons ta tNil)) σ H (.int (ws.length : Int)) := by
  obtain ⟨us, h1, hp⟩ := hl
  rw [← Paired.length hp]
  exact ev_lenL h (SqL.of h1)
theorem call_one {sp : Sp} {E : XK} (h : te σ H fun x H1 => sp [x] H1 Q E) : tCall sp [] E (tCons te tNil) σ H Q := h
end
def spBehind (K : PySem.W.Frag) : Sp := fun vs H Q _ => ∃ (l : Addr) (s : Str) (ws : List (List Str)), vs = [.ref l, .str s] ∧ LW K H l ws ∧ (∀ x ∈ ws, isW x = true) ∧ ws.length ≤ 1000 ∧ ∀ r H', H r = none → Ex H H' → LW K H' r (bhW ws s) → Q (.ref r) H'
def spLifted (K : PySem.W.Frag) : Sp := fun vs H Q _ => ∃ (l : Addr) (s : Str) (ws : List (List Str)), vs = [.ref l, .str s] ∧ LW K H l ws ∧ (∀ x ∈ ws, isW x = true) ∧ isL s = true ∧ ws.length ≤ 249 ∧ ∀ r H', H r = none → Ex H H' → LW K H' r (clW (lfW ws s)) → Q (.ref r) H'
def spIsBefore (K : PySem.W.Frag) : Sp := fun vs H Q _ => ∃ (l m : Addr) (ws us : List (List Str)), vs = [.ref l, .ref m] ∧ LW K H l ws ∧ LW K H m us ∧ (∀ x ∈ ws, isW x = true) ∧ (∀ x ∈ us, isW x = true) ∧ ws.length ≤ 1000 ∧ us.length ≤ 1000 ∧ ∀ H', Ex H H' → Q (.bl (ltFr ws us)) H'
theorem lfW_isW {ws : List (List Str)} {s : Str} (hw : ∀ x ∈ ws, isW x = true) (hs : isL s = true) : ∀ u ∈ lfW ws s, isW u = true := fun u hu => by
  obtain ⟨w, h1, rfl⟩ := List.mem_map.mp hu
  obtain ⟨h2, h3⟩ := List.mem_filter.mp h1
  have h4 := of_decide_eq_true h3
  refine isW_iff.mpr ⟨by rw [List.length_append, List.length_singleton]; omega, fun y hy => ?_⟩
  rcases List.mem_append.mp hy with h | h
  · rw [List.mem_singleton.mp h]
    exact hs
  · exact (isW_iff.mp (hw w h2)).2 y h
theorem lfW_len {ws : List (List Str)} {s : Str} : (lfW ws s).length ≤ ws.length := by
  unfold lfW
  rw [List.length_map]
  exact List.length_filter_le ..
theorem rowsLt_step {ws us : List (List Str)} {k : Nat} {x y : List Str} (h1 : ws[k]? = some x) (h2 : us[k]? = some y) : rowsLt (ws.drop k) (us.drop k) = if x = y then rowsLt (ws.drop (k + 1)) (us.drop (k + 1)) else PySem.W.dataLt (wD x) (wD y) := by
  obtain ⟨z1, rfl⟩ := List.getElem?_eq_some_iff.mp h1
  obtain ⟨z2, rfl⟩ := List.getElem?_eq_some_iff.mp h2
  rw [List.drop_eq_getElem_cons z1, List.drop_eq_getElem_cons z2, rowsLt_cons]
end Tk
namespace Tk
open PySem PySem.Spec PyProof.Rows L2 Lw Evl LamX TL
open Rm (R Ok Z0 Zp Fr fr_none fr_ne nt_lst nt_tup nt_dK NT Zn)
/-! ### fronts as sets: what the law looks at -/
section
variable {ws us : List (List Str)} {s : Str} {u : List Str}
theorem mem_lfW : u ∈ lfW ws s ↔ ∃ w ∈ ws, w.length < 3 ∧ u = s :: w := by
  unfold lfW
  rw [List.mem_map]
  constructor
  · rintro ⟨w, hw, rfl⟩
    obtain ⟨h1, h2⟩ := List.mem_filter.mp hw
    exact ⟨w, h1, of_decide_eq_true h2, rfl⟩
  · rintro ⟨w, h1, h2, rfl⟩
    exact ⟨w, List.mem_filter.mpr ⟨h1, decide_eq_true h2⟩, rfl⟩
theorem begs_cons : (s :: u) ∈ begs (s :: us.headD []) ↔ u ∈ begs (us.headD []) := by
  rw [mem_begs, mem_begs]
  constructor
  · rintro ⟨k, hk, h⟩
    cases k with
    | zero => cases h
    | succ k =>
      rw [List.take_succ_cons] at h
      refine ⟨k, by rw [List.length_cons] at hk; omega, ?_⟩
      injection h
  · rintro ⟨k, hk, rfl⟩
    exact ⟨k + 1, by rw [List.length_cons]; omega, rfl⟩
theorem begs_cons2 {w : List Str} : (s :: u) ∈ begs (s :: w) ↔ u ∈ begs w := begs_cons (us := [w])
theorem mem_clLf (h : Cl ws) : (s :: u) ∈ clW (lfW ws s) ↔ u ∈ ws ∧ u.length < 3 := by
  rw [mem_clW]
  constructor
  · rintro (z | ⟨w, hw, hu⟩)
    · cases z
    · obtain ⟨v, hv, h3, rfl⟩ := mem_lfW.mp hw
      have hu := begs_cons2.mp hu
      have := beg_len hu
      exact ⟨h.beg v hv u hu, by omega⟩
  · rintro ⟨h1, h2⟩
    exact .inr ⟨s :: u, mem_lfW.mpr ⟨u, h1, h2, rfl⟩, self_begs _⟩
/-- lifted, then behind: what has room -/
theorem lift_back (h : Cl ws) (hn : [s] ∈ clW (lfW ws s)) : bhW (clW (lfW ws s)) s = ws.filter fun w => decide (w.length ≤ 2) := sd_uniq ((cl_clW _).behind hn).sd (h.cut 2).sd fun u => by
  rw [mem_bhW, mem_clLf h, List.mem_filter, decide_eq_true_iff]
  exact ⟨fun ⟨a, b⟩ => ⟨a, by omega⟩, fun ⟨a, b⟩ => ⟨a, by omega⟩⟩
theorem lift_one (h : Cl ws) : [s] ∈ clW (lfW ws s) := (mem_clLf h).mpr ⟨h.nil, by decide⟩
theorem cut_all {n : Nat} (hw : ∀ u ∈ ws, isW u = true) (hn : 3 ≤ n) : (ws.filter fun w => decide (w.length ≤ n)) = ws := List.filter_eq_self.mpr fun u hu => decide_eq_true (Nat.le_trans (isW_iff.mp (hw u hu)).1 hn)
theorem or_comm (h : Cl ws) (k : Cl us) : clW (ws ++ us) = clW (us ++ ws) := sd_uniq clW_sd clW_sd fun u => by
  rw [mem_clW, mem_clW]
  simp only [List.mem_append]
  exact ⟨fun z => z.imp id fun ⟨w, a, b⟩ => ⟨w, a.symm, b⟩, fun z => z.imp id fun ⟨w, a, b⟩ => ⟨w, a.symm, b⟩⟩
theorem and_comm (h : Cl ws) (k : Cl us) : (ws.filter fun w => decide (w ∈ us)) = us.filter fun w => decide (w ∈ ws) := sd_uniq (h.and k).sd (k.and h).sd fun u => by
  rw [List.mem_filter, List.mem_filter, decide_eq_true_iff, decide_eq_true_iff]
  exact ⟨fun ⟨a, b⟩ => ⟨b, a⟩, fun ⟨a, b⟩ => ⟨b, a⟩⟩
theorem mem_or (h : Cl ws) (k : Cl us) : u ∈ clW (ws ++ us) ↔ u ∈ ws ∨ u ∈ us := by
  rw [mem_clW]
  constructor
  · rintro (rfl | ⟨w, hw, hu⟩)
    · exact .inl h.nil
    · exact (List.mem_append.mp hw).imp (fun z => h.beg w z u hu) fun z => k.beg w z u hu
  · exact fun z => .inr ⟨u, List.mem_append.mpr z, self_begs u⟩
theorem within_len : ((ws.map fun w => decide (w ∈ us)).all id) = decide ((ws.filter fun w => decide (w ∈ us)).length = ws.length) := by
  rw [Bool.eq_iff_iff, List.all_eq_true, decide_eq_true_iff, List.length_filter_eq_length_iff]
  exact ⟨fun h w hw => h _ (List.mem_map.mpr ⟨w, hw, rfl⟩), fun h b hb => by
    obtain ⟨w, hw, rfl⟩ := List.mem_map.mp hb
    exact h w hw⟩
theorem mem_singles : s ∈ singles ws ↔ [s] ∈ ws := by
  unfold singles
  rw [List.mem_map]
  constructor
  · rintro ⟨w, hw, rfl⟩
    obtain ⟨h1, h2⟩ := List.mem_filter.mp hw
    have h3 := of_decide_eq_true h2
    match w, h3 with
    | [x], _ => exact h1
  · exact fun h => ⟨[s], List.mem_filter.mpr ⟨h, rfl⟩, rfl⟩
/-- the union of what stands behind each sign, lifted again -/
def wholeW (ws : List (List Str)) (ss : List Str) : List (List Str) := ss.foldl (fun acc s => clW (acc ++ clW (lfW (clW (bhW ws s)) s))) (clW [])
theorem wholeW_snoc (ss : List Str) : wholeW ws (ss ++ [s]) = clW (wholeW ws ss ++ clW (lfW (clW (bhW ws s)) s)) := by
  unfold wholeW
  rw [List.foldl_append]
  rfl
theorem wholeW_cl : ∀ (ss : List Str), Cl (wholeW ws ss) := fun ss => by
  unfold wholeW
  have key : ∀ (ss : List Str) (acc : List (List Str)), Cl acc → Cl (ss.foldl (fun acc s => clW (acc ++ clW (lfW (clW (bhW ws s)) s))) acc) := fun ss => by
    induction ss with
    | nil => exact fun _ h => h
    | cons s ss ih => exact fun acc _ => ih _ (cl_clW _)
  exact key ss _ (cl_clW _)
theorem mem_clLf2 (h : Cl ws) : u ∈ clW (lfW ws s) ↔ u = [] ∨ ∃ v, u = s :: v ∧ v ∈ ws ∧ v.length < 3 := by
  constructor
  · intro hu
    cases u with
    | nil => exact .inl rfl
    | cons t v =>
      rcases mem_clW.mp hu with z | ⟨w, hw, hb⟩
      · cases z
      · obtain ⟨x, hx, h3, rfl⟩ := mem_lfW.mp hw
        obtain ⟨k, hk, e⟩ := mem_begs.mp hb
        cases k with
        | zero => cases e
        | succ k =>
          rw [List.take_succ_cons] at e
          injection e with e1 e2
          subst e1
          exact .inr ⟨v, rfl, (mem_clLf h).mp hu⟩
  · rintro (rfl | ⟨v, rfl, hv⟩)
    · exact nil_clW
    · exact (mem_clLf h).mpr hv
theorem mem_whole {ss : List Str} : ∀ {acc : List (List Str)}, Cl acc → (u ∈ ss.foldl (fun acc s => clW (acc ++ clW (lfW (clW (bhW ws s)) s))) acc ↔ u ∈ acc ∨ ∃ s ∈ ss, u ∈ clW (lfW (clW (bhW ws s)) s)) := by
  induction ss with
  | nil => exact fun {acc} _ => ⟨.inl, fun z => z.elim id fun ⟨s, hs, _⟩ => absurd hs List.not_mem_nil⟩
  | cons s ss ih =>
    intro acc ha
    rw [List.foldl_cons, ih (cl_clW _), mem_or ha (cl_clW _)]
    constructor
    · rintro ((z | z) | ⟨t, ht, z⟩)
      · exact .inl z
      · exact .inr ⟨s, List.mem_cons_self .., z⟩
      · exact .inr ⟨t, List.mem_cons_of_mem _ ht, z⟩
    · rintro (z | ⟨t, ht, z⟩)
      · exact .inl (.inl z)
      · rcases List.mem_cons.mp ht with rfl | ht
        · exact .inl (.inr z)
        · exact .inr ⟨t, ht, z⟩
theorem whole_sub {ss : List Str} (h : Cl ws) (hs : ∀ s ∈ ss, [s] ∈ ws) (hu : u ∈ wholeW ws ss) : u ∈ ws := by
  unfold wholeW at hu
  rcases (mem_whole (cl_clW [])).mp hu with z | ⟨s, h1, z⟩
  · rcases mem_clW.mp z with rfl | ⟨w, hw, _⟩
    · exact h.nil
    · exact absurd hw List.not_mem_nil
  · have hb := h.behind (hs s h1)
    rw [hb.self] at z
    rcases (mem_clLf2 hb).mp z with rfl | ⟨v, rfl, hv, _⟩
    · exact h.nil
    · exact mem_bhW.mp hv
theorem whole_all (h : Cl ws) (hw : ∀ u ∈ ws, isW u = true) : wholeW ws (singles ws) = ws := sd_uniq (wholeW_cl _).sd h.sd fun u => by
  refine ⟨whole_sub h fun s hs => mem_singles.mp hs, fun hu => ?_⟩
  unfold wholeW
  refine (mem_whole (cl_clW [])).mpr ?_
  cases u with
  | nil => exact .inl nil_clW
  | cons s v =>
    have h1 : [s] ∈ ws := h.beg _ hu _ (mem_begs.mpr ⟨1, by rw [List.length_cons]; omega, by rw [List.take_succ_cons, List.take_zero]⟩)
    have hb := h.behind h1
    refine .inr ⟨s, mem_singles.mpr h1, ?_⟩
    rw [hb.self]
    have h3 := (isW_iff.mp (hw _ hu)).1
    rw [List.length_cons] at h3
    exact (mem_clLf2 hb).mpr (.inr ⟨v, rfl, mem_bhW.mpr hu, by omega⟩)
theorem sub_len (h : ws.Nodup) (k : ∀ u ∈ ws, u ∈ us) : ws.length ≤ us.length := nodup_le h k
theorem whole_len {ss : List Str} (h : Cl ws) (hs : ∀ s ∈ ss, [s] ∈ ws) : (wholeW ws ss).length ≤ ws.length := sub_len (sd_nodup (wholeW_cl ss).sd) fun u hu => whole_sub h hs hu
theorem lift_sub (h : Cl ws) (hs : [s] ∈ ws) : ∀ u ∈ clW (lfW (clW (bhW ws s)) s), u ∈ ws := fun u hu => by
  have hb := h.behind hs
  rw [hb.self] at hu
  rcases (mem_clLf2 hb).mp hu with rfl | ⟨v, rfl, hv, _⟩
  · exact h.nil
  · exact mem_bhW.mp hv

theorem bh_len {s : Str} : (bhW ws s).length ≤ ws.length := by
  unfold bhW
  rw [List.length_map]
  exact List.length_filter_le ..
theorem bh_isW (hw : ∀ u ∈ ws, isW u = true) : ∀ u ∈ bhW ws s, isW u = true := fun u hu => by
  obtain ⟨h1, h2⟩ := isW_iff.mp (hw _ (mem_bhW.mp hu))
  rw [List.length_cons] at h1
  exact isW_iff.mpr ⟨by omega, fun y hy => h2 y (List.mem_cons_of_mem _ hy)⟩
end
end Tk
namespace Tk
open PySem PySem.Spec PyProof.Rows L2 Lw Evl LamX TL
open Rm (R Ok Z0 Zp Fr fr_none fr_ne nt_lst nt_tup nt_dK NT Zn)
def spSingle (K : PySem.W.Frag) (T : List (Addr × Str)) (CF : Addr) : Sp := fun vs H Q _ => ∃ (a l g : Addr) (ws : List (List Str)) (xs : List Str), vs = [.ref a, .ref l, .ref g] ∧ Tabs T H ∧ FrAt K CF H a ws ∧ LW K H l ws ∧ Cl ws ∧ (∀ u ∈ ws, isW u = true) ∧ ws.length ≤ 73 ∧
  H g = some (.lst (xs.map V.str)) ∧ (∀ s ∈ xs, isL s = true) ∧ xs.length ≤ 100 ∧ ∀ H', R (Z0 T) H H' → Q (.bl true) H'
end Tk
namespace Tk
open PySem PySem.Spec PyProof.Rows L2 Lw Evl LamX TL
open Rm (R Ok Z0 Zp Fr fr_none fr_ne nt_lst nt_tup nt_dK NT Zn)
section
variable {P : Program} {w : World} {K : PySem.W.Frag} {Z : Zn} {TT : List (Addr × Str)} {H H0 H1 H2 : Hp} {σ : L2.St} {te ta tb td : TE} {a b CF CS d : Addr} {ws us : List (List Str)} {s : Str} {i n : Nat} {Q : VK} {E : XK}
/-- an expression that gives a front -/
def Fv (Z : Zn) (K : PySem.W.Frag) (CF : Addr) (te : TE) (σ : L2.St) (H : Hp) (ws : List (List Str)) : Prop := ∀ H1, R Z H H1 → ∀ Q : VK, (∀ x H2, R Z H1 H2 → FrAt K CF H2 x ws → Q (.ref x) H2) → te σ H1 Q
theorem fv_of (h : Ef Z K CF te σ H ws) : Fv Z K CF te σ H ws := fun H1 r Q q => h H1 r Q fun x H2 _ r2 hf => q x H2 r2 hf
theorem fv_var (h : σ[i]? = some (some (.ref a))) (hf : FrAt K CF H a ws) : Fv Z K CF (tVar i) σ H ws := fun H1 r Q q => ⟨_, h, q a H1 (.refl r.b) (fr_R r hf)⟩
theorem ef_fd (hT : Z.T = TT) (ha : Fv Z K CF ta σ H ws) (hb : ∀ H, Ev tb σ H (.str s)) (hw : ∀ u ∈ ws, isW u = true) (hz : ws.length ≤ 249) (hs : isL s = true) (hm : [s] ∈ ws) : Ef Z K CF (tOp (rFdO CF (spFd K TT CF) E) ta tb) σ H (clW (bhW ws s)) := fun H1 r Q q =>
  ha H1 r _ fun x H2 r2 hf => hb H2 H2 (Ex.refl H2) _ fun H3 e3 => by
    have r3 : R Z H2 H3 := .of r2.b e3
    have hf3 := fr_ex e3 hf
    obtain ⟨dx, d, h1, h2⟩ := id hf3
    exact ⟨x, dx, _, s, rfl, rfl, h1, x, s, ws, rfl, by rw [← hT]; exact r3.b.1, hf3, hw, hz, hs, hm, fun y H4 fy r4 hf4 => ⟨y, rfl, q y H4 ((r2.trans r3).fr fy) ((r2.trans r3).trans (r0_up r3.b hT r4)) hf4⟩⟩
theorem ef_or (hT : Z.T = TT) (ha : Fv Z K CF ta σ H ws) (hb : Fv Z K CF tb σ H us) (hw : ∀ u ∈ ws, isW u = true) (hu : ∀ u ∈ us, isW u = true) (hz : ws.length + us.length ≤ 249) : Ef Z K CF (tOp (rBinO CF (spFrOr K TT CF) E) ta tb) σ H (clW (ws ++ us)) := fun H1 r Q q =>
  ha H1 r _ fun x H2 r2 hf => hb H2 (r.trans r2) _ fun y H3 r3 hg => by
    have hf3 := fr_R r3 hf
    obtain ⟨dx, d, h1, h2⟩ := id hf3
    obtain ⟨dy, e, h3, h4⟩ := id hg
    exact ⟨x, dx, y, dy, _, _, rfl, rfl, h1, h3, x, y, ws, us, rfl, by rw [← hT]; exact r3.b.1, hf3, hg, hw, hu, hz, fun z H4 fz r4 hf4 => ⟨z, rfl, q z H4 ((r2.trans r3).fr fz) ((r2.trans r3).trans (r0_up r3.b hT r4)) hf4⟩⟩
theorem ef_and (hT : Z.T = TT) (ha : Fv Z K CF ta σ H ws) (hb : Fv Z K CF tb σ H us) (hw : ∀ u ∈ ws, isW u = true) (hu : ∀ u ∈ us, isW u = true) (hz : ws.length ≤ 249) : Ef Z K CF (tOp (rBinO CF (spFrAnd K TT CF) E) ta tb) σ H (clW (ws.filter fun w => decide (w ∈ us))) := fun H1 r Q q =>
  ha H1 r _ fun x H2 r2 hf => hb H2 (r.trans r2) _ fun y H3 r3 hg => by
    have hf3 := fr_R r3 hf
    obtain ⟨dx, d, h1, h2⟩ := id hf3
    obtain ⟨dy, e, h3, h4⟩ := id hg
    exact ⟨x, dx, y, dy, _, _, rfl, rfl, h1, h3, x, y, ws, us, rfl, by rw [← hT]; exact r3.b.1, hf3, hg, hw, hu, hz, fun z H4 fz r4 hf4 => ⟨z, rfl, q z H4 ((r2.trans r3).fr fz) ((r2.trans r3).trans (r0_up r3.b hT r4)) hf4⟩⟩
theorem ef_cut (hT : Z.T = TT) (ha : Fv Z K CF ta σ H ws) (hb : ∀ H, Ev tb σ H (.int (n : Int))) (hw : ∀ u ∈ ws, isW u = true) (hz : ws.length ≤ 249) : Ef Z K CF (tMeth CF "cut" (spCut K TT CF) [] E ta (tCons tb tNil)) σ H (clW (ws.filter fun w => decide (w.length ≤ n))) := fun H1 r Q q =>
  ha H1 r _ fun x H2 r2 hf => by
    obtain ⟨dx, d, h1, h2⟩ := id hf
    refine ⟨x, dx, _, rfl, h1, rfl, hb H2 H2 (Ex.refl H2) _ fun H3 e3 => ?_⟩
    have r3 : R Z H2 H3 := .of r2.b e3
    exact ⟨x, n, ws, rfl, by rw [← hT]; exact r3.b.1, fr_ex e3 hf, hw, hz, fun y H4 fy r4 hf4 => q y H4 ((r2.trans r3).fr fy) ((r2.trans r3).trans (r0_up r3.b hT r4)) hf4⟩
theorem ef_lift (hT : Z.T = TT) (ha : Fv Z K CF ta σ H ws) (hb : ∀ H, Ev tb σ H (.str s)) (hw : ∀ u ∈ ws, isW u = true) (hz : ws.length ≤ 249) (hs : isL s = true) : Ef Z K CF (tMeth CF "lifted" (spLift K TT CF) [] E ta (tCons tb tNil)) σ H (clW (lfW ws s)) := fun H1 r Q q =>
  ha H1 r _ fun x H2 r2 hf => by
    obtain ⟨dx, d, h1, h2⟩ := id hf
    refine ⟨x, dx, _, rfl, h1, rfl, hb H2 H2 (Ex.refl H2) _ fun H3 e3 => ?_⟩
    have r3 : R Z H2 H3 := .of r2.b e3
    exact ⟨x, s, ws, rfl, by rw [← hT]; exact r3.b.1, fr_ex e3 hf, hw, hz, hs, fun y H4 fy r4 hf4 => q y H4 ((r2.trans r3).fr fy) ((r2.trans r3).trans (r0_up r3.b hT r4)) hf4⟩
end
end Tk
namespace Tk
open PySem PySem.Spec PyProof.Rows L2 Lw Evl LamX TL
open Rm (R Ok Z0 Zp Fr fr_none fr_ne nt_lst nt_tup nt_dK NT Zn)
section
variable {P : Program} {w : World} {K : PySem.W.Frag} {Z : Zn} {TT : List (Addr × Str)} {H H0 H1 H2 : Hp} {σ : L2.St} {te ta tb td : TE} {a b l CF CS d : Addr} {ws us : List (List Str)} {s : Str} {i j n : Nat} {Q : VK} {E : XK}
theorem ef_cutR (hT : Z.T = TT) (ha : Fv Z K CF ta σ H ws) (hb : ∀ H, Ev tb σ H (.int (n : Int))) (hw : ∀ u ∈ ws, isW u = true) (hz : ws.length ≤ 249) : Ef Z K CF (Lw.tMethR CF "cut" (spCut K TT CF) E ta (tCons tb tNil)) σ H (clW (ws.filter fun w => decide (w.length ≤ n))) := fun H1 r Q q =>
  ha H1 r _ fun x H2 r2 hf => by
    obtain ⟨dx, d, h1, h2⟩ := id hf
    refine ⟨x, dx, _, rfl, h1, rfl, hb H2 H2 (Ex.refl H2) _ fun H3 e3 => ?_⟩
    have r3 : R Z H2 H3 := .of r2.b e3
    exact ⟨x, n, ws, rfl, by rw [← hT]; exact r3.b.1, fr_ex e3 hf, hw, hz, fun y H4 fy r4 hf4 => q y H4 ((r2.trans r3).fr fy) ((r2.trans r3).trans (r0_up r3.b hT r4)) hf4⟩
theorem ef_liftR (hT : Z.T = TT) (ha : Fv Z K CF ta σ H ws) (hb : ∀ H, Ev tb σ H (.str s)) (hw : ∀ u ∈ ws, isW u = true) (hz : ws.length ≤ 249) (hs : isL s = true) : Ef Z K CF (Lw.tMethR CF "lifted" (spLift K TT CF) E ta (tCons tb tNil)) σ H (clW (lfW ws s)) := fun H1 r Q q =>
  ha H1 r _ fun x H2 r2 hf => by
    obtain ⟨dx, d, h1, h2⟩ := id hf
    refine ⟨x, dx, _, rfl, h1, rfl, hb H2 H2 (Ex.refl H2) _ fun H3 e3 => ?_⟩
    have r3 : R Z H2 H3 := .of r2.b e3
    exact ⟨x, s, ws, rfl, by rw [← hT]; exact r3.b.1, fr_ex e3 hf, hw, hz, hs, fun y H4 fy r4 hf4 => q y H4 ((r2.trans r3).fr fy) ((r2.trans r3).trans (r0_up r3.b hT r4)) hf4⟩
/-- a front's words against a list that stands -/
theorem ew_neWords (h : Fv Z K CF te σ H ws) (hj : σ[j]? = some (some (.ref l))) (hl : LW K H l ws) (hm : ¬ Z.M l) (hw : ∀ u ∈ ws, isW u = true) : Rm.Ew Z (tOp (rNeD K) (tMeth CF "words" (spFrWords K CF) [] E0 te tNil) (tVar j)) σ H (.bl false) := fun H1 r Q q => h H1 r _ fun x H2 r2 hf => by
  obtain ⟨dx, d, h1, h2⟩ := id hf
  refine ⟨x, dx, _, rfl, h1, rfl, x, ws, rfl, hf, fun m H3 nm e3 hM => ⟨_, hj, ?_⟩⟩
  obtain ⟨vs, v1, v2⟩ := hM
  obtain ⟨zs, z1, z2⟩ := lw_mono e3 (Rm.lw_R (r.trans r2) hm hl)
  have sh := shaped_wDs hw
  refine ⟨.list (ws.map wD), .list (ws.map wD), .lst (SqL.of v1) (dpa_words v2), .lst (SqL.of z1) (dpa_words z2), sh, sh, ?_⟩
  rw [SeqAt.eqv_refl _ (SeqAt.canLay_of_shaped sh)]
  exact q H3 (r2.trans (.of r2.b e3))
/-- .. and its length -/
theorem ew_neLen (h : Fv Z K CF te σ H ws) (hj : σ[j]? = some (some (.ref l))) (hl : LW K H l ws) (hm : ¬ Z.M l) (hz : ws.length ≤ 1000) : Rm.Ew Z (tOp rNe (tCB (rLenO CF (spFrLen K CF) E0) (tCons te tNil)) (tCB (rLenS K) (tCons (tVar j) tNil))) σ H (.bl false) := fun H1 r Q q => h H1 r _ fun x H2 r2 hf => by
  obtain ⟨dx, d, h1, h2⟩ := id hf
  refine ⟨x, dx, _, rfl, h1, x, ws, rfl, hf, fun H3 e3 => ⟨_, rfl, by omega, by omega, ?_⟩⟩
  have hl3 := lw_mono e3 (Rm.lw_R (r.trans r2) hm hl)
  refine ev_lenLW (ev_var hj) hl3 H3 (Ex.refl H3) _ fun H4 e4 => ?_
  have k := q H4 (r2.trans (.of r2.b (e3.trans e4)))
  exact ⟨rfl, by rw [decide_eq_true rfl]; exact k⟩
theorem ew_neEE {us : List (List Str)} (h : Fv Z K CF ta σ H us) (k : Fv Z K CF tb σ H ws) (su : Sd us) (sw : Sd ws) : Rm.Ew Z (tOp (rNeO K CF (spFrEq K CF) E0) ta tb) σ H (.bl (!decide (us = ws))) := fun H1 r Q q =>
  h H1 r _ fun x H2 r2 hf => k H2 (r.trans r2) _ fun y H3 r3 hg => neo_at (fr_R r3 hf) hg su sw fun H4 e4 => q H4 ((r2.trans r3).trans (.of r3.b e4))
theorem ew_neReprE (h : Fv Z K CF ta σ H ws) (k : Fv Z K CF tb σ H ws) (hw : ∀ u ∈ ws, isW u = true) (hz : ws.length ≤ 300) : Rm.Ew Z (tOp rNe (tCB (rReprO CF (spFrRepr K CF) E0) (tCons ta tNil)) (tCB (rReprO CF (spFrRepr K CF) E0) (tCons tb tNil))) σ H (.bl false) := fun H1 r Q q =>
  h H1 r _ fun x H2 r2 hf => by
    obtain ⟨dx, d, h1, h2⟩ := id hf
    refine ⟨x, dx, _, rfl, h1, x, ws, rfl, hf, hw, hz, fun H3 e3 => ⟨_, rfl, ?_⟩⟩
    have r3 : R Z H1 H3 := r2.trans (.of r2.b e3)
    refine k H3 (r.trans r3) _ fun y H4 r4 hg => ?_
    obtain ⟨dy, e, h3, h4⟩ := id hg
    refine ⟨y, dy, _, rfl, h3, y, ws, rfl, hg, hw, hz, fun H5 e5 => ⟨_, rfl, ?_⟩⟩
    have k := q H5 ((r3.trans r4).trans (.of r4.b e5))
    exact ⟨rfl, by rw [decide_eq_true rfl]; exact k⟩
theorem q_asgF {D : Ends} {tz : TS} (o : Ok Z H) (h : Ef Z K CF te σ H us) (k : ∀ x H1, Fr H x → R Z H H1 → FrAt K CF H1 x us → tz D (σ.set i (some (.ref x))) H1) : tSeq (tAsg te (gName i)) tz D σ H := h H (.refl o) _ k
theorem s_asgF {D : Ends} (o : Ok Z H) (h : Ef Z K CF te σ H us) (k : ∀ x H1, Fr H x → R Z H H1 → FrAt K CF H1 x us → D.nx (σ.set i (some (.ref x))) H1) : tAsg te (gName i) D σ H := h H (.refl o) _ k
theorem ew_eqFF (h : Fv Z K CF ta σ H us) (k : Fv Z K CF tb σ H ws) (su : Sd us) (sw : Sd ws) : Rm.Ew Z (tOp (rEqO K CF (spFrEq K CF) E0) ta tb) σ H (.bl (decide (us = ws))) := fun H1 r Q q =>
  h H1 r _ fun x H2 r2 hf => k H2 (r.trans r2) _ fun y H3 r3 hg => eqo_at (fr_R r3 hf) hg su sw fun H4 e4 => q H4 ((r2.trans r3).trans (.of r3.b e4))
theorem ew_eqWords (h : Fv Z K CF te σ H ws) (hj : σ[j]? = some (some (.ref l))) (hl : LW K H l ws) (hm : ¬ Z.M l) (hw : ∀ u ∈ ws, isW u = true) : Rm.Ew Z (tOp (rEqD K) (tMeth CF "words" (spFrWords K CF) [] E0 te tNil) (tVar j)) σ H (.bl true) := fun H1 r Q q => h H1 r _ fun x H2 r2 hf => by
  obtain ⟨dx, d, h1, h2⟩ := id hf
  refine ⟨x, dx, _, rfl, h1, rfl, x, ws, rfl, hf, fun m H3 nm e3 hM => ⟨_, hj, ?_⟩⟩
  obtain ⟨vs, v1, v2⟩ := hM
  obtain ⟨zs, z1, z2⟩ := lw_mono e3 (Rm.lw_R (r.trans r2) hm hl)
  have sh := shaped_wDs hw
  refine ⟨.list (ws.map wD), .list (ws.map wD), .lst (SqL.of v1) (dpa_words v2), .lst (SqL.of z1) (dpa_words z2), sh, sh, ?_⟩
  rw [SeqAt.eqv_refl _ (SeqAt.canLay_of_shaped sh)]
  exact q H3 (r2.trans (.of r2.b e3))
end
/-! ### the order of fronts is total -/
theorem lt_or {p q : Int ⊕ List Nat} (h : p ≠ q) (hp : (itemLt p q || itemLt q p) = true) (l m : List (Int ⊕ List Nat)) : (PyProof.Rows.lexLt itemOrd (p :: l) (q :: m) || PyProof.Rows.lexLt itemOrd (q :: m) (p :: l)) = true := by
  rw [PySem.W.lex_atom h, PySem.W.lex_atom h.symm, PySem.W.lex_one, PySem.W.lex_one]
  exact hp
theorem list_tri : ∀ (x y : List Nat), x ≠ y → x < y ∨ y < x
  | [], [], h => absurd rfl h
  | [], b :: y, _ => .inl (List.nil_lt_cons b y)
  | a :: x, [], _ => .inr (List.nil_lt_cons a x)
  | a :: x, b :: y, h => by
    rw [List.cons_lt_cons_iff, List.cons_lt_cons_iff]
    rcases Nat.lt_trichotomy a b with c | c | c
    · exact .inl (.inl c)
    · subst c
      exact (list_tri x y fun z => h (by rw [z])).imp (fun z => .inr ⟨rfl, z⟩) fun z => .inr ⟨rfl, z⟩
    · exact .inr (.inl c)
theorem strs_tri : ∀ (x y : List Str), x ≠ y → (PyProof.Rows.lexLt itemOrd (PySem.W.keyToksAll (x.map PyData.str)) (PySem.W.keyToksAll (y.map PyData.str)) || PyProof.Rows.lexLt itemOrd (PySem.W.keyToksAll (y.map PyData.str)) (PySem.W.keyToksAll (x.map PyData.str))) = true
  | [], [], h => absurd rfl h
  | [], b :: y, _ => by
    rw [List.map_nil, List.map_cons, PySem.W.toks_all_cons, PySem.W.keyToksAll]
    exact lt_or (by simp) rfl _ _
  | a :: x, [], _ => by
    rw [List.map_nil, List.map_cons, PySem.W.toks_all_cons, PySem.W.keyToksAll]
    exact lt_or (by simp) rfl _ _
  | a :: x, b :: y, h => by
    have al : PySem.W.alike (.str a) (.str b) = true := by rw [PySem.W.alike]
    have al2 : PySem.W.alike (.str b) (.str a) = true := by rw [PySem.W.alike]
    rw [List.map_cons, List.map_cons]
    by_cases c : a = b
    · subst c
      rw [PySem.W.dataLt_all_yes al (by simp [PyData.eqv]), PySem.W.dataLt_all_yes al (by simp [PyData.eqv])]
      exact strs_tri x y fun z => h (by rw [z])
    · rw [PySem.W.dataLt_all_no al (by simp [PyData.eqv, c]), PySem.W.dataLt_all_no al2 (by simp [PyData.eqv, Ne.symm c]), PySem.W.dataLt_str, PySem.W.dataLt_str, Bool.or_eq_true, decide_eq_true_iff, decide_eq_true_iff]
      exact list_tri _ _ fun z => c (PySem.W.str_of_cps z)
theorem wD_tri {x y : List Str} (h : x ≠ y) : (PySem.W.dataLt (wD x) (wD y) || PySem.W.dataLt (wD y) (wD x)) = true := by
  unfold wD
  rw [PySem.W.dataLt_tuple, PySem.W.dataLt_tuple]
  exact strs_tri x y h
theorem rows_tri : ∀ (ws us : List (List Str)), ws.length = us.length → ws ≠ us → (rowsLt ws us || rowsLt us ws) = true
  | [], [], _, h => absurd rfl h
  | [], _ :: _, e, _ => by cases e
  | _ :: _, [], e, _ => by cases e
  | a :: x, b :: y, e, h => by
    rw [rowsLt_cons, rowsLt_cons]
    by_cases c : a = b
    · rw [if_pos c, if_pos c.symm]
      exact rows_tri x y (by rw [List.length_cons, List.length_cons] at e; omega) fun z => h (by rw [z, c])
    · rw [if_neg c, if_neg (Ne.symm c)]
      exact wD_tri c
theorem rows_self : ∀ (ws : List (List Str)), rowsLt ws ws = false
  | [] => rowsLt_nil
  | x :: ws => by rw [rowsLt_cons, if_pos rfl]; exact rows_self ws
theorem ltFr_tri (ws us : List (List Str)) : (ltFr ws us || ltFr us ws) = !decide (ws = us) := by
  by_cases h : ws = us
  · subst h
    unfold ltFr
    rw [if_neg (fun z => z rfl), rows_self, decide_eq_true rfl]
    rfl
  · rw [decide_eq_false h]
    unfold ltFr
    by_cases c : ws.length = us.length
    · rw [if_neg (fun z => z c), if_neg (fun z => z c.symm), rows_tri ws us c h]
      rfl
    · rw [if_pos c, if_pos (Ne.symm c), Bool.eq_iff_iff, Bool.or_eq_true, decide_eq_true_iff, decide_eq_true_iff]
      exact ⟨fun _ => rfl, fun _ => by omega⟩
end Tk
namespace Lw
open PySem PySem.Spec PyProof.Rows L2 Evl
/-! ### o |= p, o &= p, where only the plain operator is own -/
/-- no class of C's row has the in-place method -/
def NoIp (K : PySem.W.Frag) (C : Addr) (nm : String) : Prop := ∃ cd, PySem.W.clsIn K C = some cd ∧ ∀ c ∈ cd.mro, PySem.W.findIn K c (dunderI nm) = some none
def noIpB (K : PySem.W.Frag) (C : Addr) (nm : String) : Bool := match PySem.W.clsIn K C with
  | some cd => cd.mro.all fun c => He.eqO (PySem.W.findIn K c (dunderI nm)) (some none)
  | none => false
theorem noIp_ok {K : PySem.W.Frag} {C : Addr} {nm : String} (h : noIpB K C nm = true) : NoIp K C nm := by
  unfold noIpB at h
  split at h
  · rename_i cd e
    exact ⟨cd, e, fun c hc => He.eqO_ok (List.all_eq_true.mp h c hc)⟩
  · cases h
section
variable {prog : Program} {w : World} {A : Around} {E : Value → Shared → Prop} {s : Shared} {K : PySem.W.Frag} {a C f x L : Addr} {h₀ : Heap} {m : Str → Option Value} {ox : Obj} {od : Option Obj} {Q : Value → Shared → Prop}
theorem anyM_no {M : Model} {h : Heap} {g : Value → Sem Bool} : ∀ {l : List Value}, (∀ c ∈ l, PySem.W.Looks M h (g c) false) → PySem.W.Looks M h (l.anyM g) false
  | [], _ => .now
  | c :: l, e => by
    rw [List.anyM_cons]
    exact (e c (List.mem_cons_self ..)).andThen (anyM_no fun d hd => e d (List.mem_cons_of_mem _ hd))
theorem looks_noIp {M : Model} {h : Heap} {nm : String} {add : Bool} (X : K.In h) (n : NoIp K C nm) : PySem.W.Looks M h (fillsInplaceSlot (.ref C) nm add) false := by
  obtain ⟨cd, hc, hn⟩ := n
  unfold fillsInplaceSlot
  refine ((PySem.W.looks_clsIn X hc).andThen (f := fun cd => pure cd.mro) .now).andThen (anyM_no fun c hm => ?_)
  exact (PySem.W.looks_findIn X (hn c hm)).andThen .now
theorem ipop_K {op : Operator} {b : Value} (F : ∀ b o, h₀.get? b = some o → s.heap.get? b = some o) (X₀ : K.In h₀) (I : PySem.W.InstAt s.heap x ox C od) (hb : PySem.W.Looks (model prog w) s.heap (typeOf b) (.ref C)) (hc : PySem.W.selfFirst K C = true) (hn : NoIp K C op.info.2)
    (hs : PySem.W.findIn K (.ref C) (PySem.dunder op.info.2) = some (some (.ref f))) (hf : PySem.W.isFn K (.ref f) = true)
    (h : wpAny (model prog w) A (call (.ref f) [.ref x, b]) (PySem.W.CmpBack Q) E s) : wpAny (model prog w) A (inplaceOp op (.ref x) b) Q E s := by
  have X := X₀.keeps F
  obtain ⟨cd, hcd, hm⟩ := PySem.W.any_some hc
  obtain ⟨rest, hm⟩ : ∃ rest, cd.mro = .ref C :: rest := by
    cases q : cd.mro with
    | nil => rw [q] at hm; cases hm
    | cons a r => rw [q] at hm; exact ⟨r, by rw [List.head?_cons] at hm; cases (beq_iff_eq.mp hm); rfl⟩
  unfold inplaceOp
  refine wpAny_holding (wpAny_bind (I.type.here (wpAny_bind ((looks_noIp X hn).here ?_))))
  simp only [Bool.false_eq_true, if_false]
  refine wpAny_bind ?_
  unfold binaryOp1
  refine wpAny_bind (I.type.here (wpAny_bind (hb.here (wpAny_bind ((PySem.W.fills_K X hcd hm hs).here ?_)))))
  simp only [beq_self_eq_true, if_true]
  refine wpAny_bind (wpAny_pure ?_)
  simp only [Bool.and_false, Bool.false_eq_true, if_false, Bool.false_and]
  refine wpAny_bind (wpAny_pure ?_)
  simp only [Bool.false_eq_true, if_false]
  refine wpAny_bind (m := tryMethod (.ref x) _ b) ?_
  unfold tryMethod
  refine wpAny_bind (PySem.W.special_fn X I hs (beq_iff_eq.mp hf) (wpAny_mono h (fun v s' hv => ?_) fun _ _ e => e))
  cases v <;> first | exact hv.elim | exact wpAny_pure (wpAny_pure (wpAny_pure hv))
end
theorem ip_binO {X : Cx} {CX : CXT} {k : Nat} {C f : Addr} {fd : FuncData} {ps : List Str} {sp : Sp} {E : XK} {op : Operator} (hc : PySem.W.selfFirst X.K C = true) (hn : NoIp X.K C op.info.2) (hf : PySem.W.findIn X.K (.ref C) (PySem.dunder op.info.2) = some (some (.ref f))) (tf : PySem.W.isFn X.K (.ref f) = true) (F : FnOk X.prog X.w X.K X.mg X.base CX k f fd ps sp) (hb : Binds X.K fd ps []) (hr : Room k X.A) (hx : Passes CX X E) :
    PIp X op (rBinO C sp E) := by
  intro pins s σ H x y v u Q I rx ry h
  obtain ⟨a, dx, b, dy, fs, gs, rfl, rfl, ha, hb2, q⟩ := h
  cases rx
  cases ry
  obtain ⟨mA, J, _⟩ := ins_get I.hok ha
  obtain ⟨od, J, _⟩ := J.look
  obtain ⟨mB, J2, _⟩ := ins_get I.hok hb2
  obtain ⟨od2, J2, _⟩ := J2.look
  obtain ⟨m, fr⟩ := I.fr
  refine ipop_K (op := op) fr.keep I.ok.mod.kin J J2.type hc hn hf tf (wpAny_mono (run_fn (us := [.ref a, .ref b]) (vs := [.ref a, .ref b]) (dvs := []) (ds := []) F hr hb .nil hx I (.cons rfl (.cons rfl .nil)) q) (fun w2 s2 hh => ?_) fun _ _ z => z)
  obtain ⟨o, H2, I2, ro, r, rfl, q2⟩ := hh
  obtain rfl : w2 = Value.ref r := ro
  exact ⟨.ref r, H2, I2, rfl, q2⟩
section
variable {X : Cx} {CX : CXT} {k j : Nat} {C : Addr} {sp : Sp} {ps : List Str} {E : XK}
theorem ip_orSp (n : NoIp X.K C "or") (q : SpX X.prog X.w X.K X.mg X.base CX k C "__or__" ps sp) (hr : Room j X.A) (hx : Passes CX X E) (hj : k ≤ j := by decide) : PIp X .BitOr (rBinO C sp E) := by
  obtain ⟨h0, f, fd, h1, h2, hb, F⟩ := q
  exact ip_binO h0 n h1 h2 F hb (hr.mono hj) hx
theorem ip_andSp (n : NoIp X.K C "and") (q : SpX X.prog X.w X.K X.mg X.base CX k C "__and__" ps sp) (hr : Room j X.A) (hx : Passes CX X E) (hj : k ≤ j := by decide) : PIp X .BitAnd (rBinO C sp E) := by
  obtain ⟨h0, f, fd, h1, h2, hb, F⟩ := q
  exact ip_binO h0 n h1 h2 F hb (hr.mono hj) hx
end
end Lw
namespace Tk
open PySem PySem.Spec PyProof.Rows L2 Lw Evl LamX TL
open Rm (R Ok Z0 Zp Fr fr_none fr_ne nt_lst nt_tup nt_dK NT Zn)
section
variable {P : Program} {w : World} {K : PySem.W.Frag} {Z : Zn} {TT : List (Addr × Str)} {H H0 H1 H2 : Hp} {σ : L2.St} {te ta tb td : TE} {a b l m CF CS d : Addr} {ws us : List (List Str)} {s : Str} {i j n : Nat} {Q : VK} {E : XK} {bs : List Bool}
theorem ev_within (ha : Ev ta σ H (.ref a)) (hb : Ev tb σ H (.ref b)) (hf : FrAt K CF H a ws) (hg : FrAt K CF H b us) (hw : ∀ u ∈ ws, isW u = true) (hz : ws.length ≤ 249) : Ev (tMeth CF "is_within" (spWithin K CF) [] E0 ta (tCons tb tNil)) σ H (.bl (decide ((ws.filter fun w => decide (w ∈ us)).length = ws.length))) := fun H1 e Q q =>
  ha H1 e _ fun H2 e2 => by
    have hf2 := fr_ex (e.trans e2) hf
    obtain ⟨dx, d, h1, h2⟩ := id hf2
    refine ⟨a, dx, _, rfl, h1, rfl, hb H2 (e.trans e2) _ fun H3 e3 => ?_⟩
    refine ⟨a, b, ws, us, rfl, fr_ex e3 hf2, fr_ex ((e.trans e2).trans e3) hg, hw, hz, fun H4 e4 => ?_⟩
    rw [within_len]
    exact q H4 ((e2.trans e3).trans e4)
theorem ev_withinR (ha : Ev ta σ H (.ref a)) (hb : Ev tb σ H (.ref b)) (hf : FrAt K CF H a ws) (hg : FrAt K CF H b us) (hw : ∀ u ∈ ws, isW u = true) (hz : ws.length ≤ 249) : Ev (Lw.tMethR CF "is_within" (spWithin K CF) E0 ta (tCons tb tNil)) σ H (.bl (decide ((ws.filter fun w => decide (w ∈ us)).length = ws.length))) := fun H1 e Q q =>
  ha H1 e _ fun H2 e2 => by
    have hf2 := fr_ex (e.trans e2) hf
    obtain ⟨dx, d, h1, h2⟩ := id hf2
    refine ⟨a, dx, _, rfl, h1, rfl, hb H2 (e.trans e2) _ fun H3 e3 => ?_⟩
    refine ⟨a, b, ws, us, rfl, fr_ex e3 hf2, fr_ex ((e.trans e2).trans e3) hg, hw, hz, fun H4 e4 => ?_⟩
    rw [within_len]
    exact q H4 ((e2.trans e3).trans e4)
theorem ev_beforeM (ha : Ev ta σ H (.ref a)) (hb : Ev tb σ H (.ref b)) (hf : FrAt K CF H a ws) (hg : FrAt K CF H b us) (hw : ∀ u ∈ ws, isW u = true) (hz : ws.length ≤ 1000) (ky : us.length ≤ 1000) : Ev (tMeth CF "is_before" (spBefore K CF) [] E0 ta (tCons tb tNil)) σ H (.bl (ltFr ws us)) := fun H1 e Q q =>
  ha H1 e _ fun H2 e2 => by
    have hf2 := fr_ex (e.trans e2) hf
    obtain ⟨dx, d, h1, h2⟩ := id hf2
    refine ⟨a, dx, _, rfl, h1, rfl, hb H2 (e.trans e2) _ fun H3 e3 => ?_⟩
    exact ⟨a, b, ws, us, rfl, fr_ex e3 hf2, fr_ex ((e.trans e2).trans e3) hg, hw, hz, ky, fun H4 e4 => q H4 ((e2.trans e3).trans e4)⟩
theorem ev_beforeMR (ha : Ev ta σ H (.ref a)) (hb : Ev tb σ H (.ref b)) (hf : FrAt K CF H a ws) (hg : FrAt K CF H b us) (hw : ∀ u ∈ ws, isW u = true) (hz : ws.length ≤ 1000) (ky : us.length ≤ 1000) : Ev (Lw.tMethR CF "is_before" (spBefore K CF) E0 ta (tCons tb tNil)) σ H (.bl (ltFr ws us)) := fun H1 e Q q =>
  ha H1 e _ fun H2 e2 => by
    have hf2 := fr_ex (e.trans e2) hf
    obtain ⟨dx, d, h1, h2⟩ := id hf2
    refine ⟨a, dx, _, rfl, h1, rfl, hb H2 (e.trans e2) _ fun H3 e3 => ?_⟩
    exact ⟨a, b, ws, us, rfl, fr_ex e3 hf2, fr_ex ((e.trans e2).trans e3) hg, hw, hz, ky, fun H4 e4 => q H4 ((e2.trans e3).trans e4)⟩
theorem ev_isBefore (ha : Ev ta σ H (.ref l)) (hb : Ev tb σ H (.ref m)) (hl : LW K H l ws) (hm : LW K H m us) (hw : ∀ u ∈ ws, isW u = true) (hu : ∀ u ∈ us, isW u = true) (hz : ws.length ≤ 1000) (ky : us.length ≤ 1000) : Ev (tCall (spIsBefore K) [] E0 (tCons ta (tCons tb tNil))) σ H (.bl (ltFr ws us)) := fun H1 e Q q =>
  call_two (ha H1 e _ fun H2 e2 => hb H2 (e.trans e2) _ fun H3 e3 => ⟨l, m, ws, us, rfl, lw_mono ((e.trans e2).trans e3) hl, lw_mono ((e.trans e2).trans e3) hm, hw, hu, hz, ky, fun H4 e4 => q H4 ((e2.trans e3).trans e4)⟩)
/-- repr(x) != repr(y), both lists of the same truths that stand -/
theorem et_neReprV (ha : Ev ta σ H (.ref a)) (hb : Ev tb σ H (.ref b)) (h1 : H a = some (.lst (bs.map V.bl))) (h2 : H b = some (.lst (bs.map V.bl))) (hz : bs.length ≤ 1000) : EvT (tTest (tOp rNe (tCB (rReprS P w) (tCons ta tNil)) (tCB (rReprS P w) (tCons tb tNil)))) σ H false := fun H1 e Q q =>
  ha H1 e _ fun H2 e2 => ⟨a, _, _, rfl, (e.trans e2) _ _ h1, sw_bls bs _, (bls_ok hz).1, (bls_ok hz).2, hb H2 (e.trans e2) _ fun H3 e3 => ⟨b, _, _, rfl, ((e.trans e2).trans e3) _ _ h2, sw_bls bs _, (bls_ok hz).1, (bls_ok hz).2, rfl, false, by rw [decide_eq_true rfl]; rfl, q H3 (e2.trans e3)⟩⟩
theorem ev_neLW (ha : Ev ta σ H (.ref a)) (hb : Ev tb σ H (.ref b)) (h1 : LW K H a ws) (h2 : LW K H b us) (hw : ∀ x ∈ ws, isW x = true) (hu : ∀ x ∈ us, isW x = true) : Ev (tOp (rNeD K) ta tb) σ H (.bl (!decide (ws = us))) := fun H1 e Q q => ha H1 e _ fun H2 e2 => hb H2 (e.trans e2) _ fun H3 e3 => by
  obtain ⟨vs, v1, v2⟩ := lw_mono ((e.trans e2).trans e3) h1
  obtain ⟨zs, z1, z2⟩ := lw_mono ((e.trans e2).trans e3) h2
  refine ⟨.list (ws.map wD), .list (us.map wD), .lst (SqL.of v1) (dpa_words v2), .lst (SqL.of z1) (dpa_words z2), shaped_wDs hw, shaped_wDs hu, ?_⟩
  rw [eqv_wDs]
  exact q H3 (e2.trans e3)
theorem elw_catVV (ha : Ev ta σ H (.ref a)) (hb : Ev tb σ H (.ref b)) (h1 : LW K H a ws) (h2 : LW K H b us) (hz : ws.length + us.length ≤ 100000) : EvLW K (tOp rCat ta tb) σ H (ws ++ us) := fun H1 e Q q => ha H1 e _ fun H2 e2 => hb H2 (e.trans e2) _ fun H3 e3 => by
  obtain ⟨vs, v1, v2⟩ := lw_mono ((e.trans e2).trans e3) h1
  obtain ⟨zs, z1, z2⟩ := lw_mono ((e.trans e2).trans e3) h2
  have l1 := Paired.length v2
  have l2 := Paired.length z2
  exact ⟨a, b, vs, zs, rfl, rfl, v1, z1, sz_of (by omega), fun t ht => q t _ (fresh_back (e2.trans e3) ht) ((e2.trans e3).trans (Ex.new ht)) ⟨_, upd_same, paired_mono (fun _ _ r => wd_mono (Ex.new ht) r) (paired_app v2 z2)⟩⟩
theorem q_augE {r : R2} {D : Ends} {tz : TS} (h : tSeq (tAsg (tOp r (tVar i) te) (gName i)) tz D σ H) : tSeq (tAug i te r) tz D σ H := h
theorem within_yes (h : ∀ u ∈ ws, u ∈ us) : decide ((ws.filter fun w => decide (w ∈ us)).length = ws.length) = true := decide_eq_true (by rw [List.filter_eq_self.mpr fun u hu => decide_eq_true (h u hu)])
theorem or_len (h : Cl ws) (k : Cl us) : (clW (ws ++ us)).length ≤ ws.length + us.length := by
  have z := nodup_le (m := ws ++ us) (sd_nodup (clW_sd (ws := ws ++ us))) fun u hu => List.mem_append.mpr ((mem_or h k).mp hu)
  rw [List.length_append] at z
  exact z
end
def spPair (K : PySem.W.Frag) (T : List (Addr × Str)) (CF : Addr) : Sp := fun vs H Q _ => ∃ (a l b m : Addr) (ws us : List (List Str)), vs = [.ref a, .ref l, .ref b, .ref m] ∧ Tabs T H ∧ FrAt K CF H a ws ∧ LW K H l ws ∧ FrAt K CF H b us ∧ LW K H m us ∧ Cl ws ∧ Cl us ∧ (∀ u ∈ ws, isW u = true) ∧ (∀ u ∈ us, isW u = true) ∧ ws.length ≤ 73 ∧ us.length ≤ 73 ∧ ∀ H', R (Z0 T) H H' → Q (.bl true) H'
end Tk
namespace Lw
open PySem PySem.Spec PyProof.Rows L2 Evl
/-! ### dict(pairs), texts to texts; d[text] -/
def rDictK (K : PySem.W.Frag) : List V → Hp → VK → Prop := fun xs H Q => ∃ (a : Addr) (ps : List Addr) (kvs : List (L2.Key × V)), xs = [.ref a] ∧ SqL K H a (ps.map V.ref) ∧ Paired (fun p kv => SqT K H p [kV kv.1, kv.2]) ps kvs ∧ ∀ p, H p = none → Q (.ref p) (upd H p (.dK (mergeK [] kvs)))
theorem call_dictK {X : Cx} {K : PySem.W.Frag} (hc : X.calm = true := by rfl) (h : X.K = K := by rfl) : CallR X (.type "dict") (rDictK K) := by
  subst h
  exact call_dictP hc
end Lw
namespace Tk
open PySem PySem.Spec PyProof.Rows L2 Lw Evl LamX TL
open Rm (R Ok Z0 Zp Fr fr_none fr_ne nt_lst nt_tup nt_dK NT Zn)
/-- a list of pairs of texts, as a dict's items -/
def txtKV (ps : List (Str × Str)) : List (L2.Key × V) := ps.map fun p => (.inr p.1, .str p.2)
theorem merge_get : ∀ (ps : List (Str × Str)) (acc : List (L2.Key × V)) (C : Str → Prop) (s : Str), (∀ p ∈ ps, C p.2) → (s ∈ ps.map (·.1) ∨ ∃ x, valV acc (.inr s) = some (.str x) ∧ C x) → ∃ x, valV (mergeK acc (txtKV ps)) (.inr s) = some (.str x) ∧ C x
  | [], acc, C, s, _, h => by
    rcases h with h | h
    · cases h
    · exact h
  | p :: ps, acc, C, s, hc, h => by
    have e : mergeK acc (txtKV (p :: ps)) = mergeK (putK acc (.inr p.1) (.str p.2)) (txtKV ps) := rfl
    rw [e]
    refine merge_get ps _ C s (fun q hq => hc q (List.mem_cons_of_mem _ hq)) ?_
    by_cases z : s = p.1
    · refine .inr ⟨p.2, ?_, hc p (List.mem_cons_self ..)⟩
      rw [valV_put, if_pos (by rw [z])]
    · rcases h with h | ⟨x, hx, c⟩
      · rw [List.map_cons] at h
        rcases List.mem_cons.mp h with h | h
        · exact absurd h z
        · exact .inl h
      · refine .inr ⟨x, ?_, c⟩
        rw [valV_put, if_neg (fun y => z (by injection y))]
        exact hx
/-- what a dict of texts says -/
def sayD (kvs : List (L2.Key × V)) (s : Str) : Str := match valV kvs (.inr s) with
  | some (.str x) => x
  | _ => s
/-! ### rows, turned letter by letter -/
theorem begs_map {f : Str → Str} {w u : List Str} (h : u ∈ begs (w.map f)) : ∃ v ∈ begs w, u = v.map f := by
  obtain ⟨k, hk, rfl⟩ := mem_begs.mp h
  rw [List.length_map] at hk
  exact ⟨w.take k, mem_begs.mpr ⟨k, hk, rfl⟩, by rw [List.map_take]⟩
theorem turn_len {f : Str → Str} {ws : List (List Str)} (h : Cl ws) : (clW (ws.map (List.map f))).length ≤ ws.length := by
  have z := nodup_le (m := ws.map (List.map f)) (sd_nodup (clW_sd (ws := ws.map (List.map f)))) fun u hu => by
    rcases mem_clW.mp hu with rfl | ⟨w, hw, hb⟩
    · exact List.mem_map.mpr ⟨[], h.nil, rfl⟩
    · obtain ⟨v, hv, rfl⟩ := List.mem_map.mp hw
      obtain ⟨y, hy, rfl⟩ := begs_map hb
      exact List.mem_map.mpr ⟨y, h.beg v hv y hy, rfl⟩
  rw [List.length_map] at z
  exact z
section
variable {P : Program} {w : World} {K : PySem.W.Frag} {Z : Zn} {TT : List (Addr × Str)} {H H0 H1 H2 : Hp} {σ : L2.St} {te ta tb td : TE} {a b l m CF CS d : Addr} {ws us : List (List Str)} {x y : List Str} {s : Str} {i j n : Nat} {Q : VK} {E : XK} {vs : List Nat} {kvs : List (L2.Key × V)}
theorem ev_dget {v : V} (ha : Ev ta σ H (.ref d)) (hb : Ev tb σ H (.str s)) (hd : H d = some (.dK kvs)) (hv : valV kvs (.inr s) = some v) : Ev (tDGet ta tb) σ H v := fun H1 e Q q =>
  ha H1 e _ fun H2 e2 => hb H2 (e.trans e2) _ fun H3 e3 => ⟨d, v, rfl, .inl ⟨kvs, .inr s, .inl (((e.trans e2).trans e3) _ _ hd), rfl, hv.symm⟩, q H3 (e2.trans e3)⟩
/-- tuple([f(s) for s in w]) -/
theorem ew_mapT {f : Str → Str} (h : Ev ta σ H (.ref a)) (ha : H a = some (.tup (x.map V.str))) (hz : x.length ≤ 1000) (hw : ∀ x, wipe ((wipe σ vs).set j (some x)) vs = wipe σ vs) (he : ∀ (s : Str) H1, Ex H H1 → s ∈ x → Ev te ((wipe σ vs).set j (some (.str s))) H1 (.str (f s))) :
    EvW K (tCB (rTupleK K) (tCons (tLc (iTup K ta) (gName j) tYes te vs) tNil)) σ H (x.map f) := fun H1 e Q q => by
  have z := el_lcT (K := K) (xs := x.map V.str) (σ := σ) (H := H) (tz := ta) (te := te) (j := j) (vs := vs) (fun i => .str (f (x.getD i ""))) h (SqT.of ha) (by rw [List.length_map]; omega) hw (fun i v H1 e hi => by
    rw [List.getElem?_map] at hi
    obtain ⟨s, hs, rfl⟩ := Option.map_eq_some_iff.mp hi
    have es : x.getD i "" = s := by rw [List.getD_eq_getElem?_getD, hs]; rfl
    rw [es]
    exact he s H1 e (List.mem_of_getElem? hs))
  have e2 : (List.range (x.map V.str).length).map (fun i => V.str (f (x.getD i ""))) = (x.map f).map V.str := by
    rw [List.length_map, List.map_map]
    exact range_get x "" (fun s => V.str (f s))
  rw [e2] at z
  exact z H1 e (fun v H2 => rTupleK K [v] H2 Q) fun p H2 np e3 hp => ⟨p, _, rfl, .inl ⟨SqL.of hp, fun t ht => q _ _ (e3.trans (Ex.new ht)) ⟨t, rfl, upd_same⟩⟩⟩
/-- [.. for x in xs], a list that stands; what is known of each place -/
theorem lcD_RLi {xs : List V} {D : Addr} {B : Nat → Hp → V → Prop} {Qd : Hp → Prop} (o : Ok Z H) (hD : H D = none) (ha : SqL K H a xs) (keep : ∀ H1, R Z H H1 → SqL K H1 a xs) (hn : xs.length ≤ 40000) (sB : ∀ i, St (B i)) (hw : ∀ x, wipe ((wipe σ vs).set j (some x)) vs = wipe σ vs)
    (body : ∀ (i : Nat) (x : V) H1, xs[i]? = some x → R Z H H1 → ∀ Q : VK, (∀ v H2, R Z H1 H2 → B i H2 v → Q v H2) → te ((wipe σ vs).set j (some x)) H1 Q)
    (fin : ∀ us H2, R Z H H2 → H2 D = some (.lst us) → us.length = xs.length → (∀ i v, us[i]? = some v → B i H2 v) → Qd H2) :
    ∃ W : Nat → Nat → Hp → Prop, (∃ m, W 0 m (upd H D (.lst []))) ∧ ∀ i m H, W i m H →
      ((Itl K a).stop i H ∧ Qd H) ∨ ((Itl K a).go i H ∧ ∃ Nx : Hp → Prop, (∀ H', Nx H' → ∃ m', m' < m ∧ W (i + 1) m' H') ∧ ∀ x H', (Itl K a).yld i H x H' → gName j x (wipe σ vs) H' fun σ2 H2 => wipe σ2 vs = wipe σ vs ∧ tYes σ2 H2 fun b H3 =>
        if b = true then te σ2 H3 fun y H4 => ∃ acc, H4 D = some (.lst acc) ∧ acc.length < sizeLine ∧ Nx (upd H4 D (.lst (acc ++ [y]))) else Nx H3) := by
  refine lc_list (xs := xs) (fun i H' => i ≤ xs.length ∧ R Z H H' ∧ ∃ us, H' D = some (.lst us) ∧ us.length = i ∧ ∀ k v, us[k]? = some v → B k H' v) ⟨Nat.zero_le _, (R.refl o).new hD, [], upd_same, rfl, fun k v z => by cases z⟩ (fun i H' _ p => keep H' p.2.1) (fun i x H' hi p => ?_) fun H' p => ?_
  · obtain ⟨_, r, us, hu, hl, hb⟩ := p
    have hi2 := (List.getElem?_eq_some_iff.mp hi).1
    unfold gName tYes
    dsimp only
    rw [if_pos rfl]
    refine ⟨hw _, body i x H' hi r _ fun v H2 r2 b => ?_⟩
    have fD := fr_none hD
    have nD : ¬ Z.M D := r.a.fresh fD
    have hu2 := r2.lst hu nD
    refine ⟨us, hu2, sz_lt (by omega), hi2, (r.trans r2).mut fD hu2 trivial, us ++ [v], upd_same, by rw [List.length_append, hl]; rfl, fun k u m => ?_⟩
    rcases Nat.lt_trichotomy k us.length with c | c | c
    · rw [List.getElem?_append_left c] at m
      exact sB k _ _ _ (nl_upd hu2) (sB k _ _ _ (nl_R r2) (hb k u m))
    · subst c
      rw [List.getElem?_append_right (Nat.le_refl _), Nat.sub_self] at m
      cases m
      rw [hl]
      exact sB i _ _ _ (nl_upd hu2) b
    · rw [List.getElem?_eq_none (by rw [List.length_append, List.length_singleton]; omega)] at m
      cases m
  · obtain ⟨_, r, us, hu, hl, hb⟩ := p
    exact fin us H' r hu hl hb
/-- pairs of texts, one for each of xs -/
def Pr (C : Str → Prop) (xs : List Str) (i : Nat) (H : Hp) (v : V) : Prop := ∃ s x, xs[i]? = some s ∧ C x ∧ ∃ a, v = .ref a ∧ H a = some (.tup [.str s, .str x])
theorem st_pr {C : Str → Prop} {xs : List Str} (i : Nat) : St (Pr C xs i) := fun H H1 v h b => by
  obtain ⟨s, x, h1, h2, a, rfl, h3⟩ := b
  exact ⟨s, x, h1, h2, a, rfl, h a _ nt_tup (fun _ z => nomatch z) h3⟩
theorem prs_of {C : Str → Prop} {H : Hp} : ∀ {us : List V} {xs : List Str}, us.length = xs.length → (∀ i v, us[i]? = some v → Pr C xs i H v) → ∃ (as : List Addr) (ps : List (Str × Str)), us = as.map V.ref ∧ ps.map (·.1) = xs ∧ (∀ p ∈ ps, C p.2) ∧ Paired (fun p kv => SqT K H p [kV kv.1, kv.2]) as (txtKV ps)
  | [], [], _, _ => ⟨[], [], rfl, rfl, fun _ z => absurd z List.not_mem_nil, .nil⟩
  | [], _ :: _, e, _ => by cases e
  | _ :: _, [], e, _ => by cases e
  | u :: us, y :: xs, e, h => by
    obtain ⟨s, x, h1, h2, a, rfl, h3⟩ := h 0 u rfl
    cases h1
    obtain ⟨as, ps, e1, e2, e3, e4⟩ := prs_of (us := us) (xs := xs) (by rw [List.length_cons, List.length_cons] at e; omega) fun i v hv => h (i + 1) v hv
    refine ⟨a :: as, (y, x) :: ps, by rw [e1]; rfl, by rw [← e2]; rfl, fun p hp => ?_, .cons (SqT.of h3) e4⟩
    rcases List.mem_cons.mp hp with rfl | hp
    · exact h2
    · exact e3 p hp
end
def spMate (K : PySem.W.Frag) (T : List (Addr × Str)) : Sp := fun vs H Q _ => ∃ (p l g : Addr) (ws : List (List Str)) (xs : List Str), vs = [.ref p, .ref l, .ref g] ∧ Ok (Zp T p) H ∧ LW K H l ws ∧ Signs H p g xs ∧ Cl ws ∧ (∀ w ∈ ws, w.length ≤ 3 ∧ ∀ y ∈ w, y ∈ xs) ∧ ws.length ≤ 40 ∧
  ∀ r us H', R (Zp T p) H H' → LW K H' r us → Cl us → (∀ w ∈ us, isW w = true) → us.length ≤ 73 → Q (.ref r) H'
end Tk
namespace Tk
open PySem PySem.Spec PyProof.Rows L2 Lw Evl LamX TL
open Rm (R Ok Z0 Zp Fr fr_none fr_ne nt_lst nt_tup nt_dK NT Zn)
section
variable {P : Program} {w : World} {K : PySem.W.Frag} {Z : Zn} {TT : List (Addr × Str)} {H H0 H1 H2 : Hp} {σ : L2.St} {te ta tb td : TE} {a b l m CF CS d : Addr} {ws us : List (List Str)} {i j n : Nat} {Q : VK} {E : XK}
theorem elw_rev {K' : PySem.W.Frag} (ha : Ev ta σ H (.ref a)) (h1 : LW K' H a us) : EvLW K' (tRevL K ta) σ H us.reverse := fun H1 e Q q => ha H1 e _ fun H2 e2 => by
  obtain ⟨vs, v1, v2⟩ := lw_mono (e.trans e2) h1
  exact ⟨a, vs, rfl, SqL.of v1, fun p hp => q p _ (fresh_back e2 hp) (e2.trans (Ex.new hp)) ⟨_, upd_same, paired_mono (fun _ _ r => wd_mono (Ex.new hp) r) (paired_rev v2)⟩⟩
theorem clW_rev (h : Cl us) : clW us.reverse = us := sd_uniq clW_sd h.sd fun u => by
  rw [← h.self, mem_clW, mem_clW, h.self]
  simp only [List.mem_reverse]
end
def spFronts (T : List (Addr × Str)) : Sp := fun vs H Q _ => ∃ (p g : Addr) (xs : List Str), vs = [.ref p, .ref g, .int 12] ∧ Ok (Zp T p) H ∧ Signs H p g xs ∧ ∀ H', R (Zp T p) H H' → Q (.bl true) H'
end Tk
namespace Ts
open PySem PySem.Spec PyProof.Rows L2
/-! ### a set of texts, as it stands -/
def TxtE (P : Program) (w : World) (e : Int × Value) : Prop := ∃ k u, e = ((PySem.strKind P w).hash k, Value.str k u)
def txtOf (e : Int × Value) : Str := match e.2 with
  | .str k _ => k
  | _ => Str.empty
/-- the entries hold the texts L, in some row; the table can be walked -/
structure Ent (P : Program) (w : World) (es : Array (Int × Value)) (t : SetTable) (L : List Str) : Prop where
  ent : ∀ e ∈ es.toList, TxtE P w e
  perm : (es.toList.map txtOf).Perm L
  nd : L.Nodup
  few : L.length < scanBound
  fits : t.fits es.size = true
  ris : Ris t.place.toList
  led : w.params.followText "set-order" = true ∨ t.led = true
def TSet (P : Program) (w : World) (h : Heap) (a : Addr) (L : List Str) : Prop := ∃ o es ep t, h.get? a = some o ∧ o.ExactSet ∧ o.data = .set es ep t ∧ Ent P w es t L
section
variable {P : Program} {w : World} {A : Around} {E : Value → Shared → Prop} {s : Shared} {a : Addr} {L L' : List Str} {es : Array (Int × Value)} {t : SetTable} {k : Str} {u : Tok}
theorem TSet.keep {h h' : Heap} (R : TSet P w h a L) (q : ∀ o, h.get? a = some o → h'.get? a = some o) : TSet P w h' a L := by
  obtain ⟨o, es, ep, t, e, r⟩ := R
  exact ⟨o, es, ep, t, q o e, r⟩
theorem Ent.size (R : Ent P w es t L) : es.size = L.length := by
  have z := R.perm.length_eq
  rw [List.length_map, Array.length_toList] at z
  exact z
theorem Ent.bound (R : Ent P w es t L) : es.size < scanBound := R.size ▸ R.few
theorem Ent.elems (R : Ent P w es t L) : ElemsOf (PySem.strKind P w) es.toList := fun e he => by
  obtain ⟨k, u, rfl⟩ := R.ent e he
  exact ⟨⟨k, strKind_is P w k u, rfl⟩, rfl⟩
theorem is_iff {e : Int × Value} (h : TxtE P w e) : (PySem.strKind P w).is k e.2 = true ↔ txtOf e = k := by
  obtain ⟨j, u, rfl⟩ := h
  show Value.isStrOf k (.str j u) = true ↔ j = k
  constructor
  · intro z
    obtain ⟨v, hv⟩ := Value.isStrOf_shape z
    injection hv
  · rintro rfl
    exact strKind_is P w j u
/-- one text more -/
theorem Ent.more {es1 : Array (Int × Value)} {t1 : SetTable} (R : Ent P w es t L) (hk : k ∉ L) (room : L.length + 1 < scanBound) (pm : es1.toList.Perm (((PySem.strKind P w).hash k, Value.str k u) :: es.toList)) (f : t1.fits es1.size = true) (r : Ris t1.place.toList)
    (l : t1.led = t.led) : Ent P w es1 t1 (k :: L) where
  ent := fun e he => (List.mem_cons.mp (pm.mem_iff.mp he)).elim (fun z => ⟨k, u, z⟩) (R.ent e)
  perm := (pm.map txtOf).trans (R.perm.cons k)
  nd := List.nodup_cons.mpr ⟨hk, R.nd⟩
  few := room
  fits := f
  ris := r
  led := R.led.imp id fun z => l.trans z
theorem Ent.perm_of {es1 : Array (Int × Value)} {t1 : SetTable} (R : Ent P w es t L) (pm : es1.toList.Perm es.toList) (f : t1.fits es1.size = true) (r : Ris t1.place.toList) (l : t1.led = t.led) : Ent P w es1 t1 L where
  ent := fun e he => R.ent e (pm.mem_iff.mp he)
  perm := (pm.map txtOf).trans R.perm
  nd := R.nd
  few := R.few
  fits := f
  ris := r
  led := R.led.imp id fun z => l.trans z
theorem put_at {h : Heap} {o : Obj} {es1 : Array (Int × Value)} {ep : Nat} {t1 : SetTable} (e : h.get? a = some o) (d : o.data = .set es ep t) : (h.update a (Obj.putSet es1 t1)).get? a = some { o with data := .set es1 (ep + 1) t1 } := store_at e d
/-- behind the laying: the table is perhaps laid anew -/
theorem tset_tail {g : Bool → Sem Unit} (hg : ∀ (b : Bool) (s2 : Shared) (Q2 : Unit → Shared → Prop), Q2 () s2 → wpAny (model P w) A (g b) Q2 E s2) {o : Obj} {ep : Nat} {es1 : Array (Int × Value)} {t1 : SetTable} (e : s.heap.get? a = some o) (x : o.ExactSet) (d : o.data = .set es ep t)
    (R : Ent P w es1 t1 L) {dm : Bool} {Q : Option Bool → Shared → Prop} (q : ∀ h', Heap.SameBut a s.heap h' → TSet P w h' a L → Q (some true) { s with heap := h' }) :
    wpAny (model P w) A (do
      storeSet a es1 t1
      if (!dm && t1.tooFull) = true then do g (relayAll t1 es1 (SetTable.grown es1.size)).2.2; storeSet a (relayAll t1 es1 (SetTable.grown es1.size)).1 (relayAll t1 es1 (SetTable.grown es1.size)).2.1; pure (some true)
      else pure (some true)) Q E s := by
  have e1 := put_at (es1 := es1) (t1 := t1) e d
  have b1 := Heap.SameBut.update s.heap a (Obj.putSet es1 t1)
  refine wpAny_bind (wpAny_storeSet_of e d ?_ (fits_of_scanBound R.bound))
  by_cases c : (!dm && t1.tooFull) = true
  · rw [if_pos c]
    have R2 := R.perm_of (relayAll_perm t1 es1 _) (relayAll_fits t1 es1 (SetTable.grown es1.size)) (relayAll_ris t1 es1 _) (relayAll_led t1 es1 _)
    generalize relayAll t1 es1 (SetTable.grown es1.size) = Z at R2 ⊢
    refine wpAny_bind (hg _ _ _ (wpAny_bind (wpAny_storeSet_of e1 rfl ?_ (fits_of_scanBound R2.bound))))
    exact wpAny_pure (q _ (b1.trans (Heap.SameBut.update ..)) ⟨_, _, _, _, put_at e1 rfl, x, rfl, R2⟩)
  · rw [if_neg c]
    exact wpAny_pure (q _ b1 ⟨_, _, _, _, e1, x, rfl, R⟩)
theorem tset_add {Q : Bool → Shared → Prop} (R : TSet P w s.heap a L) (room : L.length + 1 < scanBound) (q : ∀ b h', Heap.SameBut a s.heap h' → TSet P w h' a (if k ∈ L then L else k :: L) → Q b { s with heap := h' }) :
    wpAny (model P w) A (setAddHashed a (.str k u) ((PySem.strKind P w).hash k)) Q E s := by
  obtain ⟨o, es, ep, t, e, x, d, N⟩ := R
  have sc : (Value.str k u).scannable = true := rfl
  have mem : ∀ j, j ∈ L ↔ ∃ e ∈ es.toList, (PySem.strKind P w).is j e.2 = true := fun j => by
    rw [← N.perm.mem_iff, List.mem_map]
    exact ⟨fun ⟨e, he, z⟩ => ⟨e, he, (is_iff (N.ent e he)).mpr z⟩, fun ⟨e, he, z⟩ => ⟨e, he, (is_iff (N.ent e he)).mp z⟩⟩
  unfold setAddHashed setAddHashedIn
  refine wpAny_holding (wpAny_bind (wpAny_setState_of e d N.fits ?_))
  dsimp only
  rw [byScan_of sc N.bound N.elems]
  simp only [↓reduceIte]
  unfold setAddByScan
  refine wpAny_bind (wpAny_bind (wpAny_rule (wpAny_bind (wpAny_setScan_of (strKind_is P w k u) e d N.fits N.elems ?_))))
  cases fi : List.findIdx? (fun e => (PySem.strKind P w).is k e.2) es.toList with
  | some j =>
    obtain ⟨hj, pj, _⟩ := List.findIdx?_eq_some_iff_getElem.mp fi
    have z := q false s.heap (Heap.SameBut.refl a s.heap)
    rw [if_pos ((mem k).mpr ⟨es.toList[j], List.getElem_mem hj, pj⟩)] at z
    exact wpAny_pure (wpAny_pure (z ⟨o, es, ep, t, e, x, d, N⟩))
  | none =>
    have hk : k ∉ L := fun z => by
      obtain ⟨y, hy, c⟩ := (mem k).mp z
      rw [List.findIdx?_eq_none_iff.mp fi y hy] at c
      cases c
    have fin : ∀ h', Heap.SameBut a s.heap h' → TSet P w h' a (k :: L) → Q true { s with heap := h' } := fun h' b r => by
      have z := q true h' b
      rw [if_neg hk] at z
      exact z r
    have gw : ∀ (b : Bool) (s2 : Shared) (Q2 : Unit → Shared → Prop), Q2 () s2 → wpAny (model P w) A (match b with | true => rule "set.scan.the-table-gave-way" | false => pure ()) Q2 E s2 := fun b s2 Q2 z => by
      cases b
      · exact wpAny_pure z
      · exact wpAny_rule z
    have R1 := N.more hk room (u := u) ((layNew_perm t es _ (.str k u)).trans (by rw [Array.toList_push]; exact List.perm_append_singleton _ _)) (layNew_fits t es ((PySem.strKind P w).hash k) (.str k u)) (layNew_ris t es _ (.str k u) N.ris) (layNew_led t es _ (.str k u))
    dsimp only
    generalize layNew t es ((PySem.strKind P w).hash k) (.str k u) = Z at R1 ⊢
    obtain ⟨es1, t1, dm, gave⟩ := Z
    dsimp only at R1 ⊢
    refine wpAny_bind (gw _ _ _ ?_)
    split
    · refine wpAny_bind ?_
      rw [hashByValue_scannable 8 sc]
      refine wpAny_pure (tset_tail (L := k :: L) ?_ e x d ?_ ?_)
      · intro b s2 Q2 z
        cases b <;> first | exact wpAny_pure z | exact wpAny_rule z
      · have R2 := R1
        split <;> first | exact R1 | exact R1.perm_of (List.Perm.refl _) (SetTable.fits_plain_off R1.fits) R1.ris rfl
      · intro h' b r
        exact wpAny_pure (fin h' b r)
    · refine wpAny_bind (wpAny_pure ?_)
      simp only [↓reduceIte]
      refine tset_tail (L := k :: L) ?_ e x d R1 ?_
      · intro b s2 Q2 z
        cases b <;> first | exact wpAny_pure z | exact wpAny_rule z
      · intro h' b r
        exact wpAny_pure (fin h' b r)
end
end Ts
namespace Ts
open PySem PySem.Spec PyProof.Rows L2
/-- the set at S holds just the texts of l -/
def Has (P : Program) (w : World) (h : Heap) (S : Addr) (l : List Str) : Prop := ∃ L, TSet P w h S L ∧ (∀ j, j ∈ L ↔ j ∈ l) ∧ L.length ≤ l.length
def newSet (w : World) : Obj := { cls := .type "set", dict := none, data := .set #[] 0 (.fresh 0 0 (!w.params.followText "set-order")) }
theorem led_new {w : World} : w.params.followText "set-order" = true ∨ (!w.params.followText "set-order") = true := by
  cases w.params.followText "set-order"
  · exact .inr rfl
  · exact .inl rfl
theorem has_new {P : Program} {w : World} {h : Heap} {S : Addr} (e : h.get? S = some (newSet w)) : Has P w h S [] :=
  ⟨[], ⟨_, _, _, _, e, ⟨rfl, rfl, rfl⟩, rfl, ⟨fun e he => (nomatch he), List.Perm.nil, List.nodup_nil, by decide, rfl, List.Pairwise.nil, led_new⟩⟩, fun j => Iff.rfl, Nat.le_refl _⟩
theorem Has.keep {P : Program} {w : World} {h h' : Heap} {S : Addr} {l : List Str} (H : Has P w h S l) (q : ∀ o, h.get? S = some o → h'.get? S = some o) : Has P w h' S l := by
  obtain ⟨L, r, z⟩ := H
  exact ⟨L, r.keep q, z⟩
theorem str_at {xs : List Str} : ∀ {vs : List Value}, StrsAre vs xs → ∀ (i : Nat) (v : Value), vs[i]? = some v → ∃ x u, xs[i]? = some x ∧ v = Value.str x u := by
  intro vs h
  induction h with
  | nil => intro i v e; cases e
  | cons x u r ih =>
    intro i v e
    cases i with
    | zero => cases e; exact ⟨x, u, rfl, rfl⟩
    | succ i => exact ih i v e
section
variable {P : Program} {w : World} {A : Around} {E : Value → Shared → Prop} {s : Shared}
/-- set.update's loop over texts -/
theorem tset_loop {I S : Addr} {fp wr : List Addr} {G : Array GenState → Array GenState → Prop} {n : Nat} {Pv : Nat → Value → Prop} {St : Nat → Shared → Prop} {R : Result → Shared → Prop} (W : WalksS P w A.in1 I fp wr G n Pv St) (nS : S ∉ fp) {xs : List Str} (hn : xs.length = n) (few : n + 1 < scanBound)
    (val : ∀ (i : Nat) (v : Value), Pv i v → ∃ x u, xs[i]? = some x ∧ v = Value.str x u) : ∀ (m i : Nat) (s : Shared), m + i = n → St i s → Has P w s.heap S (xs.take i) →
      (∀ s', Moved (S :: wr) G s s' → Has P w s'.heap S xs → R (.ok (.ret .none)) s') → codeAny (model P w) A (.builtin "set.update.loop" ⟨[.ref S, .ref I], []⟩) R s := by
  have nw : S ∉ wr := fun z => nS (W.sub _ z)
  have up : ∀ {s1 s2 : Shared}, Moved wr G s1 s2 → Moved (S :: wr) G s1 s2 := fun z => z.mono fun b hb => List.mem_cons_of_mem _ hb
  intro m
  induction m with
  | zero =>
    intro i s hm st hS q
    have e : i = n := by omega
    subst e
    refine codeAny_builtin F.entry_set_update_loop (Around.under_plainId F.plain_set_update_loop _ ▸ ?_)
    show wpAny _ A.in1 (do let x ← pyNext (.ref I); _) _ _ s
    refine wpAny_bind (W.done s _ _ st fun s' mv => wpAny_pure (q s' (up mv) ?_))
    rw [← hn, List.take_length] at hS
    exact hS.keep fun o z => mv.heap S o nw z
  | succ m ih =>
    intro i s hm st hS q
    refine codeAny_builtin F.entry_set_update_loop (Around.under_plainId F.plain_set_update_loop _ ▸ ?_)
    show wpAny _ A.in1 (do let x ← pyNext (.ref I); _) _ _ s
    refine wpAny_bind (W.item i s _ _ (by omega) st fun v s' hv st' mv => ?_)
    obtain ⟨x, u, hx, rfl⟩ := val i v hv
    obtain ⟨L, r, hL, lL⟩ := hS.keep fun o z => mv.heap S o nw z
    have lt : (xs.take i).length ≤ i := by rw [List.length_take]; omega
    have hlen := (List.getElem?_eq_some_iff.mp hx).1
    show wpAny _ A.in1 (do let _ ← holding [Value.str x u] (setAdd S (.str x u)); _) _ _ s'
    refine wpAny_bind (wpAny_holding ?_)
    unfold setAdd
    refine wpAny_holding (wpAny_bind ((PySem.strKind P w).pyHash (strKind_is P w x u) ?_))
    refine tset_add (s := { s' with toks := s'.toks + 1 }) r (by omega) fun b h' sb r2 => ?_
    have tk : xs.take (i + 1) = xs.take i ++ [x] := by rw [List.take_add_one, hx]; rfl
    have hS2 : Has P w h' S (xs.take (i + 1)) := ⟨_, r2, fun j => by
      rw [tk, List.mem_append, List.mem_singleton, ← hL j]
      by_cases c : x ∈ L
      · rw [if_pos c]
        exact ⟨.inl, fun z => z.elim id fun z => z ▸ c⟩
      · rw [if_neg c, List.mem_cons]
        exact Or.comm, by
      rw [tk, List.length_append]
      by_cases c : x ∈ L
      · rw [if_pos c]; omega
      · rw [if_neg c, List.length_cons]
        exact Nat.succ_le_succ lL⟩
    have keep : ∀ b o, b ≠ S → s'.heap.get? b = some o → h'.get? b = some o := fun b o nb z => (sb.2 b nb).trans z
    refine wpAny_pure ⟨plainId_quiet F.plain_set_update_loop _, ih (i + 1) _ (by omega) (W.frame _ s' _ _ st' (Nat.le_succ _) fun b hb o z => keep b o (fun y => nS (y ▸ hb)) z) hS2 fun s2 mv2 z => q s2 (Moved.trans W.gtrans ((up mv).then_heap (Nat.le_succ _) fun b o hb z => keep b o (fun y => hb (y ▸ List.mem_cons_self)) z) mv2) z⟩
/-- what set(l) comes to -/
theorem tset_call {l : Addr} {T : String} {ol : Obj} {xs : List Str} {Q : Value → Shared → Prop} (hh : A.handled = none) (hol : s.heap.get? l = some ol) (hT : ol.cls = .type T) (sub1 : isSubtype (.type T) (.type "set") = pure false) (sub2 : isSubtype (.type T) (.type "frozenset") = pure false) (nd : (Value.type T == Value.type "dict") = false)
    (TI : Obj) (itr : ∀ {A2 : Around} {E2 Q2 : Value → Shared → Prop} {s2 : Shared}, s2.heap.get? l = some ol → Q2 (.ref s2.heap.objs.size) { s2 with heap := s2.heap.push TI } → wpAny (model P w) A2 (pyIter (.ref l)) Q2 E2 s2)
    (loop : ∀ {A2 : Around} {R : Result → Shared → Prop}, A2.handled = none → (∀ h' tk, Has P w h' s.heap.objs.size xs → (∀ b o, s.heap.get? b = some o → h'.get? b = some o) → R (.ok (.ret .none)) { s with heap := h', toks := tk }) →
      codeAny (model P w) A2 (.builtin "set.update.loop" ⟨[.ref s.heap.objs.size, .ref (s.heap.push (newSet w)).objs.size], []⟩) R { s with heap := (s.heap.push (newSet w)).push TI })
    (q : ∀ h' tk, Has P w h' s.heap.objs.size xs → (∀ b o, s.heap.get? b = some o → h'.get? b = some o) → Q (.ref s.heap.objs.size) { s with heap := h', toks := tk }) : wpAny (model P w) A (call (.type "set") [.ref l]) Q E s := by
  obtain ⟨c, tl, mro⟩ := F.called_set.mro
  have made := F.called_set.made
  have subs := F.called_set.sub
  refine wpAny_call (codeAny_of_tree ?_)
  show wpAny _ _ (callAny (.type "set") _) _ _ _
  refine wpAny_pure ⟨Code.quiet_builtin _ (by decide +kernel), codeAny_builtin F.entry_type_call (Around.under_plain (weight_type_call_type "set" [.ref l] []) rfl ▸ ?_)⟩
  have a1 := F.called_set.notType
  have a2 := F.called_set.canCreate
  have a3 := F.typeCall_set_1 (.ref l)
  repeat (any_goals (first | wp_step | assumption))
  refine codeAny_mono (code_set_led1 (.ref l) (E := E) (Q₁ := fun v s2 => v = .ref s.heap.objs.size ∧ s2 = { s with heap := s.heap.push (newSet w) }) ⟨rfl, rfl⟩) fun r s2 hr => ?_
  cases r with
  | error e => exact hr
  | ok fl =>
    cases fl with
    | ret v =>
      obtain ⟨rfl, rfl⟩ := hr
      have isS : Shared.TypeIs { s with heap := s.heap.push (newSet w) } (.ref s.heap.objs.size) "set" := ⟨_, Heap.get?_push_size _ rfl, rfl⟩
      have b1 := F.called_set.init.lookup
      have b2 := F.called_set.init.bind (.ref s.heap.objs.size)
      repeat (any_goals (first | wp_step | assumption))
      refine codeAny_mono (codeAny_call_builtin (R := wants (fun r s2 => r = .none ∧ ∃ h' tk, s2 = { s with heap := h', toks := tk } ∧ Has P w h' s.heap.objs.size xs ∧ ∀ b o, s.heap.get? b = some o → h'.get? b = some o) E) F.called_set.init.plain F.entry_set_init (check_set_init_1 isS ?_)) fun r2 s3 hr2 => ?_
      · have hol1 : (s.heap.push (newSet w)).get? l = some ol := Heap.get?_push_of_some _ hol
        obtain ⟨oc, od, odt, osl⟩ := ol
        dsimp only at hT
        subst hT
        unfold Builtin.«set.__init__» noKeywords Builtin.Frozenset.updateFrom
        generalize hPI : pyIter = PI
        wp_walk
        subst hPI
        refine itr hol1 (wpAny_bind (wpAny_runValue ?_))
        refine loop (by simp [hh]) fun h' tk z k => ?_
        exact wpAny_pure (wpAny_pure ⟨rfl, h', tk, rfl, z, k⟩)
      · cases r2 with
        | error e => exact hr2
        | ok fl2 =>
          cases fl2 with
          | ret v2 =>
            obtain ⟨rfl, h', tk, rfl, z, k⟩ := hr2
            repeat (any_goals (first | wp_step | assumption))
            exact q h' tk z k
          | _ => exact hr2.elim
    | _ => exact hr.elim
end
end Ts
namespace Ts
open PySem PySem.Spec PyProof.Rows L2
/-- a set of texts, as an object of the layer -/
def TxO (P : Program) (w : World) (a : Addr) (L : List Str) : HO := .ext fun h => TSet P w h a L
theorem txO_new {P : Program} {w : World} {H : Hp} {h : Heap} {a : Addr} {L : List Str} (R : TSet P w h a L) : ObjOk P w H h a (TxO P w a L) := by
  have ⟨o, _, _, _, e, _⟩ := R
  exact ⟨R, ⟨o, e⟩, fun h1 h2 r k => TSet.keep r k⟩
section
variable {P : Program} {w : World} {A : Around} {E : Value → Shared → Prop} {s : Shared} {a : Addr} {L : List Str}
theorem strs_of {L : List Str} : ∀ {vs : List Value}, (∀ v ∈ vs, ∃ k u, v = Value.str k u) → StrsAre vs (vs.map fun v => match v with | .str k _ => k | _ => Str.empty)
  | [], _ => .nil
  | v :: vs, h => by
    obtain ⟨k, u, rfl⟩ := h v List.mem_cons_self
    exact .cons k u (strs_of (L := L) fun x hx => h x (List.mem_cons_of_mem _ hx))
/-- sorted(a set of texts) -/
theorem tset_sorted {Q : Value → Shared → Prop} (R : TSet P w s.heap a L) (hh : A.handled = none) (hL : L.length ≤ 1000)
    (q : ∀ s2 p (out : Array Value) (n : Nat) (ys : List Str), (∀ b o, s.heap.get? b = some o → s2.heap.get? b = some o) → s2.gens = s.gens → s2.os = s.os → s.heap.objs.size ≤ p → s2.heap.get? p = some (seqObj "list" out n) → StrsAre out.toList ys → ys.Perm L → sortedS ys = true → Q (.ref p) s2) :
    wpAny (model P w) A (call (.builtin "sorted") [.ref a]) Q E s := by
  obtain ⟨o, es, ep, t, e, x, d, N⟩ := R
  refine Calls.call_function_entry kind_sorted plain_sorted entry_sorted (args_sorted1 _) ?_
  unfold Builtin.«sorted»
  refine wpAny_bind (m := checkCount "sorted" 1 1 _) (wpAny_pure (wpAny_bind (collect_set (A := A.in1) hh ⟨o, e, x.1, d⟩ N.fits N.bound N.ris N.led fun s1 vs k1 z1 g1 o1 pm => ?_)))
  have all : ∀ v ∈ vs, ∃ k u, v = Value.str k u := fun v hv => by
    obtain ⟨y, hy, rfl⟩ := List.mem_map.mp (pm.mem_iff.mp hv)
    obtain ⟨k, u, rfl⟩ := N.ent y hy
    exact ⟨k, u, rfl⟩
  have hS := strs_of (L := L) all
  have pL : (vs.map fun v => match v with | .str k _ => k | _ => Str.empty).Perm L := by
    have z := pm.map fun v => match v with | .str k _ => k | _ => Str.empty
    rw [List.map_map] at z
    exact z.trans N.perm
  have hv : vs.length ≤ 1000 := by
    have z := pL.length_eq
    rw [List.length_map] at z
    omega
  have fit : vs.length ≤ sizeLine := by rw [sizeLine_eq]; omega
  refine wpAny_bind (wpAny_newList ?_ fit)
  have hl : (s1.heap.push (seqObj "list" vs.toArray 0)).get? s1.heap.objs.size = some (seqObj "list" vs.toArray 0) := Heap.get?_push_size _ rfl
  refine wpAny_bind (wpAny_holding (wpAny_call_entry slot_list_sort ⟨_, hl, rfl⟩ entry_list_sort (list_sort_treeKAny strKind_oneLt hl hS.keysOf (fun v1 v2 rest z => keyKind_strs (by rw [← z]; exact hS)) fit fun st pr so => ⟨_, rfl, ?_⟩) (args_list_sort _)))
  obtain ⟨ys, y1, y2, y3⟩ := sorted_out_str hS pr so
  obtain ⟨n, hn⟩ := sortedHeap_at (vs := vs) (out := (arrOf st).map (·.2)) hl
  refine wpAny_pure ⟨_, rfl, q _ s1.heap.objs.size _ n ys (fun b u z => ?_) g1 o1 z1 hn y1 (y2.trans pL) y3⟩
  have z := k1 b u z
  have lt := Heap.lt_size z
  show (sortedHeap (s1.heap.push (seqObj "list" vs.toArray 0)) _ vs _).get? b = some u
  rw [sortedHeap_old (Nat.ne_of_lt lt) (by rw [size_push']; exact Nat.lt_succ_of_lt lt)]
  exact Heap.get?_push_of_some _ z
end
/-! ### the layer's rules: set(xs), sorted(set) -/
def rSetTx (K : PySem.W.Frag) (P : Program) (w : World) : List V → Hp → VK → Prop := fun xs H Q => ∃ (l : Addr) (ys : List Str), xs = [V.ref l] ∧ (SqL K H l (ys.map V.str) ∨ SqT K H l (ys.map V.str)) ∧ ys.length ≤ 1000 ∧
  ∀ a L, H a = none → (∀ j, j ∈ L ↔ j ∈ ys) → L.Nodup → L.length ≤ 1000 → Q (.ref a) (upd H a (TxO P w a L))
def rSortTx (P : Program) (w : World) : List V → Hp → VK → Prop := fun xs H Q => ∃ (a : Addr) (L : List Str), xs = [V.ref a] ∧ H a = some (TxO P w a L) ∧ L.length ≤ 1000 ∧
  ∀ ys p, ys.Perm L → sortedS ys = true → H p = none → Q (.ref p) (upd H p (.lst (ys.map V.str)))
section
variable {X : Cx}
theorem cr_setTx (hc : X.calm = true) : CallR X (.type "set") (rSetTx X.K X.prog X.w) := by
  intro pins s σ H xs us Q I r h
  obtain ⟨l, ys, rfl, hs, hz, q⟩ := h
  rw [Vals.ref1 r]
  have fin : ∀ h' tk, Has X.prog X.w h' s.heap.objs.size ys → (∀ b o, s.heap.get? b = some o → h'.get? b = some o) → EP X pins σ Q (.ref s.heap.objs.size) { s with heap := h', toks := tk } := fun h' tk ⟨L, R, m, n⟩ k => by
    have hn := I.hok.fresh (Nat.le_refl s.heap.objs.size)
    obtain ⟨o, es, ep, t, e, x, d, N⟩ := id R
    exact ⟨.ref _, _, I.laid (t' := tk) k (Nat.le_refl _) (txO_new R), rfl, q _ L hn m N.nd (by omega)⟩
  have few : ys.length + 1 < scanBound := by unfold scanBound; omega
  have mk : ∀ {its : List Value} {TI : Obj}, Vals (ys.map V.str) its → (s.heap.push (newSet X.w)).objs.size = s.heap.objs.size + 1 ∧ its.toArray.size = ys.length := fun r => ⟨Heap.size_push .., by rw [List.size_toArray, ← r.length, List.length_map]⟩
  rcases hs with hs | hs
  · obtain ⟨its, rv, hl, hz2⟩ := I.list hs
    have il := hl.isList
    have sz : its.toArray.size = ys.length := (mk (TI := newSet X.w) rv).2
    obtain ⟨ol, e1, e2, n, e3⟩ := id il
    have lt := Heap.lt_size e1
    refine tset_call (I.ok.hd hc) e1 e2 F.sub_list_set F.sub_list_frozenset (by decide) { cls := .type "list_iterator", data := .fields #[.ref l, .int 0 0] } (fun z k => wpAny_pyIter_list ⟨_, z, e2, n, e3⟩ k) (fun {A2 R} hA k => ?_) fin
    have s1 : (s.heap.push (newSet X.w)).objs.size = s.heap.objs.size + 1 := Heap.size_push ..
    refine tset_loop (n := its.toArray.size) (xs := ys) ((Walks.list (A := A2.in1) (by simp [hA]) (s.heap.push (newSet X.w)).objs.size l (by rw [s1]; exact Nat.ne_of_lt (Nat.lt_succ_of_lt lt)) its.toArray).toS) (fun z => by
      rcases List.mem_cons.mp z with z | z
      · exact absurd z (by rw [s1]; exact Nat.ne_of_lt (Nat.lt_succ_self _))
      · exact absurd (List.mem_singleton.mp z) (Nat.ne_of_gt lt)) sz.symm (by omega) (fun i v hv => str_at (strsAre_of rv) i v (by rw [← Array.getElem?_toList] at hv; exact hv)) its.toArray.size 0 _ (by omega) ⟨⟨_, Heap.get?_push_size _ rfl, rfl, rfl⟩, (il.push _).push _⟩ (has_new (Heap.get?_push_of_some _ (Heap.get?_push_size _ rfl))) fun s2 mv hS => ?_
    obtain ⟨h2, g2, d2, t2, o2⟩ := s2
    obtain rfl : g2 = s.gens := mv.gens
    obtain rfl : d2 = s.drawn := mv.drawn
    obtain rfl : o2 = s.os := mv.os
    exact k h2 t2 hS fun b o z => mv.heap b o (fun y => by
      have lt2 := Heap.lt_size z
      rcases List.mem_cons.mp y with y | y
      · exact absurd y (Nat.ne_of_lt lt2)
      · exact absurd (List.mem_singleton.mp y) (by rw [s1]; exact Nat.ne_of_lt (Nat.lt_succ_of_lt lt2))) (Heap.get?_push_of_some _ (Heap.get?_push_of_some _ z))
  · obtain ⟨its, rv, il, hz2⟩ := I.tuple hs
    have sz : its.toArray.size = ys.length := (mk (TI := newSet X.w) rv).2
    obtain ⟨ol, e1, e2, n, e3⟩ := id il
    have lt := Heap.lt_size e1
    refine tset_call (I.ok.hd hc) e1 e2 F.sub_tuple_set F.sub_tuple_frozenset (by decide) { cls := .type "tuple_iterator", data := .fields #[.ref l, .int 0 0] } (fun z k => wpAny_pyIter_tuple ⟨_, z, e2, n, e3⟩ k) (fun {A2 R} hA k => ?_) fin
    have s1 : (s.heap.push (newSet X.w)).objs.size = s.heap.objs.size + 1 := Heap.size_push ..
    refine tset_loop (n := its.toArray.size) (xs := ys) ((Walks.tuple (A := A2.in1) (by simp [hA]) (s.heap.push (newSet X.w)).objs.size l (by rw [s1]; exact Nat.ne_of_lt (Nat.lt_succ_of_lt lt)) its.toArray).toS) (fun z => by
      rcases List.mem_cons.mp z with z | z
      · exact absurd z (by rw [s1]; exact Nat.ne_of_lt (Nat.lt_succ_self _))
      · exact absurd (List.mem_singleton.mp z) (Nat.ne_of_gt lt)) sz.symm (by omega) (fun i v hv => str_at (strsAre_of rv) i v (by rw [← Array.getElem?_toList] at hv; exact hv)) its.toArray.size 0 _ (by omega) ⟨⟨_, Heap.get?_push_size _ rfl, rfl, rfl⟩, (il.push _).push _⟩ (has_new (Heap.get?_push_of_some _ (Heap.get?_push_size _ rfl))) fun s2 mv hS => ?_
    obtain ⟨h2, g2, d2, t2, o2⟩ := s2
    obtain rfl : g2 = s.gens := mv.gens
    obtain rfl : d2 = s.drawn := mv.drawn
    obtain rfl : o2 = s.os := mv.os
    exact k h2 t2 hS fun b o z => mv.heap b o (fun y => by
      have lt2 := Heap.lt_size z
      rcases List.mem_cons.mp y with y | y
      · exact absurd y (Nat.ne_of_lt lt2)
      · exact absurd (List.mem_singleton.mp y) (by rw [s1]; exact Nat.ne_of_lt (Nat.lt_succ_of_lt lt2))) (Heap.get?_push_of_some _ (Heap.get?_push_of_some _ z))
theorem cr_sortTx (hc : X.calm = true) : CallR X (.builtin "sorted") (rSortTx X.prog X.w) := by
  intro pins s σ H xs us Q I r h
  obtain ⟨a, L, rfl, ha, hz, q⟩ := h
  rw [Vals.ref1 r]
  have R : TSet X.prog X.w s.heap a L := (I.hok a _ ha).1
  refine tset_sorted R (I.ok.hd hc) hz fun s2 p out n ys k g o lp hp hi pm so => ?_
  have hlen : (ys.map V.str).length ≤ sizeLine := by rw [List.length_map, pm.length_eq, sizeLine_eq]; omega
  have hn : H p = none := I.hok.fresh lp
  have J : Inv X pins σ (upd H p (.lst (ys.map V.str))) { s with heap := s2.heap, gens := s2.gens, drawn := s2.drawn, toks := s2.toks } :=
    I.call (ch := []) (Un.laid k lp hn) (I.hok.laid k lp ⟨hlen, out.toList, n, vals_of_strs hi, hp⟩) (by rw [g]; exact I.bare) fun _ z => nomatch z
  have e : s2 = { s with heap := s2.heap, gens := s2.gens, drawn := s2.drawn, toks := s2.toks } := by
    obtain ⟨h2, g2, d2, t2, o2⟩ := s2
    cases o
    rfl
  rw [e]
  exact ⟨.ref p, _, J, rfl, q ys p pm so hn⟩
theorem cr_setTxK {K : PySem.W.Frag} {P : Program} {w : World} (hc : X.calm = true := by rfl) (h : X.K = K := by rfl) (h2 : X.prog = P := by rfl) (h3 : X.w = w := by rfl) : CallR X (.type "set") (rSetTx K P w) := by
  subst h h2 h3
  exact cr_setTx hc
theorem cr_sortTxK {P : Program} {w : World} (hc : X.calm = true := by rfl) (h2 : X.prog = P := by rfl) (h3 : X.w = w := by rfl) : CallR X (.builtin "sorted") (rSortTx P w) := by
  subst h2 h3
  exact cr_sortTx hc
end
end Ts
namespace Lw
open PySem PySem.Spec PyProof.Rows L2 Evl
/-! ### class methods of an own class: C.m(e, ..), C.m(k = e, ..) in both sequences; cls(e) -/
def CmO (P : Program) (w : World) (K : PySem.W.Frag) (mg : Str → Option Value) (base : Heap) (CX : CXT) (k : Nat) (C : Addr) (m : Str) (ps : List Str) (sp : Sp) : Prop :=
  ∃ mc p g fd, ClX.CRead K C mc ∧ ClX.CMet K C mc m p g ∧ Binds K fd ("cls" :: ps) [] ∧ (∀ (v : Value) (ws : List Value) (s : Shared), ws.length = ps.length → BindsTo s fd ⟨[v], ps.zip ws⟩ ((("cls" : Str) :: ps).zip (v :: ws))) ∧
    (∀ (v : Value) (ws : List Value) (s : Shared), ws.length = ps.length → BindsTo s fd ⟨[v], ps.reverse.zip ws⟩ ((("cls" : Str) :: ps).zip (v :: ws.reverse))) ∧ FnOk P w K mg base CX k g fd ("cls" :: ps) sp
def tCMethR (C : Addr) (rev : Bool) (sp : Sp) (E : XK) (ta : TE) (tk : TA) : TE := fun σ H Q => ta σ H fun x H1 => x = .ref C ∧ tk σ H1 fun vs H2 => sp (.ref C :: if rev then vs.reverse else vs) H2 Q E
/-- cls(e), the i-th slot holds the class -/
def tMakeL (i : Nat) (C : Addr) (sp : Sp) (E : XK) (t : TA) : TE := fun σ H Q => σ[i]? = some (some (.ref C)) ∧ tMake C sp [] E t σ H Q
section
variable {X : Cx} {CX : CXT} {k : Nat} {C d : Addr} {x m q : Str} {ps : List Str} {sp : Sp} {p pos apos : Pos} {o e : Expr} {es : List Expr} {kws : List Keyword} {ta : TE} {t tk : TA} {E : XK} {pl : Sem Bool}
theorem pe_cmO (M : CmO X.prog X.w X.K X.mg X.base CX k C m ps sp) {j : Nat} (ho : PE X o ta) (hr : Room j X.A) (hx : Passes CX X E) (ha : PA X (e :: es) t) (hj : k ≤ j := by decide)
    (hst : starEach (e :: es) X.env = (false, eval e X.env) :: starEach es X.env := by rfl) (hpl : (backTo pos (starEach es X.env)).any (·.1) = false := by rfl)
    (ht : eval (.Call (.Attribute o m apos) (e :: es) [] pos) X.env = (do
      let ov ← eval o X.env
      standAt apos.atName
      let (f, first) ← holding [ov] (getMethod ov m pl)
      callWith pos f first (backTo pos (starEach (e :: es) X.env)) (backToKw pos (keywordEach [] X.env))) := by rfl) :
    PE X (.Call (.Attribute o m apos) (e :: es) [] pos) (ClX.tCMeth C sp E ta t) := by
  obtain ⟨mc, p, g, fd, r, c, hb, _, _, F⟩ := M
  refine ClX.pe_cmeth ho r c ((F.raw hb .nil).imp fun vs H Q E h => ?_) (hr.mono hj) hx ha hst hpl ht
  rw [List.append_nil]
  exact h
theorem pe_cmOR (rev : Bool) (M : CmO X.prog X.w X.K X.mg X.base CX k C m ps sp) {j : Nat} (ho : PE X o ta) (hr : Room j X.A) (hx : Passes CX X E) (hkw : PK X kws tk) (hj : k ≤ j := by decide)
    (hall : (backToKw pos (keywordEach kws X.env)).all (·.1.isSome) = true := by rfl) (hks : (backToKw pos (keywordEach kws X.env)).filterMap (·.1) = (if rev then ps.reverse else ps) := by rfl)
    (hpl : ((backTo pos (starEach [] X.env)).any (·.1) || (backToKw pos (keywordEach kws X.env)).any (·.1.isNone)) = false := by rfl)
    (ht : eval (.Call (.Attribute o m apos) [] kws pos) X.env = (do
      let ov ← eval o X.env
      standAt apos.atName
      let (f, first) ← holding [ov] (getMethod ov m pl)
      callWith pos f first (backTo pos (starEach [] X.env)) (backToKw pos (keywordEach kws X.env))) := by rfl) :
    PE X (.Call (.Attribute o m apos) [] kws pos) (tCMethR C rev sp E ta tk) := by
  obtain ⟨mc, p, g, fd, r, c, _, b1, b2, F⟩ := M
  constructor
  intro pins s σ H Q I h
  refine PySem.W.methodCall_KW (pl := pl) (thn (ho.run pins s σ H _ I h) fun u s1 hh => ?_) ht
  obtain ⟨y, H1, I1, rx, rfl, q⟩ := hh
  obtain rfl : u = Value.ref C := rx
  refine ClX.getmethcm_ok I1 r c fun s2 I2 => ?_
  refine PySem.W.callWith_of hpl (PySem.W.keeps_M (self := .ref C) c.fi) (PyProof.Rows.evalArgs_kw2_nil hall ?_)
  refine thn (hkw.run pos _ s2 σ H1 _ I2 q) fun ws s3 hh => ?_
  obtain ⟨zs, H2, I3, rz, q2⟩ := hh
  refine ⟨⟨ClX.pin_at I3, I3.kIn⟩, ?_⟩
  rw [hks]
  have hz : zs.length = ps.length := by
    have z := F.len _ _ _ _ q2
    rw [List.length_cons, List.length_cons] at z
    cases rev
    · exact Nat.succ.inj z
    · rw [if_pos rfl, List.length_reverse] at z
      exact Nat.succ.inj z
  have hw : ws.length = ps.length := rz.length.symm.trans hz
  have back : ∀ (us : List Value) (vs : List V), Vals vs us → BindsTo s3 fd ⟨[Value.ref C], (if rev then ps.reverse else ps).zip ws⟩ ((("cls" : Str) :: ps).zip (Value.ref C :: us)) → sp (.ref C :: vs) H2 Q E →
      wpAny (model X.prog X.w) X.A (call (.ref s1.heap.objs.size) ([] ++ []) ((if rev then ps.reverse else ps).zip ws)) (EP X pins σ Q) X.xe s3 := fun us vs rv hb h => by
    refine wpAny_call (PySem.W.method_call (ClX.pin_at I3) (codeAny_mono (F.run _ _ _ _ _ (Value.ref C :: us) (V.ref C :: vs) _ _ (hr.mono hj) I3.env0 hb (.cons rfl rv) h) fun r s4 hq => ?_))
    cases r with
    | error er => exact hx _ σ _ s3 er s4 I3 hq
    | ok fl =>
      cases fl with
      | ret u => exact ClX.unpinE (I3.after hq)
      | next => exact hq.elim
      | brk => exact hq.elim
      | cont => exact hq.elim
  cases rev with
  | false => exact back ws zs rz (b1 _ ws s3 hw) q2
  | true => exact back ws.reverse zs.reverse (Vals.reverse rz) (b2 _ ws s3 hw) q2
theorem pe_mkL {i : Nat} (M : MkD X.prog X.w X.K X.mg X.base CX k x C q d sp) {j : Nat} {y : Str} (hr : Room j X.A) (hN : X.N[i]? = some y) (hv : Vis X.env.scope y) (hx : Passes CX X E) (ha : PA X (e :: es) t) (hj : k + 1 ≤ j := by decide)
    (hdb : (y == ("__debug__" : Str)) = false := by decide) (hcd : (y == ("__classdict__" : Str)) = false := by decide) (he : starEach (e :: es) X.env = (false, eval e X.env) :: starEach es X.env := by rfl) (hpl : (backTo pos (starEach es X.env)).any (·.1) = false := by rfl) :
    PE X (.Call (.Name y p) (e :: es) [] pos) (tMakeL i C sp E t) := by
  obtain ⟨f, fd, hm, mk, hb, _, _, F⟩ := M
  refine ⟨fun pins s σ H Q I h => ?_⟩
  obtain ⟨hs, h⟩ := h
  refine wpAny_Call_Name_kw (thn ((pe_var (pos := p) (i := i) hN hv hdb hcd).run pins s σ H (fun v H1 => v = .ref C ∧ H1 = H) I ⟨.ref C, hs, rfl, rfl⟩) fun u s1 ⟨v, H1, I1, r1, ev, eH⟩ => ?_)
  subst ev
  rw [eH] at I1
  cases r1
  refine PySem.W.callWith_K (h₀ := X.base) I.ok.mod.kin mk.kp (thn (ha.run pos pins s1 σ H _ I1 h) fun us s2 ⟨vs, H2, I2, r, q⟩ => ⟨I2.kIn, ?_⟩) he hpl
  exact run_make mk F (hr.mono hj) hb .nil hx I2 r q
end
end Lw
namespace Tk
open PySem PySem.Spec PyProof.Rows L2 Lw Evl LamX
open LwX (XC XF)
/-! ### what the head tells of the classes -/
def refsOk (K : PySem.W.Frag) (C : Addr) : Bool := (PySem.W.clsIn K C).any fun cd => PySem.HandSPX.refsVE (cd.mro.drop 1)
def oneB (K : PySem.W.Frag) (x f : Str) : Bool := (He.Fa.glo x).ok K && (LwX.xcB K (He.ga K x) && (PySem.W.excInitIn K (He.ga K x) (LwX.bmOf "ValueError") "ValueError.__new__" && (refsOk K (He.ga K x) && (LwX.xfB K (He.ga K x) f && (He.Fa.meth x "__init__").ok K))))
/-- isinstance of the one's instances by the other, by a built-in class; except .. -/
def kkB (K : PySem.W.Frag) (x y : Str) (b : Bool) : Bool := decide (PySem.W.kitOne K (.ref (He.ga K x)) (.ref (He.ga K y)) = some b)
def ktB (K : PySem.W.Frag) (x : Str) (t : String) (b : Bool) : Bool := decide (PySem.W.kitOne K (.ref (He.ga K x)) (.type t) = some b)
def emB (K : PySem.W.Frag) (x y : Str) (b : Bool) : Bool := decide (PySem.W.exmOne K (.ref (He.ga K x)) (.ref (He.ga K y)) = some b)
section
variable {P : Program} {w : World} {K : PySem.W.Frag} {mg : Str → Option Value} {base h : Heap} {C fI : Addr} {fd : FuncData} {qual x f : Str} {params : Arguments} {scope : Scope}
structure OneF (K : PySem.W.Frag) (mg : Str → Option Value) (x f : Str) : Prop where
  g : mg x = some (.ref (He.ga K x))
  xc : XC K (He.ga K x)
  ox : OexC K (He.ga K x)
  xf : XF K (He.ga K x) f
  me : Meth K (He.ga K x) "__init__" (He.fAd K (x, some "__init__"))
theorem oex_of (X : K.In h) (T : XC K C) (q : PySem.W.excInitIn K C (LwX.bmOf "ValueError") "ValueError.__new__" = true) (r : refsOk K C = true) : OexC K C := by
  obtain ⟨nm, N, qn, bs, bm, hdct, sn, sub, ab, col, dd, k0, k1, k2, k3, k5, hC, _⟩ := PySem.W.excInit_of X q
  obtain ⟨cd, hcd, hh⟩ := PySem.W.any_some T.hd
  have lk : ∃ o, K.lookup C = some o := by
    cases e : K.lookup C with
    | some o => exact ⟨o, rfl⟩
    | none =>
      unfold PySem.W.clsIn at hcd
      rw [e] at hcd
      cases hcd
  obtain ⟨o, ho⟩ := lk
  have e := X C o ho
  rw [hC] at e
  have e2 := Option.some.inj e
  subst e2
  have c2 : PySem.W.clsIn K C = some { name := nm, bases := bs, mro := .ref C :: bm, ns := N, qualname := qn, hasDict := hdct, slotNames := sn, subclasses := sub, abstract := ab, collection := col, hasDel := false } := by
    unfold PySem.W.clsIn
    rw [ho] <;> rfl
  rw [c2] at hcd
  cases hcd
  have hd : hdct = true := hh
  subst hd
  unfold refsOk at r
  rw [c2] at r
  have r2 : PySem.HandSPX.refsVE bm = true := r
  exact ⟨⟨nm, qn, N, bs, bm, sn, sub, ab, col, dd, k0, k1, k2, k3, k5, ho, r2⟩, T.sa, T.sub, T.ty, T.kp⟩
theorem one_ok (X : K.In h) (G : h.Ns mainGlobals mg) (e : oneB K x f = true) : OneF K mg x f := by
  obtain ⟨e1, e⟩ := He.ba e
  obtain ⟨e2, e⟩ := He.ba e
  obtain ⟨e3, e⟩ := He.ba e
  obtain ⟨e4, e⟩ := He.ba e
  obtain ⟨e5, e6⟩ := He.ba e
  have T := LwX.xc_ok e2
  exact ⟨He.glo_ok X G e1, T, oex_of X T e3 e4, LwX.xf_ok e5, He.meth_ok e6⟩
theorem initO {q1 q2 q3 q4 : Pos} (F : FunD K "__init__" qual params [.Assign [.Attribute (.Name "self" q1) f q2] (.Name f q3) q4] scope [] [] fI fd) (S : FnScope ["self", f] ["self", f] scope) (T : OexC K C) (no : PySem.W.findIn K (.ref C) f = some none)
    (l1 : scope.names.lookup ("self" : Str) = some .local) (l2 : scope.names.lookup f = some .local) (n1 : (f == ("__debug__" : Str)) = false) (n2 : (f == ("__classdict__" : Str)) = false) : FnOk P w K mg base CX0 1 fI fd ["self", f] (spIx f C) := by
  refine fnO F S (fun vs H Q E h => ?_) (fun cdv A' outer s H vs Q E hr h => ?_)
  · obtain ⟨a, v, rfl, _⟩ := h
    rfl
  · obtain ⟨a, v, rfl, ha, q⟩ := h
    refine ⟨_, PSs.nox (pss_one (ps_ost (pv 0 rfl (.inl l1)) (pv 1 rfl (.inl l2) n1 n2))), ?_⟩
    exact ⟨v, rfl, .ref a, rfl, a, C, rfl, T, no, .inl ⟨ha, fun dx hd ne => q dx hd ne⟩⟩
theorem xrz {q1 q2 q3 q4 : Pos} (F : FunD K "__init__" qual params [.Assign [.Attribute (.Name "self" q1) f q2] (.Name f q3) q4] scope [] [] (He.fAd K (x, some "__init__")) fd) (S : FnScope ["self", f] ["self", f] scope)
    (l1 : scope.names.lookup ("self" : Str) = some .local) (l2 : scope.names.lookup f = some .local) (n1 : (f == ("__debug__" : Str)) = false) (n2 : (f == ("__classdict__" : Str)) = false)
    (hb : ∀ (kV doc pm : Value) (an : Option Addr) (cdv ct : Value) (us : List Value), us.length = 2 →
      bindArgs (PySem.W.fnOf "__init__" qual params [.Assign [.Attribute (.Name "self" q1) f q2] (.Name f q3) q4] scope .none kV doc pm an cdv ct) ⟨us, []⟩ = pure ((["self", f] : List Str).zip us)) (o : OneF K mg x f) : XRz P w K mg base 1 x (He.ga K x) f :=
  ⟨o.g, o.ox, _, _, o.me.at_, eq_of_beq o.me.fn, initO F S o.ox o.xf.no l1 l2 n1 n2, F.bindsN hb⟩
end
theorem OneF.xfc {K : PySem.W.Frag} {mg : Str → Option Value} {x f : Str} (o : OneF K mg x f) : XfC K (He.ga K x) := ⟨o.xc.ga, o.xc.gg, o.xc.sub, o.xc.hd⟩
/-- how an object's method binds what is passed by name, the last parameter first -/
theorem bindsS {K : PySem.W.Frag} {x qual : Str} {params : Arguments} {scope : Scope} {f : Addr} {fd : FuncData} {body : List Stmt} {ps : List Str} (F : FunD K x qual params body scope [] [] f fd)
    (z : ∀ (kV doc pm : Value) (an : Option Addr) (cdv ct : Value) (v : Value) (ws : List Value), ws.length = ps.length → bindArgs (PySem.W.fnOf x qual params body scope .none kV doc pm an cdv ct) ⟨[v], ps.reverse.zip ws⟩ = pure ((("self" : Str) :: ps).zip (v :: ws.reverse))) (v : Value) (ws : List Value) (s : Shared) (e : ws.length = ps.length) :
    BindsTo s fd ⟨[v], ps.reverse.zip ws⟩ ((("self" : Str) :: ps).zip (v :: ws.reverse)) := by
  obtain ⟨oc, od, dV, kV, doc, pm, an, cdv, ct, osl, rfl, _, _, hD, _⟩ := F.ex
  rcases hD with ⟨_, rfl⟩ | ⟨n, _⟩
  · exact .of_eq (z kV doc pm an cdv ct v ws e)
  · exact absurd rfl n
end Tk
namespace Lw
open PySem PySem.Spec PyProof.Rows L2 Evl
open LwX (XC XF)
/-! ### an own exception made to be raised, whatever its built-in base -/
theorem pmk_xc {X : Cx} {CX : CXT} {x : Str} {C fI : Addr} {k : Nat} {fd : FuncData} {ps : List Str} {sp : Sp} {e : Expr} {es : List Expr} {ta : TA} {p pos : Pos} (T : XC X.K C) (iC : PySem.W.findIn X.K (.ref C) "__init__" = some (some (.ref fI))) (tI : PySem.W.typeIn X.K (.ref fI) = some (.type "function"))
    (F : FnOk X.prog X.w X.K X.mg X.base CX k fI fd ps sp) (hr : Room (k + 1) X.A) (hb : Binds X.K fd ps []) (hx : Passes CX X (fun _ _ _ => False)) (hg : Gl X x) (hm : X.mg x = some (.ref C)) (ha : PA X (e :: es) ta) (hdb : (x == ("__debug__" : Str)) = false := by decide)
    (he : starEach (e :: es) X.env = (false, eval e X.env) :: starEach es X.env := by rfl) (hpl : (backTo pos (starEach es X.env)).any (·.1) = false := by rfl) : PMk X (.Call (.Name x p) (e :: es) [] pos) (tMkO C sp [] ta) := by
  intro pins s σ H Q I h
  obtain ⟨B, nI, iI, bB, FB, _, q0, _⟩ := T.base
  refine wpAny_Call_Name_kw (ld_glob I hg hm ?_ hdb)
  refine PySem.W.callWith_K (h₀ := X.base) I.ok.mod.kin T.kp (thn (ha.run pos pins s σ H _ I h) fun us s1 ⟨vs, H1, I1, r1, hz, q1⟩ => ⟨I1.kIn, ?_⟩) he hpl
  show wpAny _ _ (call (.ref C) us) _ _ _
  obtain ⟨h1, g1, d1, t1, o1⟩ := s1
  obtain ⟨nm, N, qn, bs, bm, hdct, sn, sub, ab, col, dd, k0, k1, k2, k3, k5, hC, hT⟩ := PySem.W.excInit_of (h := h1) I1.kIn q0
  have le : h1.objs.size ≤ h1.objs.size + 1 := Nat.le_succ _
  have off : H1 (h1.objs.size + 1) = none := I1.hok.fresh le
  have q2 := q1 (h1.objs.size + 1) off
  have keep : ∀ b o, h1.get? b = some o → ((h1.push (PySem.W.kdv_tup us)).push (PySem.HandSPX.excO C h1.objs.size)).get? b = some o := fun b o z => Heap.get?_push_of_some _ (Heap.get?_push_of_some _ z)
  have made : ((h1.push (PySem.W.kdv_tup us)).push (PySem.HandSPX.excO C h1.objs.size)).get? (h1.objs.size + 1) = some (PySem.HandSPX.excO C h1.objs.size) := by heap_get
  have I2 : Inv X pins σ (upd H1 (h1.objs.size + 1) (exo (h1.objs.size + 1) C none)) ⟨(h1.push (PySem.W.kdv_tup us)).push (PySem.HandSPX.excO C h1.objs.size), g1, d1, t1, o1⟩ :=
    I1.laid (t' := t1) (a := h1.objs.size + 1) (o := exo (h1.objs.size + 1) C none) keep le (exo_ok made)
  have r2 : Vals (V.ref (h1.objs.size + 1) :: (vs ++ [])) (Value.ref (h1.objs.size + 1) :: us) := by
    rw [List.append_nil]
    exact .cons rfl r1
  have len : (Value.ref (h1.objs.size + 1) :: us ++ []).length = ps.length := by
    rw [List.append_nil, ← r2.length]
    exact F.len _ _ _ _ q2
  have fit : us.length ≤ sizeLine := by
    rw [← Paired.length r1, sizeLine_eq]
    omega
  have bd := hb _ (Value.ref (h1.objs.size + 1) :: us) I2.kIn len
  rw [List.append_nil] at bd
  refine wpAny_call (LwX.callK FB hT hC (PySem.W.looks_findIn I1.kIn iC) (fun self => PySem.W.bind_fn I1.kIn self tI) fit (codeAny_mono (F.run _ X.stack _ _ ⟨Value.ref (h1.objs.size + 1) :: us, []⟩ (Value.ref (h1.objs.size + 1) :: us) _ _ (fun _ _ _ => False) (hr.make C us []) (I2.env0.make C us []) bd r2 q2) fun r s3 hq => ?_))
  cases r with
  | error er => exact hx pins σ _ _ er s3 I2 hq
  | ok fl =>
    cases fl with
    | ret u =>
      obtain ⟨v, H2, os2, bare2, un2, hok2, rv, rfl, d, fs, ea, ed, hd1, q3⟩ := hq
      obtain ⟨h2, g2, d2, t2, o2⟩ := s3
      exact ⟨rv, mk_end (raises_own T.sub T.ty) I1 le keep un2 hok2 os2 bare2 ea ed hd1 q3⟩
    | next => exact hq.elim
    | brk => exact hq.elim
    | cont => exact hq.elim
/-! ### raise C(e1, e2), C.__init__(self, f, g) storing both -/
def spIy (f g : Str) (C : Addr) : Sp := fun vs H Q _ => ∃ (a : Addr) (v u : V), vs = [.ref a, v, u] ∧ H a = some (exo a C none) ∧ ∀ dx, H dx = none → dx ≠ a → Q .non (upd (upd (upd H dx (exd dx [(f, v)])) a (exo a C (some dx))) dx (exd dx [(g, u), (f, v)]))
structure XRy (P : Program) (w : World) (K : PySem.W.Frag) (mg : Str → Option Value) (base : Heap) (k : Nat) (x : Str) (C : Addr) (f g : Str) : Prop where
  g_ : mg x = some (.ref C)
  xc : XC K C
  ini : ∃ fI fd, PySem.W.findIn K (.ref C) "__init__" = some (some (.ref fI)) ∧ PySem.W.typeIn K (.ref fI) = some (.type "function") ∧ FnOk P w K mg base CX0 k fI fd ["self", f, g] (spIy f g C) ∧ Binds K fd ["self", f, g] []
def Ry (C : Addr) (f g : Str) (v u : V) (H : Hp) (E : XK) : Prop := ∀ d H', Ex H H' → H' d = some (.xd [(g, u), (f, v)]) → E (.ref C) (some d) H'
def tRy (C : Addr) (f g : Str) (W : WX) (t1 t2 : TE) : TS := fun _ σ H => t1 σ H fun v H1 => t2 σ H1 fun u H2 => Ry C f g v u H2 fun cls d H' => W cls d σ H'
theorem ps_ry {X : Cx} {W : WX} {k : Nat} {x : Str} {C : Addr} {f g : Str} {e1 e2 : Expr} {t1 t2 : TE} {p pos pos' : Pos} (T : XRy X.prog X.w X.K X.mg X.base k x C f g) {j : Nat} (hr : Room j X.A) (hc : X.calm = true) (tk : Takes X W) (h1 : PE X e1 t1) (h2 : PE X e2 t2) (hj : k + 1 ≤ j := by decide)
    (hg : Gl X x := by rfl) (hdb : (x == ("__debug__" : Str)) = false := by decide) (z0 : starEach [e2] X.env = (false, eval e2 X.env) :: starEach [] X.env := by rfl) (z1 : starEach [e1, e2] X.env = (false, eval e1 X.env) :: starEach [e2] X.env := by rfl) (z2 : (backTo pos (starEach [e2] X.env)).any (·.1) = false := by rfl) :
    PS X (.Raise (some (.Call (.Name x p) [e1, e2] [] pos)) none pos') (tRy C f g W t1 t2) := by
  obtain ⟨fI, fd, hi, ti, F, hb⟩ := T.ini
  have z := ps_raise (pos := pos') hc tk (pmk_xc (p := p) (pos := pos) T.xc hi ti F (hr.mono hj) hb pass0 hg T.g_ (pa_cons (PE.wk h1) (pa_cons (PE.wk h2) pa_nil z0) z1) hdb z1 z2)
  refine ⟨fun pins s σ H D I h => z.run pins s σ H D I ⟨_, h, fun v H1 r => ⟨_, r, fun u H2 r2 => ⟨by show 2 ≤ 1000; decide, fun a na => ⟨a, v, u, rfl, upd_same, fun dx nd ne => ⟨rfl, dx, [(g, u), (f, v)], ?_, upd_same, ?_, ?_⟩⟩⟩⟩⟩⟩
  · rw [upd_ne ne.symm, upd_same]
  · rw [upd_ne ne] at nd
    exact nd
  · have nd' : H2 dx = none := by
      rw [upd_ne ne] at nd
      exact nd
    refine r2 dx _ (fun b o eb => ?_) upd_same
    have n1 : b ≠ dx := ne_of_none eb nd'
    have n2 : b ≠ a := ne_of_none eb na
    rw [upd_ne n1, del_ne n2, upd_ne n1, upd_ne n2, upd_ne n1, upd_ne n2]
    exact eb
end Lw
namespace Tk
open PySem PySem.Spec PyProof.Rows L2 Lw Evl LamX
open LwX (XC XF)
/-! ### .. what the head tells of the class -/
def twoB (K : PySem.W.Frag) (x f g : Str) : Bool := (He.Fa.glo x).ok K && (LwX.xcB K (He.ga K x) && (LwX.xfB K (He.ga K x) f && (LwX.xfB K (He.ga K x) g && (He.Fa.meth x "__init__").ok K)))
section
variable {P : Program} {w : World} {K : PySem.W.Frag} {mg : Str → Option Value} {base h : Heap} {C fI : Addr} {fd : FuncData} {qual x f g : Str} {params : Arguments} {scope : Scope}
structure TwoF (K : PySem.W.Frag) (mg : Str → Option Value) (x f g : Str) : Prop where
  g_ : mg x = some (.ref (He.ga K x))
  xc : XC K (He.ga K x)
  xf : XF K (He.ga K x) f
  xg : XF K (He.ga K x) g
  me : Meth K (He.ga K x) "__init__" (He.fAd K (x, some "__init__"))
theorem two_ok (X : K.In h) (G : h.Ns mainGlobals mg) (e : twoB K x f g = true) : TwoF K mg x f g := by
  obtain ⟨e1, e⟩ := He.ba e
  obtain ⟨e2, e⟩ := He.ba e
  obtain ⟨e3, e⟩ := He.ba e
  obtain ⟨e4, e5⟩ := He.ba e
  have T := LwX.xc_ok e2
  exact ⟨He.glo_ok X G e1, T, LwX.xf_ok e3, LwX.xf_ok e4, He.meth_ok e5⟩
theorem initY {q1 q2 q3 q4 r1 r2 r3 r4 : Pos} (F : FunD K "__init__" qual params [.Assign [.Attribute (.Name "self" q1) f q2] (.Name f q3) q4, .Assign [.Attribute (.Name "self" r1) g r2] (.Name g r3) r4] scope [] [] fI fd) (S : FnScope ["self", f, g] ["self", f, g] scope) (T : XC K C) (no : XF K C f) (ng : XF K C g)
    (l1 : scope.names.lookup ("self" : Str) = some .local) (l2 : scope.names.lookup f = some .local) (l3 : scope.names.lookup g = some .local) (n1 : (f == ("__debug__" : Str)) = false) (n2 : (f == ("__classdict__" : Str)) = false) (n3 : (g == ("__debug__" : Str)) = false) (n4 : (g == ("__classdict__" : Str)) = false) :
    FnOk P w K mg base CX0 1 fI fd ["self", f, g] (spIy f g C) := by
  refine fnO F S (fun vs H Q E h => ?_) (fun cdv A' outer s H vs Q E hr h => ?_)
  · obtain ⟨a, v, u, rfl, _⟩ := h
    rfl
  · obtain ⟨a, v, u, rfl, ha, q⟩ := h
    refine ⟨_, PSs.nox (pss_cons (ps_xst (pv 0 rfl (.inl l1)) (pv 1 rfl (.inl l2) n1 n2)) (pss_one (ps_xst (pv 0 rfl (.inl l1)) (pv 2 rfl (.inl l3) n3 n4)))), ?_⟩
    refine ⟨v, rfl, .ref a, rfl, a, C, rfl, T, no, .inl ⟨ha, fun dx hd ne => ?_⟩⟩
    exact ⟨u, rfl, .ref a, rfl, a, C, rfl, T, ng, .inr ⟨dx, _, upd_same, by rw [upd_ne ne]; exact upd_same, (by show 1 ≤ 900; decide), q dx hd ne⟩⟩
theorem xry {q1 q2 q3 q4 r1 r2 r3 r4 : Pos} (F : FunD K "__init__" qual params [.Assign [.Attribute (.Name "self" q1) f q2] (.Name f q3) q4, .Assign [.Attribute (.Name "self" r1) g r2] (.Name g r3) r4] scope [] [] (He.fAd K (x, some "__init__")) fd) (S : FnScope ["self", f, g] ["self", f, g] scope)
    (l1 : scope.names.lookup ("self" : Str) = some .local) (l2 : scope.names.lookup f = some .local) (l3 : scope.names.lookup g = some .local) (n1 : (f == ("__debug__" : Str)) = false) (n2 : (f == ("__classdict__" : Str)) = false) (n3 : (g == ("__debug__" : Str)) = false) (n4 : (g == ("__classdict__" : Str)) = false)
    (hb : ∀ (kV doc pm : Value) (an : Option Addr) (cdv ct : Value) (us : List Value), us.length = 3 →
      bindArgs (PySem.W.fnOf "__init__" qual params [.Assign [.Attribute (.Name "self" q1) f q2] (.Name f q3) q4, .Assign [.Attribute (.Name "self" r1) g r2] (.Name g r3) r4] scope .none kV doc pm an cdv ct) ⟨us, []⟩ = pure ((["self", f, g] : List Str).zip us)) (o : TwoF K mg x f g) : XRy P w K mg base 1 x (He.ga K x) f g :=
  ⟨o.g_, o.xc, _, _, o.me.at_, eq_of_beq o.me.fn, initY F S o.xc o.xf o.xg l1 l2 l3 n1 n2 n3 n4, F.bindsN hb⟩
end
theorem TwoF.xfc {K : PySem.W.Frag} {mg : Str → Option Value} {x f g : Str} (o : TwoF K mg x f g) : XfC K (He.ga K x) := ⟨o.xc.ga, o.xc.gg, o.xc.sub, o.xc.hd⟩
end Tk
namespace Tk
open PySem PySem.Spec PyProof.Rows L2 Lw Evl LamX TL
open Rm (R Ok Z0 Zp Fr fr_none fr_ne nt_lst nt_tup nt_dK NT Zn)
section
variable {P : Program} {w : World} {K : PySem.W.Frag} {Z : Zn} {TT : List (Addr × Str)} {H H0 H1 H2 : Hp} {σ : L2.St} {te ta tb td : TE} {a b l m CF CS d : Addr} {ws us : List (List Str)} {i j n : Nat} {Q : VK} {E : XK} {vs : List Nat}
/-- [f(w, z) for w in ws for z in g(w)] -/
theorem lc2_gen {γ : Type} {S : V → γ → Hp → Prop} {g : List Str → List γ} {wi1 : TI} (hS : ∀ v y H H2, (∀ x ys, H x = some (.tup ys) → H2 x = some (.tup ys)) → S v y H → S v y H2) (h : Ev ta σ H (.ref a)) (hl : LW K H a ws) (hz : (ws.flatMap g).length ≤ 40000)
    (hw : ∀ x, wipe ((wipe σ vs).set i (some x)) vs = wipe σ vs) (hw2 : ∀ x y, wipe ((wipe ((wipe σ vs).set i (some x)) [j]).set j (some y)) [j] = wipe ((wipe σ vs).set i (some x)) [j])
    (hin : ∀ (x : V) (w : List Str) H0, Ex H H0 → Wd K H0 x w → w ∈ ws → ∃ (J1 : It) (us1 : List V) (G1 : Hp → Prop), (∀ H1 R, Ex H0 H1 → R J1 H1 → wi1 ((wipe σ vs).set i (some x)) H1 R) ∧ Walk J1 us1.length G1 (YAt us1) ∧ (∀ H1, (∀ b o, NT o → (∀ xs, o = .lst xs → Ex H H0 ∧ H b = some o) → H0 b = some o → H1 b = some o) → G1 H1) ∧ us1.length = (g w).length ∧
      ∀ (k : Nat) (z : V) (y : γ) H1, us1[k]? = some z → (g w)[k]? = some y → Ex H H1 → Wd K H1 x w → ∀ Q : VK, (∀ v H2, Ex H1 H2 → S v y H2 → Q v H2) → te ((wipe ((wipe σ vs).set i (some x)) [j]).set j (some z)) H1 Q) {Q : VK}
    (q : ∀ D xs H2, H D = none → Ex H H2 → H2 D = some (.lst xs) → Paired (fun v y => S v y H2) xs (ws.flatMap g) → Q (.ref D) H2) : tLc2 (iList K ta) (gName i) tYes wi1 (gName j) tYes te vs [j] σ H Q := by
  refine h H (Ex.refl H) _ fun H1 e1 => ?_
  obtain ⟨us, h1, hp⟩ := lw_mono e1 hl
  have len := Paired.length hp
  refine ⟨a, rfl, ⟨us, SqL.of h1⟩, fun D hD => ?_⟩
  have stD : ∀ {G : Hp} {xs : List V} {o : HO}, G D = some (.lst xs) → ∀ x ys, G x = some (.tup ys) → (upd G D o) x = some (.tup ys) := fun hG x ys hx => by
    rw [upd_ne fun z => by
      rw [z, hG] at hx
      cases hx]
    exact hx
  have bound : ∀ n, ((ws.take n).flatMap g).length ≤ (ws.flatMap g).length := fun n => by
    have z : ws.flatMap g = (ws.take n).flatMap g ++ (ws.drop n).flatMap g := by rw [← List.flatMap_append, List.take_append_drop]
    rw [z, List.length_append]
    omega
  refine w_it walk_list (fun n H' => Ex H1 H' ∧ ∃ xs, H' D = some (.lst xs) ∧ Paired (fun v y => S v y H') xs ((ws.take n).flatMap g)) ⟨Ex.new hD, [], upd_same, .nil⟩ (fun n H' _ p => ex_l p.1 (SqL.of h1)) (fun n x H2 H3 hn p y => ?_) fun H' p => ?_
  · obtain ⟨rfl, hx⟩ := y
    obtain ⟨e2, xs, hxs, hpx⟩ := p
    obtain ⟨w, hwn, hv⟩ := paired_at hp hx
    have hwm := List.mem_of_getElem? hwn
    have tk : (ws.take (n + 1)).flatMap g = (ws.take n).flatMap g ++ g w := by
      rw [List.take_add_one, hwn, List.flatMap_append]
      simp
    refine ⟨hw _, ?_⟩
    unfold tYes
    dsimp only
    rw [if_pos rfl]
    obtain ⟨J1, us1, G1, c1, c2, c3, c4, c5⟩ := hin x w H3 (e1.trans e2) (wd_mono e2 hv) hwm
    refine c1 H3 _ (Ex.refl H3) ?_
    refine w_it c2 (fun k H' => Ex H1 H' ∧ (∀ b o, NT o → (∀ xs, o = .lst xs → Ex H H3 ∧ H b = some o) → H3 b = some o → H' b = some o) ∧ ∃ xs, H' D = some (.lst xs) ∧ Paired (fun v y => S v y H') xs ((ws.take n).flatMap g ++ (g w).take k)) ⟨e2, fun b o _ _ z => z, xs, hxs, by rw [List.take_zero, List.append_nil]; exact hpx⟩ (fun k H' _ p => c3 H' p.2.1) (fun k z H4 H5 hk p y => ?_) fun H' p => ?_
    · obtain ⟨rfl, hz2⟩ := y
      obtain ⟨e3, st, ys, hys, hpy⟩ := p
      have hk2 : k < (g w).length := by rw [← c4]; exact hk
      have hy := List.getElem?_eq_getElem hk2
      refine ⟨hw2 _ _, ?_⟩
      rw [if_pos rfl]
      refine c5 k z _ H5 hz2 hy (e1.trans e3) (wd_mono e3 hv) _ fun v H6 e6 hs => ?_
      have hy6 := e6 _ _ hys
      have lb := Paired.length hpy
      have bb := bound (n + 1)
      rw [tk, List.length_append] at bb
      rw [List.length_append, List.length_take] at lb
      refine ⟨ys, hy6, sz_lt (by omega), Ex.mut (e3.trans e6) hD, fun b o nt hlst hb => ?_, ys ++ [v], upd_same, ?_⟩
      · rw [upd_ne fun z => ?_]
        · exact e6 _ _ (st b o nt hlst hb)
        · rw [z] at hb
          have hd3 := hxs
          rw [hd3] at hb
          cases hb
          have hh := (hlst _ rfl).2
          rw [z, fresh_back e1 hD] at hh
          cases hh
      · rw [List.take_add_one, hy, ← List.append_assoc]
        exact paired_app (paired_mono (fun v y r => hS v y _ _ (stD hy6) (hS v y _ _ (fun x ys z => e6 _ _ z) r)) hpy) (.cons (hS v _ _ _ (stD hy6) hs) .nil)
    · obtain ⟨e3, _, ys, hys, hpy⟩ := p
      rw [c4, List.take_length, ← tk] at hpy
      exact ⟨e3, ys, hys, hpy⟩
  · obtain ⟨e2, xs, hxs, hpx⟩ := p
    rw [len, List.take_length] at hpx
    exact q D xs H' (fresh_back e1 hD) (e1.trans e2) hxs hpx
end
/-! ### the words over some letters -/
def upW (ss : List Str) : Nat → List (List Str)
  | 0 => [[]]
  | n + 1 => [] :: (upW ss n).flatMap fun w => ss.map fun s => w ++ [s]
theorem mem_upW {ss : List Str} : ∀ {n : Nat} {u : List Str}, u ∈ upW ss n ↔ u.length ≤ n ∧ ∀ y ∈ u, y ∈ ss
  | 0, u => by
    unfold upW
    rw [List.mem_singleton]
    exact ⟨fun z => by rw [z]; exact ⟨Nat.le_refl _, fun _ z => absurd z List.not_mem_nil⟩, fun z => List.length_eq_zero_iff.mp (by omega)⟩
  | n + 1, u => by
    unfold upW
    rw [List.mem_cons, List.mem_flatMap]
    constructor
    · rintro (rfl | ⟨w, hw, hu⟩)
      · exact ⟨Nat.zero_le _, fun _ z => absurd z List.not_mem_nil⟩
      · obtain ⟨s, hs, rfl⟩ := List.mem_map.mp hu
        obtain ⟨h1, h2⟩ := mem_upW.mp hw
        refine ⟨by rw [List.length_append, List.length_singleton]; omega, fun y hy => ?_⟩
        rcases List.mem_append.mp hy with h | h
        · exact h2 y h
        · rw [List.mem_singleton.mp h]
          exact hs
    · rintro ⟨h1, h2⟩
      rcases List.eq_nil_or_concat u with rfl | ⟨w, s, rfl⟩
      · exact .inl rfl
      · refine .inr ⟨w, mem_upW.mpr ⟨?_, fun y hy => h2 y (by rw [List.concat_eq_append]; exact List.mem_append_left _ hy)⟩, List.mem_map.mpr ⟨s, h2 s (by rw [List.concat_eq_append]; exact List.mem_append_right _ (List.mem_singleton.mpr rfl)), List.concat_eq_append.symm⟩⟩
        rw [List.length_concat] at h1
        omega
theorem upW_len {ss : List Str} (n : Nat) : (upW ss (n + 1)).length = 1 + ss.length * (upW ss n).length := by
  rw [upW, List.length_cons, List.length_flatMap]
  have z : ∀ l : List (List Str), (l.map fun w => (ss.map fun s => w ++ [s]).length).sum = ss.length * l.length := fun l => by
    induction l with
    | nil => rw [List.map_nil, List.sum_nil, List.length_nil, Nat.mul_zero]
    | cons x l ih => rw [List.map_cons, List.sum_cons, ih, List.length_map, List.length_cons, Nat.mul_succ, Nat.add_comm]
  rw [z]
  omega
theorem upW_le {ss : List Str} (h : ss.length ≤ 3) : (upW ss 0).length = 1 ∧ (upW ss 1).length ≤ 4 ∧ (upW ss 2).length ≤ 13 ∧ (upW ss 3).length ≤ 40 := by
  have h0 : (upW ss 0).length = 1 := rfl
  have h1 : (upW ss 1).length = 1 + ss.length * (upW ss 0).length := upW_len 0
  have h2 : (upW ss 2).length = 1 + ss.length * (upW ss 1).length := upW_len 1
  have h3 : (upW ss 3).length = 1 + ss.length * (upW ss 2).length := upW_len 2
  rw [h0] at h1
  have l1 : (upW ss 1).length ≤ 4 := by omega
  have l2 : (upW ss 2).length ≤ 13 := by
    rw [h2]
    have := Nat.mul_le_mul h l1
    omega
  refine ⟨rfl, l1, l2, ?_⟩
  rw [h3]
  have := Nat.mul_le_mul h l2
  omega
def fullW (ss : List Str) (n : Nat) : List (List Str) := clW (upW ss n)
theorem mem_fullW {ss : List Str} {n : Nat} {u : List Str} : u ∈ fullW ss n ↔ u.length ≤ n ∧ ∀ y ∈ u, y ∈ ss := by
  unfold fullW
  rw [mem_clW]
  constructor
  · rintro (rfl | ⟨w, hw, hu⟩)
    · exact ⟨Nat.zero_le _, fun _ z => absurd z List.not_mem_nil⟩
    · obtain ⟨h1, h2⟩ := mem_upW.mp hw
      obtain ⟨k, _, rfl⟩ := mem_begs.mp hu
      exact ⟨by rw [List.length_take]; omega, fun y hy => h2 y (List.mem_of_mem_take hy)⟩
  · exact fun h => .inr ⟨u, mem_upW.mpr h, self_begs u⟩
theorem fullW_cl (ss : List Str) (n : Nat) : Cl (fullW ss n) := cl_clW _
theorem fullW_same {ss ts : List Str} {n : Nat} (h : ∀ y, y ∈ ss ↔ y ∈ ts) : fullW ss n = fullW ts n := sd_uniq clW_sd clW_sd fun u => by
  show u ∈ fullW ss n ↔ u ∈ fullW ts n
  rw [mem_fullW, mem_fullW]
  exact ⟨fun ⟨a, b⟩ => ⟨a, fun y hy => (h y).mp (b y hy)⟩, fun ⟨a, b⟩ => ⟨a, fun y hy => (h y).mpr (b y hy)⟩⟩
def spFull (K : PySem.W.Frag) (T : List (Addr × Str)) (CF CM : Addr) : Sp := fun vs H Q E => ∃ (l : Addr) (xs ss : List Str) (n : Nat), vs = [.ref CF, .ref l, .int (n : Int)] ∧ Tabs T H ∧ (H l = some (.lst (xs.map V.str)) ∨ H l = some (.tup (xs.map V.str))) ∧ (∀ s ∈ xs, isL s = true) ∧ xs.length ≤ 1000 ∧ n ≤ 3 ∧ ss.Nodup ∧ (∀ s, s ∈ ss ↔ s ∈ xs) ∧
  ((ss.length ≤ 3 ∧ ∀ x H', Fr H x → R (Z0 T) H H' → FrAt K CF H' x (fullW ss n) → Q (.ref x) H') ∨ (3 < ss.length ∧ Ry CM "what" "limit" (.str "letters") (.int 3) H E))
end Tk
namespace Tk
open PySem PySem.Spec PyProof.Rows L2 Lw Evl LamX TL
open Rm (R Ok Z0 Zp Fr fr_none fr_ne nt_lst nt_tup nt_dK NT Zn)
/-! ### the words of one length, by their numbers -/
def dig (ss : List Str) : Nat → Nat → List Str
  | 0, _ => []
  | k + 1, c => dig ss k c ++ [ss.getD (c / ss.length ^ k % ss.length) ""]
theorem dig_len {ss : List Str} {c : Nat} : ∀ k, (dig ss k c).length = k
  | 0 => rfl
  | k + 1 => by rw [dig, List.length_append, dig_len k]; rfl
theorem dig_mod {ss : List Str} {c j : Nat} : ∀ {k : Nat}, k ≤ j → dig ss k (c % ss.length ^ j) = dig ss k c
  | 0, _ => rfl
  | k + 1, h => by
    rw [dig, dig, dig_mod (by omega : k ≤ j)]
    congr 3
    have e : ss.length ^ j = ss.length ^ k * ss.length ^ (j - k) := by rw [← Nat.pow_add]; congr 1; omega
    rw [e, Nat.mod_mul_right_div_self]
    obtain ⟨i, hi⟩ : ∃ i, j - k = i + 1 := ⟨j - k - 1, by omega⟩
    rw [hi, Nat.pow_succ]
    exact Nat.mod_mod_of_dvd _ (Nat.dvd_mul_left ..)
theorem dig_mem {ss : List Str} (h : 0 < ss.length) {c : Nat} : ∀ k, ∀ y ∈ dig ss k c, y ∈ ss
  | 0, y, hy => absurd hy List.not_mem_nil
  | k + 1, y, hy => by
    rw [dig] at hy
    rcases List.mem_append.mp hy with hy | hy
    · exact dig_mem h k y hy
    · rw [List.mem_singleton.mp hy]
      have lt : c / ss.length ^ k % ss.length < ss.length := Nat.mod_lt _ h
      rw [List.getD_eq_getElem?_getD, List.getElem?_eq_getElem lt]
      exact List.getElem_mem lt
/-- each word of k letters has a number -/
theorem dig_all {ss : List Str} : ∀ {k : Nat} {u : List Str}, u.length = k → (∀ y ∈ u, y ∈ ss) → ∃ c, c < ss.length ^ k ∧ dig ss k c = u
  | 0, u, hu, _ => ⟨0, by rw [Nat.pow_zero]; decide, (List.length_eq_zero_iff.mp hu).symm⟩
  | k + 1, u, hu, hm => by
    rcases List.eq_nil_or_concat u with rfl | ⟨w, s, rfl⟩
    · cases hu
    · rw [List.concat_eq_append] at hu hm ⊢
      have hw : w.length = k := by rw [List.length_append, List.length_singleton] at hu; omega
      obtain ⟨c, hc, e⟩ := dig_all hw fun y hy => hm y (List.mem_append_left _ hy)
      have hs : s ∈ ss := hm s (List.mem_append_right _ (List.mem_singleton.mpr rfl))
      obtain ⟨i, hi, es⟩ := List.getElem_of_mem hs
      have mp : 0 < ss.length ^ k := Nat.lt_of_le_of_lt (Nat.zero_le _) hc
      refine ⟨c + ss.length ^ k * i, ?_, ?_⟩
      · rw [Nat.pow_succ]
        calc c + ss.length ^ k * i < ss.length ^ k + ss.length ^ k * i := by omega
          _ = ss.length ^ k * (i + 1) := by rw [Nat.mul_succ, Nat.add_comm]
          _ ≤ ss.length ^ k * ss.length := Nat.mul_le_mul_left _ hi
      · have e1 : dig ss k (c + ss.length ^ k * i) = w := by
          rw [← dig_mod (Nat.le_refl k), Nat.add_mul_mod_self_left, Nat.mod_eq_of_lt hc, e]
        have e2 : (c + ss.length ^ k * i) / ss.length ^ k % ss.length = i := by
          rw [Nat.add_mul_div_left _ _ mp, Nat.div_eq_of_lt hc, Nat.zero_add, Nat.mod_eq_of_lt hi]
        rw [dig, e1, e2, List.getD_eq_getElem?_getD, List.getElem?_eq_getElem hi, es]
        rfl
/-- the words found so far: all of fewer than k letters, then the first c of k letters -/
def numW (ss : List Str) (k c : Nat) : List (List Str) := (List.range k).flatMap (fun i => (List.range (ss.length ^ i)).map (dig ss i)) ++ (List.range c).map (dig ss k)
theorem numW_next {ss : List Str} {k c : Nat} : numW ss k c ++ [dig ss k c] = numW ss k (c + 1) := by
  unfold numW
  rw [List.range_succ, List.map_append, List.append_assoc]
  rfl
theorem numW_turn {ss : List Str} {k : Nat} : numW ss k (ss.length ^ k) = numW ss (k + 1) 0 := by
  unfold numW
  rw [List.range_succ, List.flatMap_append]
  simp
theorem mem_numW {ss : List Str} {n : Nat} {u : List Str} : u ∈ numW ss (n + 1) 0 ↔ u.length ≤ n ∧ ∀ y ∈ u, y ∈ ss := by
  unfold numW
  rw [List.range_zero, List.map_nil, List.append_nil, List.mem_flatMap]
  constructor
  · rintro ⟨i, hi, hu⟩
    have hi := List.mem_range.mp hi
    obtain ⟨c, hc, rfl⟩ := List.mem_map.mp hu
    have hc := List.mem_range.mp hc
    refine ⟨by rw [dig_len]; omega, fun y hy => ?_⟩
    rcases Nat.eq_zero_or_pos ss.length with z | z
    · rcases Nat.eq_zero_or_pos i with rfl | ip
      · exact absurd hy List.not_mem_nil
      · rw [z, Nat.zero_pow ip] at hc
        omega
    · exact dig_mem z i y hy
  · rintro ⟨h1, h2⟩
    obtain ⟨c, hc, e⟩ := dig_all rfl h2
    exact ⟨u.length, List.mem_range.mpr (by omega), List.mem_map.mpr ⟨c, List.mem_range.mpr hc, e⟩⟩
theorem numW_full {ss : List Str} {n : Nat} : srtW (numW ss (n + 1) 0) = fullW ss n := sd_uniq (srtW_sd _) clW_sd fun u => by
  show _ ↔ u ∈ fullW ss n
  rw [srtW_mem, mem_numW, mem_fullW]
theorem sum_range {m : Nat} : ∀ (k : Nat) (f : Nat → Nat), (∀ i, i < k → f i ≤ m) → ((List.range k).map f).sum ≤ k * m
  | 0, f, _ => by simp
  | k + 1, f, h => by
    rw [List.range_succ, List.map_append, List.sum_append, Nat.succ_mul]
    have a := sum_range k f fun i hi => h i (by omega)
    have b := h k (by omega)
    simp
    omega
theorem pow_le {m k : Nat} (h : m ≤ 3) (hk : k ≤ 3) : m ^ k ≤ 27 := by
  match k, hk with
  | 0, _ => rw [Nat.pow_zero]; decide
  | 1, _ => rw [Nat.pow_one]; omega
  | 2, _ => exact Nat.le_trans (Nat.pow_le_pow_left h 2) (by decide)
  | 3, _ => exact Nat.le_trans (Nat.pow_le_pow_left h 3) (by decide)
theorem numW_len {ss : List Str} (h : ss.length ≤ 3) {k c : Nat} (hk : k ≤ 4) (hc : c ≤ 27) : (numW ss k c).length ≤ 135 := by
  unfold numW
  rw [List.length_append, List.length_flatMap, List.length_map, List.length_range]
  have z := sum_range (m := 27) k (fun i => ((List.range (ss.length ^ i)).map (dig ss i)).length) fun i hi => by
    rw [List.length_map, List.length_range]
    exact pow_le h (by omega)
  omega
/-! ### full fronts, looked at -/
section
variable {ss : List Str} {n : Nat} {s : Str}
theorem full_behind (hs : s ∈ ss) : bhW (fullW ss (n + 1)) s = fullW ss n := sd_uniq ((fullW_cl ss (n + 1)).behind (mem_fullW.mpr ⟨by show 1 ≤ n + 1; omega, fun y hy => by rw [List.mem_singleton.mp hy]; exact hs⟩)).sd clW_sd fun u => by
  show _ ↔ u ∈ fullW ss n
  rw [mem_bhW, mem_fullW, mem_fullW, List.length_cons]
  exact ⟨fun ⟨a, b⟩ => ⟨by omega, fun y hy => b y (List.mem_cons_of_mem _ hy)⟩, fun ⟨a, b⟩ => ⟨by omega, fun y hy => (List.mem_cons.mp hy).elim (fun z => z ▸ hs) (b y)⟩⟩
theorem full_cut {m : Nat} (h : m ≤ n) : (fullW ss n).filter (fun w => decide (w.length ≤ m)) = fullW ss m := sd_uniq ((fullW_cl ss n).cut m).sd clW_sd fun u => by
  show _ ↔ u ∈ fullW ss m
  rw [List.mem_filter, decide_eq_true_iff, mem_fullW, mem_fullW]
  exact ⟨fun ⟨⟨_, b⟩, c⟩ => ⟨c, b⟩, fun ⟨a, b⟩ => ⟨⟨by omega, b⟩, a⟩⟩
theorem full_isW (h : ∀ s ∈ ss, isL s = true) (hn : n ≤ 3) : ∀ u ∈ fullW ss n, isW u = true := fun u hu => by
  obtain ⟨a, b⟩ := mem_fullW.mp hu
  exact isW_iff.mpr ⟨by omega, fun y hy => h y (b y hy)⟩
theorem full_len (h : ss.length ≤ 3) (hn : n ≤ 3) : (fullW ss n).length ≤ 40 := by
  have z := nodup_le (m := upW ss n) (sd_nodup (fullW_cl ss n).sd) fun u hu => mem_upW.mpr (mem_fullW.mp hu)
  obtain ⟨l0, l1, l2, l3⟩ := upW_le h
  match n, hn with
  | 0, _ => rw [l0] at z; omega
  | 1, _ => omega
  | 2, _ => omega
  | 3, _ => omega
theorem full_singles : s ∈ singles (fullW ss (n + 1)) ↔ s ∈ ss := by
  rw [mem_singles, mem_fullW]
  exact ⟨fun ⟨_, b⟩ => b s (List.mem_singleton.mpr rfl), fun h => ⟨by show 1 ≤ n + 1; omega, fun y hy => by rw [List.mem_singleton.mp hy]; exact h⟩⟩
theorem singles_zero : singles (fullW ss 0) = [] := by
  cases e : singles (fullW ss 0) with
  | nil => rfl
  | cons s l =>
    have h : s ∈ singles (fullW ss 0) := by rw [e]; exact List.mem_cons_self
    rw [mem_singles, mem_fullW] at h
    exact absurd h.1 (by show ¬ 1 ≤ 0; decide)
theorem singles_nodup {ws : List (List Str)} (h : Sd ws) : (singles ws).Nodup := List.Pairwise.imp (fun {a b} r e => r (by rw [e])) (List.pairwise_map.mp (sd_nodup (singles_sd h)))
/-- what sorted(letters) comes to -/
theorem full_sorted {ys : List Str} (nd : ss.Nodup) (hp : ys.Perm ss) (hs : sortedS ys = true) : ys = singles (fullW ss (n + 1)) := by
  refine sort_same (hp.trans ?_) hs (singles_sd clW_sd)
  exact (List.perm_ext_iff_of_nodup nd (singles_nodup clW_sd)).mpr fun s => full_singles.symm
/-- the greatest length -/
theorem full_long {m : Int} (h1 : ∃ w ∈ fullW ss n, m = (w.length : Int)) (h2 : ∀ w ∈ fullW ss n, (w.length : Int) ≤ m) : m = if ss ≠ [] then (n : Int) else 0 := by
  obtain ⟨w, hw, rfl⟩ := h1
  obtain ⟨a, b⟩ := mem_fullW.mp hw
  cases ss with
  | nil =>
    rw [if_neg (fun z => z rfl)]
    cases w with
    | nil => rfl
    | cons y w => exact absurd (b y List.mem_cons_self) List.not_mem_nil
  | cons s ss =>
    rw [if_pos (fun z => by cases z)]
    have z := h2 (List.replicate n s) (mem_fullW.mpr ⟨by rw [List.length_replicate]; omega, fun y hy => by rw [List.eq_of_mem_replicate hy]; exact List.mem_cons_self⟩)
    rw [List.length_replicate] at z
    omega
theorem upW_nodup (h : ss.Nodup) : ∀ n, (upW ss n).Nodup
  | 0 => by rw [upW]; simp
  | n + 1 => by
    rw [upW, List.nodup_cons]
    refine ⟨fun z => ?_, ?_⟩
    · obtain ⟨w, _, hw⟩ := List.mem_flatMap.mp z
      obtain ⟨s, _, e⟩ := List.mem_map.mp hw
      simp at e
    · have key : ∀ l : List (List Str), l.Nodup → (l.flatMap fun w => ss.map fun s => w ++ [s]).Nodup := fun l => by
        induction l with
        | nil => exact fun _ => List.nodup_nil
        | cons w l ih =>
          intro hl
          obtain ⟨h1, h2⟩ := List.nodup_cons.mp hl
          rw [List.flatMap_cons]
          refine List.nodup_append.mpr ⟨List.pairwise_map.mpr (List.Pairwise.imp (fun {a b} r e => r (by simpa using e)) h), ih h2, fun u hu v hv e => ?_⟩
          obtain ⟨s, _, rfl⟩ := List.mem_map.mp hu
          obtain ⟨x, hx, hv⟩ := List.mem_flatMap.mp hv
          obtain ⟨t, _, rfl⟩ := List.mem_map.mp hv
          have z := List.append_inj' e rfl
          rw [z.1] at h1
          exact h1 hx
      exact key _ (upW_nodup h n)
theorem full_forty (nd : ss.Nodup) (h : ss.length = 3) : (fullW ss 3).length = 40 := by
  have a : (fullW ss 3).length = (upW ss 3).length := (List.perm_ext_iff_of_nodup (sd_nodup (fullW_cl ss 3).sd) (upW_nodup nd 3) |>.mpr fun u => by rw [mem_fullW, mem_upW]).length_eq
  have h1 : (upW ss 1).length = 1 + ss.length * (upW ss 0).length := upW_len 0
  have h2 : (upW ss 2).length = 1 + ss.length * (upW ss 1).length := upW_len 1
  have h3 : (upW ss 3).length = 1 + ss.length * (upW ss 2).length := upW_len 2
  have h0 : (upW ss 0).length = 1 := rfl
  rw [h, h0] at h1
  rw [h, h1] at h2
  rw [h, h2] at h3
  rw [a, h3]
end
end Tk
namespace Tk
open PySem PySem.Spec PyProof.Rows L2 Lw Evl LamX TL
open Rm (R Ok Z0 Zp Fr fr_none fr_ne nt_lst nt_tup nt_dK NT Zn)
theorem er_map {α β : Type} (f : α → β) : ∀ (l : List α) (k : Nat), (l.map f).eraseIdx k = (l.eraseIdx k).map f
  | [], _ => rfl
  | _ :: _, 0 => rfl
  | x :: l, k + 1 => by
    rw [List.map_cons, List.eraseIdx_cons_succ, List.eraseIdx_cons_succ, List.map_cons, er_map f l k]
theorem at_pop {ps : List Str} {d : Int} (h0 : 0 ≤ d) (h1 : d < (ps.length : Int)) : ∃ (k : Nat) (y : Str), seqIndex? d (ps.map V.str).length = some k ∧ ps[k]? = some y ∧ k < ps.length := by
  obtain ⟨k, rfl⟩ := Int.eq_ofNat_of_zero_le h0
  have hk : k < ps.length := by omega
  refine ⟨k, ps[k], ?_, List.getElem?_eq_getElem hk, hk⟩
  unfold seqIndex?
  rw [List.length_map]
  rw [if_neg (by omega : ¬ ((k : Int) < 0))]
  simp [hk]
theorem eqv_nil (xs : List Str) : PyData.eqv (.list (xs.map PyData.str)) (.list []) = decide (xs = []) := by
  cases xs with
  | nil => rfl
  | cons x xs => rfl
section
variable {K : PySem.W.Frag} {σ : L2.St} {H : Hp} {a : Addr} {ps : List Str} {i : Nat} {te : TE}
/-- texts != [] -/
theorem et_neNil (h : Ev te σ H (.ref a)) (ha : H a = some (.lst (ps.map V.str))) (hp : ∀ s ∈ ps, isL s = true) : EvT (tTest (tOp (rNeD K) te (tLst tNil))) σ H (!decide (ps = [])) := fun H1 e Q q => h H1 e _ fun H2 e2 => ⟨Nat.zero_le _, fun e0 he0 => ⟨.list (ps.map PyData.str), .list [], .lst (SqL.of ((Ex.new he0) _ _ ((e.trans e2) _ _ ha))) (dpa_str ps), .lst (SqL.of upd_same) .nil, shaped_strs (fun x hx => strOk_of (hp x hx)), rfl, _, rfl, by rw [eqv_nil]; exact q _ (e2.trans (Ex.new he0))⟩⟩
end
def spAll (K : PySem.W.Frag) : Sp := fun vs H Q _ => ∃ (g : Addr) (xs : List Str) (n : Nat), vs = [.ref g, .int (n : Int)] ∧ H g = some (.lst (xs.map V.str)) ∧ xs.length ≤ 3 ∧ (∀ s ∈ xs, isL s = true) ∧ n ≤ 3 ∧ ∀ r H', H r = none → Ex H H' → LW K H' r (fullW xs n) → Q (.ref r) H'
def spSpread (T : List (Addr × Str)) : Sp := fun vs H Q _ => ∃ (p g : Addr) (xs : List Str), vs = [.ref p, .ref g] ∧ Ok (Zp T p) H ∧ H g = some (.lst (xs.map V.str)) ∧ g ≠ p ∧ (∀ s ∈ xs, isL s = true) ∧ xs.length ≤ 8 ∧
  ∀ (r : Addr) (ys : List Str) H', Fr H r → R (Zp T p) H H' → H' r = some (.lst (ys.map V.str)) → (∀ s, s ∈ ys ↔ s ∈ xs) → ys.length ≤ xs.length + 3 → Q (.ref r) H'
def spFullR (T : List (Addr × Str)) : Sp := fun vs H Q _ => ∃ (p g : Addr) (xs : List Str), vs = [.ref p, .ref g] ∧ Ok (Zp T p) H ∧ H g = some (.lst (xs.map V.str)) ∧ g ≠ p ∧ xs.Nodup ∧ (∀ s ∈ xs, isL s = true) ∧ xs.length ≤ 3 ∧ ∀ H', R (Zp T p) H H' → Q (.bl true) H'
end Tk
namespace Tk
open PySem PySem.Spec PyProof.Rows L2 Lw Evl LamX TL
open Rm (R Ok Z0 Zp Fr fr_none fr_ne nt_lst nt_tup nt_dK NT Zn)
/-! ### the letters of some words, in their order -/
def ltW (ws : List (List Str)) : List Str := (srtW (ws.flatten.map fun s => [s])).map (·.headD "")
theorem ones_back : ∀ {us : List (List Str)}, (∀ u ∈ us, ∃ s : Str, u = [s]) → (us.map (·.headD "")).map (fun s => [s]) = us
  | [], _ => rfl
  | u :: us, h => by
    obtain ⟨s, rfl⟩ := h u (List.mem_cons_self ..)
    rw [List.map_cons, List.map_cons, ones_back fun v hv => h v (List.mem_cons_of_mem _ hv)]
    rfl
theorem ltW_ones (ws : List (List Str)) : (ltW ws).map (fun s => [s]) = srtW (ws.flatten.map fun s => [s]) := ones_back fun u hu => by
  obtain ⟨s, _, rfl⟩ := List.mem_map.mp (srtW_mem.mp hu)
  exact ⟨s, rfl⟩
theorem ltW_sd (ws : List (List Str)) : Sd ((ltW ws).map fun s => [s]) := by
  rw [ltW_ones]
  exact srtW_sd _
theorem mem_ones {xs : List Str} {s : Str} : [s] ∈ xs.map (fun x => [x]) ↔ s ∈ xs := by
  rw [List.mem_map]
  exact ⟨fun ⟨x, hx, e⟩ => by cases e; exact hx, fun h => ⟨s, h, rfl⟩⟩
theorem mem_ltW {ws : List (List Str)} {s : Str} : s ∈ ltW ws ↔ ∃ w ∈ ws, s ∈ w := by
  rw [← mem_ones (xs := ltW ws), ltW_ones, srtW_mem, mem_ones, List.mem_flatten]
theorem ones_nodup {xs : List Str} (h : Sd (xs.map fun x => [x])) : xs.Nodup := List.Pairwise.imp (fun {a b} r e => r (by rw [e])) (List.pairwise_map.mp (sd_nodup h))
theorem ltW_nodup (ws : List (List Str)) : (ltW ws).Nodup := ones_nodup (ltW_sd ws)
theorem ones_uniq {xs ys : List Str} (h : Sd (xs.map fun x => [x])) (k : Sd (ys.map fun x => [x])) (m : ∀ s, s ∈ xs ↔ s ∈ ys) : xs = ys := by
  have e := sd_uniq h k fun u => by
    rw [List.mem_map, List.mem_map]
    exact ⟨fun ⟨x, hx, e⟩ => ⟨x, (m x).mp hx, e⟩, fun ⟨x, hx, e⟩ => ⟨x, (m x).mpr hx, e⟩⟩
  have z := congrArg (List.map fun w : List Str => w.headD "") e
  rw [List.map_map, List.map_map] at z
  simpa [Function.comp_def] using z
theorem ltW_of {ys : List Str} {ws : List (List Str)} (so : sortedS ys = true) (nd : ys.Nodup) (m : ∀ s, s ∈ ys ↔ ∃ w ∈ ws, s ∈ w) : ys = ltW ws :=
  sort_same ((List.perm_ext_iff_of_nodup nd (ltW_nodup ws)).mpr fun s => by rw [m, mem_ltW]) so (ltW_sd ws)
theorem ltW_same {ws us : List (List Str)} (h : ∀ s, (∃ w ∈ ws, s ∈ w) ↔ ∃ u ∈ us, s ∈ u) : ltW ws = ltW us := ones_uniq (ltW_sd ws) (ltW_sd us) fun s => by rw [mem_ltW, mem_ltW, h]
/-- .. sorted by key=str -/
theorem str_sd {xs : List Str} (h : xs.Nodup) : Sd ((xs.mergeSort (PySem.W.dataLe false PyData.str)).map fun x => [x]) := by
  have p : (xs.mergeSort (PySem.W.dataLe false PyData.str)).Perm xs := List.mergeSort_perm xs _
  have s : (xs.mergeSort (PySem.W.dataLe false PyData.str)).Pairwise fun a b => PySem.W.dataLe false PyData.str a b = true := PySem.W.sort_pairwise (PySem.W.sortLe_total _ _ _) xs
  have nd : (xs.mergeSort (PySem.W.dataLe false PyData.str)).Nodup := (List.Perm.nodup_iff p).mpr h
  refine List.pairwise_map.mpr (List.Pairwise.imp₂ (fun a b h1 h2 => ?_) s nd)
  have h1 : (!PySem.W.dataLt (PyData.str b) (PyData.str a)) = true := h1
  rw [PySem.W.dataLt_str] at h1
  rcases ahead_conn (xs := [a]) (ys := [b]) (fun e => h2 (List.cons.inj e).1) with z | z
  · exact z
  · rw [lt_ones] at z
    rw [z] at h1
    cases h1
theorem str_ltW {xs : List Str} {ws : List (List Str)} (h : xs.Nodup) (m : ∀ s, s ∈ xs ↔ ∃ w ∈ ws, s ∈ w) : xs.mergeSort (PySem.W.dataLe false PyData.str) = ltW ws :=
  ones_uniq (str_sd h) (ltW_sd ws) fun s => by rw [(List.mergeSort_perm xs _).mem_iff, m, mem_ltW]
theorem flat3 {ws : List (List Str)} (h : ∀ w ∈ ws, w.length ≤ 3) : ws.flatten.length ≤ 3 * ws.length := by
  induction ws with
  | nil => exact Nat.le_refl _
  | cons w ws ih =>
    have h1 := ih fun x hx => h x (List.mem_cons_of_mem _ hx)
    have h2 := h w (List.mem_cons_self ..)
    rw [List.flatten_cons, List.length_append, List.length_cons]
    omega
theorem ltW_len {ws : List (List Str)} (h : ∀ w ∈ ws, w.length ≤ 3) : (ltW ws).length ≤ 3 * ws.length := by
  have z := nodup_le (m := ws.flatten) (ltW_nodup ws) fun s hs => List.mem_flatten.mpr (mem_ltW.mp hs)
  have := flat3 h
  omega
theorem strs_of : ∀ {zs : List V} {ys : List Str}, Paired (fun v (y : Str) => v = V.str y) zs ys → zs = ys.map V.str
  | [], [], .nil => rfl
  | _ :: _, _ :: _, .cons r t => by rw [r, strs_of t]; rfl
/-! ### what a saying tells -/
def spLtrs (K : PySem.W.Frag) : Sp := fun vs H Q _ => ∃ (l : Addr) (ws : List (List Str)), vs = [.ref l] ∧ LW K H l ws ∧ (∀ w ∈ ws, isW w = true) ∧ ws.length ≤ 300 ∧ ∀ r H', H r = none → Ex H H' → H' r = some (.lst ((ltW ws).map V.str)) → Q (.ref r) H'
def spSyT (K : PySem.W.Frag) (CY : Addr) : Sp := fun vs H Q _ => ∃ (a : Addr) (ts ms : List (List Str)), vs = [.ref a] ∧ SyAt K CY H a ts ms ∧ ∀ r H', H r = none → Ex H H' → LW K H' r ts → Q (.ref r) H'
def spSyM (K : PySem.W.Frag) (CY : Addr) : Sp := fun vs H Q _ => ∃ (a : Addr) (ts ms : List (List Str)), vs = [.ref a] ∧ SyAt K CY H a ts ms ∧ ∀ r H', H r = none → Ex H H' → LW K H' r ms → Q (.ref r) H'
def spSyLt (K : PySem.W.Frag) (CY : Addr) : Sp := fun vs H Q _ => ∃ (a : Addr) (ts ms : List (List Str)), vs = [.ref a] ∧ SyAt K CY H a ts ms ∧ (∀ w ∈ ts, isW w = true) ∧ (∀ w ∈ ms, isW w = true) ∧ ts.length ≤ 3 ∧ ms.length ≤ 3 ∧ ∀ r H', H r = none → Ex H H' → H' r = some (.lst ((ltW (ts ++ ms)).map V.str)) → Q (.ref r) H'
def spSyML (K : PySem.W.Frag) (CY : Addr) : Sp := fun vs H Q _ => ∃ (a : Addr) (ts ms : List (List Str)), vs = [.ref a] ∧ SyAt K CY H a ts ms ∧ (∀ w ∈ ms, isW w = true) ∧ ms.length ≤ 3 ∧ ∀ r H', H r = none → Ex H H' → H' r = some (.lst ((ltW ms).map V.str)) → Q (.ref r) H'
def spSyTF (K : PySem.W.Frag) (T : List (Addr × Str)) (CY CF : Addr) : Sp := fun vs H Q _ => ∃ (a : Addr) (ts ms : List (List Str)), vs = [.ref a] ∧ SyAt K CY H a ts ms ∧ (∀ w ∈ ts, isW w = true) ∧ ts.length ≤ 3 ∧ Tabs T H ∧ ∀ x H', Fr H x → R (Z0 T) H H' → FrAt K CF H' x (clW ts) → Q (.ref x) H'
def spSyMF (K : PySem.W.Frag) (T : List (Addr × Str)) (CY CF : Addr) : Sp := fun vs H Q _ => ∃ (a : Addr) (ts ms : List (List Str)), vs = [.ref a] ∧ SyAt K CY H a ts ms ∧ (∀ w ∈ ms, isW w = true) ∧ ms.length ≤ 3 ∧ Tabs T H ∧ ∀ x H', Fr H x → R (Z0 T) H H' → FrAt K CF H' x (clW ms) → Q (.ref x) H'
def syText (ts ms : List (List Str)) : Str := Str.empty ++ ("Saying(" : Str) ++ (PyData.list (ts.map wD)).shown ++ (", " : Str) ++ (PyData.list (ms.map wD)).shown ++ (")" : Str)
def spSyRepr (K : PySem.W.Frag) (CY : Addr) : Sp := fun vs H Q _ => ∃ (a : Addr) (ts ms : List (List Str)), vs = [.ref a] ∧ SyAt K CY H a ts ms ∧ (∀ w ∈ ts, isW w = true) ∧ (∀ w ∈ ms, isW w = true) ∧ ts.length ≤ 3 ∧ ms.length ≤ 3 ∧ ∀ H', Ex H H' → Q (.str (syText ts ms)) H'
end Tk
namespace K21
open PySem PySem.Spec PyProof.Rows L2 Lw Evl LamX Tk
open Rm (R Ok Z0 Zp Fr fr_none fr_ne nt_lst nt_tup)
open LwX (XC XF)
section
variable {P : Program} {w : World} {K : PySem.W.Frag} {mg : Str → Option Value} {base : Heap} {TT : List (Addr × Str)} {CY CF CT CM CS dA : Addr}
abbrev s_letters_of : Stmt := topS 24
theorem sc_letters_of : FnScope ["rows", "row", "letter"] ["rows"] (defScope s_letters_of) := ⟨rfl, rfl, rfl, by decide +kernel, rfl, by decide +kernel, by decide +kernel⟩
theorem ok_letters_of {f : Addr} {fd : FuncData} (F : FunD K "letters_of" "letters_of" (defArgs s_letters_of) (defBody s_letters_of) (defScope s_letters_of) [] [] f fd) (T : Tx P w K mg base)  : FnOk P w K mg base CX0 1 f fd ["rows"] (spLtrs K) := by
  refine fnO F sc_letters_of (fun vs H Q E h => ?_) (fun cdv A outer s H vs Q E hr h => ?_)
  · obtain ⟨l, ws, rfl, _⟩ := h
    rfl
  · skip
    refine ⟨_, PSs.nox ((pss_one (ps_ret (pe_callB (Ts.cr_sortTxK (P := P) (w := w)) (by rfl) T.m_sorted (by decide +kernel) (pa_cons (pe_callTy (Ts.cr_setTxK (K := K) (P := P) (w := w)) (by rfl) T.m_set (by decide +kernel) (pa_cons (pe_lc2 (own := [("row", 1), ("letter", 2)]) (vs1 := [2]) (g := gName 1) (g1 := gName 2) (tt := tYes) (tt1 := tYes) rfl sc_letters_of.nd (pi_listK (K := K) (pv 0)) (blkOk_by (own := [("row", 1), ("letter", 2)]) (N := ["rows", "row", "letter"]) (sc := defScope s_letters_of) (by decide +kernel)) (by decide) (fun _ _ _ _ _ => pg_name (i := 1) sc_letters_of.nd rfl (by first | exact Or.inl rfl | exact Or.inr rfl)) (fun _ _ _ _ _ => pts_nil) (fun _ _ _ _ _ => (pi_tupK (K := K) (pv 1))) (fun _ _ _ _ _ => pg_name (i := 2) sc_letters_of.nd rfl (by first | exact Or.inl rfl | exact Or.inr rfl)) (fun _ _ _ _ _ => pts_nil) (fun _ _ _ _ _ => (pv 2))) pa_nil)) pa_nil))))), ?_⟩
    obtain ⟨l, ws, rfl, hl, hw, hz, q⟩ := h
    have h3 := isW_3 hw
    have fl := flat3 h3
    show tLc2 (iList K (tVar 0)) (gName 1) tYes (iTup K (tVar 1)) (gName 2) tYes (tVar 2) [1, 2] [2] [some (.ref l), none, none] H (fun v H1 => Ts.rSetTx K P w [v] H1 fun u H2 => Ts.rSortTx P w [u] H2 fun x H3 => Q x H3)
    refine lc2_gen (σ := [some (.ref l), none, none]) (i := 1) (j := 2) (vs := [1, 2]) (te := tVar 2) (wi1 := iTup K (tVar 1)) (S := fun v (y : Str) _ => v = .str y) (g := fun w => w) (K := K) (H := H) (ta := tVar 0) (a := l) (fun v y H1 H2 st r => r) (ev_var rfl) hl (by rw [List.flatMap_id']; omega) (fun _ => rfl) (fun _ _ => rfl) (fun x w G0 e0 hv hm => ?_) fun D zs G2 nD e2 hD hp => ?_
    · obtain ⟨b, rfl, hb⟩ := id hv
      refine ⟨Itt K b, w.map V.str, fun H1 => SqT K H1 b (w.map V.str), fun G1 R e1 r => ⟨_, rfl, b, rfl, ⟨_, SqT.of (e1 _ _ hb)⟩, r⟩, walk_tup, fun G1 st => SqT.of (st b _ nt_tup (fun xs z => nomatch z) hb), by rw [List.length_map], fun k z y G1 hz hy e1 hv1 Q q => ?_⟩
      rw [List.getElem?_map, hy] at hz
      cases hz
      exact ⟨_, rfl, q _ G1 (Ex.refl G1) rfl⟩
    · rw [List.flatMap_id'] at hp
      have ez : zs = ws.flatten.map V.str := strs_of hp
      subst ez
      refine ⟨D, ws.flatten, rfl, .inl (SqL.of hD), by omega, fun a L ha hm hnd hL => ⟨a, L, rfl, upd_same, by omega, fun ys p pm so hp2 => ?_⟩⟩
      have e3 := (e2.trans (Ex.new (o := Ts.TxO P w a L) ha)).trans (Ex.new (o := .lst (ys.map V.str)) hp2)
      have ey : ys = ltW ws := ltW_of so (pm.nodup_iff.mpr hnd) fun s => by rw [pm.mem_iff, hm, List.mem_flatten]
      refine q p _ ?_ e3 (by rw [← ey]; exact upd_same)
      exact fresh_back (e2.trans (Ex.new (o := Ts.TxO P w a L) ha)) hp2

abbrev s_sy_triggers : Stmt := inClass (topS 27) 2
theorem sc_sy_triggers : FnScope ["self"] ["self"] (defScope s_sy_triggers) := ⟨rfl, rfl, rfl, by decide +kernel, rfl, by decide +kernel, by decide +kernel⟩
theorem ok_sy_triggers {f : Addr} {fd : FuncData} (F : FunD K "triggers" "Saying.triggers" (defArgs s_sy_triggers) (defBody s_sy_triggers) (defScope s_sy_triggers) [] [] f fd) (T : Tx P w K mg base) (OSy : OwnC K mg "Saying" CY) (nT : NoAttr K CY "_triggers") : FnOk P w K mg base CX0 1 f fd ["self"] (spSyT K CY) := by
  refine fnO F sc_sy_triggers (fun vs H Q E h => ?_) (fun cdv A outer s H vs Q E hr h => ?_)
  · obtain ⟨a, ts, ms, rfl, _⟩ := h
    rfl
  · skip
    refine ⟨_, PSs.nox ((pss_one (ps_ret (pe_callTy call_list_of (by rfl) T.m_list (by decide +kernel) (pa_cons (pe_fldK (pv 0)) pa_nil))))), ?_⟩
    obtain ⟨a, ts, ms, rfl, ⟨dx, lt, lm, ha, hT, hM⟩, q⟩ := h
    obtain ⟨us, hus, hp⟩ := hT
    exact ev_fld OSy nT (ev_var rfl) ha rfl H (Ex.refl H) _ fun H1 e1 => ⟨lt, us, rfl, .inl (SqL.of (e1 _ _ hus)), fun l hl => q l _ (fresh_back e1 hl) (e1.trans (Ex.new hl)) ⟨us, upd_same, paired_mono (fun _ _ r => wd_mono (e1.trans (Ex.new hl)) r) hp⟩⟩

abbrev s_sy_makes : Stmt := inClass (topS 27) 3
theorem sc_sy_makes : FnScope ["self"] ["self"] (defScope s_sy_makes) := ⟨rfl, rfl, rfl, by decide +kernel, rfl, by decide +kernel, by decide +kernel⟩
theorem ok_sy_makes {f : Addr} {fd : FuncData} (F : FunD K "makes" "Saying.makes" (defArgs s_sy_makes) (defBody s_sy_makes) (defScope s_sy_makes) [] [] f fd) (T : Tx P w K mg base) (OSy : OwnC K mg "Saying" CY) (nM : NoAttr K CY "_makes") : FnOk P w K mg base CX0 1 f fd ["self"] (spSyM K CY) := by
  refine fnO F sc_sy_makes (fun vs H Q E h => ?_) (fun cdv A outer s H vs Q E hr h => ?_)
  · obtain ⟨a, ts, ms, rfl, _⟩ := h
    rfl
  · skip
    refine ⟨_, PSs.nox ((pss_one (ps_ret (pe_callTy call_list_of (by rfl) T.m_list (by decide +kernel) (pa_cons (pe_fldK (pv 0)) pa_nil))))), ?_⟩
    obtain ⟨a, ts, ms, rfl, ⟨dx, lt, lm, ha, hT, hM⟩, q⟩ := h
    obtain ⟨us, hus, hp⟩ := hM
    exact ev_fld OSy nM (ev_var rfl) ha rfl H (Ex.refl H) _ fun H1 e1 => ⟨lm, us, rfl, .inl (SqL.of (e1 _ _ hus)), fun l hl => q l _ (fresh_back e1 hl) (e1.trans (Ex.new hl)) ⟨us, upd_same, paired_mono (fun _ _ r => wd_mono (e1.trans (Ex.new hl)) r) hp⟩⟩

abbrev s_sy_letters : Stmt := inClass (topS 27) 4
theorem sc_sy_letters : FnScope ["self"] ["self"] (defScope s_sy_letters) := ⟨rfl, rfl, rfl, by decide +kernel, rfl, by decide +kernel, by decide +kernel⟩
theorem ok_sy_letters {f : Addr} {fd : FuncData} (F : FunD K "letters" "Saying.letters" (defArgs s_sy_letters) (defBody s_sy_letters) (defScope s_sy_letters) [] [] f fd) (T : Tx P w K mg base) (OSy : OwnC K mg "Saying" CY) (nT : NoAttr K CY "_triggers") (nM : NoAttr K CY "_makes") (dletters_of : CalO P w K mg base CX0 1 "letters_of" ["rows"] (spLtrs K)) : FnOk P w K mg base CX0 2 f fd ["self"] (spSyLt K CY) := by
  refine fnO F sc_sy_letters (fun vs H Q E h => ?_) (fun cdv A outer s H vs Q E hr h => ?_)
  · obtain ⟨a, ts, ms, rfl, _⟩ := h
    rfl
  · skip
    refine ⟨_, PSs.nox ((pss_one (ps_ret (pe_calO dletters_of hr pass0 (pa_cons (pe_op op_cat (pe_fldK (pv 0)) (pe_fldK (pv 0))) pa_nil))))), ?_⟩
    obtain ⟨a, ts, ms, rfl, ⟨dx, lt, lm, ha, hT, hM⟩, w1, w2, z1, z2, q⟩ := h
    exact elw_catVV (ev_fld OSy nT (ev_var rfl) ha rfl) (ev_fld OSy nM (ev_var rfl) ha rfl) hT hM (by omega) H (Ex.refl H) (fun v H1 => spLtrs K [v] H1 (fun x H2 => Q x H2) E0) fun t H1 nt e1 hL => ⟨t, ts ++ ms, rfl, hL, fun w hw => (List.mem_append.mp hw).elim (w1 w) (w2 w), by rw [List.length_append]; omega, fun r H2 nr e2 hr => q r H2 (fresh_back e1 nr) (e1.trans e2) hr⟩

abbrev s_sy_make_letters : Stmt := inClass (topS 27) 5
theorem sc_sy_make_letters : FnScope ["self"] ["self"] (defScope s_sy_make_letters) := ⟨rfl, rfl, rfl, by decide +kernel, rfl, by decide +kernel, by decide +kernel⟩
theorem ok_sy_make_letters {f : Addr} {fd : FuncData} (F : FunD K "make_letters" "Saying.make_letters" (defArgs s_sy_make_letters) (defBody s_sy_make_letters) (defScope s_sy_make_letters) [] [] f fd) (T : Tx P w K mg base) (OSy : OwnC K mg "Saying" CY) (nM : NoAttr K CY "_makes") (dletters_of : CalO P w K mg base CX0 1 "letters_of" ["rows"] (spLtrs K)) : FnOk P w K mg base CX0 2 f fd ["self"] (spSyML K CY) := by
  refine fnO F sc_sy_make_letters (fun vs H Q E h => ?_) (fun cdv A outer s H vs Q E hr h => ?_)
  · obtain ⟨a, ts, ms, rfl, _⟩ := h
    rfl
  · skip
    refine ⟨_, PSs.nox ((pss_one (ps_ret (pe_calO dletters_of hr pass0 (pa_cons (pe_fldK (pv 0)) pa_nil))))), ?_⟩
    obtain ⟨a, ts, ms, rfl, ⟨dx, lt, lm, ha, hT, hM⟩, w2, z2, q⟩ := h
    exact ev_fld OSy nM (ev_var rfl) ha rfl H (Ex.refl H) (fun v H1 => spLtrs K [v] H1 (fun x H2 => Q x H2) E0) fun H1 e1 => ⟨lm, ms, rfl, lw_mono e1 hM, w2, by omega, fun r H2 nr e2 hr => q r H2 (fresh_back e1 nr) (e1.trans e2) hr⟩

abbrev s_sy_tf : Stmt := inClass (topS 27) 6
theorem sc_sy_tf : FnScope ["self"] ["self"] (defScope s_sy_tf) := ⟨rfl, rfl, rfl, by decide +kernel, rfl, by decide +kernel, by decide +kernel⟩
theorem ok_sy_tf {f : Addr} {fd : FuncData} (F : FunD K "trigger_front" "Saying.trigger_front" (defArgs s_sy_tf) (defBody s_sy_tf) (defScope s_sy_tf) [] [] f fd) (T : Tx P w K mg base) (OSy : OwnC K mg "Saying" CY) (nT : NoAttr K CY "_triggers") (OFr : OwnC K mg "Front" CF) (MFr : MkD P w K mg base (L2.CX P w) 5 "Front" CF "words" dA (spFrI K TT CS CF)) : FnOk P w K mg base (L2.CX P w) 7 f fd ["self"] (spSyTF K TT CY CF) := by
  refine fnO F sc_sy_tf (fun vs H Q E h => ?_) (fun cdv A outer s H vs Q E hr h => ?_)
  · obtain ⟨a, ts, ms, rfl, _⟩ := h
    rfl
  · skip
    refine ⟨_, (pss_one (ps_ret (pe_mkD MFr hr passE0 (pa_cons (pe_fldK (pv 0)) pa_nil)))), ?_⟩
    obtain ⟨a, ts, ms, rfl, ⟨dx, lt, lm, ha, hT, hM⟩, w1, z1, ht, q⟩ := h
    exact ef_mk (Z := Z0 TT) (E := E0) (te := tFld K (tVar 0) "_triggers") (σ := [some (.ref a)]) (H := H) (CS := CS) rfl (fun G r => eg_var (ev_fld OSy nT (ev_var rfl) (r.st _ _ ha Rm.nt_ins fun z => z) rfl) (good_lot (Rm.lw_R r (fun z => z) hT) w1 (by omega))) H (.refl ⟨ht, fun _ z => z.elim⟩) _ fun x G fx r hx => q x G fx r hx

abbrev s_sy_mf : Stmt := inClass (topS 27) 7
theorem sc_sy_mf : FnScope ["self"] ["self"] (defScope s_sy_mf) := ⟨rfl, rfl, rfl, by decide +kernel, rfl, by decide +kernel, by decide +kernel⟩
theorem ok_sy_mf {f : Addr} {fd : FuncData} (F : FunD K "make_front" "Saying.make_front" (defArgs s_sy_mf) (defBody s_sy_mf) (defScope s_sy_mf) [] [] f fd) (T : Tx P w K mg base) (OSy : OwnC K mg "Saying" CY) (nM : NoAttr K CY "_makes") (OFr : OwnC K mg "Front" CF) (MFr : MkD P w K mg base (L2.CX P w) 5 "Front" CF "words" dA (spFrI K TT CS CF)) : FnOk P w K mg base (L2.CX P w) 7 f fd ["self"] (spSyMF K TT CY CF) := by
  refine fnO F sc_sy_mf (fun vs H Q E h => ?_) (fun cdv A outer s H vs Q E hr h => ?_)
  · obtain ⟨a, ts, ms, rfl, _⟩ := h
    rfl
  · skip
    refine ⟨_, (pss_one (ps_ret (pe_mkD MFr hr passE0 (pa_cons (pe_fldK (pv 0)) pa_nil)))), ?_⟩
    obtain ⟨a, ts, ms, rfl, ⟨dx, lt, lm, ha, hT, hM⟩, w1, z1, ht, q⟩ := h
    exact ef_mk (Z := Z0 TT) (E := E0) (te := tFld K (tVar 0) "_makes") (σ := [some (.ref a)]) (H := H) (CS := CS) rfl (fun G r => eg_var (ev_fld OSy nM (ev_var rfl) (r.st _ _ ha Rm.nt_ins fun z => z) rfl) (good_lot (Rm.lw_R r (fun z => z) hM) w1 (by omega))) H (.refl ⟨ht, fun _ z => z.elim⟩) _ fun x G fx r hx => q x G fx r hx

abbrev s_sy_repr : Stmt := inClass (topS 27) 11
theorem sc_sy_repr : FnScope ["self"] ["self"] (defScope s_sy_repr) := ⟨rfl, rfl, rfl, by decide +kernel, rfl, by decide +kernel, by decide +kernel⟩
theorem ok_sy_repr {f : Addr} {fd : FuncData} (F : FunD K "__repr__" "Saying.__repr__" (defArgs s_sy_repr) (defBody s_sy_repr) (defScope s_sy_repr) [] [] f fd) (T : Tx P w K mg base) (OSy : OwnC K mg "Saying" CY) (nT : NoAttr K CY "_triggers") (nM : NoAttr K CY "_makes") : FnG P w K mg base CX0 1 f fd ["self"] (spSyRepr K CY) := by
  refine fnG F sc_sy_repr (fun vs H Q E h => ?_) (fun cdv A outer s H vs Q E gd hr h => ?_)
  · obtain ⟨a, ts, ms, rfl, _⟩ := h
    rfl
  · skip
    refine ⟨_, PSs.nox ((pss_one (ps_ret (pe_joined (PJ.cons pe_str (PJ.cons (pe_fmtRL (P := P) (w := w) gd hr.units (pe_fldK (pv 0))) (PJ.cons pe_str (PJ.cons (pe_fmtRL (P := P) (w := w) gd hr.units (pe_fldK (pv 0))) (PJ.cons pe_str PJ.nil))))))))), ?_⟩
    obtain ⟨a, ts, ms, rfl, ⟨dx, lt, lm, ha, hT, hM⟩, w1, w2, z1, z2, q⟩ := h
    obtain ⟨us, hus, hp⟩ := hT
    obtain ⟨vs, hvs, hp2⟩ := hM
    obtain ⟨r1, r2, r3⟩ := lst_rok (roks_wD w1) (by rw [List.length_map]; omega)
    obtain ⟨s1, s2, s3⟩ := lst_rok (roks_wD w2) (by rw [List.length_map]; omega)
    have l1 := lst_len w1 (by omega)
    have l2 := lst_len w2 (by omega)
    have le : (Str.empty ++ ("Saying(" : Str)).length = 7 := by rfl
    have lc : ((", " : Str)).length = 2 := by rfl
    have lp : ((")" : Str)).length = 1 := by rfl
    refine ⟨_, rfl, (by show (7 : Nat) ≤ sizeLine; decide), ?_⟩
    unfold tJs
    show tFld K (tVar 0) "_triggers" [some (.ref a)] H _
    refine ev_fld OSy nT (ev_var rfl) ha rfl H (Ex.refl H) _ fun H1 e1 => ⟨lt, us, _, rfl, e1 _ _ hus, rws_words (paired_mono (fun _ _ r => wd_mono e1 r) hp), r1, r2, r3, _, rfl, (by rw [len_app, le, sizeLine_eq]; omega), _, rfl, (by rw [len_app, len_app, le, lc, sizeLine_eq]; omega), ?_⟩
    unfold tJs
    show tFld K (tVar 0) "_makes" [some (.ref a)] H1 _
    refine ev_fld OSy nM (ev_var rfl) (e1 _ _ ha) rfl H1 (Ex.refl H1) _ fun H2 e2 => ⟨lm, vs, _, rfl, (e1.trans e2) _ _ hvs, rws_words (paired_mono (fun _ _ r => wd_mono (e1.trans e2) r) hp2), s1, s2, s3, _, rfl, (by rw [len_app, len_app, len_app, le, lc, sizeLine_eq]; omega), _, rfl, (by rw [len_app, len_app, len_app, len_app, le, lc, lp, sizeLine_eq]; omega), ?_⟩
    have z := q H2 (e1.trans e2)
    unfold syText at z
    simp only [PyData.shown] at z
    exact z

end
end K21
namespace Tk
open PySem PySem.Spec PyProof.Rows L2 Lw Evl LamX TL
open Rm (R Ok Z0 Zp Fr fr_none fr_ne nt_lst nt_tup nt_dK NT Zn)
section
variable {K : PySem.W.Frag} {H : Hp} {d : Addr} {ws : List (List Str)}
/-! ### [f(w) for w in a dict of words if g(w)] -/
theorem lk_lcD {b : List Str → Bool} {B : List Str → V → Hp → Prop} {j : Nat} {vs : List Nat} {σ : L2.St} {tt : TT} {te td : TE} (hdd : H d = some (.dT (dk ws))) (hz : ws.length ≤ 40000)
    (hB : ∀ w v H H2, (∀ x ys, H x = some (.tup ys) → H2 x = some (.tup ys)) → B w v H → B w v H2) (hw : ∀ x, wipe ((wipe σ vs).set j (some x)) vs = wipe σ vs)
    (hd : ∀ H1 (Q : VK), Q (.ref d) H1 → td σ H1 Q)
    (ht : ∀ x w H1, Wd K H1 x w → w ∈ ws → EvT tt ((wipe σ vs).set j (some x)) H1 (b w)) (he : ∀ x w H1, Wd K H1 x w → w ∈ ws → b w = true → ∀ Q : VK, (∀ v H2, Ex H1 H2 → B w v H2 → Q v H2) → te ((wipe σ vs).set j (some x)) H1 Q) {Q : VK}
    (q : ∀ D xs H2, H D = none → Ex H H2 → H2 D = some (.lst xs) → Paired (fun v w => B w v H2) xs (ws.filter b) → Q (.ref D) H2) : tLockE (tLc (iKeys td) (gName j) tt te vs) σ H Q := by
  refine ⟨d, _, hdd, trivial, fun od => ?_⟩
  refine hd _ _ ⟨d, od, rfl, .inr ⟨dk ws, upd_same, fun D hD => ?_⟩⟩
  have Dd : D ≠ d := fun z => by
    rw [z, upd_same] at hD
    cases hD
  have hD0 : H D = none := by
    rw [upd_ne Dd] at hD
    exact hD
  have tk : ∀ i w, ws[i]? = some w → (ws.take (i + 1)).filter b = (ws.take i).filter b ++ (if b w = true then [w] else []) := fun i w hi => by
    rw [List.take_add_one, hi, List.filter_append]
    cases h : b w <;> simp [h]
  refine w_it (walk_keysT (kvs := dk ws)) (fun n H' => Ex (upd H d (.frz od (.dT (dk ws)))) H' ∧ ∃ xs, H' D = some (.lst xs) ∧ Paired (fun v w => B w v H') xs ((ws.take n).filter b)) ⟨Ex.new hD, [], upd_same, .nil⟩ (fun n H' _ p => p.1 _ _ upd_same) (fun n x H1 H2 hn p y => ?_) fun H' p => ?_
  · obtain ⟨rfl, k, v, r, hk, rfl, hr⟩ := y
    obtain ⟨e1, xs, h3, h4⟩ := p
    obtain ⟨w, hwn, rfl⟩ := dk_at hk
    have hv : Wd K H2 (.ref r) w := ⟨r, rfl, by rw [← kw_val]; exact hr⟩
    have hwm := List.mem_of_getElem? hwn
    have hn2 := (List.getElem?_eq_some_iff.mp hwn).1
    have lx := Paired.length h4
    have lf : ((ws.take n).filter b).length ≤ n := Nat.le_trans (List.length_filter_le ..) (by rw [List.length_take]; omega)
    refine ⟨hw _, ht _ w H2 hv hwm H2 (Ex.refl H2) _ fun H3 e3 => ?_⟩
    have up : ∀ {G : Hp}, Ex H2 G → Paired (fun v w => B w v G) xs ((ws.take n).filter b) := fun {G} e => paired_mono (fun v w r => hB w v _ _ (fun x ys z => e _ _ z) r) h4
    cases hb : b w with
    | false =>
      rw [if_neg (by decide)]
      refine ⟨e1.trans e3, xs, e3 _ _ h3, ?_⟩
      rw [tk n w hwn, hb, if_neg (by decide), List.append_nil]
      exact up e3
    | true =>
      rw [if_pos rfl]
      refine he _ w H3 (wd_mono e3 hv) hwm hb _ fun v H4 e4 hv4 => ?_
      have e34 := e3.trans e4
      have tu : ∀ x ys, H4 x = some (.tup ys) → (upd H4 D (.lst (xs ++ [v]))) x = some (.tup ys) := fun x ys z => by
        rw [upd_ne fun z2 => by
          rw [z2, e34 _ _ h3] at z
          cases z]
        exact z
      refine ⟨xs, e34 _ _ h3, sz_lt (by omega), Ex.mut (e1.trans e34) hD, xs ++ [v], upd_same, ?_⟩
      rw [tk n w hwn, hb, if_pos rfl]
      exact paired_app (paired_mono (fun v w r => hB w v _ _ tu r) (up e34)) (.cons (hB w v _ _ tu hv4) .nil)
  · obtain ⟨e1, xs, h3, h4⟩ := p
    rw [dk_len, List.take_length] at h4
    have h5 : H' d = some (.frz od (.dT (dk ws))) := e1 _ _ upd_same
    refine ⟨h5, q D xs _ hD0 (fun x o hx => ?_) (by rw [upd_ne Dd]; exact h3) (paired_mono (fun v w r => hB w v _ _ (fun x ys z => by
      rw [upd_ne fun z2 => by
        rw [z2, h5] at z
        cases z]
      exact z) r) h4)⟩
    by_cases c : x = d
    · rw [c] at hx ⊢
      rw [hdd] at hx
      rw [← hx]
      exact upd_same
    · rw [upd_ne c]
      exact e1 _ _ (by rw [upd_ne c]; exact hx)
theorem elw_lkD {g : List Str → Bool} {f : List Str → List Str} {j : Nat} {vs : List Nat} {σ : L2.St} {tt : TT} {te td : TE} (hdd : H d = some (.dT (dk ws))) (hz : ws.length ≤ 40000) (hw : ∀ x, wipe ((wipe σ vs).set j (some x)) vs = wipe σ vs) (hd : ∀ H1 (Q : VK), Q (.ref d) H1 → td σ H1 Q)
    (ht : ∀ x w H1, Wd K H1 x w → w ∈ ws → EvT tt ((wipe σ vs).set j (some x)) H1 (g w)) (he : ∀ x w H1, Wd K H1 x w → w ∈ ws → g w = true → EvW K te ((wipe σ vs).set j (some x)) H1 (f w)) : EvLW K (tLockE (tLc (iKeys td) (gName j) tt te vs)) σ H ((ws.filter g).map f) := fun H1 e Q q =>
  lk_lcD (b := g) (B := fun w v H => Wd K H v (f w)) (e _ _ hdd) hz (fun w v H H2 h r => by
    obtain ⟨b, rfl, z⟩ := r
    exact ⟨b, rfl, h _ _ z⟩) hw hd ht (fun x w H1 hv hm hb Q k => he x w H1 hv hm hb H1 (Ex.refl H1) Q k) fun D xs H2 hD e2 hx hp => q D H2 hD e2 ⟨xs, hx, paired_maps hp⟩
end
section
variable {K : PySem.W.Frag} {H : Hp} {a : Addr} {ws : List (List Str)} {σ : L2.St} {ta te : TE} {j : Nat} {vs : List Nat} {Q : VK}
/-- [e for w in ws], what is known of each -/
theorem lc_gen {S : V → List Str → Hp → Prop} (hS : ∀ v y H H2, (∀ x ys, H x = some (.tup ys) → H2 x = some (.tup ys)) → S v y H → S v y H2) (h : Ev ta σ H (.ref a)) (hl : LW K H a ws) (hz : ws.length ≤ 40000) (hw : ∀ x, wipe ((wipe σ vs).set j (some x)) vs = wipe σ vs)
    (he : ∀ (x : V) (w : List Str) H0, Ex H H0 → Wd K H0 x w → w ∈ ws → ∀ Q : VK, (∀ v H2, Ex H0 H2 → S v w H2 → Q v H2) → te ((wipe σ vs).set j (some x)) H0 Q)
    (q : ∀ D xs H2, H D = none → Ex H H2 → H2 D = some (.lst xs) → Paired (fun v w => S v w H2) xs ws → Q (.ref D) H2) : tLc (iList K ta) (gName j) tYes te vs σ H Q := by
  refine h H (Ex.refl H) _ fun H1 e1 => ?_
  obtain ⟨us, h1, hp⟩ := lw_mono e1 hl
  have len := Paired.length hp
  refine ⟨a, rfl, ⟨us, SqL.of h1⟩, fun D hD => ?_⟩
  refine w_it walk_list (fun n H' => Ex H1 H' ∧ ∃ xs, H' D = some (.lst xs) ∧ Paired (fun v w => S v w H') xs (ws.take n)) ⟨Ex.new hD, [], upd_same, .nil⟩ (fun n H' _ p => ex_l p.1 (SqL.of h1)) (fun n x H2 H3 hn p y => ?_) fun H' p => ?_
  · obtain ⟨rfl, hx⟩ := y
    obtain ⟨e2, xs, hxs, hpx⟩ := p
    obtain ⟨w, hwn, hv⟩ := paired_at hp hx
    have hwm := List.mem_of_getElem? hwn
    refine ⟨hw _, ?_⟩
    unfold tYes
    dsimp only
    rw [if_pos rfl]
    refine he x w H3 (e1.trans e2) (wd_mono e2 hv) hwm _ fun v H4 e4 hs => ?_
    have lx := Paired.length hpx
    rw [List.length_take] at lx
    have hxs4 := e4 _ _ hxs
    have tu : ∀ x ys, H4 x = some (.tup ys) → (upd H4 D (.lst (xs ++ [v]))) x = some (.tup ys) := fun x ys z => by
      rw [upd_ne fun z2 => by
        rw [z2, hxs4] at z
        cases z]
      exact z
    refine ⟨xs, hxs4, sz_lt (by omega), Ex.mut (e2.trans e4) hD, xs ++ [v], upd_same, ?_⟩
    rw [List.take_add_one, hwn]
    exact paired_app (paired_mono (fun v y r => hS v y _ _ tu (hS v y _ _ (fun x ys z => e4 _ _ z) r)) hpx) (.cons (hS v _ _ _ tu hs) .nil)
  · obtain ⟨e2, xs, hxs, hpx⟩ := p
    rw [len, List.take_length] at hpx
    exact q D xs H' (fresh_back e1 hD) (e1.trans e2) hxs hpx
end
/-! ### pairs of words with True -/
def PwB (v : V) (w : List Str) (H : Hp) : Prop := ∃ p b, v = .ref p ∧ H p = some (.tup [.ref b, .bl true]) ∧ H b = some (.tup (w.map V.str))
theorem pws_of {K : PySem.W.Frag} {H : Hp} : ∀ {us : List V} {ws : List (List Str)}, Paired (fun v w => PwB v w H) us ws → ∃ ps : List Addr, us = ps.map V.ref ∧ Paired (PrW K H) ps ws
  | [], [], .nil => ⟨[], rfl, .nil⟩
  | _ :: _, _ :: _, .cons r t => by
    obtain ⟨p, b, rfl, h2, h3⟩ := r
    obtain ⟨ps, rfl, hp⟩ := pws_of (K := K) t
    exact ⟨p :: ps, rfl, .cons ⟨b, SqT.of h2, h3⟩ hp⟩
section
variable {K : PySem.W.Frag} {H : Hp} {a : Addr} {ws : List (List Str)} {σ : L2.St} {ta : TE} {j : Nat} {Q : VK}
/-- dict([(w, True) for w in ws]) -/
theorem ev_once (h : Ev ta σ H (.ref a)) (hl : LW K H a ws) (hz : ws.length ≤ 40000) (hw : ∀ x, wipe ((wipe σ [j]).set j (some x)) [j] = wipe σ [j]) (hj : ∀ x, ((wipe σ [j]).set j (some x))[j]? = some (some x)) (q : ∀ D H2, H D = none → Ex H H2 → H2 D = some (.dT (dk (uniq ws))) → Q (.ref D) H2) :
    tCB (rDictW K) (tCons (tLc (iList K ta) (gName j) tYes (tTup (tCons (tVar j) (tCons (tC (.bl true)) tNil))) [j]) tNil) σ H Q := by
  show tLc (iList K ta) (gName j) tYes (tTup (tCons (tVar j) (tCons (tC (.bl true)) tNil))) [j] σ H (fun v H1 => rDictW K [v] H1 Q)
  exact lc_gen (S := PwB) (fun v y H1 H2 st r => by
    obtain ⟨p, b, e, h1, h2⟩ := r
    exact ⟨p, b, e, st _ _ h1, st _ _ h2⟩) h hl hz hw (fun x w H0 e0 hv hm Q q => ⟨x, hj x, (by show 2 ≤ sizeLine; decide), fun t ht => by
    obtain ⟨b, rfl, hb⟩ := id hv
    exact q _ _ (Ex.new ht) ⟨t, b, rfl, upd_same, (Ex.new ht) _ _ hb⟩⟩) fun D xs H2 nD e2 hD hp => by
    obtain ⟨ps, rfl, hp2⟩ := pws_of (K := K) hp
    exact ⟨D, ps, ws, rfl, SqL.of hD, hp2, hz, fun p hp3 => q p _ (fresh_back e2 hp3) (e2.trans (Ex.new hp3)) upd_same⟩
end
section
variable {K : PySem.W.Frag} {H : Hp} {ws : List (List Str)} {σ : L2.St} {te : TE}
theorem elw_sortStr {n : Nat} (h : EvLW K te σ H ws) (hn : ws.Nodup) (hl : ∀ u ∈ ws, u.length = n) (hw : ∀ u ∈ ws, isW u = true) (hz : ws.length ≤ 100000) : EvLW K (tCKw (rSortStrW K) (tCons te tNil) (tCons (tC (.ty "str")) tNil)) σ H (srtW ws) := fun H1 e Q q =>
  h H1 e _ fun t H2 nt e2 hL => ⟨t, ws, rfl, rfl, hL, hw, hz, fun p hp o us hps ho => by
    subst ho
    rw [sort_shown hn hl fun u hu => (isW_iff.mp (hw u hu)).2] at hps
    exact q p _ (fresh_back e2 hp) (e2.trans (Ex.new hp)) ⟨us, upd_same, paired_mono (fun _ _ r => wd_mono (Ex.new hp) r) hps⟩⟩
end
/-! ### words of one length after the other -/
theorem lined_next {ws : List (List Str)} {n : Nat} : srtW (ws.filter fun w => decide (w.length < n)) ++ srtW (ws.filter fun w => decide (w.length = n)) = srtW (ws.filter fun w => decide (w.length < n + 1)) := by
  refine sd_uniq (List.pairwise_append.mpr ⟨srtW_sd _, srtW_sd _, fun a ha b hb => ?_⟩) (srtW_sd _) fun u => ?_
  · have h1 := of_decide_eq_true (List.mem_filter.mp (srtW_mem.mp ha)).2
    have h2 := of_decide_eq_true (List.mem_filter.mp (srtW_mem.mp hb)).2
    unfold aheadW
    rw [if_neg (by omega)]
    exact decide_eq_true (by omega)
  · rw [List.mem_append, srtW_mem, srtW_mem, srtW_mem, List.mem_filter, List.mem_filter, List.mem_filter, decide_eq_true_iff, decide_eq_true_iff, decide_eq_true_iff, ← and_or_left]
    exact and_congr_right fun _ => by omega
theorem lined_all {ws : List (List Str)} (h : ∀ w ∈ ws, w.length ≤ 3) : srtW (ws.filter fun w => decide (w.length < 4)) = srtW ws := by
  rw [List.filter_eq_self.mpr fun w hw => decide_eq_true (by have := h w hw; omega)]
theorem lined_nil {ws : List (List Str)} : srtW (ws.filter fun w => decide (w.length < 0)) = [] := by
  rw [List.filter_eq_nil_iff.mpr fun w hw => by simp]
  rfl
/-- the law's own row of them -/
def spLined (K : PySem.W.Frag) : Sp := fun vs H Q _ => ∃ (l : Addr) (ws : List (List Str)), vs = [.ref l] ∧ LW K H l ws ∧ (∀ w ∈ ws, isW w = true) ∧ ws.length ≤ 1000 ∧ ∀ r H', H r = none → Ex H H' → LW K H' r (srtW ws) → Q (.ref r) H'
section
variable {K : PySem.W.Frag} {σ : L2.St} {H : Hp} {te : TE} {K' : PySem.W.Frag}
theorem elw_R2 {ta : TA} {j : Nat} {vs : List Nat} {n : Nat} {lo hi : Int} (f : Nat → List Str) (h : EvA ta σ H [.int lo, .int hi]) (b : -(2 ^ 62) ≤ lo ∧ lo < 2 ^ 62 ∧ -(2 ^ 62) ≤ hi ∧ hi < 2 ^ 62) (en : (hi - lo).toNat = n) (hn : n ≤ 40000) (hw : ∀ x, wipe ((wipe σ vs).set j (some x)) vs = wipe σ vs)
    (he : ∀ (i : Nat) H1, Ex H H1 → i < n → EvW K te ((wipe σ vs).set j (some (.int (lo + (i : Int))))) H1 (f i)) : EvLW K (tLc (iRng2 ta) (gName j) tYes te vs) σ H ((List.range n).map f) := fun H0 e Q q => h H0 e _ fun H1 e1 => ⟨lo, hi, rfl, b, fun Dl hD => by
  rw [en]
  refine lc_range (lo := lo) (n := n) (fun i H' => Ex H1 H' ∧ LW K H' Dl ((List.range i).map f)) ⟨Ex.new hD, [], upd_same, .nil⟩ (fun i H' hi p => ?_) fun H' p => q Dl H' (fresh_back e1 hD) (e1.trans p.1) p.2
  obtain ⟨p1, us, p2, p3⟩ := p
  refine ⟨hw _, ?_⟩
  unfold tYes
  dsimp only
  rw [if_pos rfl]
  refine he i H' ((e.trans e1).trans p1) hi H' (Ex.refl H') _ fun y H4 e4 hy => ?_
  have hl := Paired.length p3
  rw [List.length_map, List.length_range] at hl
  have hd := e4 _ _ p2
  have keep : ∀ {v : V} {zs : List Str}, Wd K H4 v zs → Wd K (upd H4 Dl (.lst (us ++ [y]))) v zs := fun {v zs} hz => by
    obtain ⟨a, rfl, hz⟩ := hz
    exact ⟨a, rfl, by rw [upd_ne (fun q => by rw [q, hd] at hz; cases hz)]; exact hz⟩
  refine ⟨us, hd, sz_lt (by omega), Ex.mut (p1.trans e4) hD, us ++ [y], upd_same, ?_⟩
  rw [List.range_succ, List.map_append]
  exact paired_app (paired_mono (fun _ _ r => keep (wd_mono e4 r)) p3) (.cons (keep hy) .nil)⟩
/-- words != [] -/
theorem et_neNilW {l : Addr} {ws : List (List Str)} (h : Ev te σ H (.ref l)) (hl : LW K H l ws) (hw : ∀ w ∈ ws, isW w = true) : EvT (tTest (tOp (rNeD K) te (tLst tNil))) σ H (!decide (ws = [])) := fun H1 e Q q => h H1 e _ fun H2 e2 => ⟨Nat.zero_le _, fun e0 he0 => by
  obtain ⟨us, h1, h2⟩ := lw_mono ((e.trans e2).trans (Ex.new (o := .lst []) he0)) hl
  refine ⟨.list (ws.map wD), .list [], .lst (SqL.of h1) (dpa_words h2), .lst (SqL.of upd_same) .nil, shaped_wDs hw, rfl, _, rfl, ?_⟩
  have z := q _ (e2.trans (Ex.new (o := .lst []) he0))
  have e3 : PyData.eqv (.list (ws.map wD)) (.list []) = decide (ws = []) := eqv_wDs ws []
  rw [e3]
  exact z⟩
end
theorem paired_erase {α β : Type} {R : α → β → Prop} : ∀ (k : Nat) {xs : List α} {ys : List β}, Paired R xs ys → Paired R (xs.eraseIdx k) (ys.eraseIdx k)
  | _, [], [], .nil => .nil
  | 0, _ :: _, _ :: _, .cons _ t => t
  | k + 1, _ :: _, _ :: _, .cons r t => .cons r (paired_erase k t)
theorem at_popV {ps : List V} {d : Int} (h0 : 0 ≤ d) (h1 : d < (ps.length : Int)) : ∃ k, seqIndex? d ps.length = some k ∧ k < ps.length := by
  obtain ⟨k, rfl⟩ := Int.eq_ofNat_of_zero_le h0
  have hk : k < ps.length := by omega
  refine ⟨k, ?_, hk⟩
  unfold seqIndex?
  rw [if_neg (by omega : ¬ ((k : Int) < 0))]
  simp [hk]
/-- a list in another sequence, as a list or a tuple -/
def spMixed (K : PySem.W.Frag) : Sp := fun vs H Q _ => ∃ (T : List (Addr × Str)) (p l : Addr) (ws : List (List Str)), vs = [.ref p, .ref l] ∧ Ok (Zp T p) H ∧ LW K H l ws ∧ l ≠ p ∧ (∀ w ∈ ws, isW w = true) ∧ ws.length ≤ 100 ∧
  ∀ (r : Addr) (us : List V) (zs : List (List Str)) H', R (Zp T p) H H' → Sq H' r us → Paired (Wd K H') us zs → zs.Perm ws → Q (.ref r) H'
end Tk
namespace K21
open PySem PySem.Spec PyProof.Rows L2 Lw Evl LamX Tk
open Rm (R Ok Z0 Zp Fr fr_none fr_ne nt_lst nt_tup)
open LwX (XC XF)
section
variable {P : Program} {w : World} {K : PySem.W.Frag} {mg : Str → Option Value} {base : Heap}
abbrev s_lined : Stmt := topS 34
theorem sc_lined : FnScope ["_law_verses_here", "_law_found", "_law_once", "_law_verse", "_law_many"] ["_law_verses_here"] (defScope s_lined) := ⟨rfl, rfl, rfl, by decide +kernel, rfl, by decide +kernel, by decide +kernel⟩
theorem ok_lined {f : Addr} {fd : FuncData} (F : FunD K "_law_lined" "_law_lined" (defArgs s_lined) (defBody s_lined) (defScope s_lined) [] [] f fd) (T : Tx P w K mg base)  : FnG P w K mg base CX0 2 f fd ["_law_verses_here"] (spLined K) := by
  refine fnG F sc_lined (fun vs H Q E h => ?_) (fun cdv A outer s H vs Q E gd hr h => ?_)
  · obtain ⟨l, ws, rfl, _⟩ := h
    rfl
  · skip
    refine ⟨_, PSs.nox ((pss_cons (ps_par (i := 1) (j := 2) (by rfl) sc_lined.nd rfl rfl (by decide) rfl rfl (pa_cons (pe_lst pa_nil) (pa_cons (pe_callTy (call_dictW rfl hr.units) (by rfl) T.m_dict (by decide +kernel) (pa_cons (pe_lc (own := [("_law_verse", 3)]) (g := gName 3) (tt := tYes) rfl sc_lined.nd (pi_listK (K := K) (pv 0)) (blkOk_by (own := [("_law_verse", 3)]) (N := ["_law_verses_here", "_law_found", "_law_once", "_law_verse", "_law_many"]) (sc := defScope s_lined) (by decide +kernel)) (fun _ _ _ _ _ => pg_name (i := 3) sc_lined.nd rfl (by first | exact Or.inl rfl | exact Or.inr rfl)) (fun _ _ _ _ _ => pts_nil) (fun _ _ _ _ _ => (pe_tup (pa_cons (pv 3) (pa_cons pe_bl pa_nil))))) pa_nil)) pa_nil)) (by rfl))
      (pss_cons (ps_for PassesOwn.never rfl (pi_range1 (by rfl) T.m_range (pa_cons pe_int pa_nil)) (pg_name (i := 4) sc_lined.nd rfl (by first | exact Or.inl rfl | exact Or.inr rfl)) (pss_one (ps_set (i := 1) sc_lined.nd rfl (by first | exact Or.inl rfl | exact Or.inr rfl) (pe_op op_cat (pv 1) (pe_callBK (cr_sortStrW (K := K) gd hr.units) (by rfl) T.m_sorted (by decide +kernel) (pa_cons (pe_lock (pe_lc (own := [("_law_verse", 3)]) (g := gName 3) rfl sc_lined.nd (pi_keys (pv 2)) (blkOk_by (own := [("_law_verse", 3)]) (N := ["_law_verses_here", "_law_found", "_law_once", "_law_verse", "_law_many"]) (sc := defScope s_lined) (by decide +kernel)) (fun _ _ _ _ _ => pg_name (i := 3) sc_lined.nd rfl (by first | exact Or.inl rfl | exact Or.inr rfl)) (fun _ _ _ _ _ => (pts_one (pt_cmpR op_eq (pe_callB (call_lenK (K := K)) (by rfl) T.m_len (by decide +kernel) (pa_cons (pv 3) pa_nil)) (pv 4) (nomark _)))) (fun _ _ _ _ _ => (pv 3)))) pa_nil) (pk_cons (pe_bltn (v := .ty "str") (by rfl) T.m_str (by decide +kernel) rfl) pk_nil))))))
      (pss_one (ps_ret (pv 1)))))), ?_⟩
    obtain ⟨l, ws, rfl, hl, hw, hz, q⟩ := h
    have h3 := isW_3 hw
    refine Tk.q_par ⟨Nat.zero_le _, fun f0 hf0 => ev_once (ev_var rfl) (lw_mono (Ex.new hf0) hl) (by omega) (fun _ => rfl) (fun _ => rfl) fun D H2 nD e2 hD => ?_⟩
    have e02 := (Ex.new (o := .lst []) hf0).trans e2
    have hF0 : LW K H2 f0 [] := ⟨[], e2 _ _ upd_same, .nil⟩
    refine q_forR1 (n := (4 : Int)) (ea_cons ev_c ea_nil) (by decide) (fun i σ H' => ∃ (f : Addr) (c d : Option V), σ = [some (.ref l), some (.ref f), some (.ref D), c, d] ∧ Ex H2 H' ∧ H f = none ∧ LW K H' f (srtW (ws.filter fun w => decide (w.length < i)))) (fun G e => ⟨f0, _, _, rfl, e, hf0, by rw [lined_nil]; exact lw_mono e hF0⟩) (fun i σ' H' hi hP => ?_) (fun σ' H' hP => ?_)
    · obtain ⟨f, c, d, rfl, e, nf, hf⟩ := hP
      have hm : ∀ u, u ∈ (uniq ws).filter (fun w => decide (w.length = i)) ↔ u ∈ ws.filter fun w => decide (w.length = i) := fun u => by rw [List.mem_filter, List.mem_filter, uniq_mem]
      have es : srtW ((uniq ws).filter fun w => decide (w.length = i)) = srtW (ws.filter fun w => decide (w.length = i)) := sd_uniq (srtW_sd _) (srtW_sd _) fun u => by rw [srtW_mem, srtW_mem, hm]
      have z := elw_lkD (K := K) (d := D) (ws := uniq ws) (g := fun w => decide (w.length = i)) (f := fun w => w) (σ := [some (.ref l), some (.ref f), some (.ref D), c, some (.int (i : Int))]) (H := H') (j := 3) (vs := [3]) (te := tVar 3) (td := tVar 2) (tt := tTest (tOp rEq (tCB (rLenS K) (tCons (tVar 3) tNil)) (tVar 4))) (e _ _ hD) (by have := uniq_len ws; omega) (fun _ => rfl) (fun H1 Q q => ⟨_, rfl, q⟩) (fun x w H1 hv hm => by
        rw [show decide (w.length = i) = decide (V.int (w.length : Int) = V.int (i : Int)) from by
          refine decide_eq_decide.mpr ⟨fun z => by rw [z], fun z => ?_⟩
          injection z with z
          omega]
        exact et_test (ev_op (ev_lenW (ev_var rfl) hv) (ev_var rfl) (rv_eq rfl))) (fun x w H1 hv hm hb => ew_of (ev_var rfl) hv)
      rw [List.map_id'] at z
      have ul := uniq_len ws
      have fl : ((uniq ws).filter fun w => decide (w.length = i)).length ≤ (uniq ws).length := List.length_filter_le ..
      have z2 := elw_sortStr (n := i) z ((uniq_nodup ws).filter _) (fun u hu => of_decide_eq_true (List.mem_filter.mp hu).2) (fun u hu => hw u (uniq_mem.mp (List.mem_filter.mp hu).1)) (by omega)
      rw [es] at z2
      have sl : ∀ us : List (List Str), (srtW us).length ≤ us.length := fun us => nodup_le (srtW_nodup us) fun u hu => srtW_mem.mp hu
      have l1 := sl (ws.filter fun w => decide (w.length < i))
      have l2 := sl (ws.filter fun w => decide (w.length = i))
      have l3 : (ws.filter fun w => decide (w.length < i)).length ≤ ws.length := List.length_filter_le ..
      have l4 : (ws.filter fun w => decide (w.length = i)).length ≤ ws.length := List.length_filter_le ..
      refine elw_catV (ev_var rfl) hf z2 (by omega) H' (Ex.refl H') _ fun r G nr e3 hr => ⟨r, _, _, rfl, e.trans e3, fresh_back (e02.trans e) nr, by rw [lined_next] at hr; exact hr⟩
    · obtain ⟨f, c, d, rfl, e, nf, hf⟩ := hP
      have hf2 : LW K H' f (srtW (ws.filter fun w => decide (w.length < 4))) := hf
      rw [lined_all h3] at hf2
      exact ⟨_, rfl, q f H' nf (e02.trans e) hf2⟩

abbrev s_closed : Stmt := topS 39
theorem sc_closed : FnScope ["_law_verses_here", "_law_found", "_law_verse", "_law_many"] ["_law_verses_here"] (defScope s_closed) := ⟨rfl, rfl, rfl, by decide +kernel, rfl, by decide +kernel, by decide +kernel⟩
theorem ok_closed {f : Addr} {fd : FuncData} (F : FunD K "_law_closed" "_law_closed" (defArgs s_closed) (defBody s_closed) (defScope s_closed) [] [] f fd) (T : Tx P w K mg base) (d_law_lined : Cal P w K mg base CX0 2 "_law_lined" ["_law_verses_here"] (spLined K)) : FnG P w K mg base CX0 3 f fd ["_law_verses_here"] (spClosed K) := by
  refine fnG F sc_closed (fun vs H Q E h => ?_) (fun cdv A outer s H vs Q E gd hr h => ?_)
  · obtain ⟨l, ws, rfl, _⟩ := h
    rfl
  · skip
    refine ⟨_, PSs.nox ((pss_cons (ps_set (i := 1) sc_closed.nd rfl (by first | exact Or.inl rfl | exact Or.inr rfl) (pe_lst (pa_cons (pe_tup pa_nil) pa_nil)))
      (pss_cons (ps_for PassesOwn.never rfl (pi_listK (K := K) (pv 0)) (pg_name (i := 2) sc_closed.nd rfl (by first | exact Or.inl rfl | exact Or.inr rfl)) (pss_one (ps_set (i := 1) sc_closed.nd rfl (by first | exact Or.inl rfl | exact Or.inr rfl) (pe_op op_cat (pv 1) (pe_lc (own := [("_law_many", 3)]) (g := gName 3) (tt := tYes) rfl sc_closed.nd (pi_range2 (by rfl) T.m_range (pa_cons pe_int (pa_cons (pe_op op_add (pe_callB (call_lenK (K := K)) (by rfl) T.m_len (by decide +kernel) (pa_cons (pv 2) pa_nil)) pe_int) pa_nil))) (blkOk_by (own := [("_law_many", 3)]) (N := ["_law_verses_here", "_law_found", "_law_verse", "_law_many"]) (sc := defScope s_closed) (by decide +kernel)) (fun _ _ _ _ _ => pg_name (i := 3) sc_closed.nd rfl (by first | exact Or.inl rfl | exact Or.inr rfl)) (fun _ _ _ _ _ => pts_nil) (fun _ _ _ _ _ => (pe_slice (sl_tupAK (K := K)) (pv 2) po_none (po_some (pv 3)))))))))
      (pss_one (ps_ret (pe_cal d_law_lined gd hr (pa_cons (pv 1) pa_nil))))))), ?_⟩
    obtain ⟨l, ws, rfl, hl, hw, hz, q⟩ := h
    have h3 := isW_3 hw
    obtain ⟨us, hus, hp⟩ := hl
    have bl : ∀ us : List (List Str), (∀ w ∈ us, w.length ≤ 3) → (us.flatMap fun w => (List.range w.length).map fun i => w.take (1 + i)).length ≤ 3 * us.length := fun us => by
      induction us with
      | nil => intro _; exact Nat.le_refl _
      | cons w us ih =>
        intro h
        have h1 := ih fun x hx => h x (List.mem_cons_of_mem _ hx)
        have h2 := h w (List.mem_cons_self ..)
        rw [List.flatMap_cons, List.length_append, List.length_map, List.length_range, List.length_cons]
        omega
    refine q_asgLW (K := K) (ws := [[]]) (elw_lst (eaw_cons (ew_tup (ys := []) ea_nil (Nat.zero_le _)) eaw_nil) (by decide)) fun f0 H1 nf e1 hf0 => ?_
    have hus1 := e1 _ _ hus
    refine q_forL (K := K) (ev_var rfl) (SqL.of hus1) (fun i σ' H' => ∃ (f : Addr) (c d : Option V), σ' = [some (.ref l), some (.ref f), c, d] ∧ Ex H1 H' ∧ H f = none ∧ LW K H' f ([] :: (ws.take i).flatMap fun w => (List.range w.length).map fun i => w.take (1 + i))) (fun H2 e2 => ⟨f0, _, _, rfl, e2, nf, lw_mono e2 hf0⟩) (fun i σ' H' _ p => ?_) (fun i x σ' H' hx p => ?_) (fun σ' H' p => ?_)
    · obtain ⟨_, _, _, _, e, _⟩ := p
      exact SqL.of (e _ _ hus1)
    · obtain ⟨f, c, d, rfl, e, nf, hf⟩ := p
      obtain ⟨w, hwn, hv⟩ := paired_at hp hx
      have hwm := List.mem_of_getElem? hwn
      have hv' := wd_mono (e1.trans e) hv
      have w3 := h3 w hwm
      have z := elw_R2 (K := K) (σ := [some (.ref l), some (.ref f), some x, d]) (H := H') (j := 3) (vs := [3]) (n := w.length) (te := tSl (rSlA K) (tVar 2) tNoPart (tPart (tVar 3))) (ta := tCons (tC (V.int 1)) (tCons (tOp (rI0 fun i j => V.int (i + j)) (tCB (rLenS K) (tCons (tVar 2) tNil)) (tC (V.int 1))) tNil)) (fun i => w.take (1 + i)) (ea_cons ev_c (ea_cons (ev_op (ev_lenW (ev_var rfl) hv') ev_c rv_I0) ea_nil)) (by omega) (by omega) (by omega) (fun _ => rfl) (fun i H2 e2 hi => ew_to (n := 1 + i) (ew_of (ev_var rfl) (wd_mono e2 hv')) eo_none (eo_some (ev_is (ev_var rfl) (by congr 1))) (by omega))
      have tk : (ws.take (i + 1)).flatMap (fun w => (List.range w.length).map fun i => w.take (1 + i)) = (ws.take i).flatMap (fun w => (List.range w.length).map fun i => w.take (1 + i)) ++ (List.range w.length).map fun i => w.take (1 + i) := by
        rw [List.take_add_one, hwn, List.flatMap_append]
        simp
      have b1 := bl (ws.take i) fun x hx => h3 x (List.mem_of_mem_take hx)
      have b2 : (ws.take i).length ≤ ws.length := by rw [List.length_take]; omega
      refine elw_catV (ev_var rfl) hf z (by rw [List.length_cons, List.length_map, List.length_range]; omega) H' (Ex.refl H') _ fun r G nr e3 hr => ⟨r, _, _, rfl, e.trans e3, fresh_back (e1.trans e) nr, ?_⟩
      rw [tk]
      exact hr
    · obtain ⟨f, c, d, rfl, e, nf, hf⟩ := p
      rw [Paired.length hp, List.take_length] at hf
      have b1 := bl ws h3
      refine ⟨_, rfl, f, _, rfl, hf, fun u hu => ?_, by rw [List.length_cons]; omega, fun r G nr e3 hr => q r G (fresh_back (e1.trans e) nr) ((e1.trans e).trans e3) ?_⟩
      · rcases List.mem_cons.mp hu with rfl | hu
        · rfl
        · obtain ⟨w, hwm, hu⟩ := List.mem_flatMap.mp hu
          obtain ⟨k, _, rfl⟩ := List.mem_map.mp hu
          exact isW_take (hw w hwm) _
      · have ee : srtW ([] :: ws.flatMap fun w => (List.range w.length).map fun i => w.take (1 + i)) = clW ws := sd_uniq (srtW_sd _) clW_sd fun u => by
          show _ ↔ u ∈ clW ws
          rw [srtW_mem, mem_clW, List.mem_cons, List.mem_flatMap]
          refine ⟨fun h => h.elim .inl fun ⟨w, hwm, hu⟩ => .inr ?_, fun h => h.elim .inl fun ⟨w, hwm, hu⟩ => ?_⟩
          · obtain ⟨k, hk, rfl⟩ := List.mem_map.mp hu
            have := List.mem_range.mp hk
            exact ⟨w, hwm, mem_begs.mpr ⟨1 + k, by omega, rfl⟩⟩
          · obtain ⟨k, hk, rfl⟩ := mem_begs.mp hu
            by_cases k0 : k = 0
            · exact .inl (by rw [k0, List.take_zero])
            · refine .inr ⟨w, hwm, List.mem_map.mpr ⟨k - 1, List.mem_range.mpr (by omega), ?_⟩⟩
              rw [show 1 + (k - 1) = k from by omega]
        rw [ee] at hr
        exact hr

abbrev s_mixed : Stmt := topS 37
theorem sc_mixed : FnScope ["_law_pot_here", "_law_some", "_law_pack", "_law_found"] ["_law_pot_here", "_law_some"] (defScope s_mixed) := ⟨rfl, rfl, rfl, by decide +kernel, rfl, by decide +kernel, by decide +kernel⟩
theorem ok_mixed {f : Addr} {fd : FuncData} (F : FunD K "_law_mixed" "_law_mixed" (defArgs s_mixed) (defBody s_mixed) (defScope s_mixed) [] [] f fd) (T : Tx P w K mg base) (d_law_draw : Cal P w K mg base CX0 1 "_law_draw" ["_law_pot_here", "_law_sides"] spDraw) : FnG P w K mg base CX0 3 f fd ["_law_pot_here", "_law_some"] (spMixed K) := by
  refine fnG F sc_mixed (fun vs H Q E h => ?_) (fun cdv A outer s H vs Q E gd hr h => ?_)
  · obtain ⟨T, p, l, ws, rfl, _⟩ := h
    rfl
  · skip
    refine ⟨_, PSs.nox ((pss_cons (ps_par (i := 2) (j := 3) (by rfl) sc_mixed.nd rfl rfl (by decide) rfl rfl (pa_cons (pe_callTy call_list_of (by rfl) T.m_list (by decide +kernel) (pa_cons (pv 1) pa_nil)) (pa_cons (pe_lst pa_nil) pa_nil)) (by rfl))
      (pss_cons (ps_while PassesOwn.never (pt_cmpR (op_neDK (K := K) hr.units) (pv 2) (pe_lst pa_nil) (nomark _)) (pss_one (ps_expr (pe_bm PySem.F.plainAttrs_list PySem.F.slot_list_append PySem.F.type_list_append mt_append (pv 3) (pa_cons (pe_bm PySem.F.plainAttrs_list PySem.F.slot_list_pop PySem.F.type_list_pop mt_popAt (pv 2) (pa_cons (pe_cal d_law_draw gd hr (pa_cons (pv 0) (pa_cons (pe_callB (call_lenK (K := K)) (by rfl) T.m_len (by decide +kernel) (pa_cons (pv 2) pa_nil)) pa_nil))) pa_nil)) pa_nil)))))
      (pss_one (ps_ret (pe_ifExp (pt_cmpR op_eq (pe_cal d_law_draw gd hr (pa_cons (pv 0) (pa_cons pe_int pa_nil))) pe_int (nomark _)) (pv 3) (pe_callTy (call_tupleK (K := K)) (by rfl) T.m_tuple (by decide +kernel) (pa_cons (pv 3) pa_nil)))))))), ?_⟩
    obtain ⟨T, p, l, ws, rfl, ok, hl, lp, hw, hz, q⟩ := h
    obtain ⟨us, hus, hp⟩ := hl
    have lu := Paired.length hp
    refine Tk.q_par ?_
    refine ⟨_, rfl, l, _, rfl, .inl (SqL.of hus), fun a ha => ⟨Nat.zero_le _, fun f hf => ?_⟩⟩
    have ha1 : (upd H a (.lst us)) a = some (.lst us) := upd_same
    have af : a ≠ f := ne_of_none ha1 hf
    have e0 : Ex H (upd (upd H a (.lst us)) f (.lst [])) := (Ex.new ha).trans (Ex.new hf)
    have r0 : R (Zp T p) H (upd (upd H a (.lst us)) f (.lst [])) := .of ok e0
    have ha2 : (upd (upd H a (.lst us)) f (.lst [])) a = some (.lst us) := (Ex.new hf) _ _ ha1
    have hf2 : (upd (upd H a (.lst us)) f (.lst [])) f = some (.lst []) := upd_same
    have hp2 := paired_mono (fun _ _ r => wd_mono e0 r) hp
    have fa : Fr H a := fr_none ha
    have ff : Fr H f := fr_none (fresh_back (Ex.new ha) hf)
    generalize upd (upd H a (.lst us)) f (.lst []) = H2 at r0 ha2 hf2 hp2
    show tSeq _ _ _ _ H2
    refine q_while (fun m σ' H' => ∃ (ps fs : List V) (zs ys : List (List Str)), σ' = [some (.ref p), some (.ref l), some (.ref a), some (.ref f)] ∧ R (Zp T p) H H' ∧ H' a = some (.lst ps) ∧ H' f = some (.lst fs) ∧ Paired (Wd K H') ps zs ∧ Paired (Wd K H') fs ys ∧ (zs ++ ys).Perm ws ∧ m = ps.length) us.length ⟨us, [], ws, [], rfl, r0, ha2, hf2, hp2, .nil, by rw [List.append_nil], rfl⟩ fun m σ' H' hW => ?_
    obtain ⟨ps, fs, zs, ys, rfl, r, hps, hfs, hpz, hpy, pm, rfl⟩ := hW
    have lz := Paired.length hpz
    have ly := Paired.length hpy
    have lw := pm.length_eq
    rw [List.length_append] at lw
    have wz : ∀ w ∈ zs, isW w = true := fun w h => hw w (pm.mem_iff.mp (List.mem_append_left _ h))
    refine ⟨!decide (zs = []), et_neNilW (ev_var rfl) ⟨ps, hps, hpz⟩ wz, fun hb H3 e3 => ⟨fun σ2 H4 => ∃ (ps2 fs2 : List V) (zs2 ys2 : List (List Str)), σ2 = [some (.ref p), some (.ref l), some (.ref a), some (.ref f)] ∧ R (Zp T p) H H4 ∧ H4 a = some (.lst ps2) ∧ H4 f = some (.lst fs2) ∧ Paired (Wd K H4) ps2 zs2 ∧ Paired (Wd K H4) fs2 ys2 ∧ (zs2 ++ ys2).Perm ws ∧ ps2.length + 1 = ps.length, fun σ2 H4 ⟨ps2, fs2, zs2, ys2, h1, h2, h3, h4, h5, h6, h7, h8⟩ => ⟨ps2.length, by omega, ps2, fs2, zs2, ys2, h1, h2, h3, h4, h5, h6, h7, rfl⟩, ?_⟩, fun hb H3 e3 => ?_⟩
    · have pp : 0 < ps.length := by
        cases zs with
        | nil => simp at hb
        | cons _ _ => rw [lz, List.length_cons]; omega
      have r3 := r.ex e3
      have hps3 := e3 _ _ hps
      have hfs3 := e3 _ _ hfs
      refine ⟨_, rfl, .inl ⟨rfl, _, SqL.of hfs3⟩, _, rfl, .inl ⟨rfl, _, SqL.of hps3⟩, _, rfl, _, rfl, a, _, rfl, .inl (SqL.of hps3), p, _, rfl, r3.b.2 p rfl, by omega, by omega, fun d H4 d0 d1 x4 => ?_⟩
      obtain ⟨k, k1, k3⟩ := at_popV d0 d1
      have ap : a ≠ p := fun z => r3.a.fresh fa (by show a = p; exact z)
      have fp : f ≠ p := fun z => r3.a.fresh ff (by show f = p; exact z)
      have hps4 := x4.1 _ _ ap hps3
      have hfs4 := x4.1 _ _ fp hfs3
      have r34 := Rm.R.xp r3.b.1 (r3.b.2 p rfl) x4
      have r4 := r3.trans r34
      have pz4 := paired_mono (fun _ _ q => Rm.wd_R r34 (wd_mono e3 q)) hpz
      have py4 := paired_mono (fun _ _ q => Rm.wd_R r34 (wd_mono e3 q)) hpy
      have r5 : R (Zp T p) H (upd H4 a (.lst (ps.eraseIdx k))) := r4.mut fa hps4 trivial
      have pz5 := paired_mono (fun _ _ q => wd_upd (o := .lst (ps.eraseIdx k)) hps4 q) pz4
      have py5 := paired_mono (fun _ _ q => wd_upd (o := .lst (ps.eraseIdx k)) hps4 q) py4
      have hps5 : (upd H4 a (.lst (ps.eraseIdx k))) a = some (.lst (ps.eraseIdx k)) := upd_same
      have hfs5 : (upd H4 a (.lst (ps.eraseIdx k))) f = some (.lst fs) := by rw [upd_ne af.symm]; exact hfs4
      have hv := List.getElem?_eq_getElem k3
      obtain ⟨z, hzk, wz5⟩ := paired_at pz5 hv
      refine ⟨a, _, d, k, ps[k], rfl, rfl, hps4, by omega, by omega, k1, hv, ?_⟩
      generalize upd H4 a (.lst (ps.eraseIdx k)) = H5 at r5 hps5 hfs5 pz5 py5 wz5
      have pe := L2.erase_perm zs k z hzk
      have pz6 := paired_erase k pz5
      have lz6 := Paired.length pz6
      have pl := pe.length_eq
      rw [List.length_cons] at pl
      refine ⟨f, _, ps[k], rfl, rfl, hfs5, sz_lt (by omega), ?_⟩
      refine ⟨ps.eraseIdx k, fs ++ [ps[k]], zs.eraseIdx k, ys ++ [z], rfl, r5.mut ff hfs5 trivial, by rw [upd_ne af]; exact hps5, upd_same, paired_mono (fun _ _ q => wd_upd hfs5 q) pz6, paired_app (paired_mono (fun _ _ q => wd_upd hfs5 q) py5) (.cons (wd_upd hfs5 wz5) .nil), ?_, by omega⟩
      refine List.Perm.trans ?_ pm
      refine List.Perm.trans ?_ (pe.append_right ys)
      rw [← List.append_assoc]
      exact (List.perm_append_comm (l₁ := zs.eraseIdx k ++ ys) (l₂ := [z]))
    have ze : zs = [] := by
      cases zs with
      | nil => rfl
      | cons _ _ => simp at hb
    subst ze
    rw [List.nil_append] at pm
    have r3 := r.ex e3
    have hfs3 := e3 _ _ hfs
    refine ⟨_, rfl, p, 2, rfl, r3.b.2 p rfl, by decide, by decide, fun d H4 d0 d1 x4 => ⟨rfl, _, rfl, ?_⟩⟩
    have fp : f ≠ p := fun z => r3.a.fresh ff (by show f = p; exact z)
    have r34 := Rm.R.xp r3.b.1 (r3.b.2 p rfl) x4
    have r4 := r3.trans r34
    have hfs4 := x4.1 _ _ fp hfs3
    have py4 := paired_mono (fun _ _ q => Rm.wd_R r34 (wd_mono e3 q)) hpy
    generalize decide (V.int d = V.int 0) = b
    cases b with
    | true =>
      dsimp only
      rw [if_pos rfl]
      exact ⟨_, rfl, q f fs ys H4 r4 (.inl hfs4) py4 pm⟩
    | false =>
      dsimp only
      rw [if_neg (by decide)]
      refine ⟨_, rfl, f, fs, rfl, .inl ⟨SqL.of hfs4, fun t ht => ?_⟩⟩
      exact q t fs ys _ (r4.new ht) (.inr upd_same) (paired_mono (fun _ _ q => wd_mono (Ex.new ht) q) py4) pm

end
end K21
namespace Tk
open PySem PySem.Spec PyProof.Rows L2 Lw Evl LamX TL
open Rm (R Ok Z0 Zp Fr fr_none fr_ne nt_lst nt_tup nt_dK NT Zn)
/-! ### d.update(another dict) -/
def rUpdK : V → List V → Hp → VK → Prop := fun x xs H Q => ∃ (a b : Addr) (kvs more : List (L2.Key × V)), x = .ref a ∧ xs = [.ref b] ∧ a ≠ b ∧ H a = some (.dK kvs) ∧ H b = some (.dK more) ∧ kvs.length + more.length ≤ 100000 ∧ Q .non (upd H a (.dK (mergeK kvs more)))
theorem mt_updK {X : Cx} : MtR X "dict.update" rUpdK := by
  intro pins s σ H x xs v us Q I rx rxs h
  obtain ⟨a, b, kvs, more, rfl, rfl, ne, ha, hb, hz, q⟩ := h
  cases rx
  obtain rfl := Vals.ref1 rxs
  obtain ⟨z, hd, vs, rel, dd⟩ := dk_of I.hok ha
  obtain ⟨z2, hd2, vs2, rel2, dd2⟩ := dk_of I.hok hb
  have le : vs.length + vs2.length ≤ sizeLine := by
    rw [← rel.length, ← rel2.length]
    exact sz_of hz
  have lm : (mergeK kvs more).length ≤ sizeLine := by
    have := length_mergeK more kvs
    exact sz_of (by omega)
  refine call_meetsIn PySem.F.slot_dict_update dd.typeIs PySem.F.entry_dict_update (PySem.F.args_dict_update_2 _ _) (PySem.meets_dict_update (mixKind X.prog X.w) a b ne hd2) ⟨vs, vs2, dd, dd2, le, fun h' d1 d2 sb => ?_⟩
  have he : ∃ q, h'.get? a = some q := let ⟨q, _, _, hq, _⟩ := d1; ⟨q, hq⟩
  exact ⟨.non, upd H a (.dK (mergeK kvs more)), d_write (t' := s.toks) I (by rw [ha]; exact True.intro) sb he (dk_new lm hd (KV.merge rel2 rel) d1), rfl, q⟩
/-! ### texts as the keys of a dict -/
def ks (xs : List Str) : List (L2.Key × V) := xs.map fun s => (.inr s, .bl true)
def addS (xs : List Str) (s : Str) : List Str := if s ∈ xs then xs else xs ++ [s]
theorem put_ks (xs : List Str) (s : Str) : putK (ks xs) (.inr s) (.bl true) = ks (addS xs s) := by
  unfold putK addS
  have e : ((ks xs).any fun kv => decide (kv.1 = (.inr s : L2.Key))) = decide (s ∈ xs) := by
    unfold ks
    rw [List.any_map, Bool.eq_iff_iff, List.any_eq_true, decide_eq_true_iff]
    exact ⟨fun ⟨x, h1, h2⟩ => by
      have z : (Sum.inr x : L2.Key) = .inr s := of_decide_eq_true h2
      injection z with z
      exact z ▸ h1, fun h => ⟨s, h, decide_eq_true rfl⟩⟩
  rw [e]
  by_cases h : s ∈ xs
  · rw [if_pos (decide_eq_true h), if_pos h]
    unfold ks
    rw [List.map_map]
    refine List.map_congr_left fun x _ => ?_
    show (if (Sum.inr x : L2.Key) = .inr s then ((.inr x : L2.Key), V.bl true) else ((.inr x : L2.Key), V.bl true)) = _
    split <;> rfl
  · rw [if_neg (by rw [decide_eq_false h]; decide), if_neg h]
    unfold ks
    rw [List.map_append]
    rfl
theorem merge_ks : ∀ (ys xs : List Str), mergeK (ks xs) (ks ys) = ks (ys.foldl addS xs)
  | [], _ => rfl
  | y :: ys, xs => by
    have e : mergeK (ks xs) (ks (y :: ys)) = mergeK (putK (ks xs) (.inr y) (.bl true)) (ks ys) := rfl
    rw [e, put_ks, merge_ks ys (addS xs y)]
    rfl
theorem addS_mem {xs : List Str} {y s : Str} : s ∈ addS xs y ↔ s ∈ xs ∨ s = y := by
  unfold addS
  split
  · rename_i h
    exact ⟨.inl, fun z => z.elim id fun e => e ▸ h⟩
  · rw [List.mem_append, List.mem_singleton]
theorem adds_mem {s : Str} : ∀ {ys xs : List Str}, s ∈ ys.foldl addS xs ↔ s ∈ xs ∨ s ∈ ys
  | [], xs => by simp
  | y :: ys, xs => by
    rw [List.foldl_cons, adds_mem, addS_mem, List.mem_cons, or_assoc]
theorem addS_nodup {xs : List Str} {y : Str} (h : xs.Nodup) : (addS xs y).Nodup := by
  unfold addS
  split
  · exact h
  · rename_i n
    exact List.nodup_append.mpr ⟨h, List.pairwise_singleton _ _, fun u hu v hv e => n (by rw [← List.mem_singleton.mp hv, ← e]; exact hu)⟩
theorem adds_nodup : ∀ (ys xs : List Str), xs.Nodup → (ys.foldl addS xs).Nodup
  | [], _, h => h
  | y :: ys, xs, h => adds_nodup ys (addS xs y) (addS_nodup h)
theorem addS_len (xs : List Str) (y : Str) : (addS xs y).length ≤ xs.length + 1 := by
  unfold addS
  split
  · omega
  · rw [List.length_append, List.length_singleton]; omega
theorem adds_len : ∀ (ys xs : List Str), (ys.foldl addS xs).length ≤ xs.length + ys.length
  | [], xs => Nat.le_refl _
  | y :: ys, xs => by
    have h1 := adds_len ys (addS xs y)
    have h2 := addS_len xs y
    rw [List.foldl_cons, List.length_cons]
    omega
theorem ks_len {xs : List Str} : (ks xs).length = xs.length := by unfold ks; rw [List.length_map]
theorem ks_keys {xs : List Str} : ((ks xs).map fun kv => kV kv.1) = xs.map V.str := by
  unfold ks
  rw [List.map_map]
  rfl
section
variable {K : PySem.W.Frag} {H : Hp} {a : Addr} {x : List Str} {σ : L2.St} {ta te : TE} {j : Nat} {vs : List Nat} {Q : VK}
/-- [e for s in x], x a tuple of texts, what is known of each -/
theorem lc_genT {S : V → Str → Hp → Prop} (hS : ∀ v y H H2, (∀ x ys, H x = some (.tup ys) → H2 x = some (.tup ys)) → S v y H → S v y H2) (h : Ev ta σ H (.ref a)) (hl : H a = some (.tup (x.map V.str))) (hz : x.length ≤ 40000) (hw : ∀ x, wipe ((wipe σ vs).set j (some x)) vs = wipe σ vs)
    (he : ∀ (s : Str) H0, Ex H H0 → s ∈ x → ∀ Q : VK, (∀ v H2, Ex H0 H2 → S v s H2 → Q v H2) → te ((wipe σ vs).set j (some (.str s))) H0 Q)
    (q : ∀ D xs H2, H D = none → Ex H H2 → H2 D = some (.lst xs) → Paired (fun v w => S v w H2) xs x → Q (.ref D) H2) : tLc (iTup K ta) (gName j) tYes te vs σ H Q := by
  refine h H (Ex.refl H) _ fun H1 e1 => ?_
  have h1 := e1 _ _ hl
  refine ⟨a, rfl, ⟨_, SqT.of h1⟩, fun D hD => ?_⟩
  refine w_it walk_tup (fun n H' => Ex H1 H' ∧ ∃ xs, H' D = some (.lst xs) ∧ Paired (fun v w => S v w H') xs (x.take n)) ⟨Ex.new hD, [], upd_same, .nil⟩ (fun n H' _ p => ex_t p.1 (SqT.of h1)) (fun n v H2 H3 hn p y => ?_) fun H' p => ?_
  · obtain ⟨rfl, hx⟩ := y
    obtain ⟨e2, xs, hxs, hpx⟩ := p
    rw [List.getElem?_map] at hx
    obtain ⟨s, hs, rfl⟩ := Option.map_eq_some_iff.mp hx
    refine ⟨hw _, ?_⟩
    unfold tYes
    dsimp only
    rw [if_pos rfl]
    refine he s H3 (e1.trans e2) (List.mem_of_getElem? hs) _ fun v H4 e4 hs4 => ?_
    have lx := Paired.length hpx
    rw [List.length_take] at lx
    have hxs4 := e4 _ _ hxs
    have tu : ∀ x ys, H4 x = some (.tup ys) → (upd H4 D (.lst (xs ++ [v]))) x = some (.tup ys) := fun x ys z => by
      rw [upd_ne fun z2 => by
        rw [z2, hxs4] at z
        cases z]
      exact z
    refine ⟨xs, hxs4, sz_lt (by omega), Ex.mut (e2.trans e4) hD, xs ++ [v], upd_same, ?_⟩
    rw [List.take_add_one, hs]
    exact paired_app (paired_mono (fun v y r => hS v y _ _ tu (hS v y _ _ (fun x ys z => e4 _ _ z) r)) hpx) (.cons (hS v _ _ _ tu hs4) .nil)
  · obtain ⟨e2, xs, hxs, hpx⟩ := p
    rw [List.length_map, List.take_length] at hpx
    exact q D xs H' (fresh_back e1 hD) (e1.trans e2) hxs hpx
end
def PsB (v : V) (s : Str) (H : Hp) : Prop := ∃ p, v = .ref p ∧ H p = some (.tup [.str s, .bl true])
theorem pss_of {K : PySem.W.Frag} {H : Hp} : ∀ {us : List V} {x : List Str}, Paired (fun v s => PsB v s H) us x → ∃ ps : List Addr, us = ps.map V.ref ∧ Paired (fun p kv => SqT K H p [kV kv.1, kv.2]) ps (ks x)
  | [], [], .nil => ⟨[], rfl, .nil⟩
  | _ :: _, _ :: _, .cons r t => by
    obtain ⟨p, rfl, h2⟩ := r
    obtain ⟨ps, rfl, hp⟩ := pss_of (K := K) t
    exact ⟨p :: ps, rfl, .cons (SqT.of h2) hp⟩
section
variable {K : PySem.W.Frag} {H : Hp} {a : Addr} {x : List Str} {σ : L2.St} {ta : TE} {j : Nat} {Q : VK}
/-- dict([(s, True) for s in x]) -/
theorem ev_onceS (h : Ev ta σ H (.ref a)) (hl : H a = some (.tup (x.map V.str))) (hz : x.length ≤ 40000) (hw : ∀ x, wipe ((wipe σ [j]).set j (some x)) [j] = wipe σ [j]) (hj : ∀ x, ((wipe σ [j]).set j (some x))[j]? = some (some x)) (q : ∀ D H2, H D = none → Ex H H2 → H2 D = some (.dK (ks (x.foldl addS []))) → Q (.ref D) H2) :
    tCB (rDictK K) (tCons (tLc (iTup K ta) (gName j) tYes (tTup (tCons (tVar j) (tCons (tC (.bl true)) tNil))) [j]) tNil) σ H Q := by
  show tLc (iTup K ta) (gName j) tYes (tTup (tCons (tVar j) (tCons (tC (.bl true)) tNil))) [j] σ H (fun v H1 => rDictK K [v] H1 Q)
  exact lc_genT (S := PsB) (fun v y H1 H2 st r => by
    obtain ⟨p, e, h1⟩ := r
    exact ⟨p, e, st _ _ h1⟩) h hl hz hw (fun s H0 e0 hm Q q => ⟨_, hj _, (by show 2 ≤ sizeLine; decide), fun t ht => q _ _ (Ex.new ht) ⟨t, rfl, upd_same⟩⟩) fun D xs H2 nD e2 hD hp => by
    obtain ⟨ps, rfl, hp2⟩ := pss_of (K := K) hp
    exact ⟨D, ps, ks x, rfl, SqL.of hD, hp2, fun p hp3 => q p _ (fresh_back e2 hp3) (e2.trans (Ex.new hp3)) (by rw [upd_same]; exact congrArg (fun z => some (HO.dK z)) (merge_ks x []))⟩
end
/-- the letters of some words, by the law -/
def spTagsIn (K : PySem.W.Frag) : Sp := fun vs H Q _ => ∃ (l : Addr) (ws : List (List Str)), vs = [.ref l] ∧ LW K H l ws ∧ (∀ w ∈ ws, isW w = true) ∧ ws.length ≤ 100 ∧ ∀ r H', H r = none → Ex H H' → H' r = some (.lst ((ltW ws).map V.str)) → Q (.ref r) H'
/-- what a saying tells, by the law -/
def spTellsY (K : PySem.W.Frag) (T : List (Addr × Str)) (CY : Addr) : Sp := fun vs H Q _ => ∃ (a s r1 r2 : Addr) (ts ms : List (List Str)), vs = [.ref a, .ref s] ∧ Tabs T H ∧ SyAt K CY H a (srtW ts) (srtW ms) ∧ H s = some (.tup [.ref r1, .ref r2]) ∧ LW K H r1 ts ∧ LW K H r2 ms ∧ okWs ts ∧ okWs ms ∧ 1 ≤ ts.length ∧ ts.length ≤ 3 ∧ 1 ≤ ms.length ∧ ms.length ≤ 3 ∧ ∀ H', R (Z0 T) H H' → Q (.bl true) H'
end Tk
namespace K21
open PySem PySem.Spec PyProof.Rows L2 Lw Evl LamX Tk
open Rm (R Ok Z0 Zp Fr fr_none fr_ne nt_lst nt_tup)
open LwX (XC XF)
section
variable {P : Program} {w : World} {K : PySem.W.Frag} {mg : Str → Option Value} {base : Heap}
abbrev s_tags_in : Stmt := topS 38
theorem sc_tags_in : FnScope ["_law_verses_here", "_law_once", "_law_verse", "_law_tag"] ["_law_verses_here"] (defScope s_tags_in) := ⟨rfl, rfl, rfl, by decide +kernel, rfl, by decide +kernel, by decide +kernel⟩
theorem ok_tags_in {f : Addr} {fd : FuncData} (F : FunD K "_law_tags_in" "_law_tags_in" (defArgs s_tags_in) (defBody s_tags_in) (defScope s_tags_in) [] [] f fd) (T : Tx P w K mg base)  : FnG P w K mg base CX0 1 f fd ["_law_verses_here"] (spTagsIn K) := by
  refine fnG F sc_tags_in (fun vs H Q E h => ?_) (fun cdv A outer s H vs Q E gd hr h => ?_)
  · obtain ⟨l, ws, rfl, _⟩ := h
    rfl
  · skip
    refine ⟨_, PSs.nox ((pss_cons (ps_set (i := 1) sc_tags_in.nd rfl (by first | exact Or.inl rfl | exact Or.inr rfl) pe_dnewK)
      (pss_cons (ps_for PassesOwn.never rfl (pi_listK (K := K) (pv 0)) (pg_name (i := 2) sc_tags_in.nd rfl (by first | exact Or.inl rfl | exact Or.inr rfl)) (pss_one (ps_expr (pe_bm PySem.F.plainAttrs_dict PySem.F.slot_dict_update PySem.F.type_dict_update mt_updK (pv 1) (pa_cons (pe_callTy (call_dictK (K := K)) (by rfl) T.m_dict (by decide +kernel) (pa_cons (pe_lc (own := [("_law_tag", 3)]) (g := gName 3) (tt := tYes) rfl sc_tags_in.nd (pi_tupK (K := K) (pv 2)) (blkOk_by (own := [("_law_tag", 3)]) (N := ["_law_verses_here", "_law_once", "_law_verse", "_law_tag"]) (sc := defScope s_tags_in) (by decide +kernel)) (fun _ _ _ _ _ => pg_name (i := 3) sc_tags_in.nd rfl (by first | exact Or.inl rfl | exact Or.inr rfl)) (fun _ _ _ _ _ => pts_nil) (fun _ _ _ _ _ => (pe_tup (pa_cons (pv 3) (pa_cons pe_bl pa_nil))))) pa_nil)) pa_nil)))))
      (pss_one (ps_ret (pe_callBK (cr_sortStr (K := K) hr.units) (by rfl) T.m_sorted (by decide +kernel) (pa_cons (pe_callTy (call_listD rfl) (by rfl) T.m_list (by decide +kernel) (pa_cons (pv 1) pa_nil)) pa_nil) (pk_cons (pe_bltn (v := .ty "str") (by rfl) T.m_str (by decide +kernel) rfl) pk_nil))))))), ?_⟩
    obtain ⟨l, ws, rfl, hl, hw, hz, q⟩ := h
    have h3 := isW_3 hw
    obtain ⟨us, hus, hp⟩ := hl
    refine q_asgX fun D hD => ?_
    have e0 : Ex H (upd H D (.dK [])) := Ex.new hD
    have hD0 : (upd H D (.dK [])) D = some (.dK []) := upd_same
    have hus0 := e0 _ _ hus
    have hp0 := paired_mono (fun _ _ r => wd_mono e0 r) hp
    have fl3 := flat3 h3
    show tSeq _ _ _ _ (upd H D (.dK []))
    refine q_forL (K := K) (ev_var rfl) (SqL.of hus0) (fun i σ' H' => ∃ (c d : Option V) (xs : List Str), σ' = [some (.ref l), some (.ref D), c, d] ∧ Ex H H' ∧ H' D = some (.dK (ks xs)) ∧ xs.Nodup ∧ (∀ s, s ∈ xs ↔ ∃ w ∈ ws.take i, s ∈ w) ∧ xs.length ≤ 3 * i) (fun H2 e2 => ⟨_, _, [], rfl, e0.trans e2, e2 _ _ hD0, List.nodup_nil, fun s => ⟨fun z => absurd z List.not_mem_nil, fun ⟨w, hw, _⟩ => absurd hw List.not_mem_nil⟩, by decide⟩) (fun i σ' H' _ p => ?_) (fun i x σ' H' hx p => ?_) (fun σ' H' p => ?_)
    · obtain ⟨_, _, _, _, e, _⟩ := p
      exact SqL.of (e _ _ hus)
    · obtain ⟨c, d, xs, rfl, e, hxs, nd, mem, lx⟩ := p
      obtain ⟨w, hwn, hv⟩ := paired_at hp hx
      have hwm := List.mem_of_getElem? hwn
      have w3 := h3 w hwm
      obtain ⟨b, rfl, hb⟩ := wd_mono e hv
      have lu := Paired.length hp
      have il := (List.getElem?_eq_some_iff.mp hx).1
      refine ⟨_, rfl, .inr (.inr (.inl ⟨rfl, .inl ⟨_, hxs⟩⟩)), ev_onceS (K := K) (σ := [some (.ref l), some (.ref D), some (.ref b), d]) (j := 3) (ev_var rfl) hb (by omega) (fun _ => rfl) (fun _ => rfl) fun M H2 nM e2 hM => ?_⟩
      have hxs2 := e2 _ _ hxs
      have l0 := adds_len w []
      have l1 := adds_len (w.foldl addS []) xs
      rw [List.length_nil] at l0
      refine ⟨D, M, _, _, rfl, rfl, ne_of_none hxs nM, hxs2, hM, by rw [ks_len, ks_len]; omega, ?_⟩
      rw [merge_ks]
      refine ⟨_, _, _, rfl, Ex.mut (e.trans e2) hD, upd_same, adds_nodup _ _ nd, fun s => ?_, by omega⟩
      rw [adds_mem, adds_mem, mem, List.take_add_one, hwn]
      simp only [List.mem_append, Option.toList, List.mem_singleton, List.not_mem_nil, false_or]
      constructor
      · rintro (⟨u, hu, hs⟩ | hs)
        · exact ⟨u, .inl hu, hs⟩
        · exact ⟨w, .inr rfl, hs⟩
      · rintro ⟨u, hu | hu, hs⟩
        · exact .inl ⟨u, hu, hs⟩
        · exact .inr (hu ▸ hs)
    · obtain ⟨c, d, xs, rfl, e, hxs, nd, mem, lx⟩ := p
      have lu := Paired.length hp
      rw [lu, List.take_length] at mem
      refine ⟨_, rfl, D, _, rfl, .inl hxs, fun t ht => ⟨t, xs, rfl, rfl, SqL.of (by rw [upd_same, ks_keys]), by omega, fun r hr => ?_⟩⟩
      rw [str_ltW nd mem]
      exact q r _ (fresh_back (e.trans (Ex.new ht)) hr) ((e.trans (Ex.new ht)).trans (Ex.new hr)) upd_same

end
end K21
namespace Tk
open PySem PySem.Spec PyProof.Rows L2
/-! ### the head's facts, the interpreter's own table among them (a class's constants are read by it) -/
section
variable (n : Nat) (fa : List He.Fa) (fn : List He.DefD) (tf : List He.Defn) (ex : PySem.W.Frag → Bool)
/-- what the names reach, and that table -/
def partY (g : Addr → Option Obj) : PySem.W.Frag := He.frT g (cStatics :: He.asD g n)
abbrev ToldY : Type := He.AlT × (Bool × Bool)
def obsY (g : Addr → Option Obj) : ToldY := (He.obsT fa fn [] (partY n g), (ex (partY n g), He.tabsB g tf (partY n g)))
structure SaysY (w : World) (h : Heap) (K : PySem.W.Frag) : Prop where
  t : He.SaysT fa fn [] w K
  more : ex K = true
  both : ∀ p ∈ tf, PySem.W.codeHdIn K (He.cT K p).1 (He.cT K p).2 = true ∧ K.lookup (He.cT K p).2 = none ∧ h.get? (He.cT K p).2 = some { cls := .none, data := .fields #[] }
variable {n fa fn tf ex}
theorem SaysY.hd {w : World} {h : Heap} {K : PySem.W.Frag} (c : SaysY fa fn tf ex w h K) (p : He.Defn) (m : p ∈ tf) : PySem.W.codeHdIn K (He.cT K p).1 (He.cT K p).2 = true := (c.both p m).1
theorem SaysY.out {w : World} {h : Heap} {K : PySem.W.Frag} (c : SaysY fa fn tf ex w h K) (p : He.Defn) (m : p ∈ tf) : K.lookup (He.cT K p).2 = none := (c.both p m).2.1
theorem SaysY.empty {w : World} {h : Heap} {K : PySem.W.Frag} (c : SaysY fa fn tf ex w h K) (p : He.Defn) (m : p ∈ tf) : h.get? (He.cT K p).2 = some { cls := .none, data := .fields #[] } := (c.both p m).2.2
theorem saysY_of {w : World} {h : Heap} (e : obsY n fa fn tf ex h.get? = (He.valT fn [] w, (true, true))) : SaysY fa fn tf ex w h (partY n h.get?) := by
  unfold obsY at e
  have a := (Prod.mk.injEq _ _ _ _ ▸ e : _ ∧ _)
  have b := (Prod.mk.injEq _ _ _ _ ▸ a.2 : _ ∧ _)
  refine ⟨a.1, b.1, fun p m => ?_⟩
  have z := List.all_eq_true.mp (show (tf.all fun p => _) = true from b.2) p m
  have z1 := (Bool.and_eq_true_iff.mp z).1
  have z2 := (Bool.and_eq_true_iff.mp z).2
  cases q : h.get? (He.cT (partY n h.get?) p).2 with
  | none => rw [q] at z2; cases z2
  | some o =>
    rw [q] at z2
    exact ⟨z1, He.frT_none q z2, by rw [He.emptyTab_eq z2]⟩
variable (n fa fn tf ex)
def hookY : PySem.W.Hook where
  α := ToldY
  obs := fun s => obsY n fa fn tf ex s.heap.get?
  val := fun w => (He.valT fn [] w, (true, true))
  says := fun w h => ∃ K : PySem.W.Frag, K.In h ∧ SaysY fa fn tf ex w h K
  of := fun _ s e => ⟨partY n s.heap.get?, He.frT_in, saysY_of e⟩
  keeps := fun _ _ _ z k => z.elim fun K y => ⟨K, PySem.W.Frag.In.keeps y.1 k, y.2.t, y.2.more, fun p m => ⟨(y.2.both p m).1, (y.2.both p m).2.1, k _ _ (y.2.both p m).2.2⟩⟩
theorem obsY_eq {g : Addr → Option Obj} {s : Shared} (h : ∀ a, g a = s.heap.get? a) : obsY n fa fn tf ex g = (hookY n fa fn tf ex).obs s := congrArg (obsY n fa fn tf ex) (funext h)
end
end Tk
namespace Tk
open PySem PySem.Spec PyProof.Rows L2 Lw
/-! ### defs that stand at a place of one's own (a property's getter) -/
def fnWat (K : PySem.W.Frag) (a : Addr) : He.FnW := match K.lookup a with
  | some ⟨_, _, .func fd, _⟩ => some (fd.name, fd.qualname, fd.params, fd.body, fd.scope, fd.globals, fd.closure, fd.builtins)
  | _ => none
def okAt (K : PySem.W.Frag) (a : Addr) (d : He.DefD) : Bool := PySem.W.keepIn K (.ref a) && (match K.lookup a with
  | some ⟨_, _, .func fd, _⟩ => PySem.W.codeIn K fd.code d.qual && (He.dflB K fd.defaults (d.dvs K) && He.kwdB K fd.kwdefaults (d.kws K))
  | _ => false)
theorem funAt {K : PySem.W.Frag} {a : Addr} {d : He.DefD} (e : fnWat K a = d.val) (c : okAt K a d = true) : ∃ fd, FunD K d.name d.qual d.params d.body d.scope (d.dvs K) (d.kws K) a fd := by
  obtain ⟨kp, c2⟩ := He.ba c
  unfold fnWat at e
  cases q : K.lookup a with
  | none =>
    rw [q] at c2
    cases c2
  | some o =>
    obtain ⟨oc, od, dt, osl⟩ := o
    rw [q] at c2 e
    cases dt with
    | func fd =>
      obtain ⟨n1, n2, n3, n4, n5, n6, n7, n8, n9, n10, n11, n12, n13, n14, n15⟩ := fd
      have e2 : (some (n1, n2, n3, n4, n5, n6, n7, n15) : He.FnW) = some (d.name, d.qual, d.params, .stmts d.body, d.scope, mainGlobals, [], builtinsNs) := e
      simp only [Option.some.injEq, Prod.mk.injEq] at e2
      obtain ⟨h1, h2, h3, h4, h5, h6, h7, h8⟩ := e2
      subst h1 h2 h3 h4 h5 h6 h7 h8
      have c3 : (PySem.W.codeIn K n13 d.qual && (He.dflB K n8 (d.dvs K) && He.kwdB K n9 (d.kws K))) = true := c2
      obtain ⟨k1, k2⟩ := He.ba c3
      obtain ⟨k3, k4⟩ := He.ba k2
      exact ⟨_, ⟨oc, od, n8, n9, n10, n11, n12, n13, n14, osl, rfl, q, k1, He.dflB_ok k3, He.kwdB_ok k4⟩, kp⟩
    | _ => cases c2
/-- a property's getter; what its class must have -/
def prA (K : PySem.W.Frag) (x m : Str) : Addr := match PySem.W.recIn K (He.ma K (He.ga K x) m) "property" with
  | some (.ref g :: _) => g
  | _ => 0
def propB (K : PySem.W.Frag) (x m : Str) : Bool := He.eqO (PySem.W.findIn K (.ref (He.ga K x)) m) (some (some (.ref (He.ma K (He.ga K x) m)))) && (He.eqO (PySem.W.specialIn K (.ref (He.ma K (He.ga K x) m)) "__get__") (some (some (.builtin "property.__get__"))) &&
  (decide (PySem.W.takesIn K (.ref (He.ma K (He.ga K x) m)) = some true) && (match PySem.W.recIn K (He.ma K (He.ga K x) m) "property" with
    | some (.ref _ :: _) => true
    | _ => false)))
theorem prop_ok {K : PySem.W.Frag} {x m : Str} (h : propB K x m = true) : PropOf K (He.ga K x) m (He.ma K (He.ga K x) m) (prA K x m) := by
  obtain ⟨h1, h⟩ := He.ba h
  obtain ⟨h2, h⟩ := He.ba h
  obtain ⟨h3, h4⟩ := He.ba h
  refine ⟨He.eqO_ok h1, He.eqO_ok h2, of_decide_eq_true h3, ?_⟩
  unfold prA
  split at h4
  · rename_i g rest e
    rw [e]
    exact ⟨rest, rfl⟩
  · cases h4
/-! ### a def's default: the empty tuple -/
def dfA (K : PySem.W.Frag) (p : Str × Option Str) : Addr := match K.lookup (He.fAd K p) with
  | some ⟨_, _, .func fd, _⟩ => (match fd.defaults with
    | .ref T => (match K.lookup T with
      | some ⟨_, _, .seq its _, _⟩ => (match its.toList with
        | .ref d :: _ => d
        | _ => 0)
      | _ => 0)
    | _ => 0)
  | _ => 0
def etupB (K : PySem.W.Frag) (d : Addr) : Bool := match K.lookup d with
  | some ⟨.type c, _, .seq its _, _⟩ => decide (c = "tuple") && its.toList.isEmpty
  | _ => false
theorem etup_ok {K : PySem.W.Frag} {d : Addr} (h : etupB K d = true) (H : Hp) : SqT K H d [] := by
  unfold etupB at h
  cases q : K.lookup d with
  | none =>
    rw [q] at h
    cases h
  | some o =>
    obtain ⟨oc, od, dt, osl⟩ := o
    rw [q] at h
    cases oc with
    | type c =>
      cases dt with
      | seq its n =>
        obtain ⟨h1, h2⟩ := He.ba (show (decide (c = "tuple") && its.toList.isEmpty) = true from h)
        have e : its.toList = [] := List.isEmpty_iff.mp h2
        refine .inr ⟨_, its, n, q, congrArg Value.type (of_decide_eq_true h1), rfl, ?_, ?_⟩
        · have l : its.size = 0 := by rw [← Array.length_toList, e]; rfl
          rw [l]
          exact Nat.zero_le _
        · rw [e]
          exact .nil
      | _ => cases h
    | _ => cases dt <;> cases h
section
variable {K : PySem.W.Frag} {x qual p : Str} {params : Arguments} {body : List Stmt} {scope : Scope} {d f : Addr} {fd : FuncData}
/-- how a def with one parameter behind self, that has a default, is bound -/
theorem bD2 (F : FunD K x qual params body scope [V.ref d] [] f fd) (h : ∀ (T : Addr) (kV doc pm : Value) (an : Option Addr) (cdv ct : Value) (u v z : Value), ∃ k, bindArgs (PySem.W.fnOf x qual params body scope (.ref T) kV doc pm an cdv ct) ⟨[u, v], []⟩ = seqItems? (.ref T) >>= k ∧ k (some #[z]) = pure [(("self" : Str), u), (p, v)]) : Binds K fd ["self", p] [] := by
  obtain ⟨ds, hv, hb⟩ := F.binds1 (ps := ["self", p]) 2 1 (by simp) rfl fun T kV doc pm an cdv ct us its h1 h2 => by
    match us, its, h1, h2 with
    | [u, v], [z], _, _ => exact h T kV doc pm an cdv ct u v z
  cases hv
  exact hb
theorem bD1 (F : FunD K x qual params body scope [V.ref d] [] f fd) (h : ∀ (T : Addr) (kV doc pm : Value) (an : Option Addr) (cdv ct : Value) (u z : Value), ∃ k, bindArgs (PySem.W.fnOf x qual params body scope (.ref T) kV doc pm an cdv ct) ⟨[u], []⟩ = seqItems? (.ref T) >>= k ∧ k (some #[z]) = pure [(("self" : Str), u), (p, z)]) : Binds K fd ["self", p] [.ref d] := by
  obtain ⟨ds, hv, hb⟩ := F.binds1 (ps := ["self", p]) 1 0 (by simp) rfl fun T kV doc pm an cdv ct us its h1 h2 => by
    match us, its, h1, h2 with
    | [u], [z], _, _ => exact h T kV doc pm an cdv ct u z
  have e : ds = [.ref d] := by
    cases hv with
    | cons r t =>
      cases t
      rw [show _ = Value.ref d from r]
  rw [e] at hb
  exact hb
theorem bDK (F : FunD K x qual params body scope [V.ref d] [] f fd) (h : ∀ (T : Addr) (kV doc pm : Value) (an : Option Addr) (cdv ct : Value) (u v z : Value), ∃ k, bindArgs (PySem.W.fnOf x qual params body scope (.ref T) kV doc pm an cdv ct) ⟨[u], [(p, v)]⟩ = seqItems? (.ref T) >>= k ∧ k (some #[z]) = pure [(("self" : Str), u), (p, v)]) : KBn K fd ["self", p] 1 [p] (fun us ws => us ++ ws) (fun vs zs => vs ++ zs) := by
  obtain ⟨oc, od, dV, kV, doc, pm, an, cdv, ct, osl, rfl, lk, hcd, hD, hK⟩ := F.ex
  rcases hD with ⟨e, _⟩ | ⟨_, T, o, its, m, rfl, lT, oT, rT⟩
  · cases e
  · refine ⟨fun s us ws X l1 l2 => ?_, fun r1 r2 => r1.append r2⟩
    match us, ws, l1, l2, its, rT with
    | [u], [v], _, _, [z], _ =>
      obtain ⟨k, e1, e2⟩ := h T kV doc pm an cdv ct u v z
      refine BindsTo.of_looks fun M => ?_
      show PySem.W.Looks M s.heap (bindArgs _ ⟨[u], [(p, v)]⟩) _
      rw [e1]
      exact looks_items X lT oT (.of_pure e2)
    | [u], [v], _, _, _ :: _ :: _, .cons _ t => cases t
end
/-! ### the hook -/
section
variable (n : Nat) (fa : List He.Fa) (fn : List He.DefD) (tf : List He.Defn) (fx : List ((PySem.W.Frag → Addr) × He.DefD)) (ex : PySem.W.Frag → Bool)
abbrev ToldZ : Type := ToldY × (Bool × List He.FnW)
def obsX (K : PySem.W.Frag) : Bool × List He.FnW := (fx.all fun q => okAt K (q.1 K) q.2, fx.map fun q => fnWat K (q.1 K))
def obsZ (g : Addr → Option Obj) : ToldZ := (obsY n fa fn tf ex g, obsX fx (partY n g))
def valX : Bool × List He.FnW := (true, fx.map fun q => He.DefD.val q.2)
def FxS (K : PySem.W.Frag) : Prop := obsX fx K = valX fx
structure SaysZ (w : World) (h : Heap) (K : PySem.W.Frag) : Prop where
  y : SaysY fa fn tf ex w h K
  z : FxS fx K
def hookZ : PySem.W.Hook where
  α := ToldZ
  obs := fun s => obsZ n fa fn tf fx ex s.heap.get?
  val := fun w => ((He.valT fn [] w, (true, true)), valX fx)
  says := fun w h => ∃ K : PySem.W.Frag, K.In h ∧ SaysZ fa fn tf fx ex w h K
  of := fun _ s e => ⟨partY n s.heap.get?, He.frT_in, saysY_of (congrArg (fun z : ToldZ => z.1) e), congrArg (fun z : ToldZ => z.2) e⟩
  keeps := fun _ _ _ z k => z.elim fun K y => ⟨K, PySem.W.Frag.In.keeps y.1 k, ⟨y.2.y.t, y.2.y.more, fun p m => ⟨(y.2.y.both p m).1, (y.2.y.both p m).2.1, k _ _ (y.2.y.both p m).2.2⟩⟩, y.2.z⟩
theorem obsZ_eq {g : Addr → Option Obj} {s : Shared} (h : ∀ a, g a = s.heap.get? a) : obsZ n fa fn tf fx ex g = (hookZ n fa fn tf fx ex).obs s := congrArg (obsZ n fa fn tf fx ex) (funext h)
end
theorem FxS.def_ {fx : List ((PySem.W.Frag → Addr) × He.DefD)} {K : PySem.W.Frag} (c : FxS fx K) (i : Nat) {q : (PySem.W.Frag → Addr) × He.DefD} (h : fx[i]? = some q := by rfl) : ∃ fd, FunD K q.2.name q.2.qual q.2.params q.2.body q.2.scope (q.2.dvs K) (q.2.kws K) (q.1 K) fd := by
  have c1 : (fx.all fun q => okAt K (q.1 K) q.2) = true := congrArg (fun z : Bool × List He.FnW => z.1) c
  have c2 : (fx.map fun q => fnWat K (q.1 K)) = fx.map fun q => He.DefD.val q.2 := congrArg (fun z : Bool × List He.FnW => z.2) c
  have e : (fx.map fun q => fnWat K (q.1 K))[i]? = (fx.map fun q => He.DefD.val q.2)[i]? := by rw [c2]
  rw [List.getElem?_map, List.getElem?_map, h] at e
  exact funAt (Option.some.inj e) (List.all_eq_true.mp c1 q (List.mem_of_getElem? h))
end Tk
namespace Tk
open PySem PySem.Spec PyProof.Rows L2 Lw
/-! ### a class method: where its def stands; what its class must have -/
def cmA (K : PySem.W.Frag) (x m : Str) : Addr := He5.wf K (He.ga K x) "classmethod" m
def cmB (K : PySem.W.Frag) (x m : Str) : Bool := PySem.W.readsIn K (He.ga K x) (.type "type") && (He.eqO (PySem.W.specialIn K (.ref (He.ga K x)) "__getattribute__") (some (some (.builtin "type.__getattribute__"))) && (He5.wrapB K (He.ga K x) "classmethod" "classmethod.__get__" m && PySem.W.fnIn K (cmA K x m)))
structure CmF (K : PySem.W.Frag) (x m : Str) : Prop where
  rd : ClX.CRead K (He.ga K x) (.type "type")
  me : ClX.CMet K (He.ga K x) (.type "type") m (He.ma K (He.ga K x) m) (cmA K x m)
theorem cm_ok {K : PySem.W.Frag} {x m : Str} (h : cmB K x m = true) : CmF K x m := by
  obtain ⟨h1, h⟩ := He.ba h
  obtain ⟨h2, h⟩ := He.ba h
  obtain ⟨h3, h4⟩ := He.ba h
  exact ⟨⟨h1, He.eqO_ok h2⟩, He5.cmet_of h3 h4⟩
/-- how a class method binds what is passed by name -/
theorem bindsC {K : PySem.W.Frag} {x qual : Str} {params : Arguments} {scope : Scope} {f : Addr} {fd : FuncData} {body : List Stmt} {ps : List Str} (F : FunD K x qual params body scope [] [] f fd)
    (z : ∀ (kV doc pm : Value) (an : Option Addr) (cdv ct : Value) (v : Value) (ws : List Value), ws.length = ps.length → bindArgs (PySem.W.fnOf x qual params body scope .none kV doc pm an cdv ct) ⟨[v], ps.zip ws⟩ = pure ((("cls" : Str) :: ps).zip (v :: ws))) (v : Value) (ws : List Value) (s : Shared) (e : ws.length = ps.length) :
    BindsTo s fd ⟨[v], ps.zip ws⟩ ((("cls" : Str) :: ps).zip (v :: ws)) := by
  obtain ⟨oc, od, dV, kV, doc, pm, an, cdv, ct, osl, rfl, _, _, hD, _⟩ := F.ex
  rcases hD with ⟨_, rfl⟩ | ⟨n, _⟩
  · exact .of_eq (z kV doc pm an cdv ct v ws e)
  · exact absurd rfl n
theorem bindsCR {K : PySem.W.Frag} {x qual : Str} {params : Arguments} {scope : Scope} {f : Addr} {fd : FuncData} {body : List Stmt} {ps : List Str} (F : FunD K x qual params body scope [] [] f fd)
    (z : ∀ (kV doc pm : Value) (an : Option Addr) (cdv ct : Value) (v : Value) (ws : List Value), ws.length = ps.length → bindArgs (PySem.W.fnOf x qual params body scope .none kV doc pm an cdv ct) ⟨[v], ps.reverse.zip ws⟩ = pure ((("cls" : Str) :: ps).zip (v :: ws.reverse))) (v : Value) (ws : List Value) (s : Shared) (e : ws.length = ps.length) :
    BindsTo s fd ⟨[v], ps.reverse.zip ws⟩ ((("cls" : Str) :: ps).zip (v :: ws.reverse)) := by
  obtain ⟨oc, od, dV, kV, doc, pm, an, cdv, ct, osl, rfl, _, _, hD, _⟩ := F.ex
  rcases hD with ⟨_, rfl⟩ | ⟨n, _⟩
  · exact .of_eq (z kV doc pm an cdv ct v ws e)
  · exact absurd rfl n
/-- except clauses by a built-in class -/
def etB (K : PySem.W.Frag) (x : Str) (t : String) (b : Bool) : Bool := decide (PySem.W.exmOne K (.ref (He.ga K x)) (.type t) = some b)
end Tk
namespace Tk
open PySem PySem.Spec PyProof.Rows L2 Lw Evl
/-! ### a constant of a class, an int, read off an instance -/
def ConI (K : PySem.W.Frag) (C : Addr) (f : Str) (i : Int) : Prop := ∃ u, L2.Con K C f (.int i) u
def conB (K : PySem.W.Frag) (x f : Str) (i : Int) : Bool := (match PySem.W.findIn K (.ref (He.ga K x)) f with
  | some (some (.int j t)) => decide (j = i) && decide (PySem.W.specialIn K (.int j t) "__get__" = some none)
  | _ => false) && !PySem.W.copiedNames.contains f
theorem con_ok {K : PySem.W.Frag} {x f : Str} {i : Int} (h : conB K x f i = true) : ConI K (He.ga K x) f i := by
  obtain ⟨h1, h2⟩ := He.ba h
  split at h1
  · rename_i j t e
    obtain ⟨k1, k2⟩ := He.ba h1
    have z := of_decide_eq_true k1
    subst z
    exact ⟨_, e, ⟨t, rfl⟩, of_decide_eq_true k2, by simpa using h2⟩
  · cases h1
theorem pe_conK {X : Cx} {K : PySem.W.Frag} {e : Expr} {te : TE} {f : Str} {pos : Pos} (he : PE X e te) (h : X.K = K := by rfl) (hb : attributeBase e f X.env (eval e X.env) = eval e X.env := by rfl) : PE X (.Attribute e f pos) (tCon K te f) := h ▸ pe_con he hb
theorem ev_con {K : PySem.W.Frag} {mg : Str → Option Value} {x : Str} {σ : L2.St} {H : Hp} {te : TE} {C a dx : Addr} {f : Str} {i : Int} {fs : List (Str × V)} (c : OwnC K mg x C) (n : ConI K C f i) (h : Ev te σ H (.ref a)) (e : H a = some (.ins C dx fs)) (l : fs.lookup f = none) : Ev (tCon K te f) σ H (.int i) := fun H1 e1 Q q => h H1 e1 _ fun H2 e2 => by
  obtain ⟨u, k⟩ := n
  exact ⟨a, C, dx, fs, _, u, rfl, (e1.trans e2) _ _ e, c.cl, k, l, q H2 e2⟩
end Tk
namespace Tk
open PySem PySem.Spec PyProof.Rows L2 Lw Evl LamX TL
open Rm (R Ok Z0 Zp Fr fr_none fr_ne nt_lst nt_tup nt_dK NT Zn)
section
variable {P : Program} {w : World} {K : PySem.W.Frag} {Z : Zn} {TT : List (Addr × Str)} {H H0 H1 H2 : Hp} {σ : L2.St} {te ta tb tc td : TE} {tt : L2.TT} {a b l CF CM CS d : Addr} {ws us : List (List Str)} {xs ys ss : List Str} {s : Str} {i j n : Nat} {Q : VK} {E : XK}
/-- a list or a tuple of texts -/
def EvLT (te : TE) (σ : L2.St) (H : Hp) (xs : List Str) : Prop := ∀ H1, Ex H H1 → ∀ Q : VK, (∀ l H2, Ex H1 H2 → (H2 l = some (.lst (xs.map V.str)) ∨ H2 l = some (.tup (xs.map V.str))) → Q (.ref l) H2) → te σ H1 Q
theorem lt_var (h : Ev te σ H (.ref l)) (hl : H l = some (.lst (xs.map V.str))) : EvLT te σ H xs := fun H1 e Q q => h H1 e _ fun H2 e2 => q l H2 e2 (.inl ((e.trans e2) _ _ hl))
theorem lt_tup (h : Ev te σ H (.ref l)) (hl : H l = some (.lst (xs.map V.str))) : EvLT (tCB (rTupleK K) (tCons te tNil)) σ H xs := fun H1 e Q q => h H1 e _ fun H2 e2 => ⟨l, _, rfl, .inl ⟨SqL.of ((e.trans e2) _ _ hl), fun t ht => q t _ (e2.trans (Ex.new ht)) (.inr upd_same)⟩⟩
theorem lt_new (h : EvL te σ H (xs.map V.str)) : EvLT te σ H xs := fun H1 e Q q => h H1 e _ fun p H2 _ e2 hp => q p H2 e2 (.inl hp)
/-- Front.full(letters, many) -/
theorem ef_full (hT : Z.T = TT) (ha : ∀ H1, R Z H H1 → EvLT ta σ H1 xs) (hb : ∀ H1, R Z H H1 → Ev tb σ H1 (.int (n : Int))) (hs : ∀ s ∈ xs, isL s = true) (hz : xs.length ≤ 1000) (hn : n ≤ 3) (nd : ss.Nodup) (mem : ∀ s, s ∈ ss ↔ s ∈ xs) (h3 : ss.length ≤ 3) :
    Ef Z K CF (ClX.tCMeth CF (spFull K TT CF CM) E (tC (.ref CF)) (tCons ta (tCons tb tNil))) σ H (fullW ss n) := fun H1 r Q q =>
  ⟨rfl, ha H1 r H1 (Ex.refl H1) _ fun l H2 e2 hl => hb H2 (r.ex e2) H2 (Ex.refl H2) _ fun H3 e3 => by
    have e13 := e2.trans e3
    have r3 : R Z H1 H3 := .of r.b e13
    exact ⟨l, xs, ss, n, rfl, by rw [← hT]; exact r3.b.1, hl.imp (e3 _ _) (e3 _ _), hs, hz, hn, nd, mem, .inl ⟨h3, fun x H4 fx r4 hf => q x H4 (r3.fr fx) (r3.trans (r0_up r3.b hT r4)) hf⟩⟩⟩
theorem ef_fullR (hT : Z.T = TT) (ha : ∀ H1, R Z H H1 → EvLT ta σ H1 xs) (hb : ∀ H1, R Z H H1 → Ev tb σ H1 (.int (n : Int))) (hs : ∀ s ∈ xs, isL s = true) (hz : xs.length ≤ 1000) (hn : n ≤ 3) (nd : ss.Nodup) (mem : ∀ s, s ∈ ss ↔ s ∈ xs) (h3 : ss.length ≤ 3) :
    Ef Z K CF (tCMethR CF false (spFull K TT CF CM) E (tC (.ref CF)) (tCons ta (tCons tb tNil))) σ H (fullW ss n) := fun H1 r Q q =>
  ⟨rfl, ha H1 r H1 (Ex.refl H1) _ fun l H2 e2 hl => hb H2 (r.ex e2) H2 (Ex.refl H2) _ fun H3 e3 => by
    have e13 := e2.trans e3
    have r3 : R Z H1 H3 := .of r.b e13
    exact ⟨l, xs, ss, n, rfl, by rw [← hT]; exact r3.b.1, hl.imp (e3 _ _) (e3 _ _), hs, hz, hn, nd, mem, .inl ⟨h3, fun x H4 fx r4 hf => q x H4 (r3.fr fx) (r3.trans (r0_up r3.b hT r4)) hf⟩⟩⟩
theorem el_letters (h : Ev te σ H (.ref a)) (hf : FrAt K CF H a ws) (sd : Sd ws) (hz : ws.length ≤ 1000) (h64 : (singles ws).length < 64) : EvL (tMeth CF "letters" (spFrLet K CF) [] E0 te tNil) σ H ((singles ws).map V.str) := fun H1 e Q q => h H1 e _ fun H2 e2 => by
  have hf2 := fr_ex (e.trans e2) hf
  obtain ⟨dx, d, h1, h2⟩ := id hf2
  exact ⟨a, dx, _, rfl, h1, rfl, a, ws, rfl, hf2, sd, hz, h64, fun l H3 nl e3 hL => q l H3 (fresh_back e2 nl) (e2.trans e3) hL⟩
theorem el_if {b : Bool} {vs : List V} (h : EvT tt σ H b) (h1 : b = true → EvL ta σ H vs) (h2 : b = false → EvL tb σ H vs) : EvL (tIf tt ta tb) σ H vs := fun H1 e Q q => h H1 e _ fun H2 e2 => by
  cases b with
  | true => exact h1 rfl H2 (e.trans e2) Q fun p H3 np e3 hp => q p H3 (fresh_back e2 np) (e2.trans e3) hp
  | false => exact h2 rfl H2 (e.trans e2) Q fun p H3 np e3 hp => q p H3 (fresh_back e2 np) (e2.trans e3) hp
theorem el_sortedF (h : Ev te σ H (.ref l)) (hl : H l = some (.lst (ss.map V.str))) (nd : ss.Nodup) (hz : ss.length < 64) : EvL (tCB (rSortedS K) (tCons te tNil)) σ H ((singles (fullW ss (n + 1))).map V.str) := fun H1 e Q q => h H1 e _ fun H2 e2 =>
  ⟨l, ss, rfl, SqL.of ((e.trans e2) _ _ hl), hz, fun ys p pm so hp => by
    rw [full_sorted (n := n) nd pm so]
    exact q p _ (fresh_back e2 hp) (e2.trans (Ex.new hp)) upd_same⟩
/-- two lists of the same texts -/
theorem et_neTx (ha : EvL ta σ H (xs.map V.str)) (hb : EvL tb σ H (xs.map V.str)) (hs : ∀ s ∈ xs, isL s = true) : EvT (tTest (tOp (rNeD K) ta tb)) σ H false := by
  have sh := shaped_strs fun x hx => strOk_of (hs x hx)
  have z := ev_neD (K := K) (d := .list (xs.map PyData.str)) (e := .list (xs.map PyData.str)) ha hb (fun H1 p _ h => .lst (SqL.of h) (dpa_str xs)) (fun H1 p _ h => .lst (SqL.of h) (dpa_str xs)) sh sh
  rw [SeqAt.eqv_refl _ (SeqAt.canLay_of_shaped sh)] at z
  exact et_test z
theorem et_neTxV (ha : Ev ta σ H (.ref a)) (hb : Ev tb σ H (.ref b)) (h1 : H a = some (.lst (xs.map V.str))) (h2 : H b = some (.lst (xs.map V.str))) (hs : ∀ s ∈ xs, isL s = true) : EvT (tTest (tOp (rNeD K) ta tb)) σ H false := fun H1 e Q q => ha H1 e _ fun H2 e2 => hb H2 (e.trans e2) _ fun H3 e3 => by
  have sh := shaped_strs fun x hx => strOk_of (hs x hx)
  have e03 := (e.trans e2).trans e3
  refine ⟨.list (xs.map PyData.str), .list (xs.map PyData.str), .lst (SqL.of (e03 _ _ h1)) (dpa_str xs), .lst (SqL.of (e03 _ _ h2)) (dpa_str xs), sh, sh, ?_⟩
  rw [SeqAt.eqv_refl _ (SeqAt.canLay_of_shaped sh)]
  exact ⟨_, rfl, q H3 (e2.trans e3)⟩
theorem ev_longF (h : Ev te σ H (.ref a)) (hf : FrAt K CF H a (fullW ss n)) (hz : (fullW ss n).length ≤ 1000) : Ev (tProp CF (spFrLong K CF) [] E0 te) σ H (.int (if ss ≠ [] then (n : Int) else 0)) := fun H1 e Q q => h H1 e _ fun H2 e2 => by
  have hf2 := fr_ex (e.trans e2) hf
  obtain ⟨dx, d, h1, h2⟩ := id hf2
  refine ⟨a, dx, _, rfl, h1, a, fullW ss n, rfl, hf2, fun z => ?_, hz, fun m H3 e3 hm hM => ?_⟩
  · have := (fullW_cl ss n).nil
    rw [z] at this
    exact absurd this List.not_mem_nil
  · rw [full_long hm hM]
    exact q H3 (e2.trans e3)
end
end Tk
namespace Tk
open PySem PySem.Spec PyProof.Rows L2 Lw Evl LamX TL
open Rm (R Ok Z0 Zp Fr fr_none fr_ne nt_lst nt_tup nt_dK NT Zn)
/-! ### what a saying tells -/
section
variable {P : Program} {w : World} {K : PySem.W.Frag} {Z : Zn} {TT : List (Addr × Str)} {H H0 H1 H2 : Hp} {σ : L2.St} {te ta tb td : TE} {a b l CF CY CS d : Addr} {ws us ts ms : List (List Str)} {xs : List Str} {i j n : Nat} {Q : VK} {E : XK}
theorem elw_syT (h : Ev te σ H (.ref a)) (ha : SyAt K CY H a ts ms) : EvLW K (tMeth CY "triggers" (spSyT K CY) [] E0 te tNil) σ H ts := fun H1 e Q q => h H1 e _ fun H2 e2 => by
  have h2 := sy_ex (e.trans e2) ha
  obtain ⟨dx, lt, lm, h3, h4, h5⟩ := id h2
  exact ⟨a, dx, _, rfl, h3, rfl, a, ts, ms, rfl, h2, fun r H3 nr e3 hL => q r H3 (fresh_back e2 nr) (e2.trans e3) hL⟩
theorem elw_syM (h : Ev te σ H (.ref a)) (ha : SyAt K CY H a ts ms) : EvLW K (tMeth CY "makes" (spSyM K CY) [] E0 te tNil) σ H ms := fun H1 e Q q => h H1 e _ fun H2 e2 => by
  have h2 := sy_ex (e.trans e2) ha
  obtain ⟨dx, lt, lm, h3, h4, h5⟩ := id h2
  exact ⟨a, dx, _, rfl, h3, rfl, a, ts, ms, rfl, h2, fun r H3 nr e3 hL => q r H3 (fresh_back e2 nr) (e2.trans e3) hL⟩
theorem el_syLt (h : Ev te σ H (.ref a)) (ha : SyAt K CY H a ts ms) (w1 : ∀ w ∈ ts, isW w = true) (w2 : ∀ w ∈ ms, isW w = true) (z1 : ts.length ≤ 3) (z2 : ms.length ≤ 3) : EvL (tMeth CY "letters" (spSyLt K CY) [] E0 te tNil) σ H ((ltW (ts ++ ms)).map V.str) := fun H1 e Q q => h H1 e _ fun H2 e2 => by
  have h2 := sy_ex (e.trans e2) ha
  obtain ⟨dx, lt, lm, h3, h4, h5⟩ := id h2
  exact ⟨a, dx, _, rfl, h3, rfl, a, ts, ms, rfl, h2, w1, w2, z1, z2, fun r H3 nr e3 hL => q r H3 (fresh_back e2 nr) (e2.trans e3) hL⟩
theorem el_syML (h : Ev te σ H (.ref a)) (ha : SyAt K CY H a ts ms) (w2 : ∀ w ∈ ms, isW w = true) (z2 : ms.length ≤ 3) : EvL (tMeth CY "make_letters" (spSyML K CY) [] E0 te tNil) σ H ((ltW ms).map V.str) := fun H1 e Q q => h H1 e _ fun H2 e2 => by
  have h2 := sy_ex (e.trans e2) ha
  obtain ⟨dx, lt, lm, h3, h4, h5⟩ := id h2
  exact ⟨a, dx, _, rfl, h3, rfl, a, ts, ms, rfl, h2, w2, z2, fun r H3 nr e3 hL => q r H3 (fresh_back e2 nr) (e2.trans e3) hL⟩
theorem fv_syTF (hT : Z.T = TT) (h : ∀ H1, R Z H H1 → Ev te σ H1 (.ref a)) (ha : SyAt K CY H a ts ms) (w1 : ∀ w ∈ ts, isW w = true) (z1 : ts.length ≤ 3) : Fv Z K CF (tMeth CY "trigger_front" (spSyTF K TT CY CF) [] E te tNil) σ H (clW ts) := fun H1 r Q q => h H1 r H1 (Ex.refl H1) _ fun H2 e2 => by
  have r2 : R Z H1 H2 := .of r.b e2
  have h2 := sy_R (r.trans r2) ha
  obtain ⟨dx, lt, lm, h3, h4, h5⟩ := id h2
  exact ⟨a, dx, _, rfl, h3, rfl, a, ts, ms, rfl, h2, w1, z1, by rw [← hT]; exact r2.b.1, fun x H3 fx r3 hx => q x H3 (r2.trans (r0_up r2.b hT r3)) hx⟩
theorem fv_syMF (hT : Z.T = TT) (h : ∀ H1, R Z H H1 → Ev te σ H1 (.ref a)) (ha : SyAt K CY H a ts ms) (w1 : ∀ w ∈ ms, isW w = true) (z1 : ms.length ≤ 3) : Fv Z K CF (tMeth CY "make_front" (spSyMF K TT CY CF) [] E te tNil) σ H (clW ms) := fun H1 r Q q => h H1 r H1 (Ex.refl H1) _ fun H2 e2 => by
  have r2 : R Z H1 H2 := .of r.b e2
  have h2 := sy_R (r.trans r2) ha
  obtain ⟨dx, lt, lm, h3, h4, h5⟩ := id h2
  exact ⟨a, dx, _, rfl, h3, rfl, a, ts, ms, rfl, h2, w1, z1, by rw [← hT]; exact r2.b.1, fun x H3 fx r3 hx => q x H3 (r2.trans (r0_up r2.b hT r3)) hx⟩
/-- new words against a list that stands, against new ones -/
theorem et_neLWV (ha : EvLW K ta σ H ws) (hb : Ev tb σ H (.ref l)) (hl : LW K H l ws) (hw : ∀ u ∈ ws, isW u = true) : EvT (tTest (tOp (rNeD K) ta tb)) σ H false := fun H1 e Q q => ha H1 e _ fun t H2 nt e2 hT => hb H2 (e.trans e2) _ fun H3 e3 => by
  obtain ⟨vs, v1, v2⟩ := lw_mono e3 hT
  obtain ⟨zs, z1, z2⟩ := lw_mono ((e.trans e2).trans e3) hl
  have sh := shaped_wDs hw
  refine ⟨.list (ws.map wD), .list (ws.map wD), .lst (SqL.of v1) (dpa_words v2), .lst (SqL.of z1) (dpa_words z2), sh, sh, ?_⟩
  rw [SeqAt.eqv_refl _ (SeqAt.canLay_of_shaped sh)]
  exact ⟨_, rfl, q H3 (e2.trans e3)⟩
theorem et_neWordsL (h : Fv Z K CF te σ H ws) (k : ∀ H1, R Z H H1 → EvLW K tb σ H1 ws) (hw : ∀ u ∈ ws, isW u = true) : Rm.Et Z (tTest (tOp (rNeD K) (tMeth CF "words" (spFrWords K CF) [] E0 te tNil) tb)) σ H false := fun H1 r Q q => h H1 r _ fun x H2 r2 hf => by
  obtain ⟨dx, d, h1, h2⟩ := id hf
  refine ⟨x, dx, _, rfl, h1, rfl, x, ws, rfl, hf, fun m H3 nm e3 hM => ?_⟩
  have r3 : R Z H1 H3 := r2.ex e3
  refine k H3 (r.trans r3) H3 (Ex.refl H3) _ fun l H4 nl e4 hL => ?_
  obtain ⟨vs, v1, v2⟩ := lw_mono e4 hM
  obtain ⟨zs, z1, z2⟩ := hL
  have sh := shaped_wDs hw
  refine ⟨.list (ws.map wD), .list (ws.map wD), .lst (SqL.of v1) (dpa_words v2), .lst (SqL.of z1) (dpa_words z2), sh, sh, ?_⟩
  rw [SeqAt.eqv_refl _ (SeqAt.canLay_of_shaped sh)]
  exact ⟨_, rfl, q H4 (r3.ex e4)⟩
/-- the law's own letters, its own closed row -/
theorem el_tagsIn (h : EvLW K te σ H ws) (hw : ∀ u ∈ ws, isW u = true) (hz : ws.length ≤ 100) : EvL (tCall (spTagsIn K) [] E0 (tCons te tNil)) σ H ((ltW ws).map V.str) := fun H1 e Q q => h H1 e (fun v H2 => spTagsIn K [v] H2 Q E0) fun t H2 nt e2 hL => ⟨t, ws, rfl, hL, hw, hz, fun r H3 nr e3 hr => q r H3 (fresh_back e2 nr) (e2.trans e3) hr⟩
theorem el_tagsInV (h : Ev te σ H (.ref l)) (hl : LW K H l ws) (hw : ∀ u ∈ ws, isW u = true) (hz : ws.length ≤ 100) : EvL (tCall (spTagsIn K) [] E0 (tCons te tNil)) σ H ((ltW ws).map V.str) := fun H1 e Q q => h H1 e (fun v H2 => spTagsIn K [v] H2 Q E0) fun H2 e2 => ⟨l, ws, rfl, lw_mono (e.trans e2) hl, hw, hz, fun r H3 nr e3 hr => q r H3 (fresh_back e2 nr) (e2.trans e3) hr⟩
theorem elw_closedV (h : Ev te σ H (.ref l)) (hl : LW K H l ws) (hw : ∀ u ∈ ws, isW u = true) (hz : ws.length ≤ 300) : EvLW K (tCall (spClosed K) [] E0 (tCons te tNil)) σ H (clW ws) := fun H1 e Q q => h H1 e (fun v H2 => spClosed K [v] H2 Q E0) fun H2 e2 => ⟨l, ws, rfl, lw_mono (e.trans e2) hl, hw, hz, fun r H3 nr e3 hr => q r H3 (fresh_back e2 nr) (e2.trans e3) hr⟩
theorem elw_linedV (h : Ev te σ H (.ref l)) (hl : LW K H l ws) (hw : ∀ u ∈ ws, isW u = true) (hz : ws.length ≤ 1000) : EvLW K (tCall (spLined K) [] E0 (tCons te tNil)) σ H (srtW ws) := fun H1 e Q q => h H1 e (fun v H2 => spLined K [v] H2 Q E0) fun H2 e2 => ⟨l, ws, rfl, lw_mono (e.trans e2) hl, hw, hz, fun r H3 nr e3 hr => q r H3 (fresh_back e2 nr) (e2.trans e3) hr⟩
/-- one of a pair -/
theorem ev_at0 {v u : V} (h : Ev te σ H (.ref a)) (ha : H a = some (.tup [v, u])) : Ev (tOp (rIxT K) te (tC (.int 0))) σ H v := ev_op h ev_c (rv_ixT (SqT.of ha) (show atI [v, u] ((0 : Nat) : Int) = some v from atI_nat rfl))
theorem ev_at1 {v u : V} (h : Ev te σ H (.ref a)) (ha : H a = some (.tup [v, u])) : Ev (tOp (rIxT K) te (tC (.int 1))) σ H u := ev_op h ev_c (rv_ixT (SqT.of ha) (show atI [v, u] ((1 : Nat) : Int) = some u from atI_nat rfl))
theorem ltW_isL (hw : ∀ u ∈ ws, isW u = true) : ∀ s ∈ ltW ws, isL s = true := fun s hs => by
  obtain ⟨u, hu, h⟩ := mem_ltW.mp hs
  exact (isW_iff.mp (hw u hu)).2 s h
/-- a list of words, shown -/
theorem ev_shownV (h : Ev te σ H (.ref l)) (hl : LW K H l ws) (hw : ∀ u ∈ ws, isW u = true) (hz : ws.length ≤ 300) : Ev (tCB (rReprS P w) (tCons te tNil)) σ H (.str (PyData.list (ws.map wD)).shown) := fun H1 e Q q => h H1 e _ fun H2 e2 => by
  obtain ⟨us, h1, h2⟩ := lw_mono (e.trans e2) hl
  obtain ⟨r1, r2, r3⟩ := lst_rok (roks_wD hw) (by rw [List.length_map]; omega)
  rw [PyData.shown] at q
  have key : ∀ {us : List V} {ws : List (List Str)}, Paired (Wd K H2) us ws → (∀ u ∈ ws, isW u = true) → Paired (Sw P w H2) us (ws.map wD) := fun {us ws} hp => by
    induction hp with
    | nil => exact fun _ => .nil
    | cons r t ih => exact fun h => .cons (sw_of (rw_word r) (rok_wD (h _ (List.mem_cons_self ..))).1 (sz_of (Nat.le_trans (rok_wD (h _ (List.mem_cons_self ..))).2.1 (by decide)))) (ih fun u hu => h u (List.mem_cons_of_mem _ hu))
  exact ⟨l, us, _, rfl, h1, key h2 hw, r2, r3, q H2 e2⟩
theorem sy_shown (h : Ev te σ H (.ref a)) (ha : SyAt K CY H a ts ms) (w1 : ∀ w ∈ ts, isW w = true) (w2 : ∀ w ∈ ms, isW w = true) (z1 : ts.length ≤ 3) (z2 : ms.length ≤ 3) : Ev (tCB (rReprO CY (spSyRepr K CY) E0) (tCons te tNil)) σ H (.str (syText ts ms)) := fun H1 e Q q => h H1 e _ fun H2 e2 => by
  have h2 := sy_ex (e.trans e2) ha
  obtain ⟨dx, lt, lm, h3, h4, h5⟩ := id h2
  exact ⟨a, dx, _, rfl, h3, a, ts, ms, rfl, h2, w1, w2, z1, z2, fun H3 e3 => ⟨_, rfl, q H3 (e2.trans e3)⟩⟩
theorem shown_len (w1 : ∀ w ∈ ws, isW w = true) (z1 : ws.length ≤ 300) : (PyData.list (ws.map wD)).shown.length ≤ 1000000 := by
  rw [PyData.shown]
  exact lst_len w1 z1
end
theorem ev_addL {σ : L2.St} {H : Hp} {ta tb : TE} {x y : Str} (ha : Ev ta σ H (.str x)) (hb : Ev tb σ H (.str y)) (hz : x.length + y.length ≤ 4000000) : Ev (tOp (fun x y H Q => ∃ i j, x = V.str i ∧ y = V.str j ∧ i.length + j.length ≤ sizeLine ∧ Q (V.str (i ++ j)) H) ta tb) σ H (.str (x ++ y)) :=
  ev_op ha hb fun H1 _ _ q => ⟨x, y, rfl, rfl, (by rw [sizeLine_eq]; omega), q H1 (Ex.refl H1)⟩
theorem sy_text (ts ms : List (List Str)) : syText ts ms = ("Saying(" : Str) ++ (PyData.list (ts.map wD)).shown ++ (", " : Str) ++ (PyData.list (ms.map wD)).shown ++ (")" : Str) := by
  unfold syText
  rw [show Str.empty ++ ("Saying(" : Str) = ("Saying(" : Str) from by decide +kernel]
/-- the list first, then the walk over it -/
theorem q_forP {K : PySem.W.Frag} {tl : TE} {g : TG} {tu tz : TS} {D : Ends} {σ : L2.St} {H : Hp} (h : tl σ H fun v H1 => tSeq (tFor (iList K (tC v)) g tu) tz D σ H1) : tSeq (tFor (iList K tl) g tu) tz D σ H := h
/-- two rows of words, one of them changed -/
def spNear (K : PySem.W.Frag) : Sp := fun vs H Q _ => ∃ (T : List (Addr × Str)) (p l s r1 r2 : Addr) (xs : List Str) (ts ms : List (List Str)), vs = [.ref p, .ref l, .ref s] ∧ Ok (Zp T p) H ∧ H l = some (.lst (xs.map V.str)) ∧ 1 ≤ xs.length ∧ xs.length ≤ 3 ∧ (∀ x ∈ xs, isL x = true) ∧ (∀ x ∈ xs, x.length ≤ 6) ∧ xs.Nodup ∧
  H s = some (.tup [.ref r1, .ref r2]) ∧ LW K H r1 ts ∧ LW K H r2 ms ∧ okWs ts ∧ (∀ w ∈ ts, ∀ y ∈ w, y ∈ xs) ∧ 1 ≤ ts.length ∧ ts.length ≤ 3 ∧ okWs ms ∧ (∀ w ∈ ms, ∀ y ∈ w, y ∈ xs) ∧ 1 ≤ ms.length ∧ ms.length ≤ 3 ∧
  ∀ g a1 a2 us ns H', R (Zp T p) H H' → H' g = some (.tup [.ref a1, .ref a2]) → LW K H' a1 us → LW K H' a2 ns → okWs us → okWs ns → 1 ≤ us.length → us.length ≤ 3 → 1 ≤ ns.length → ns.length ≤ 3 → ¬ (srtW us = srtW ts ∧ srtW ns = srtW ms) → Q (.ref g) H'
theorem nodup_set {α : Type} : ∀ {l : List α} {z : α} (k : Nat), l.Nodup → z ∉ l → (l.set k z).Nodup
  | [], _, _, _, _ => List.nodup_nil
  | x :: l, z, 0, h, n => List.nodup_cons.mpr ⟨fun m => n (List.mem_cons_of_mem _ m), (List.nodup_cons.mp h).2⟩
  | x :: l, z, k + 1, h, n => by
    obtain ⟨h1, h2⟩ := List.nodup_cons.mp h
    refine List.nodup_cons.mpr ⟨fun m => ?_, nodup_set k h2 fun m => n (List.mem_cons_of_mem _ m)⟩
    rcases List.mem_or_eq_of_mem_set m with m | m
    · exact h1 m
    · exact n (by rw [← m]; exact List.mem_cons_self ..)
/-- a row that differs from W -/
def Oth (W V : List (List Str)) : Prop := okWs V ∧ 1 ≤ V.length ∧ V.length ≤ 3 ∧ srtW V ≠ srtW W
theorem oth_set {W : List (List Str)} {z : List Str} {k : Nat} (ok : okWs W) (l : W.length ≤ 3) (hk : k < W.length) (zw : isW z = true) (z0 : z ≠ []) (zn : z ∉ W) : Oth W (W.set k z) := by
  refine ⟨⟨fun w hw => ?_, nodup_set k ok.2 zn⟩, by rw [List.length_set]; omega, by rw [List.length_set]; omega, fun e => zn ?_⟩
  · rcases List.mem_or_eq_of_mem_set hw with m | m
    · exact ok.1 w m
    · rw [m]
      exact ⟨zw, z0⟩
  · have m : z ∈ srtW (W.set k z) := srtW_mem.mpr (List.mem_set hk z)
    rw [e] at m
    exact srtW_mem.mp m
theorem oth_drop {W : List (List Str)} (ok : okWs W) (l : W.length ≤ 3) (h : 1 < W.length) : Oth W (W.drop 1) := by
  cases W with
  | nil => cases h
  | cons w W =>
    have n := List.nodup_cons.mp ok.2
    rw [List.length_cons] at l h
    refine ⟨⟨fun u hu => ok.1 u (List.mem_cons_of_mem _ hu), n.2⟩, by show 1 ≤ W.length; omega, by show W.length ≤ 3; omega, fun e => n.1 ?_⟩
    have m : w ∈ srtW (w :: W) := srtW_mem.mpr (List.mem_cons_self ..)
    rw [← e] at m
    exact srtW_mem.mp m
theorem oth_app {W : List (List Str)} {z : List Str} (ok : okWs W) (l : W.length < 3) (l1 : 1 ≤ W.length) (zw : isW z = true) (z0 : z ≠ []) (zn : z ∉ W) : Oth W (W ++ [z]) := by
  refine ⟨⟨fun w hw => ?_, List.nodup_append.mpr ⟨ok.2, List.pairwise_singleton _ _, fun u hu v hv e => zn (by rw [← List.mem_singleton.mp hv, ← e]; exact hu)⟩⟩, by rw [List.length_append]; omega, by rw [List.length_append, List.length_singleton]; omega, fun e => zn ?_⟩
  · rcases List.mem_append.mp hw with m | m
    · exact ok.1 w m
    · rw [List.mem_singleton.mp m]
      exact ⟨zw, z0⟩
  · have m : z ∈ srtW (W ++ [z]) := srtW_mem.mpr (List.mem_append_right _ (List.mem_singleton.mpr rfl))
    rw [e] at m
    exact srtW_mem.mp m
section
variable {K : PySem.W.Frag} {H : Hp} {a l : Addr} {ws : List (List Str)} {σ : L2.St} {ta te : TE} {tt : TT} {j n : Nat} {vs : List Nat} {xs : List Str}
theorem elw_WFe (g : List Str → Bool) (f : List Str → List Str) (h : EvLW K ta σ H ws) (hz : ws.length ≤ 40000) (hw : ∀ x, wipe ((wipe σ vs).set j (some x)) vs = wipe σ vs)
    (ht : ∀ (x : V) (w : List Str) H1, Ex H H1 → Wd K H1 x w → w ∈ ws → EvT tt ((wipe σ vs).set j (some x)) H1 (g w)) (he : ∀ (x : V) (w : List Str) H1, Ex H H1 → Wd K H1 x w → w ∈ ws → g w = true → EvW K te ((wipe σ vs).set j (some x)) H1 (f w)) :
    EvLW K (tLc (iList K ta) (gName j) tt te vs) σ H ((ws.filter g).map f) := fun H1 e Q q => h H1 e _ fun t H2 nt e2 hL =>
  elw_WF (K := K) (ta := tC (.ref t)) (σ := σ) (H := H2) g f ev_c hL hz hw (fun x w H3 e3 => ht x w H3 ((e.trans e2).trans e3)) (fun x w H3 e3 => he x w H3 ((e.trans e2).trans e3)) H2 (Ex.refl H2) Q fun r H3 nr e3 hr => q r H3 (fresh_back e2 nr) (e2.trans e3) hr
theorem elw_drop1 (h : EvLW K ta σ H ws) (hn : 1 ≤ ws.length) : EvLW K (tSl (rSlL K) ta (tPart (tC (.int 1))) tNoPart) σ H (ws.drop 1) := fun H1 e Q q => h H1 e _ fun t H2 nt e2 hL =>
  elw_drop (K := K) (n := 1) (σ := σ) (H := H2) (ta := tC (.ref t)) ev_c hL (eo_some ev_c) eo_none hn H2 (Ex.refl H2) Q fun r H3 nr e3 hr => q r H3 (fresh_back e2 nr) (e2.trans e3) hr
end
theorem ix_in {n : Nat} {d : Int} (h0 : 0 ≤ d) (h1 : d < (n : Int)) : ∃ k, ixN n d = some k ∧ k < n := by
  obtain ⟨k, rfl⟩ := Int.eq_ofNat_of_zero_le h0
  have hk : k < n := by omega
  refine ⟨k, ?_, hk⟩
  unfold ixN
  rw [if_pos h0, if_pos h1, Int.toNat_natCast]
theorem paired_set {α β : Type} {R : α → β → Prop} {x : α} {y : β} (h : R x y) : ∀ (k : Nat) {xs : List α} {ys : List β}, Paired R xs ys → Paired R (xs.set k x) (ys.set k y)
  | _, [], [], .nil => .nil
  | 0, _ :: _, _ :: _, .cons _ t => .cons h t
  | k + 1, _ :: _, _ :: _, .cons r t => .cons r (paired_set h k t)
theorem paired_mem {α β : Type} {R : α → β → Prop} {x : α} : ∀ {xs : List α} {ys : List β}, Paired R xs ys → x ∈ xs → ∃ y ∈ ys, R x y
  | [], [], .nil, h => absurd h List.not_mem_nil
  | _ :: _, _ :: _, .cons r t, h => (List.mem_cons.mp h).elim (fun e => ⟨_, List.mem_cons_self .., e ▸ r⟩) fun h => by
    obtain ⟨y, hy, r⟩ := paired_mem t h
    exact ⟨y, List.mem_cons_of_mem _ hy, r⟩
section
variable {K : PySem.W.Frag} {T : List (Addr × Str)} {p l : Addr} {H : Hp} {σ : L2.St} {n : Int} {tu : TT} {ta : TS} {te : TE} {D : Ends} {c : Bool} {ws : List (List Str)}
/-- if draw(pot, n) == 0 and ..: -/
theorem s_ifDraw (o : Ok (Zp T p) H) (hp : σ[0]? = some (some (.ref p))) (n0 : 0 < n) (n1 : n < 1073741824) (h : ∀ H1, R (Zp T p) H H1 → EvT tu σ H1 c) (h1 : c = true → ∀ H1, R (Zp T p) H H1 → ta D σ H1) (k : ∀ H1, R (Zp T p) H H1 → D.nx σ H1) :
    tIfS (tAnd (tTest (tOp rEq (tCall spDraw [] E0 (tCons (tVar 0) (tCons (tC (.int n)) tNil))) (tC (.int 0)))) tu) ta tNext D σ H := by
  refine ⟨_, hp, p, n, rfl, o.2 p rfl, n0, n1, fun d H1 d0 d1 x => ⟨rfl, _, rfl, ?_⟩⟩
  have r := Rm.R.xp o.1 (o.2 p rfl) x
  generalize decide (V.int d = V.int 0) = b
  cases b with
  | false => exact k H1 r
  | true =>
    refine h H1 r H1 (Ex.refl H1) _ fun H2 e2 => ?_
    cases c with
    | false => exact k H2 (r.ex e2)
    | true => exact h1 rfl H2 (r.ex e2)
/-- list(words) -/
theorem elw_listOf (h : Ev te σ H (.ref l)) (hl : LW K H l ws) : EvLW K (tCB (fun xs H Q => ∃ p ys, xs = [V.ref p] ∧ (SqL K H p ys ∨ SqT K H p ys) ∧ ∀ (l : Addr), H l = none → Q (V.ref l) (upd H l (HO.lst ys))) (tCons te tNil)) σ H ws := fun H1 e Q q => h H1 e _ fun H2 e2 => by
  obtain ⟨us, h1, h2⟩ := lw_mono (e.trans e2) hl
  exact ⟨l, us, rfl, .inl (SqL.of h1), fun r hr => q r _ (fresh_back e2 hr) (e2.trans (Ex.new hr)) ⟨us, upd_same, paired_mono (fun _ _ r => wd_mono (Ex.new hr) r) h2⟩⟩
theorem elw_takeL {ta : TE} {n : Nat} (ha : Ev ta σ H (.ref l)) (hl : LW K H l ws) : EvLW K (tSl (rSlL K) ta tNoPart (tPart (tC (.int (n : Int))))) σ H (ws.take n) := elw_take2 ha hl eo_none (eo_some ev_c)
end
end Tk
namespace K21
open PySem PySem.Spec PyProof.Rows L2 Lw Evl LamX Tk
open Rm (R Ok Z0 Zp Fr fr_none fr_ne nt_lst nt_tup)
open LwX (XC XF)
section
variable {P : Program} {w : World} {K : PySem.W.Frag} {mg : Str → Option Value} {base : Heap} {TT : List (Addr × Str)} {CY CF CT CM CS dA : Addr}
abbrev s_tells : Stmt := topS 40
theorem sc_tells : FnScope ["_law_one", "_law_saw_here", "_law_wakes", "_law_puts", "_law_some"] ["_law_one", "_law_saw_here"] (defScope s_tells) := ⟨rfl, rfl, rfl, by decide +kernel, rfl, by decide +kernel, by decide +kernel⟩
theorem ok_tells {f : Addr} {fd : FuncData} (F : FunD K "_law_tells" "_law_tells" (defArgs s_tells) (defBody s_tells) (defScope s_tells) [] [] f fd) (T : Tx P w K mg base) (OSy : OwnC K mg "Saying" CY) (CIM : CInt K CY "MOST" 3) (COM : ConI K CY "MOST" 3) (OFr : OwnC K mg "Front" CF) (MTr : MeO P w K mg base CX0 1 CY "triggers" [] (spSyT K CY)) (MMa : MeO P w K mg base CX0 1 CY "makes" [] (spSyM K CY)) (MLt : MeO P w K mg base CX0 2 CY "letters" [] (spSyLt K CY)) (MML : MeO P w K mg base CX0 2 CY "make_letters" [] (spSyML K CY)) (MTF : MeO P w K mg base (L2.CX P w) 7 CY "trigger_front" [] (spSyTF K TT CY CF)) (MMF : MeO P w K mg base (L2.CX P w) 7 CY "make_front" [] (spSyMF K TT CY CF)) (MWo : MeO P w K mg base CX0 1 CF "words" [] (spFrWords K CF)) (MFr : MkD P w K mg base (L2.CX P w) 5 "Front" CF "words" dA (spFrI K TT CS CF)) (EFr : SpO P w K mg base 1 CF "__eq__" ["self", "other"] (spFrEq K CF)) (NFr : NeO K CF) (RSy : SpG P w K mg base 1 CY "__repr__" ["self"] (spSyRepr K CY)) (d_law_lined : Cal P w K mg base CX0 2 "_law_lined" ["_law_verses_here"] (spLined K)) (d_law_tags_in : Cal P w K mg base CX0 1 "_law_tags_in" ["_law_verses_here"] (spTagsIn K)) (d_law_closed : Cal P w K mg base CX0 3 "_law_closed" ["_law_verses_here"] (spClosed K)) : FnG P w K mg base CX0 9 f fd ["_law_one", "_law_saw_here"] (spTellsY K TT CY) := by
  refine fnG F sc_tells (fun vs H Q E h => ?_) (fun cdv A outer s H vs Q E gd hr h => ?_)
  · obtain ⟨a, s, r1, r2, ts, ms, rfl, _⟩ := h
    rfl
  · skip
    refine ⟨_, PSs.nox ((pss_cons (ps_par (i := 2) (j := 3) (by rfl) sc_tells.nd rfl rfl (by decide) rfl rfl (pa_cons (pe_cal d_law_lined gd hr (pa_cons (pe_ix (ix_tupK2 (K := K)) (pv 1) pe_int (fun _ _ => rfl)) pa_nil)) (pa_cons (pe_cal d_law_lined gd hr (pa_cons (pe_ix (ix_tupK2 (K := K)) (pv 1) pe_int (fun _ _ => rfl)) pa_nil)) pa_nil)) (by rfl))
      (pss_cons (ps_if (PW.pt (pw_or (pt_cmpR (op_neDK (K := K) hr.units) (pe_meO0 OSy.cl MTr (pv 0) hr pass0) (pv 2) (nomark _)) (pw_or (pt_cmpR (op_neDK (K := K) hr.units) (pe_meO0 OSy.cl MMa (pv 0) hr pass0) (pv 3) (nomark _)) (pw_or (pt_cmpR op_ne (pe_cvalK (K := K) (pe_glob (v := .ref CY) (by rfl) OSy.g rfl)) pe_int (nomark _)) (pw_or1 (pt_cmpR op_ne (pe_conK (K := K) (pv 0)) pe_int (nomark _))))))) (pss_one (ps_ret pe_bl)) pss_nil)
      (pss_cons (ps_if (PW.pt (pw_or (pt_cmpR (op_neDK (K := K) hr.units) (pe_meO0 OSy.cl MLt (pv 0) hr pass0) (pe_cal d_law_tags_in gd hr (pa_cons (pe_op op_cat (pv 2) (pv 3)) pa_nil)) (nomark _)) (pw_or1 (pt_cmpR (op_neDK (K := K) hr.units) (pe_meO0 OSy.cl MML (pv 0) hr pass0) (pe_cal d_law_tags_in gd hr (pa_cons (pv 3) pa_nil)) (nomark _))))) (pss_one (ps_ret pe_bl)) pss_nil)
      (pss_cons (ps_if (PW.pt (pw_or (pt_cmpR (op_neDK (K := K) hr.units) (pe_meO0 OFr.cl MWo (pe_meO0 OSy.cl MTF (pv 0) hr passE0) hr pass0) (pe_cal d_law_closed gd hr (pa_cons (pv 2) pa_nil)) (nomark _)) (pw_or1 (pt_cmpR (op_neSp EFr NFr hr) (pe_meO0 OSy.cl MMF (pv 0) hr passE0) (pe_mkD MFr hr passE0 (pa_cons (pv 3) pa_nil)) (nomark _))))) (pss_one (ps_ret pe_bl)) pss_nil)
      (pss_cons (ps_for PassesOwn.never rfl (pi_listK (K := K) (pe_lst (pa_cons (pe_meO0 OSy.cl MTr (pv 0) hr pass0) (pa_cons (pe_meO0 OSy.cl MMa (pv 0) hr pass0) (pa_cons (pe_meO0 OSy.cl MLt (pv 0) hr pass0) (pa_cons (pe_meO0 OSy.cl MML (pv 0) hr pass0) pa_nil)))))) (pg_name (i := 4) sc_tells.nd rfl (by first | exact Or.inl rfl | exact Or.inr rfl)) (pss_cons (ps_if (pt_not (pt_val (pe_callB (call_isiK1 (K := K)) (by rfl) T.m_isinstance (by decide +kernel) (pa_cons (pv 4) (pa_cons (pe_bltn (v := .ty "list") (by rfl) T.m_list (by decide +kernel) rfl) pa_nil))))) (pss_one (ps_ret pe_bl)) pss_nil)
      (pss_one (ps_expr (pe_bm0 PySem.F.plainAttrs_list PySem.F.slot_list_clear PySem.F.type_list_clear mt_clear (pv 4))))))
      (pss_one (ps_ret (pe_cmpR op_eq (pe_callB (call_reprSp RSy gd hr) (by rfl) T.m_repr (by decide +kernel) (pa_cons (pv 0) pa_nil)) (pe_op op_add_str (pe_op op_add_str (pe_op op_add_str (pe_op op_add_str pe_str (pe_callB (call_reprS (P := P) (w := w) gd hr.units) (by rfl) T.m_repr (by decide +kernel) (pa_cons (pv 2) pa_nil))) pe_str) (pe_callB (call_reprS (P := P) (w := w) gd hr.units) (by rfl) T.m_repr (by decide +kernel) (pa_cons (pv 3) pa_nil))) pe_str) (nomark _)))))))))), ?_⟩
    obtain ⟨a, s, r1, r2, ts, ms, rfl, ht, ha, hs, h1, h2, ok1, ok2, t1, t3, m1, m3, q⟩ := h
    have w1 := okWs_isW ok1
    have w2 := okWs_isW ok2
    have nm : ∀ x, ¬ (Z0 TT).M x := fun _ z => z
    refine Tk.q_par (elw_linedV (ev_at0 (ev_var rfl) hs) h1 w1 (by omega) H (Ex.refl H) _ fun l1 H2 n1 e2 hL1 => elw_linedV (ev_at1 (ev_var rfl) (e2 _ _ hs)) (lw_mono e2 h2) w2 (by omega) H2 (Ex.refl H2) _ fun l2 H4 n2 e4 hL2 => ?_)
    have e04 := e2.trans e4
    have o4 : Ok (Z0 TT) H4 := ok0 ht e04
    have r04 : R (Z0 TT) H H4 := r0_ex ht e04
    have hL1' := lw_mono e4 hL1
    have ha4 := sy_ex e04 ha
    have sw1 : ∀ u ∈ srtW ts, isW u = true := fun u hu => w1 u (srtW_mem.mp hu)
    have sw2 : ∀ u ∈ srtW ms, isW u = true := fun u hu => w2 u (srtW_mem.mp hu)
    have sl : ∀ us : List (List Str), (srtW us).length ≤ us.length := fun us => nodup_le (srtW_nodup us) fun u hu => srtW_mem.mp hu
    have z1 : (srtW ts).length ≤ 3 := Nat.le_trans (sl ts) t3
    have z2 : (srtW ms).length ≤ 3 := Nat.le_trans (sl ms) m3
    generalize srtW ts = xs at hL1' ha4 sw1 z1 hL1
    generalize srtW ms = ys at hL2 ha4 sw2 z2
    clear hL1 h1 h2 hs ha e2 e4
    show tSeq _ _ _ [some (.ref a), some (.ref s), some (.ref l1), some (.ref l2), none] H4
    refine Rm.q_when (Z := Z0 TT) (b := false || (false || (!decide (V.int 3 = V.int 3) || !decide (V.int 3 = V.int 3)))) o4 (Rm.et_of fun G r => by
      have haG := sy_R r ha4
      have hL1G := Rm.lw_R r (nm _) hL1'
      have hL2G := Rm.lw_R r (nm _) hL2
      obtain ⟨dx, lt, lm, hins, _, _⟩ := id haG
      exact et_or (et_neLWV (elw_syT (ev_var rfl) haG) (ev_var rfl) hL1G sw1) (fun _ => et_or (et_neLWV (elw_syM (ev_var rfl) haG) (ev_var rfl) hL2G sw2) (fun _ => et_or (et_test (ev_op (ev_cint CIM ev_c) ev_c (rv_ne rfl))) (fun _ => et_test (ev_op (ev_con OSy COM (ev_var rfl) hins rfl) ev_c (rv_ne rfl)))))) (fun z => by rw [decide_eq_true rfl] at z; cases z) fun _ H5 r5 => ?_
    have ha5 := sy_R r5 ha4
    have hL15 := Rm.lw_R r5 (nm _) hL1'
    have hL25 := Rm.lw_R r5 (nm _) hL2
    have wxy : ∀ u ∈ xs ++ ys, isW u = true := fun u hu => (List.mem_append.mp hu).elim (sw1 u) (sw2 u)
    refine Rm.q_when (Z := Z0 TT) (b := false || false) r5.b (Rm.et_of fun G r => by
      have haG := sy_R r ha5
      have hL1G := Rm.lw_R r (nm _) hL15
      have hL2G := Rm.lw_R r (nm _) hL25
      exact et_or (et_neTx (el_syLt (ev_var rfl) haG sw1 sw2 z1 z2) (el_tagsIn (elw_catVV (ev_var rfl) (ev_var rfl) hL1G hL2G (by omega)) wxy (by rw [List.length_append]; omega)) (ltW_isL wxy)) (fun _ => et_neTx (el_syML (ev_var rfl) haG sw2 z2) (el_tagsInV (ev_var rfl) hL2G sw2 (by omega)) (ltW_isL sw2))) (fun z => by cases z) fun _ H6 r6 => ?_
    have ha6 := sy_R r6 ha5
    have hL16 := Rm.lw_R r6 (nm _) hL15
    have hL26 := Rm.lw_R r6 (nm _) hL25
    refine Rm.q_when (Z := Z0 TT) (b := false || !decide (clW ys = clW ys)) r6.b (Rm.et_or (et_neWordsL (fv_syTF rfl (fun G r => ev_var rfl) ha6 sw1 z1) (fun G r => elw_closedV (ev_var rfl) (Rm.lw_R r (nm _) hL16) sw1 (by omega)) (clW_isW sw1)) (fun _ => Rm.et_test (ew_neEE (fv_syMF rfl (fun G r => ev_var rfl) ha6 sw2 z2) (fv_of (ef_mk rfl fun G r => eg_var (ev_var rfl) (good_lot (Rm.lw_R r (nm _) hL26) sw2 (by omega)))) clW_sd clW_sd))) (fun z => by rw [decide_eq_true rfl] at z; cases z) fun _ H7 r7 => ?_
    have ha7 := sy_R r7 ha6
    have hL17 := Rm.lw_R r7 (nm _) hL16
    have hL27 := Rm.lw_R r7 (nm _) hL26
    have r47 := (r5.trans r6).trans r7
    refine q_forP (elw_syT (σ := [some (.ref a), some (.ref s), some (.ref l1), some (.ref l2), none]) (te := tVar 0) (ev_var rfl) ha7 H7 (Ex.refl H7) _ fun p1 G1 n1 e1 hp1 => elw_syM (σ := [some (.ref a), some (.ref s), some (.ref l1), some (.ref l2), none]) (te := tVar 0) (ev_var rfl) (sy_ex e1 ha7) G1 (Ex.refl G1) _ fun p2 G2 n2 e2 hp2 => el_syLt (σ := [some (.ref a), some (.ref s), some (.ref l1), some (.ref l2), none]) (te := tVar 0) (ev_var rfl) (sy_ex (e1.trans e2) ha7) sw1 sw2 z1 z2 G2 (Ex.refl G2) _ fun p3 G3 n3 e3 hp3 => el_syML (σ := [some (.ref a), some (.ref s), some (.ref l1), some (.ref l2), none]) (te := tVar 0) (ev_var rfl) (sy_ex ((e1.trans e2).trans e3) ha7) sw2 z2 G3 (Ex.refl G3) _ fun p4 G4 n4 e4 hp4 => ⟨(by show 4 ≤ sizeLine; decide), fun pl hpl => ?_⟩)
    have g1 := fresh_back e1 n2
    have g2 := fresh_back (e1.trans e2) n3
    have g3 := fresh_back ((e1.trans e2).trans e3) n4
    have e17 := ((e1.trans e2).trans e3).trans e4
    obtain ⟨us1, hu1, _⟩ := hp1
    obtain ⟨us2, hu2, _⟩ := hp2
    have hu1' := ((e2.trans e3).trans e4) _ _ hu1
    have hu2' := (e3.trans e4) _ _ hu2
    have hp3' := e4 _ _ hp3
    have rl : R (Z0 TT) H7 (upd G4 pl (.lst [.ref p1, .ref p2, .ref p3, .ref p4])) := (R.of r7.b e17).new hpl
    have hpl1 : (upd G4 pl (.lst [.ref p1, .ref p2, .ref p3, .ref p4])) pl = some (.lst ([p1, p2, p3, p4].map V.ref)) := upd_same
    have all : ∀ x ∈ [p1, p2, p3, p4], x ≠ pl ∧ Fr H7 x ∧ ∃ xs, (upd G4 pl (.lst [.ref p1, .ref p2, .ref p3, .ref p4])) x = some (.lst xs) := fun x hx => by
      have en := Ex.new (o := .lst [.ref p1, .ref p2, .ref p3, .ref p4]) hpl
      simp only [List.mem_cons, List.not_mem_nil, or_false] at hx
      rcases hx with rfl | rfl | rfl | rfl
      · exact ⟨ne_of_none hu1' hpl, fr_none n1, _, en _ _ hu1'⟩
      · exact ⟨ne_of_none hu2' hpl, fr_none g1, _, en _ _ hu2'⟩
      · exact ⟨ne_of_none hp3' hpl, fr_none g2, _, en _ _ hp3'⟩
      · exact ⟨ne_of_none hp4 hpl, fr_none g3, _, en _ _ hp4⟩
    show tSeq _ _ _ [some (.ref a), some (.ref s), some (.ref l1), some (.ref l2), none] (upd G4 pl (.lst [.ref p1, .ref p2, .ref p3, .ref p4]))
    generalize upd G4 pl (.lst [.ref p1, .ref p2, .ref p3, .ref p4]) = H8 at rl hpl1 all
    generalize [p1, p2, p3, p4] = ps at hpl1 all
    refine q_forL (K := K) (ev_c) (SqL.of hpl1) (fun i σ H' => ∃ c : Option V, σ = [some (.ref a), some (.ref s), some (.ref l1), some (.ref l2), c] ∧ R (Z0 TT) H7 H' ∧ H' pl = some (.lst (ps.map V.ref)) ∧ ∀ x ∈ ps, x ≠ pl ∧ Fr H7 x ∧ ∃ xs, H' x = some (.lst xs)) (fun H9 e9 => ⟨_, rfl, rl.ex e9, e9 _ _ hpl1, fun x hx => by
      obtain ⟨k1, k2, xs, k3⟩ := all x hx
      exact ⟨k1, k2, xs, e9 _ _ k3⟩⟩) (fun i σ' H' _ p => ?_) (fun i x σ' H' hx p => ?_) (fun σ' H' p => ?_)
    · obtain ⟨_, _, _, h, _⟩ := p
      exact SqL.of h
    · obtain ⟨c, rfl, r, hl, al⟩ := p
      obtain ⟨y, hy, rfl⟩ := List.mem_map.mp (List.mem_of_getElem? hx)
      obtain ⟨k1, k2, us, k3⟩ := al y hy
      refine q_when (b := !true) (et_not (et_B (ev_isi (ev_var rfl) (fun G e => .base (.lst (e _ _ k3))) rfl))) (fun z => by cases z) fun _ H9 e9 => ?_
      have k39 := e9 _ _ k3
      have r9 := r.ex e9
      refine ⟨_, rfl, .inl ⟨rfl, _, SqL.of k39⟩, y, us, rfl, rfl, k39, ?_⟩
      refine ⟨_, rfl, r9.mut k2 k39 trivial, by rw [upd_ne k1.symm]; exact e9 _ _ hl, fun x hx => ?_⟩
      obtain ⟨m1, m2, zs, m3⟩ := al x hx
      refine ⟨m1, m2, ?_⟩
      by_cases c : x = y
      · exact ⟨[], by rw [c]; exact upd_same⟩
      · exact ⟨zs, by rw [upd_ne c]; exact e9 _ _ m3⟩
    · obtain ⟨c, rfl, r, hl, al⟩ := p
      have ha9 := sy_R r ha7
      have hL19 := Rm.lw_R r (nm _) hL17
      have hL29 := Rm.lw_R r (nm _) hL27
      have b1 := shown_len sw1 (by omega)
      have b2 := shown_len sw2 (by omega)
      have c1 : ("Saying(" : Str).length = 7 := rfl
      have c2 : (", " : Str).length = 2 := rfl
      have c3 : (")" : Str).length = 1 := rfl
      have z := ev_op (r := rEq) (σ := [some (.ref a), some (.ref s), some (.ref l1), some (.ref l2), c]) (sy_shown (te := tVar 0) (ev_var rfl) ha9 sw1 sw2 z1 z2) (ev_addL (ev_addL (ev_addL (ev_addL (ev_c (v := .str "Saying(")) (ev_shownV (P := P) (w := w) (te := tVar 2) (ev_var rfl) hL19 sw1 (by omega)) (by omega)) (ev_c (v := .str ", ")) (by rw [len_app]; omega)) (ev_shownV (P := P) (w := w) (te := tVar 3) (ev_var rfl) hL29 sw2 (by omega)) (by rw [len_app, len_app]; omega)) (ev_c (v := .str ")")) (by rw [len_app, len_app, len_app]; omega)) (rv_eq rfl)
      rw [sy_text, decide_eq_true rfl] at z
      exact s_ret z fun H10 e10 => q H10 (((r04.trans r47).trans r).ex e10)

end
end K21
namespace K21
open PySem PySem.Spec PyProof.Rows L2 Lw Evl LamX Tk
open Rm (R Ok Z0 Zp Fr fr_none fr_ne nt_lst nt_tup)
open LwX (XC XF)
section
variable {P : Program} {w : World} {K : PySem.W.Frag} {mg : Str → Option Value} {base : Heap} {TT : List (Addr × Str)} {CY CF CT CM CS dA : Addr}
abbrev s_near : Stmt := topS 41
theorem sc_near : FnScope ["_law_pot_here", "_law_tags_here", "_law_saw_here", "_law_side", "_law_verses_here", "_law_menu", "_law_verse", "_law_begun"] ["_law_pot_here", "_law_tags_here", "_law_saw_here"] (defScope s_near) := ⟨rfl, rfl, rfl, by decide +kernel, rfl, by decide +kernel, by decide +kernel⟩
theorem ok_near {f : Addr} {fd : FuncData} (F : FunD K "_law_near" "_law_near" (defArgs s_near) (defBody s_near) (defScope s_near) [] [] f fd) (T : Tx P w K mg base) (d_law_draw : Cal P w K mg base CX0 1 "_law_draw" ["_law_pot_here", "_law_sides"] spDraw) (d_law_pick : Cal P w K mg base CX0 2 "_law_pick" ["_law_pot_here", "_law_some"] (spPickX K)) (d_law_all : Cal P w K mg base CX0 1 "_law_all" ["_law_tags_here", "_law_most"] (spAll K)) : FnG P w K mg base CX0 3 f fd ["_law_pot_here", "_law_tags_here", "_law_saw_here"] (spNear K) := by
  refine fnG F sc_near (fun vs H Q E h => ?_) (fun cdv A outer s H vs Q E gd hr h => ?_)
  · obtain ⟨T, p, l, s, r1, r2, xs, ts, ms, rfl, _⟩ := h
    rfl
  · skip
    refine ⟨_, PSs.nox ((pss_cons (ps_set (i := 3) sc_near.nd rfl (by first | exact Or.inl rfl | exact Or.inr rfl) (pe_cal d_law_draw gd hr (pa_cons (pv 0) (pa_cons pe_int pa_nil))))
      (pss_cons (ps_set (i := 4) sc_near.nd rfl (by first | exact Or.inl rfl | exact Or.inr rfl) (pe_callTy call_list_of (by rfl) T.m_list (by decide +kernel) (pa_cons (pe_ix (ix_tupK2 (K := K)) (pv 2) (pv 3) (fun _ _ => rfl)) pa_nil)))
      (pss_cons (ps_set (i := 5) sc_near.nd rfl (by first | exact Or.inl rfl | exact Or.inr rfl) (pe_op op_cat (pe_lc (own := [("_law_verse", 6)]) (g := gName 6) rfl sc_near.nd (pi_listK (K := K) (pe_slice (sl_listK (K := K)) (pe_cal d_law_all gd hr (pa_cons (pv 1) (pa_cons pe_int pa_nil))) (po_some pe_int) po_none)) (blkOk_by (own := [("_law_verse", 6)]) (N := ["_law_pot_here", "_law_tags_here", "_law_saw_here", "_law_side", "_law_verses_here", "_law_menu", "_law_verse", "_law_begun"]) (sc := defScope s_near) (by decide +kernel)) (fun _ _ _ _ _ => pg_name (i := 6) sc_near.nd rfl (by first | exact Or.inl rfl | exact Or.inr rfl)) (fun _ _ _ _ _ => (pts_one (pt_cmpR (op_notInDK (K := K) hr.u65) (pv 6) (pv 4) (by rfl)))) (fun _ _ _ _ _ => (pv 6))) (pe_lst (pa_cons (pe_tup (pa_cons pe_str pa_nil)) pa_nil))))
      (pss_cons (ps_asg (pe_cal d_law_pick gd hr (pa_cons (pv 0) (pa_cons (pv 5) pa_nil))) (pg_sub (pv 4) (pe_cal d_law_draw gd hr (pa_cons (pv 0) (pa_cons (pe_callB (call_lenK (K := K)) (by rfl) T.m_len (by decide +kernel) (pa_cons (pv 4) pa_nil)) pa_nil))) set_list))
      (Evl.pss_cut (ps_if (PW.pt (pw_and (pt_cmpR op_eq (pe_cal d_law_draw gd hr (pa_cons (pv 0) (pa_cons pe_int pa_nil))) pe_int (nomark _)) (pw_and1 (pt_cmpR op_gt (pe_callB (call_lenK (K := K)) (by rfl) T.m_len (by decide +kernel) (pa_cons (pv 4) pa_nil)) pe_int (nomark _))))) (pss_one (ps_set (i := 4) sc_near.nd rfl (by first | exact Or.inl rfl | exact Or.inr rfl) (pe_slice (sl_listK (K := K)) (pe_callTy call_list_of (by rfl) T.m_list (by decide +kernel) (pa_cons (pe_ix (ix_tupK2 (K := K)) (pv 2) (pv 3) (fun _ _ => rfl)) pa_nil)) (po_some pe_int) po_none))) pss_nil)
      (pss_cons (ps_setLc (i := 7) (own := [("_law_verse", 6)]) (g := gName 6) rfl sc_near.nd rfl rfl (sw_true rfl rfl rfl (by decide +kernel)) (pi_listK (K := K) (pe_ix (ix_tupK2 (K := K)) (pv 2) (pv 3) (fun _ _ => rfl))) (blkOk_by (own := [("_law_verse", 6)]) (N := ["_law_pot_here", "_law_tags_here", "_law_saw_here", "_law_side", "_law_verses_here", "_law_menu", "_law_verse", "_law_begun"]) (sc := defScope s_near) (by decide +kernel)) (fun _ _ _ _ _ => pg_name (i := 6) sc_near.nd rfl (by first | exact Or.inl rfl | exact Or.inr rfl)) (fun _ _ _ _ _ => (pts_one (PW.pt (pw_and (pt_cmpR op_gt (pe_callB (call_lenK (K := K)) (by rfl) T.m_len (by decide +kernel) (pa_cons (pv 6) pa_nil)) pe_int (nomark _)) (pw_and1 (pt_cmpR (op_notInDK (K := K) hr.u65) (pe_slice (sl_tupAK (K := K)) (pv 6) po_none (po_some pe_int)) (pe_ix (ix_tupK2 (K := K)) (pv 2) (pv 3) (fun _ _ => rfl)) (by rfl))))))) (fun _ _ _ _ _ => (pe_slice (sl_tupAK (K := K)) (pv 6) po_none (po_some pe_int))))
      (Evl.pss_cut (ps_if (PW.pt (pw_and (pt_cmpR op_eq (pe_cal d_law_draw gd hr (pa_cons (pv 0) (pa_cons pe_int pa_nil))) pe_int (nomark _)) (pw_and (pt_cmpR op_lt (pe_callB (call_lenK (K := K)) (by rfl) T.m_len (by decide +kernel) (pa_cons (pe_ix (ix_tupK2 (K := K)) (pv 2) (pv 3) (fun _ _ => rfl)) pa_nil)) pe_int (nomark _)) (pw_and1 (pt_cmpR (op_neDK (K := K) hr.units) (pv 7) (pe_lst pa_nil) (nomark _)))))) (pss_one (ps_set (i := 4) sc_near.nd rfl (by first | exact Or.inl rfl | exact Or.inr rfl) (pe_op op_cat (pe_callTy call_list_of (by rfl) T.m_list (by decide +kernel) (pa_cons (pe_ix (ix_tupK2 (K := K)) (pv 2) (pv 3) (fun _ _ => rfl)) pa_nil)) (pe_slice (sl_listK (K := K)) (pv 7) po_none (po_some pe_int))))) pss_nil)
      (pss_one (ps_ret (pe_ifExp (pt_cmpR op_eq (pv 3) pe_int (nomark _)) (pe_tup (pa_cons (pv 4) (pa_cons (pe_ix (ix_tupK2 (K := K)) (pv 2) pe_int (fun _ _ => rfl)) pa_nil))) (pe_tup (pa_cons (pe_ix (ix_tupK2 (K := K)) (pv 2) pe_int (fun _ _ => rfl)) (pa_cons (pv 4) pa_nil)))))))))))))), ?_⟩
    obtain ⟨T, p, l, s, r1, r2, xs, ts, ms, rfl, ok, hl, x1, x3, hx, h6, hn, hs, h1, h2, ok1, in1, t1, t3, ok2, in2, m1, m3, q⟩ := h
    have po := ok.2 p rfl
    refine q_asgX ⟨_, rfl, p, 2, rfl, po, by decide, by decide, fun d H1 d0 d1 y1 => ?_⟩
    have r1' := Rm.R.xp ok.1 po y1
    obtain ⟨rW, W, hat, hW, okW, inW, w1, w3, fin⟩ : ∃ (rW : Addr) (W : List (List Str)), atI [V.ref r1, V.ref r2] d = some (.ref rW) ∧ LW K H rW W ∧ okWs W ∧ (∀ w ∈ W, ∀ y ∈ w, y ∈ xs) ∧ 1 ≤ W.length ∧ W.length ≤ 3 ∧ ((d = 0 ∧ W = ts) ∨ (d = 1 ∧ W = ms)) := by
      rcases (by omega : d = 0 ∨ d = 1) with rfl | rfl
      · exact ⟨r1, ts, (show atI [V.ref r1, V.ref r2] ((0 : Nat) : Int) = some (.ref r1) from atI_nat rfl), h1, ok1, in1, t1, t3, .inl ⟨rfl, rfl⟩⟩
      · exact ⟨r2, ms, (show atI [V.ref r1, V.ref r2] ((1 : Nat) : Int) = some (.ref r2) from atI_nat rfl), h2, ok2, in2, m1, m3, .inr ⟨rfl, rfl⟩⟩
    have wW := okWs_isW okW
    have at_ : ∀ {σ : L2.St} {G : Hp}, R (Zp T p) H G → σ[2]? = some (some (.ref s)) → σ[3]? = some (some (.int d)) → Ev (tOp (rIxT K) (tVar 2) (tVar 3)) σ G (.ref rW) := fun {σ G} r a b => ev_op (ev_var a) (ev_var b) (rv_ixT (SqT.of (r.tup hs)) hat)
    obtain ⟨us, hus, hpu⟩ := lw_RO r1' hW
    have lu := Paired.length hpu
    refine q_asgX ?_
    refine at_ (σ := [some (.ref p), some (.ref l), some (.ref s), some (.int d), none, none, none, none]) r1' rfl rfl H1 (Ex.refl H1) _ fun H2 e2 => ⟨rW, us, rfl, .inl (SqL.of (e2 _ _ hus)), fun v hv => ?_⟩
    have r2' : R (Zp T p) H (upd H2 v (.lst us)) := (r1'.ex e2).new hv
    have fv : Fr H v := (r1'.ex e2).fr (fr_none hv)
    have hv3 : (upd H2 v (.lst us)) v = some (.lst us) := upd_same
    have hpu3 := paired_mono (fun _ _ r => wd_mono (e2.trans (Ex.new (o := .lst us) hv)) r) hpu
    generalize upd H2 v (.lst us) = H3 at r2' hv3 hpu3
    show tSeq _ _ _ [some (.ref p), some (.ref l), some (.ref s), some (.int d), some (.ref v), none, none, none] H3
    have hl3 := r2'.lst hl (ls_nm ok hl)
    have l63 : (allW xs 3).length = 1 + xs.length ^ 1 + xs.length ^ 2 + xs.length ^ 3 := by
      simp only [allW, List.length_append, lvW_len]
      rfl
    have p1 : xs.length ^ 1 ≤ 3 ^ 1 := Nat.pow_le_pow_left x3 1
    have p2 : xs.length ^ 2 ≤ 3 ^ 2 := Nat.pow_le_pow_left x3 2
    have p3 : xs.length ^ 3 ≤ 3 ^ 3 := Nat.pow_le_pow_left x3 3
    have wl : (wdsW xs 3).length ≤ 100 := by
      unfold wdsW
      rw [List.length_drop]
      omega
    have zz : isL ("zzzzzzzz" : Str) = true := by decide
    have zW : isW [("zzzzzzzz" : Str)] = true := isW_iff.mpr ⟨by show 1 ≤ 3; decide, fun y hy => by rw [List.mem_singleton.mp hy]; exact zz⟩
    have zn : [("zzzzzzzz" : Str)] ∉ W := fun h => by
      have := h6 _ (inW _ h _ (List.mem_singleton.mpr rfl))
      exact absurd this (by decide)
    have mw : ∀ z ∈ (wdsW xs 3).filter (fun z => !decide (z ∈ W)) ++ [[("zzzzzzzz" : Str)]], isW z = true ∧ z ≠ [] ∧ z ∉ W := fun z hz => by
      rcases List.mem_append.mp hz with hz | hz
      · obtain ⟨z1, z2⟩ := List.mem_filter.mp hz
        obtain ⟨z3, z4, z5⟩ := (mem_wdsW hn).mp z1
        exact ⟨isW_of hx z4 z5, z3, by simpa using z2⟩
      · rw [List.mem_singleton.mp hz]
        exact ⟨zW, (fun e => nomatch e), zn⟩
    have eAll : EvLW K (tCall (spAll K) [] E0 (tCons (tVar 1) (tCons (tC (V.int 3)) tNil))) [some (.ref p), some (.ref l), some (.ref s), some (.int d), some (.ref v), none, none, none] H3 (allW xs 3) := fun G e Q q => ⟨_, rfl, l, xs, 3, rfl, e _ _ hl3, x3, by decide, fun r G2 nr e2 hL => q r G2 nr e2 hL⟩
    have eM := elw_cat (K := K) (elw_WFe (K := K) (j := 6) (vs := [6]) (te := tVar 6) (tt := tTest (tOp (rNotInD K) (tVar 6) (tVar 4))) (fun z => !decide (z ∈ W)) (fun z => z) (elw_drop1 eAll (by rw [l63]; omega)) (by show (wdsW xs 3).length ≤ 40000; omega) (fun _ => rfl) (fun x z G e hz zm => by
        obtain ⟨_, z4, z5⟩ := (mem_wdsW hn).mp zm
        exact et_test (ev_niW (ev_var rfl) (ev_var rfl) hz (e _ _ hv3) (paired_mono (fun _ _ r => wd_mono e r) hpu3) (isW_of hx z4 z5) wW)) (fun x z G e hz _ _ => ew_of (ev_var rfl) hz)) (elw_lst (eaw_cons (ew_tup (ys := [("zzzzzzzz" : Str)]) (ea_cons ev_c ea_nil) (by show 1 ≤ 100000; decide)) eaw_nil) (by show 1 ≤ 100000; decide)) (by
        rw [List.length_map, show List.drop 1 (allW xs 3) = wdsW xs 3 from rfl]
        have : ((wdsW xs 3).filter fun z => !decide (z ∈ W)).length ≤ (wdsW xs 3).length := List.length_filter_le ..
        show (List.filter (fun z => !decide (z ∈ W)) (wdsW xs 3)).length + 1 ≤ 100000
        omega)
    rw [List.map_id'] at eM
    have fl : (List.filter (fun z => !decide (z ∈ W)) (List.drop 1 (allW xs 3))).length ≤ (wdsW xs 3).length := List.length_filter_le ..
    refine q_asgLW (K := K) eM fun m H4 nm e4 hM => ?_
    have r4 := r2'.ex e4
    have hv4 := e4 _ _ hv3
    have hpu4 := paired_mono (fun _ _ r => wd_mono e4 r) hpu3
    obtain ⟨gs, hgs, hpg⟩ := hM
    have lg := Paired.length hpg
    rw [List.length_append, List.length_singleton] at lg
    have mp : m ≠ p := fun z => r2'.b.fresh (fr_none nm) (by show m = p; exact z)
    have vp : v ≠ p := fun z => ok.fresh fv (by show v = p; exact z)
    refine ⟨_, rfl, _, rfl, .inl ⟨p, m, gs, rfl, r4.b.2 p rfl, hgs, mp, by omega, by omega, fun z H5 hz y5 => ?_⟩⟩
    have x45 := Rm.R.xp r4.b.1 (r4.b.2 p rfl) y5
    have r5 := r4.trans x45
    have hv5 := y5.1 _ _ vp hv4
    obtain ⟨zw, hzw, wz⟩ := paired_mem hpg hz
    obtain ⟨q1, q2, q3⟩ := mw zw hzw
    refine ⟨_, rfl, _, rfl, _, rfl, v, us, rfl, .inl (SqL.of hv5), p, _, rfl, r5.b.2 p rfl, by omega, by omega, fun d2 H6 c0 c1 y6 => ?_⟩
    have x56 := Rm.R.xp r5.b.1 (r5.b.2 p rfl) y6
    have r6 := r5.trans x56
    have hv6 := y6.1 _ _ vp hv5
    obtain ⟨k, hk, hkl⟩ := ix_in c0 c1
    have hpu6 := paired_mono (fun _ _ r => Rm.wd_R (x45.trans x56) r) hpu4
    have wz6 := Rm.wd_R (x45.trans x56) wz
    refine ⟨v, us, d2, k, rfl, rfl, hv6, hk, ?_⟩
    have r7 : R (Zp T p) H (upd H6 v (.lst (us.set k z))) := r6.mut fv hv6 trivial
    have hV : LW K (upd H6 v (.lst (us.set k z))) v (W.set k zw) := ⟨us.set k z, upd_same, paired_set (wd_upd hv6 wz6) k (paired_mono (fun _ _ r => wd_upd hv6 r) hpu6)⟩
    have lv0 : (W.set k zw).length = W.length := List.length_set ..
    have oth0 := oth_set okW w3 (show k < W.length by omega) q1 q2 q3
    generalize upd H6 v (.lst (us.set k z)) = H7 at r7 hV
    generalize W.set k zw = V0 at hV oth0 lv0
    refine q_cut (M := fun σ' H' => ∃ (v' : Addr) (V' : List (List Str)), σ' = [some (.ref p), some (.ref l), some (.ref s), some (.int d), some (.ref v'), some (.ref m), none, none] ∧ R (Zp T p) H H' ∧ LW K H' v' V' ∧ Oth W V') ?_ fun σ' H8 hM8 => ?_
    · refine s_ifDraw (c := decide ((1 : Int) < (V0.length : Int))) r7.b rfl (by decide) (by decide) (fun G r => et_test (ev_op (ev_lenLW (ev_var rfl) (lw_RO r hV)) ev_c rv_I0)) (fun hc G r => elw_drop1 (elw_listOf (at_ (σ := [some (.ref p), some (.ref l), some (.ref s), some (.int d), some (.ref v), some (.ref m), none, none]) (r7.trans r) rfl rfl) (lw_RO (r7.trans r) hW)) w1 G (Ex.refl G) _ fun y G2 ny e2 hy => ⟨y, _, rfl, (r7.trans r).ex e2, hy, oth_drop okW w3 (by have := of_decide_eq_true hc; omega)⟩) fun G r => ⟨v, V0, rfl, r7.trans r, lw_RO r hV, oth0⟩
    · obtain ⟨v', V', rfl, r8, hV', oth'⟩ := hM8
      have hW8 := lw_RO r8 hW
      have eB := elw_WF (K := K) (σ := [some (.ref p), some (.ref l), some (.ref s), some (.int d), some (.ref v'), some (.ref m), none, none]) (H := H8) (j := 6) (vs := [6]) (ta := tOp (rIxT K) (tVar 2) (tVar 3)) (te := tSl (rSlA K) (tVar 6) tNoPart (tPart (tC (V.int 1)))) (tt := tAnd (tTest (tOp (rI0 fun i j => V.bl (decide (j < i))) (tCB (rLenS K) (tCons (tVar 6) tNil)) (tC (V.int 1)))) (tTest (tOp (rNotInD K) (tSl (rSlA K) (tVar 6) tNoPart (tPart (tC (V.int 1)))) (tOp (rIxT K) (tVar 2) (tVar 3))))) (fun w => decide ((1 : Int) < (w.length : Int)) && !decide (w.take 1 ∈ W)) (fun w => w.take 1) (at_ r8 rfl rfl) hW8 (by omega) (fun _ => rfl) (fun x w G e hv hm => et_and (et_test (ev_op (ev_lenW (ev_var rfl) hv) ev_c rv_I0)) (fun hb => et_test (ev_niEW (ew_to (n := 1) (ew_of (ev_var rfl) hv) eo_none (eo_some ev_c) (by have := of_decide_eq_true hb; omega)) (at_ (r8.ex e) rfl rfl) (lw_mono e hW8) (isW_take (wW w hm) 1) wW))) (fun x w G e hv hm hb => ew_to (n := 1) (ew_of (ev_var rfl) hv) eo_none (eo_some ev_c) (by
        have := of_decide_eq_true (Bool.and_eq_true_iff.mp hb).1
        omega))
      have mB : ∀ z ∈ (W.filter (fun w => decide ((1 : Int) < (w.length : Int)) && !decide (w.take 1 ∈ W))).map (fun w => w.take 1), isW z = true ∧ z ≠ [] ∧ z ∉ W := fun z hz => by
        obtain ⟨w, hw, rfl⟩ := List.mem_map.mp hz
        obtain ⟨w2, h3⟩ := List.mem_filter.mp hw
        obtain ⟨h4, h5⟩ := Bool.and_eq_true_iff.mp h3
        have h4 := of_decide_eq_true h4
        refine ⟨isW_take (wW w w2) 1, fun e => ?_, by simpa using h5⟩
        have e2 := congrArg List.length e
        rw [List.length_take, List.length_nil] at e2
        omega
      refine q_asgLW (K := K) eB fun bg H9 nb e9 hB => ?_
      generalize (W.filter (fun w => decide ((1 : Int) < (w.length : Int)) && !decide (w.take 1 ∈ W))).map (fun w => w.take 1) = B at hB mB
      have r9 := r8.ex e9
      have hW9 := lw_RO r9 hW
      have hV9 := lw_mono e9 hV'
      refine q_cut (M := fun σ' H' => ∃ (v' : Addr) (V' : List (List Str)), σ' = [some (.ref p), some (.ref l), some (.ref s), some (.int d), some (.ref v'), some (.ref m), none, some (.ref bg)] ∧ R (Zp T p) H H' ∧ LW K H' v' V' ∧ Oth W V') ?_ fun σ' H10 hM10 => ?_
      · refine s_ifDraw (c := decide ((W.length : Int) < (3 : Int)) && !decide (B = [])) r9.b rfl (by decide) (by decide) (fun G r => et_and (et_test (ev_op (ev_lenLW (at_ (r9.trans r) rfl rfl) (lw_RO r hW9)) ev_c rv_I0)) (fun _ => et_neNilW (ev_var rfl) (lw_RO r hB) fun w hw => (mB w hw).1)) (fun hc G r => ?_) fun G r => ⟨v', V', rfl, r9.trans r, lw_RO r hV9, oth'⟩
        obtain ⟨c1, c2⟩ := Bool.and_eq_true_iff.mp hc
        have c1 := of_decide_eq_true c1
        cases B with
        | nil => simp at c2
        | cons b0 B =>
          obtain ⟨g1, g2, g3⟩ := mB b0 (List.mem_cons_self ..)
          exact elw_cat (K := K) (us := [b0]) (elw_listOf (at_ (σ := [some (.ref p), some (.ref l), some (.ref s), some (.int d), some (.ref v'), some (.ref m), none, some (.ref bg)]) (r9.trans r) rfl rfl) (lw_RO r hW9)) (elw_takeL (n := 1) (ev_var rfl) (lw_RO r hB)) (by rw [List.length_singleton]; omega) G (Ex.refl G) _ fun y G2 ny e2 hy => ⟨y, _, rfl, (r9.trans r).ex e2, hy, oth_app okW (by omega) w1 g1 g2 g3⟩
      · obtain ⟨v2, V2, rfl, r10, hV2, o1, o2, o3, o4⟩ := hM10
        have hs10 := r10.tup hs
        rcases fin with ⟨rfl, rfl⟩ | ⟨rfl, rfl⟩
        · refine ⟨_, rfl, rfl, _, rfl, ?_⟩
          rw [decide_eq_true rfl]
          dsimp only
          rw [if_pos rfl]
          refine ⟨_, rfl, ev_at1 (σ := [some (.ref p), some (.ref l), some (.ref s), some (.int 0), some (.ref v2), some (.ref m), none, some (.ref bg)]) (te := tVar 2) (ev_var rfl) hs10 H10 (Ex.refl H10) _ fun G e => ⟨(by show 2 ≤ sizeLine; decide), fun t ht => ?_⟩⟩
          have e2 := e.trans (Ex.new (o := .tup [.ref v2, .ref r2]) ht)
          exact q t v2 r2 V2 ms _ (r10.ex e2) upd_same (lw_mono e2 hV2) (lw_RO (r10.ex e2) h2) o1 ok2 o2 o3 m1 m3 fun h => o4 h.1
        · refine ⟨_, rfl, rfl, _, rfl, ?_⟩
          rw [decide_eq_false (by decide)]
          dsimp only
          rw [if_neg (by decide)]
          refine ev_at0 (σ := [some (.ref p), some (.ref l), some (.ref s), some (.int 1), some (.ref v2), some (.ref m), none, some (.ref bg)]) (te := tVar 2) (ev_var rfl) hs10 H10 (Ex.refl H10) _ fun G e => ⟨_, rfl, (by show 2 ≤ sizeLine; decide), fun t ht => ?_⟩
          have e2 := e.trans (Ex.new (o := .tup [.ref r1, .ref v2]) ht)
          exact q t r1 v2 ts V2 _ (r10.ex e2) upd_same (lw_RO (r10.ex e2) h1) (lw_mono e2 hV2) ok1 o1 t1 t3 o2 o3 fun h => o4 h.2

end
end K21
namespace Lw
open PySem PySem.Spec PyProof.Rows L2
section
variable {X : Cx} {CX : CXT} {k : Nat} {C f : Addr} {fd : FuncData} {ps : List Str} {sp : Sp} {E : XK}
/-- o == y, y of any other kind -/
def rEqTy (K : PySem.W.Frag) (C : Addr) (sp : Sp) (E : XK) : R2 := fun x y H Q => ∃ (a dx : Addr) (fs : List (Str × V)) (t : Value), x = .ref a ∧ H a = some (.ins C dx fs) ∧ TyX K H y t ∧ PySem.W.notFirst K C t = true ∧ sp [.ref a, y] H (fun v H2 => ∃ b : Bool, v = .bl b ∧ Q (.bl b) H2) E
theorem op_eqTy (hf : PySem.W.findIn X.K (.ref C) "__eq__" = some (some (.ref f))) (tf : PySem.W.isFn X.K (.ref f) = true) (F : FnOk X.prog X.w X.K X.mg X.base CX k f fd ps sp) (hb : Binds X.K fd ps []) (hr : Room k X.A) (hx : Passes CX X E) :
    OpR X (compareOp .Eq) (rEqTy X.K C sp E) := by
  intro pins s σ H x y v u Q I rx ry h
  obtain ⟨a, dx, fs, t, rfl, ha, ty, nf, q⟩ := h
  cases rx
  obtain ⟨mA, J, _⟩ := ins_get I.hok ha
  obtain ⟨od, J, _⟩ := J.look
  obtain ⟨m, fr⟩ := I.fr
  obtain ⟨P, kx, hp, _⟩ := kit_of I ry ty
  refine PySem.W.cmp_K (op := .Eq) hr.units0 fr I.ok.mod.kin J (kx.ty _ _ I.kIn hp) nf hf tf (wpAny_mono (run_fn (us := [.ref a, u]) (vs := [.ref a, y]) (dvs := []) (ds := []) F hr hb .nil hx I (.cons rfl (.cons ry .nil)) q) (fun w2 s2 hh => ?_) fun _ _ z => z)
  obtain ⟨z, H2, I2, rz, b, rfl, q2⟩ := hh
  obtain rfl : w2 = Value.bool b := rz
  exact ⟨.bl b, H2, I2, rfl, q2⟩
end
end Lw
namespace Tk
open PySem PySem.Spec PyProof.Rows L2 Lw Evl LamX TL
open Rm (R Ok Z0 Zp Fr fr_none fr_ne nt_lst nt_tup nt_dK NT Zn)
theorem op_eqSpT {X : Cx} {K : PySem.W.Frag} {k : Nat} {C : Addr} {ps : List Str} {sp : Sp} {j : Nat} (q : SpO X.prog X.w X.K X.mg X.base k C "__eq__" ps sp) (hr : Room j X.A) (hj : k ≤ j := by decide) (h : X.K = K := by rfl) : OpR X (compareOp .Eq) (rEqTy K C sp E0) := by
  subst h
  obtain ⟨f, fd, h1, h2, hb, F⟩ := q
  exact op_eqTy h1 (isFn_of h2) F hb (hr.mono hj) pass0
theorem srtW_srtW (ws : List (List Str)) : srtW (srtW ws) = srtW ws := sd_uniq (srtW_sd _) (srtW_sd _) fun u => by rw [srtW_mem]
theorem srtW_perm {ws us : List (List Str)} (h : ws.Perm us) : srtW ws = srtW us := sd_uniq (srtW_sd _) (srtW_sd _) fun u => by rw [srtW_mem, srtW_mem, h.mem_iff]
/-! ### sayings made -/
section
variable {P : Program} {w : World} {K : PySem.W.Frag} {Z : Zn} {TT : List (Addr × Str)} {H H0 H1 H2 : Hp} {σ : L2.St} {te ta tb td : TE} {a b l p CF CY CT CM d : Addr} {ws us ts ms ns : List (List Str)} {i j n : Nat} {Q : VK} {E : XK}
/-- a new saying -/
def Es (Z : Zn) (K : PySem.W.Frag) (CY : Addr) (te : TE) (σ : L2.St) (H : Hp) (ts ms : List (List Str)) : Prop := ∀ H1, R Z H H1 → ∀ Q : VK, (∀ x H2, Fr H1 x → R Z H1 H2 → SyAt K CY H2 x ts ms → Q (.ref x) H2) → te σ H1 Q
/-- a right row, as it is passed -/
def Er (Z : Zn) (K : PySem.W.Frag) (te : TE) (σ : L2.St) (H : Hp) (ts : List (List Str)) : Prop := ∀ H1, R Z H H1 → ∀ Q : VK, (∀ v us H2, R Z H1 H2 → GoodRow K H2 v us → srtW us = srtW ts → Q v H2) → te σ H1 Q
theorem er_var (h : ∀ H1, R Z H H1 → Ev te σ H1 (.ref l)) (hl : LW K H l ts) (ok : okWs ts) (t1 : 1 ≤ ts.length) (t3 : ts.length ≤ 3) : Er Z K te σ H ts := fun H1 r Q q => h H1 r H1 (Ex.refl H1) _ fun H2 e2 => q _ ts H2 (.of r.b e2) (good_lw (lw_mono e2 (lw_RO r hl)) ok t1 t3) rfl
theorem er_mixed {T : List (Addr × Str)} (h : ∀ H1, R (Zp T p) H H1 → Ev te σ H1 (.ref l)) (hp : σ[0]? = some (some (.ref p))) (hl : LW K H l ts) (lp : l ≠ p) (ok : okWs ts) (t1 : 1 ≤ ts.length) (t3 : ts.length ≤ 3) : Er (Zp T p) K (tCall (spMixed K) [] E0 (tCons (tVar 0) (tCons te tNil))) σ H ts := fun H1 r Q q =>
  ⟨_, hp, h H1 r H1 (Ex.refl H1) _ fun H2 e2 => by
    have r2 : R (Zp T p) H1 H2 := .of r.b e2
    refine ⟨T, p, l, ts, rfl, r2.b, lw_RO (r.trans r2) hl, lp, okWs_isW ok, by omega, fun y us zs H3 r3 hs hp pm => ?_⟩
    have lz := pm.length_eq
    exact q _ zs H3 (r2.trans r3) ⟨y, us, rfl, hs, hp, ⟨fun u hu => ok.1 u (pm.mem_iff.mp hu), pm.nodup_iff.mpr ok.2⟩, by omega, by omega⟩ (srtW_perm pm)⟩
theorem es_mk (hT : Z.T = TT) (h1 : Er Z K ta σ H ts) (h2 : Er Z K tb σ H ms) : Es Z K CY (tMake CY (spSay K TT CT CM CY) [] E (tCons ta (tCons tb tNil))) σ H (srtW ts) (srtW ms) := fun H1 r Q q =>
  h1 H1 r _ fun v1 us1 H2 r2 g1 e1 => h2 H2 (r.trans r2) _ fun v2 us2 H3 r3 g2 e2 x dx nx nd ne => ⟨x, dx, v1, v2, H3, rfl, rfl, nx, nd, ne, by rw [← hT]; exact r3.b.1, .inr ⟨us1, good_R r3 g1, .inr ⟨us2, g2, fun H4 r4 hs => ⟨rfl, q x H4 ((r2.trans r3).fr (fr_none nx)) (r2.trans (r3.trans (r0_up r3.b hT r4))) (by rw [← e1, ← e2]; exact hs)⟩⟩⟩⟩
theorem es_mkK (hT : Z.T = TT) (h1 : Er Z K ta σ H ts) (h2 : Er Z K tb σ H ms) : Es Z K CY (tMakeK CY 0 2 (spSay K TT CT CM CY) (fun vs zs => vs ++ zs.reverse) E tNil (tCons tb (tCons ta tNil))) σ H (srtW ts) (srtW ms) := fun H1 r Q q =>
  h2 H1 r _ fun v2 us2 H2 r2 g2 e2 => h1 H2 (r.trans r2) _ fun v1 us1 H3 r3 g1 e1 => ⟨rfl, rfl, fun x dx nx nd ne => ⟨x, dx, v1, v2, H3, rfl, rfl, nx, nd, ne, by rw [← hT]; exact r3.b.1, .inr ⟨us1, g1, .inr ⟨us2, good_R r3 g2, fun H4 r4 hs => ⟨rfl, q x H4 ((r2.trans r3).fr (fr_none nx)) (r2.trans (r3.trans (r0_up r3.b hT r4))) (by rw [← e1, ← e2]; exact hs)⟩⟩⟩⟩⟩
theorem es_wt (hT : Z.T = TT) (h : ∀ H1, R Z H H1 → Ev te σ H1 (.ref a)) (ha : SyAt K CY H a ts (srtW ms)) (ok : okWs (srtW ms)) (m1 : 1 ≤ (srtW ms).length) (m3 : (srtW ms).length ≤ 3) (h1 : Er Z K ta σ H us) : Es Z K CY (tMeth CY "with_triggers" (spWT K TT CT CY) [] E te (tCons ta tNil)) σ H (srtW us) (srtW ms) := fun H1 r Q q =>
  h H1 r H1 (Ex.refl H1) _ fun H2 e2 => by
    have r2 : R Z H1 H2 := .of r.b e2
    obtain ⟨dx, lt, lm, k1, _, _⟩ := sy_R (r.trans r2) ha
    refine ⟨a, dx, _, rfl, k1, rfl, h1 H2 (r.trans r2) _ fun v us1 H3 r3 g e1 => ⟨a, v, ts, srtW ms, rfl, sy_R ((r.trans r2).trans r3) ha, ok, m1, m3, by rw [← hT]; exact r3.b.1, .inr ⟨us1, g, fun b H4 fb r4 hs => ?_⟩⟩⟩
    rw [srtW_srtW, e1] at hs
    exact q b H4 ((r2.trans r3).fr fb) ((r2.trans r3).trans (r0_up r3.b hT r4)) hs
theorem es_wm (hT : Z.T = TT) (h : ∀ H1, R Z H H1 → Ev te σ H1 (.ref a)) (ha : SyAt K CY H a (srtW ts) ms) (ok : okWs (srtW ts)) (m1 : 1 ≤ (srtW ts).length) (m3 : (srtW ts).length ≤ 3) (h1 : Er Z K ta σ H us) : Es Z K CY (tMeth CY "with_makes" (spWM K TT CM CY) [] E te (tCons ta tNil)) σ H (srtW ts) (srtW us) := fun H1 r Q q =>
  h H1 r H1 (Ex.refl H1) _ fun H2 e2 => by
    have r2 : R Z H1 H2 := .of r.b e2
    obtain ⟨dx, lt, lm, k1, _, _⟩ := sy_R (r.trans r2) ha
    refine ⟨a, dx, _, rfl, k1, rfl, h1 H2 (r.trans r2) _ fun v us1 H3 r3 g e1 => ⟨a, v, srtW ts, ms, rfl, sy_R ((r.trans r2).trans r3) ha, ok, m1, m3, by rw [← hT]; exact r3.b.1, .inr ⟨us1, g, fun b H4 fb r4 hs => ?_⟩⟩⟩
    rw [srtW_srtW, e1] at hs
    exact q b H4 ((r2.trans r3).fr fb) ((r2.trans r3).trans (r0_up r3.b hT r4)) hs
theorem q_asgS {D : Ends} {tz : TS} (o : Ok Z H) (h : Es Z K CY te σ H ts ms) (k : ∀ x H1, Fr H x → R Z H H1 → SyAt K CY H1 x ts ms → tz D (σ.set i (some (.ref x))) H1) : tSeq (tAsg te (gName i)) tz D σ H := h H (.refl o) _ k
/-- ==, != -/
theorem ev_syEq (ha : Ev ta σ H (.ref a)) (hb : Ev tb σ H (.ref b)) (h1 : SyAt K CY H a ts ms) (h2 : SyAt K CY H b us ns) (w1 : ∀ w ∈ ts, isW w = true) (w2 : ∀ w ∈ ms, isW w = true) (w3 : ∀ w ∈ us, isW w = true) (w4 : ∀ w ∈ ns, isW w = true) : Ev (tOp (rEqO K CY (spSyEq K CY) E0) ta tb) σ H (.bl (decide (ts = us) && decide (ms = ns))) := fun H1 e Q q => ha H1 e _ fun H2 e2 => hb H2 (e.trans e2) _ fun H3 e3 => by
  have g1 := sy_ex ((e.trans e2).trans e3) h1
  have g2 := sy_ex ((e.trans e2).trans e3) h2
  obtain ⟨dx, _, _, k1, _, _⟩ := id g1
  obtain ⟨dy, _, _, k2, _, _⟩ := id g2
  exact ⟨a, dx, _, rfl, k1, .inr ⟨b, dy, _, rfl, k2⟩, a, _, ts, ms, rfl, g1, w1, w2, .inr ⟨b, us, ns, rfl, g2, w3, w4, fun H4 e4 => ⟨_, rfl, q H4 ((e2.trans e3).trans e4)⟩⟩⟩
theorem syNe_at (g1 : SyAt K CY H a ts ms) (g2 : SyAt K CY H b us ns) (w1 : ∀ w ∈ ts, isW w = true) (w2 : ∀ w ∈ ms, isW w = true) (w3 : ∀ w ∈ us, isW w = true) (w4 : ∀ w ∈ ns, isW w = true) (q : ∀ H4, Ex H H4 → Q (.bl (!(decide (ts = us) && decide (ms = ns)))) H4) : rNeO K CY (spSyEq K CY) E0 (.ref a) (.ref b) H Q := by
  obtain ⟨dx, _, _, k1, _, _⟩ := id g1
  obtain ⟨dy, _, _, k2, _, _⟩ := id g2
  exact ⟨a, dx, _, rfl, k1, .inr ⟨b, dy, _, rfl, k2⟩, a, _, ts, ms, rfl, g1, w1, w2, .inr ⟨b, us, ns, rfl, g2, w3, w4, fun H4 e4 => ⟨_, rfl, q H4 e4⟩⟩⟩
theorem ev_syNe (ha : Ev ta σ H (.ref a)) (hb : Ev tb σ H (.ref b)) (h1 : SyAt K CY H a ts ms) (h2 : SyAt K CY H b us ns) (w1 : ∀ w ∈ ts, isW w = true) (w2 : ∀ w ∈ ms, isW w = true) (w3 : ∀ w ∈ us, isW w = true) (w4 : ∀ w ∈ ns, isW w = true) : Ev (tOp (rNeO K CY (spSyEq K CY) E0) ta tb) σ H (.bl (!(decide (ts = us) && decide (ms = ns)))) := fun H1 e Q q => ha H1 e _ fun H2 e2 => hb H2 (e.trans e2) _ fun H3 e3 =>
  syNe_at (sy_ex ((e.trans e2).trans e3) h1) (sy_ex ((e.trans e2).trans e3) h2) w1 w2 w3 w4 fun H4 e4 => q H4 ((e2.trans e3).trans e4)
theorem ew_syNeE (h : Es Z K CY ta σ H ts ms) (hb : σ[j]? = some (some (.ref b))) (h2 : SyAt K CY H b us ns) (w1 : ∀ w ∈ ts, isW w = true) (w2 : ∀ w ∈ ms, isW w = true) (w3 : ∀ w ∈ us, isW w = true) (w4 : ∀ w ∈ ns, isW w = true) : Rm.Ew Z (tOp (rNeO K CY (spSyEq K CY) E0) ta (tVar j)) σ H (.bl (!(decide (ts = us) && decide (ms = ns)))) := fun H1 r Q q => h H1 r _ fun x H2 fx r2 hx => ⟨_, hb,
  syNe_at hx (sy_R (r.trans r2) h2) w1 w2 w3 w4 fun H4 e4 => q H4 (r2.ex e4)⟩
/-- == with what is of another kind -/
def OddY (K : PySem.W.Frag) (CY : Addr) (H : Hp) (v : V) : Prop := ∃ t : Value, TyX K H v t ∧ PySem.W.notFirst K CY t = true ∧ PySem.W.kitOne K t (.ref CY) = some false
theorem ev_syOdd {v : V} (ha : Ev ta σ H (.ref a)) (hb : Ev tb σ H v) (h1 : SyAt K CY H a ts ms) (w1 : ∀ w ∈ ts, isW w = true) (w2 : ∀ w ∈ ms, isW w = true) (od : OddY K CY H v) : Ev (tOp (rEqTy K CY (spSyEq K CY) E0) ta tb) σ H (.bl false) := fun H1 e Q q => ha H1 e _ fun H2 e2 => hb H2 (e.trans e2) _ fun H3 e3 => by
  have e13 := (e.trans e2).trans e3
  have g1 := sy_ex e13 h1
  obtain ⟨dx, _, _, k1, _, _⟩ := id g1
  obtain ⟨t, o1, o2, o3⟩ := od
  have ty := tyx_mono e13 o1
  exact ⟨a, dx, _, t, rfl, k1, ty, o2, a, v, ts, ms, rfl, g1, w1, w2, .inl ⟨t, ty, o3, fun H4 e4 => ⟨_, rfl, q H4 ((e2.trans e3).trans e4)⟩⟩⟩
end
section
variable {P : Program} {w : World} {K : PySem.W.Frag} {H : Hp} {σ : L2.St} {te : TE} {bs : List Bool}
/-- truths, shown -/
theorem ev_shownB (h : EvL te σ H (bs.map V.bl)) (hz : bs.length ≤ 1000) : Ev (tCB (rReprS P w) (tCons te tNil)) σ H (.str (listText (PyData.shownAll (bs.map PyData.bool)))) := fun H1 e Q q => h H1 e _ fun p H2 np e2 hp => ⟨p, _, _, rfl, hp, sw_bls bs _, (bls_ok hz).1, (bls_ok hz).2, q H2 e2⟩
end
end Tk
namespace K21
open PySem PySem.Spec PyProof.Rows L2 Lw Evl LamX Tk
open Rm (R Ok Z0 Zp Fr fr_none fr_ne nt_lst nt_tup)
open LwX (XC XF)
section
variable {P : Program} {w : World} {K : PySem.W.Frag} {mg : Str → Option Value} {base : Heap} {TT : List (Addr × Str)} {CY CF CT CM CS dA : Addr}
def spPotT (T : List (Addr × Str)) : Sp := fun vs H Q _ => ∃ p, vs = [.ref p] ∧ Po p H ∧ Tabs T H ∧ ∀ H', R (Zp T p) H H' → Q (.bl true) H'
abbrev s_right : Stmt := topS 42
theorem sc_right : FnScope ["_law_pot_here", "_law_turn", "_law_tags_here", "_law_saw_here", "_law_other", "_law_one", "_law_twin", "_law_near_here", "_law_mate", "_law_odd", "_law_turned", "_law_back"] ["_law_pot_here"] (defScope s_right) := ⟨rfl, rfl, rfl, by decide +kernel, rfl, by decide +kernel, by decide +kernel⟩
theorem ok_right {f : Addr} {fd : FuncData} (F : FunD K "_law_right" "_law_right" (defArgs s_right) (defBody s_right) (defScope s_right) [] [] f fd) (T : Tx P w K mg base) (OSy : OwnC K mg "Saying" CY) (OFr : OwnC K mg "Front" CF) (MSy : MkO P w K mg base (L2.CX P w) 4 "Saying" CY ["triggers", "makes"] (spSay K TT CT CM CY)) (MWT : MeO P w K mg base (L2.CX P w) 6 CY "with_triggers" ["triggers"] (spWT K TT CT CY)) (MWM : MeO P w K mg base (L2.CX P w) 6 CY "with_makes" ["makes"] (spWM K TT CM CY)) (MTr : MeO P w K mg base CX0 1 CY "triggers" [] (spSyT K CY)) (MFr : MkD P w K mg base (L2.CX P w) 5 "Front" CF "words" dA (spFrI K TT CS CF)) (EQS : SpO P w K mg base 1 CY "__eq__" ["self", "other"] (spSyEq K CY)) (NQS : NeO K CY) (OY : OthK K CY) (nfF : PySem.W.notFirst K CY (.ref CF) = true) (koF : PySem.W.kitOne K (.ref CF) (.ref CY) = some false) (RSy : SpG P w K mg base 1 CY "__repr__" ["self"] (spSyRepr K CY)) (d_law_draw : Cal P w K mg base CX0 1 "_law_draw" ["_law_pot_here", "_law_sides"] spDraw) (d_law_tags : Cal P w K mg base CX0 3 "_law_tags" ["_law_pot_here", "_law_amount"] spTags) (d_law_saw : Cal P w K mg base CX0 4 "_law_saw" ["_law_pot_here", "_law_tags_here"] (spSaw K)) (d_law_mixed : Cal P w K mg base CX0 3 "_law_mixed" ["_law_pot_here", "_law_some"] (spMixed K)) (d_law_near : Cal P w K mg base CX0 3 "_law_near" ["_law_pot_here", "_law_tags_here", "_law_saw_here"] (spNear K)) (d_law_tells : Cal P w K mg base CX0 9 "_law_tells" ["_law_one", "_law_saw_here"] (spTellsY K TT CY)) : FnG P w K mg base CX0 11 f fd ["_law_pot_here"] (spPotT TT) := by
  refine fnG F sc_right (fun vs H Q E h => ?_) (fun cdv A outer s H vs Q E gd hr h => ?_)
  · obtain ⟨p, rfl, _⟩ := h
    rfl
  · skip
    refine ⟨_, PSs.nox ((pss_cons (ps_for PassesOwn.never rfl (pi_range1 (by rfl) T.m_range (pa_cons pe_int pa_nil)) (pg_name (i := 1) sc_right.nd rfl (by first | exact Or.inl rfl | exact Or.inr rfl)) (pss_cons (ps_set (i := 2) sc_right.nd rfl (by first | exact Or.inl rfl | exact Or.inr rfl) (pe_cal d_law_tags gd hr (pa_cons (pv 0) (pa_cons (pe_op op_add pe_int (pe_cal d_law_draw gd hr (pa_cons (pv 0) (pa_cons pe_int pa_nil)))) pa_nil))))
      (pss_cons (ps_par (i := 3) (j := 4) (by rfl) sc_right.nd rfl rfl (by decide) rfl rfl (pa_cons (pe_cal d_law_saw gd hr (pa_cons (pv 0) (pa_cons (pv 2) pa_nil))) (pa_cons (pe_cal d_law_saw gd hr (pa_cons (pv 0) (pa_cons (pv 2) pa_nil))) pa_nil)) (by rfl))
      (pss_cons (ps_set (i := 5) sc_right.nd rfl (by first | exact Or.inl rfl | exact Or.inr rfl) (pe_mkO MSy hr passE0 (pa_cons (pe_cal d_law_mixed gd hr (pa_cons (pv 0) (pa_cons (pe_ix (ix_tupK2 (K := K)) (pv 3) pe_int (fun _ _ => rfl)) pa_nil))) (pa_cons (pe_cal d_law_mixed gd hr (pa_cons (pv 0) (pa_cons (pe_ix (ix_tupK2 (K := K)) (pv 3) pe_int (fun _ _ => rfl)) pa_nil))) pa_nil))))
      (pss_cons (ps_set (i := 6) sc_right.nd rfl (by first | exact Or.inl rfl | exact Or.inr rfl) (pe_mkOR MSy hr passE0 (pk_cons (pe_cal d_law_mixed gd hr (pa_cons (pv 0) (pa_cons (pe_ix (ix_tupK2 (K := K)) (pv 3) pe_int (fun _ _ => rfl)) pa_nil))) (pk_cons (pe_cal d_law_mixed gd hr (pa_cons (pv 0) (pa_cons (pe_ix (ix_tupK2 (K := K)) (pv 3) pe_int (fun _ _ => rfl)) pa_nil))) pk_nil))))
      (pss_cons (ps_set (i := 7) sc_right.nd rfl (by first | exact Or.inl rfl | exact Or.inr rfl) (pe_cal d_law_near gd hr (pa_cons (pv 0) (pa_cons (pv 2) (pa_cons (pv 3) pa_nil)))))
      (pss_cons (ps_set (i := 8) sc_right.nd rfl (by first | exact Or.inl rfl | exact Or.inr rfl) (pe_mkO MSy hr passE0 (pa_cons (pe_ix (ix_tupK2 (K := K)) (pv 7) pe_int (fun _ _ => rfl)) (pa_cons (pe_ix (ix_tupK2 (K := K)) (pv 7) pe_int (fun _ _ => rfl)) pa_nil))))
      (pss_cons (ps_if (PW.pt (pw_or (pt_not (pt_val (pe_cal d_law_tells gd hr (pa_cons (pv 5) (pa_cons (pv 3) pa_nil))))) (pw_or (pt_not (pt_val (pe_cal d_law_tells gd hr (pa_cons (pv 5) (pa_cons (pv 3) pa_nil))))) (pw_or1 (pt_not (pt_val (pe_cal d_law_tells gd hr (pa_cons (pv 8) (pa_cons (pv 7) pa_nil))))))))) (pss_one (ps_ret pe_bl)) pss_nil)
      (pss_cons (ps_if (pt_cmpR op_ne (pe_callB (call_reprS (P := P) (w := w) gd hr.units) (by rfl) T.m_repr (by decide +kernel) (pa_cons (pe_lst (pa_cons (pe_cmpR (op_eqSp EQS hr) (pv 5) (pv 6) (nomark _)) (pa_cons (pe_cmpR (op_neSp EQS NQS hr) (pv 5) (pv 6) (nomark _)) (pa_cons (pe_cmpR (op_eqSp EQS hr) (pv 5) (pv 8) (nomark _)) (pa_cons (pe_cmpR (op_neSp EQS NQS hr) (pv 8) (pv 5) (nomark _)) pa_nil))))) pa_nil)) pe_str (nomark _)) (pss_one (ps_ret pe_bl)) pss_nil)
      (pss_cons (ps_if (pt_val (pe_callB (cr_any rfl) (by rfl) T.m_any (by decide +kernel) (pa_cons (pe_lc (own := [("_law_odd", 9)]) (g := gName 9) (tt := tYes) rfl sc_right.nd (pi_listK (K := K) (pe_lst (pa_cons pe_non (pa_cons pe_int (pa_cons (pv 3) (pa_cons (pe_meO0 OSy.cl MTr (pv 5) hr pass0) (pa_cons (pe_callB (call_reprSp RSy gd hr) (by rfl) T.m_repr (by decide +kernel) (pa_cons (pv 5) pa_nil)) (pa_cons (pe_mkD MFr hr passE0 (pa_cons (pe_ix (ix_tupK2 (K := K)) (pv 3) pe_int (fun _ _ => rfl)) pa_nil)) pa_nil)))))))) (blkOk_by (own := [("_law_odd", 9)]) (N := ["_law_pot_here", "_law_turn", "_law_tags_here", "_law_saw_here", "_law_other", "_law_one", "_law_twin", "_law_near_here", "_law_mate", "_law_odd", "_law_turned", "_law_back"]) (sc := defScope s_right) (by decide +kernel)) (fun _ _ _ _ _ => pg_name (i := 9) sc_right.nd rfl (by first | exact Or.inl rfl | exact Or.inr rfl)) (fun _ _ _ _ _ => pts_nil) (fun _ _ _ _ _ => (pe_cmpR (op_eqSpT EQS hr) (pv 5) (pv 9) (nomark _)))) pa_nil))) (pss_one (ps_ret pe_bl)) pss_nil)
      (pss_cons (ps_par (i := 10) (j := 11) (by rfl) sc_right.nd rfl rfl (by decide) rfl rfl (pa_cons (pe_meO OSy.cl MWT (pv 5) hr passE0 (pa_cons (pe_cal d_law_mixed gd hr (pa_cons (pv 0) (pa_cons (pe_ix (ix_tupK2 (K := K)) (pv 4) pe_int (fun _ _ => rfl)) pa_nil))) pa_nil)) (pa_cons (pe_meO OSy.cl MWM (pv 5) hr passE0 (pa_cons (pe_cal d_law_mixed gd hr (pa_cons (pv 0) (pa_cons (pe_ix (ix_tupK2 (K := K)) (pv 4) pe_int (fun _ _ => rfl)) pa_nil))) pa_nil)) pa_nil)) (by rfl))
      (pss_cons (ps_if (PW.pt (pw_or (pt_not (pt_val (pe_cal d_law_tells gd hr (pa_cons (pv 10) (pa_cons (pe_tup (pa_cons (pe_ix (ix_tupK2 (K := K)) (pv 4) pe_int (fun _ _ => rfl)) (pa_cons (pe_ix (ix_tupK2 (K := K)) (pv 3) pe_int (fun _ _ => rfl)) pa_nil))) pa_nil))))) (pw_or1 (pt_not (pt_val (pe_cal d_law_tells gd hr (pa_cons (pv 11) (pa_cons (pe_tup (pa_cons (pe_ix (ix_tupK2 (K := K)) (pv 3) pe_int (fun _ _ => rfl)) (pa_cons (pe_ix (ix_tupK2 (K := K)) (pv 4) pe_int (fun _ _ => rfl)) pa_nil))) pa_nil)))))))) (pss_one (ps_ret pe_bl)) pss_nil)
      (pss_one (ps_if (PW.pt (pw_or (pt_cmpR (op_neSp EQS NQS hr) (pe_meO OSy.cl MWT (pv 10) hr passE0 (pa_cons (pe_ix (ix_tupK2 (K := K)) (pv 3) pe_int (fun _ _ => rfl)) pa_nil)) (pv 5) (nomark _)) (pw_or (pt_cmpR (op_neSp EQS NQS hr) (pe_meO OSy.cl MWM (pv 11) hr passE0 (pa_cons (pe_ix (ix_tupK2 (K := K)) (pv 3) pe_int (fun _ _ => rfl)) pa_nil)) (pv 6) (nomark _)) (pw_or1 (pt_not (pt_val (pe_cal d_law_tells gd hr (pa_cons (pv 5) (pa_cons (pv 3) pa_nil))))))))) (pss_one (ps_ret pe_bl)) pss_nil))))))))))))))
      (pss_one (ps_ret pe_bl)))), ?_⟩
    obtain ⟨p, rfl, hp, ht, q⟩ := h
    have o : Ok (Zp TT p) H := ⟨ht, fun a m => by rw [m]; exact hp⟩
    refine q_forR1 (n := 6) (ea_cons ev_c ea_nil) (by decide) (fun i σ H' => ∃ c1 c2 c3 c4 c5 c6 c7 c8 c9 c10 c11 : Option V, σ = [some (.ref p), c1, c2, c3, c4, c5, c6, c7, c8, c9, c10, c11] ∧ R (Zp TT p) H H') (fun G e => ⟨_, _, _, _, _, _, _, _, _, _, _, rfl, .of o e⟩) (fun i σ H1 hi hP => ?_) (fun σ H1 hP => ?_)
    · obtain ⟨c1, c2, c3, c4, c5, c6, c7, c8, c9, c10, c11, rfl, r1⟩ := hP
      refine q_asgX ⟨_, rfl, _, rfl, p, 3, rfl, r1.b.2 p rfl, by decide, by decide, fun d1 H2 a0 a1 x2 => ⟨_, _, rfl, rfl, ?_⟩⟩
      have r2 := r1.trans (Rm.R.xp r1.b.1 (r1.b.2 p rfl) x2)
      obtain ⟨n, rfl⟩ := Int.eq_ofNat_of_zero_le a0
      refine ⟨TT, p, n + 1, by show [V.ref p, V.int ((1 : Int) + (n : Int))] = _; rw [Int.add_comm]; rfl, r2.b, by omega, by omega, fun l xs H3 fl r23 hl hn hL h6 hN => ?_⟩
      have r3 := r2.trans r23
      have nl := ls_nm r3.b hl
      refine Tk.q_par ⟨_, rfl, _, rfl, TT, p, l, xs, rfl, r3.b, hl, by omega, by omega, hL, hN, fun g lw lp ws ms H4 r34 hg hW okw in1 w1 w3 hM okm in2 m1 m3 => ?_⟩
      have r4 := r3.trans r34
      refine ⟨_, rfl, _, rfl, TT, p, l, xs, rfl, r4.b, r34.lst hl nl, by omega, by omega, hL, hN, fun g2 lw2 lp2 ws2 ms2 H5 r45 hg2 hW2 okw2 in3 v1 v3 hM2 okm2 in4 n1 n3 => ?_⟩
      have r5 := r4.trans r45
      have hl5 := (r34.trans r45).lst hl nl
      have hg5 := r45.tup hg
      have hW5 := lw_RO r45 hW
      have hM5 := lw_RO r45 hM
      have q1 := lw_nm r5.b hW5
      have q2 := lw_nm r5.b hM5
      have q3 := lw_nm r5.b hW2
      have q4 := lw_nm r5.b hM2
      have iw : ∀ {us : List (List Str)}, okWs us → ∀ u ∈ srtW us, isW u = true := fun ok u hu => okWs_isW ok u (srtW_mem.mp hu)
      have sl : ∀ us : List (List Str), (srtW us).length ≤ us.length := fun us => nodup_le (srtW_nodup us) fun u hu => srtW_mem.mp hu
      have sl2 : ∀ {us : List (List Str)}, okWs us → us.length ≤ (srtW us).length := fun ok => nodup_le ok.2 fun u hu => srtW_mem.mpr hu
      show tSeq _ _ _ [some (.ref p), some (.int (i : Int)), some (.ref l), some (.ref g), some (.ref g2), c5, c6, c7, c8, c9, c10, c11] H5
      refine q_asgS (Z := Zp TT p) r5.b (es_mk rfl (er_mixed (fun G r => ev_at0 (ev_var rfl) (r.tup hg5)) rfl hW5 q1 okw w1 w3) (er_mixed (fun G r => ev_at1 (ev_var rfl) (r.tup hg5)) rfl hM5 q2 okm m1 m3)) fun one H6 f1 r56 hone => ?_
      refine q_asgS (Z := Zp TT p) r56.b (es_mkK rfl (er_mixed (fun G r => ev_at0 (ev_var rfl) ((r56.trans r).tup hg5)) rfl (lw_RO r56 hW5) q1 okw w1 w3) (er_mixed (fun G r => ev_at1 (ev_var rfl) ((r56.trans r).tup hg5)) rfl (lw_RO r56 hM5) q2 okm m1 m3)) fun twin H7 f2 r67 htwin => ?_
      have r57 := r56.trans r67
      refine q_asgX ⟨_, rfl, _, rfl, _, rfl, TT, p, l, g, lw, lp, xs, ws, ms, rfl, r57.b, r57.lst hl5 nl, by omega, by omega, hL, h6, hN, r57.tup hg5, lw_RO r57 hW5, lw_RO r57 hM5, okw, in1, w1, w3, okm, in2, m1, m3, fun ng a1 a2 us ns H8 r78 hng hU hV oku okn u1 u3 k1 k3 dif => ?_⟩
      have r58 := r57.trans r78
      refine q_asgS (Z := Zp TT p) r58.b (es_mk rfl (er_var (fun G r => ev_at0 (ev_var rfl) (r.tup hng)) hU oku u1 u3) (er_var (fun G r => ev_at1 (ev_var rfl) (r.tup hng)) hV okn k1 k3)) fun mate H9 f3 r89 hmate => ?_
      have r59 := r58.trans r89
      have one9 := sy_R ((r67.trans r78).trans r89) hone
      have twin9 := sy_R (r78.trans r89) htwin
      have tellO : ∀ {G : Hp} {Q : VK}, R (Zp TT p) H9 G → (∀ G', R (Zp TT p) G G' → Q (.bl true) G') → spTellsY K TT CY [.ref one, .ref g] G Q E0 := fun {G Q} r k => ⟨one, g, lw, lp, ws, ms, rfl, r.b.1, sy_R r one9, (r59.trans r).tup hg5, lw_RO (r59.trans r) hW5, lw_RO (r59.trans r) hM5, okw, okm, w1, w3, m1, m3, fun G' r' => k G' (r0_up r.b rfl r')⟩
      refine Rm.q_when (Z := Zp TT p) (b := !true || (!true || !true)) r59.b (Rm.et_or (Rm.et_not (Rm.et_B fun G r Q k => ⟨_, rfl, _, rfl, tellO r fun G' r' => k G' r'⟩)) (fun _ => Rm.et_or (Rm.et_not (Rm.et_B fun G r Q k => ⟨_, rfl, _, rfl, tellO r fun G' r' => k G' r'⟩)) (fun _ => Rm.et_not (Rm.et_B fun G r Q k => ⟨_, rfl, _, rfl, mate, ng, a1, a2, us, ns, rfl, r.b.1, sy_R r hmate, (r89.trans r).tup hng, lw_RO (r89.trans r) hU, lw_RO (r89.trans r) hV, oku, okn, u1, u3, k1, k3, fun G' r' => k G' (r0_up r.b rfl r')⟩)))) (fun z => by cases z) fun _ H10 r910 => ?_
      have b1 : (decide (srtW ws = srtW ws) && decide (srtW ms = srtW ms)) = true := by rw [decide_eq_true rfl, decide_eq_true rfl]; rfl
      have b2 : (decide (srtW ws = srtW us) && decide (srtW ms = srtW ns)) = false := by
        cases z : (decide (srtW ws = srtW us) && decide (srtW ms = srtW ns)) with
        | false => rfl
        | true =>
          obtain ⟨y1, y2⟩ := Bool.and_eq_true_iff.mp z
          exact absurd ⟨(of_decide_eq_true y1).symm, (of_decide_eq_true y2).symm⟩ dif
      have b3 : (decide (srtW us = srtW ws) && decide (srtW ns = srtW ms)) = false := by
        cases z : (decide (srtW us = srtW ws) && decide (srtW ns = srtW ms)) with
        | false => rfl
        | true =>
          obtain ⟨y1, y2⟩ := Bool.and_eq_true_iff.mp z
          exact absurd ⟨of_decide_eq_true y1, of_decide_eq_true y2⟩ dif
      refine Rm.q_when (Z := Zp TT p) (b := !decide (V.str (listText (PyData.shownAll ([true, false, false, true].map PyData.bool))) = V.str "[True, False, False, True]")) r910.b (Rm.et_of fun G r => by
        have h1 := sy_R (r910.trans r) one9
        have h2 := sy_R (r910.trans r) twin9
        have h3 := sy_R (r910.trans r) hmate
        have e1 := ev_syEq (K := K) (CY := CY) (σ := [some (.ref p), some (.int (i : Int)), some (.ref l), some (.ref g), some (.ref g2), some (.ref one), some (.ref twin), some (.ref ng), some (.ref mate), c9, c10, c11]) (ta := tVar 5) (tb := tVar 6) (ev_var rfl) (ev_var rfl) h1 h2 (iw okw) (iw okm) (iw okw) (iw okm)
        have e2 := ev_syNe (K := K) (CY := CY) (σ := [some (.ref p), some (.int (i : Int)), some (.ref l), some (.ref g), some (.ref g2), some (.ref one), some (.ref twin), some (.ref ng), some (.ref mate), c9, c10, c11]) (ta := tVar 5) (tb := tVar 6) (ev_var rfl) (ev_var rfl) h1 h2 (iw okw) (iw okm) (iw okw) (iw okm)
        have e3 := ev_syEq (K := K) (CY := CY) (σ := [some (.ref p), some (.int (i : Int)), some (.ref l), some (.ref g), some (.ref g2), some (.ref one), some (.ref twin), some (.ref ng), some (.ref mate), c9, c10, c11]) (ta := tVar 5) (tb := tVar 8) (ev_var rfl) (ev_var rfl) h1 h3 (iw okw) (iw okm) (iw oku) (iw okn)
        have e4 := ev_syNe (K := K) (CY := CY) (σ := [some (.ref p), some (.int (i : Int)), some (.ref l), some (.ref g), some (.ref g2), some (.ref one), some (.ref twin), some (.ref ng), some (.ref mate), c9, c10, c11]) (ta := tVar 8) (tb := tVar 5) (ev_var rfl) (ev_var rfl) h3 h1 (iw oku) (iw okn) (iw okw) (iw okm)
        rw [b1] at e1 e2
        rw [b2] at e3
        rw [b3] at e4
        exact et_test (ev_op (ev_shownB (bs := [true, false, false, true]) (el_lst (ea_cons e1 (ea_cons e2 (ea_cons e3 (ea_cons e4 ea_nil)))) (by show 4 ≤ 100000; decide)) (by decide)) ev_c (rv_ne rfl))) (fun z => by
        rw [show listText (PyData.shownAll ([true, false, false, true].map PyData.bool)) = ("[True, False, False, True]" : Str) from by decide +kernel, decide_eq_true rfl] at z
        cases z) fun _ H11 r1011 => ?_
      have r911 := r910.trans r1011
      refine Rm.q_when (Z := Zp TT p) (b := false) r911.b (Rm.et_B fun G r Q k => ?_) (fun z => by cases z) fun _ H12 r1112 => ?_
      · have g1 := sy_R (r911.trans r) one9
        have r5G := r59.trans (r911.trans r)
        have gg := r5G.tup hg5
        have zw : (srtW ws).length ≤ 3 := Nat.le_trans (sl ws) w3
        have zm : (srtW ms).length ≤ 3 := Nat.le_trans (sl ms) m3
        refine ⟨_, rfl, ?_⟩
        refine elw_syT (σ := [some (.ref p), some (.int (i : Int)), some (.ref l), some (.ref g), some (.ref g2), some (.ref one), some (.ref twin), some (.ref ng), some (.ref mate), c9, c10, c11]) (te := tVar 5) (ev_var rfl) g1 G (Ex.refl G) _ fun t1 G1 n1 e1 hL1 => ?_
        refine sy_shown (σ := [some (.ref p), some (.int (i : Int)), some (.ref l), some (.ref g), some (.ref g2), some (.ref one), some (.ref twin), some (.ref ng), some (.ref mate), c9, c10, c11]) (te := tVar 5) (ev_var rfl) (sy_ex e1 g1) (iw okw) (iw okm) zw zm G1 (Ex.refl G1) _ fun G2 e2 => ?_
        have e02 := e1.trans e2
        have rG2 : R (Zp TT p) G G2 := .of r.b e02
        refine ef_mk (K := K) (CF := CF) (CS := CS) (TT := TT) (E := E0) (Z := Zp TT p) (te := tOp (rIxT K) (tVar 3) (tC (.int 0))) (σ := [some (.ref p), some (.int (i : Int)), some (.ref l), some (.ref g), some (.ref g2), some (.ref one), some (.ref twin), some (.ref ng), some (.ref mate), c9, c10, c11]) (H := G2) (ws := ws) rfl (fun G3 r3 => eg_var (ev_at0 (ev_var rfl) ((rG2.trans r3).tup gg)) (good_lot (lw_RO ((r5G.trans rG2).trans r3) hW5) (okWs_isW okw) (by omega))) G2 (.refl rG2.b) _ fun fx G3 ffx r3 hfx => ⟨(by show 6 ≤ sizeLine; decide), fun pl hpl => ?_⟩
        have rG3 := rG2.trans r3
        obtain ⟨ls, hls, _⟩ := lw_RO ((R.of rG2.b (Ex.refl G2)).trans r3) (lw_mono e2 hL1)
        have g3 := sy_R rG3 g1
        have gg3 := rG3.tup gg
        obtain ⟨dxf, df, hf1, _⟩ := id hfx
        have en := Ex.new (o := .lst [.non, .int 0, .ref g, .ref t1, .str (syText (srtW ws) (srtW ms)), .ref fx]) hpl
        have od : ∀ x ∈ [V.non, V.int 0, V.ref g, V.ref t1, V.str (syText (srtW ws) (srtW ms)), V.ref fx], OddY K CY (upd G3 pl (.lst [.non, .int 0, .ref g, .ref t1, .str (syText (srtW ws) (srtW ms)), .ref fx])) x := fun x hx => by
          simp only [List.mem_cons, List.not_mem_nil, or_false] at hx
          rcases hx with rfl | rfl | rfl | rfl | rfl | rfl
          · exact ⟨.type "NoneType", .base .non, OY.nf _ (by simp), OY.ko _ (by simp)⟩
          · exact ⟨.type "int", .base (.int 0), OY.nf _ (by simp), OY.ko _ (by simp)⟩
          · exact ⟨.type "tuple", tyx_tup (SqT.of (en _ _ gg3)), OY.nf _ (by simp), OY.ko _ (by simp)⟩
          · exact ⟨.type "list", .base (.lst (en _ _ hls)), OY.nf _ (by simp), OY.ko _ (by simp)⟩
          · exact ⟨.type "str", .base (.str _), OY.nf _ (by simp), OY.ko _ (by simp)⟩
          · exact ⟨.ref CF, OFr.ty (en _ _ hf1), nfF, koF⟩
        have rl := rG3.new (o := .lst [.non, .int 0, .ref g, .ref t1, .str (syText (srtW ws) (srtW ms)), .ref fx]) hpl
        have g4 := sy_ex en g3
        exact el_same (K := K) (ta := tC (.ref pl)) (σ := [some (.ref p), some (.int (i : Int)), some (.ref l), some (.ref g), some (.ref g2), some (.ref one), some (.ref twin), some (.ref ng), some (.ref mate), c9, c10, c11]) (H := upd G3 pl (.lst [.non, .int 0, .ref g, .ref t1, .str (syText (srtW ws) (srtW ms)), .ref fx])) (j := 9) (vs := [9]) (te := tOp (rEqTy K CY (spSyEq K CY) E0) (tVar 5) (tVar 9)) (.bl false) ev_c upd_same (by show 6 ≤ 40000; decide) (fun _ => rfl) (fun x H5 e5 hx => ev_syOdd (ev_var rfl) (ev_var rfl) (sy_ex e5 g4) (iw okw) (iw okm) (by
          obtain ⟨t, o1, o2, o3⟩ := od x hx
          exact ⟨t, tyx_mono e5 o1, o2, o3⟩)) _ (Ex.refl _) (fun v H5 => rAny K [v] H5 Q) fun D H5 nD e5 hD => ⟨D, [false, false, false, false, false, false], rfl, SqL.of hD, k H5 (rl.ex e5)⟩
      have r912 := r911.trans r1112
      have r512 := r59.trans r912
      have one12 := sy_R r912 one9
      have twin12 := sy_R r912 twin9
      have kw := okWs_srt okw
      have km := okWs_srt okm
      have zw1 : 1 ≤ (srtW ws).length := Nat.le_trans w1 (sl2 okw)
      have zw3 : (srtW ws).length ≤ 3 := Nat.le_trans (sl ws) w3
      have zm1 : 1 ≤ (srtW ms).length := Nat.le_trans m1 (sl2 okm)
      have zm3 : (srtW ms).length ≤ 3 := Nat.le_trans (sl ms) m3
      refine Tk.q_par (es_wt (K := K) (CY := CY) (CT := CT) (TT := TT) (E := E0) (Z := Zp TT p) (σ := [some (.ref p), some (.int (i : Int)), some (.ref l), some (.ref g), some (.ref g2), some (.ref one), some (.ref twin), some (.ref ng), some (.ref mate), c9, c10, c11]) (te := tVar 5) (H := H12) rfl (fun G r => ev_var rfl) one12 km zm1 zm3 (er_mixed (fun G r => ev_at0 (ev_var rfl) ((r512.trans r).tup hg2)) rfl (lw_RO r512 hW2) q3 okw2 v1 v3) H12 (.refl r512.b) _ fun tu H13 f4 r1213 htu => es_wm (K := K) (CY := CY) (CM := CM) (TT := TT) (E := E0) (Z := Zp TT p) (σ := [some (.ref p), some (.int (i : Int)), some (.ref l), some (.ref g), some (.ref g2), some (.ref one), some (.ref twin), some (.ref ng), some (.ref mate), c9, c10, c11]) (te := tVar 5) (H := H13) rfl (fun G r => ev_var rfl) (sy_R r1213 one12) kw zw1 zw3 (er_mixed (fun G r => ev_at1 (ev_var rfl) (((r512.trans r1213).trans r).tup hg2)) rfl (lw_RO (r512.trans r1213) hM2) q4 okm2 n1 n3) H13 (.refl r1213.b) _ fun ba H14 f5 r1314 hba => ?_)
      have r1214 := r1213.trans r1314
      have r514 := r512.trans r1214
      have htu14 := sy_R r1314 htu
      have one14 := sy_R r1214 one12
      have twin14 := sy_R r1214 twin12
      show tSeq _ _ _ [some (.ref p), some (.int (i : Int)), some (.ref l), some (.ref g), some (.ref g2), some (.ref one), some (.ref twin), some (.ref ng), some (.ref mate), c9, some (.ref tu), some (.ref ba)] H14
      refine Rm.q_when (Z := Zp TT p) (b := !true || !true) r1314.b (Rm.et_or (Rm.et_not (Rm.et_B fun G r Q k => ?_)) (fun _ => Rm.et_not (Rm.et_B fun G r Q k => ?_))) (fun z => by cases z) fun _ H15 r1415 => ?_
      · refine ⟨_, rfl, ?_⟩
        refine ev_at0 (σ := [some (.ref p), some (.int (i : Int)), some (.ref l), some (.ref g), some (.ref g2), some (.ref one), some (.ref twin), some (.ref ng), some (.ref mate), c9, some (.ref tu), some (.ref ba)]) (te := tVar 4) (ev_var rfl) ((r514.trans r).tup hg2) G (Ex.refl G) _ fun G1 e1 => ?_
        refine ev_at1 (σ := [some (.ref p), some (.int (i : Int)), some (.ref l), some (.ref g), some (.ref g2), some (.ref one), some (.ref twin), some (.ref ng), some (.ref mate), c9, some (.ref tu), some (.ref ba)]) (te := tVar 3) (ev_var rfl) (e1 _ _ ((r514.trans r).tup hg5)) G1 (Ex.refl G1) _ fun G2 e2 => ⟨(by show 2 ≤ sizeLine; decide), fun t ht => ?_⟩
        have rt : R (Zp TT p) G (upd G2 t (.tup [.ref lw2, .ref lp])) := (R.of r.b (e1.trans e2)).new ht
        exact ⟨tu, t, lw2, lp, ws2, ms, rfl, rt.b.1, sy_R (r.trans rt) htu14, upd_same, lw_RO ((r514.trans r).trans rt) hW2, lw_RO ((r514.trans r).trans rt) hM5, okw2, okm, v1, v3, m1, m3, fun G' r' => k G' (rt.trans (r0_up rt.b rfl r'))⟩
      · refine ⟨_, rfl, ?_⟩
        refine ev_at0 (σ := [some (.ref p), some (.int (i : Int)), some (.ref l), some (.ref g), some (.ref g2), some (.ref one), some (.ref twin), some (.ref ng), some (.ref mate), c9, some (.ref tu), some (.ref ba)]) (te := tVar 3) (ev_var rfl) ((r514.trans r).tup hg5) G (Ex.refl G) _ fun G1 e1 => ?_
        refine ev_at1 (σ := [some (.ref p), some (.int (i : Int)), some (.ref l), some (.ref g), some (.ref g2), some (.ref one), some (.ref twin), some (.ref ng), some (.ref mate), c9, some (.ref tu), some (.ref ba)]) (te := tVar 4) (ev_var rfl) (e1 _ _ ((r514.trans r).tup hg2)) G1 (Ex.refl G1) _ fun G2 e2 => ⟨(by show 2 ≤ sizeLine; decide), fun t ht => ?_⟩
        have rt : R (Zp TT p) G (upd G2 t (.tup [.ref lw, .ref lp2])) := (R.of r.b (e1.trans e2)).new ht
        exact ⟨ba, t, lw, lp2, ws, ms2, rfl, rt.b.1, sy_R (r.trans rt) hba, upd_same, lw_RO ((r514.trans r).trans rt) hW5, lw_RO ((r514.trans r).trans rt) hM2, okw, okm2, w1, w3, n1, n3, fun G' r' => k G' (rt.trans (r0_up rt.b rfl r'))⟩
      have r515 := r514.trans r1415
      have htu15 := sy_R r1415 htu14
      have hba15 := sy_R r1415 hba
      have one15 := sy_R r1415 one14
      have twin15 := sy_R r1415 twin14
      refine s_whenR (Z := Zp TT p) (b := !(decide (srtW ws = srtW ws) && decide (srtW ms = srtW ms)) || (!(decide (srtW ws = srtW ws) && decide (srtW ms = srtW ms)) || !true)) r1415.b (Rm.et_or (Rm.et_test (ew_syNeE (es_wt rfl (fun G r => ev_var rfl) htu15 km zm1 zm3 (er_var (fun G r => ev_at0 (ev_var rfl) ((r515.trans r).tup hg5)) (lw_RO r515 hW5) okw w1 w3)) rfl one15 (iw okw) (iw okm) (iw okw) (iw okm))) (fun _ => Rm.et_or (Rm.et_test (ew_syNeE (es_wm rfl (fun G r => ev_var rfl) hba15 kw zw1 zw3 (er_var (fun G r => ev_at1 (ev_var rfl) ((r515.trans r).tup hg5)) (lw_RO r515 hM5) okm m1 m3)) rfl twin15 (iw okw) (iw okm) (iw okw) (iw okm))) (fun _ => Rm.et_not (Rm.et_B fun G r Q k => ⟨_, rfl, _, rfl, one, g, lw, lp, ws, ms, rfl, r.b.1, sy_R r one15, (r515.trans r).tup hg5, lw_RO (r515.trans r) hW5, lw_RO (r515.trans r) hM5, okw, okm, w1, w3, m1, m3, fun G' r' => k G' (r0_up r.b rfl r')⟩)))) (fun z => by rw [b1] at z; cases z) fun _ H16 r1516 => ?_
      exact ⟨_, _, _, _, _, _, _, _, _, _, _, rfl, (r5.trans r515).trans r1516⟩
    obtain ⟨c1, c2, c3, c4, c5, c6, c7, c8, c9, c10, c11, rfl, r1⟩ := hP
    exact q H1 r1

def spLawT (K : PySem.W.Frag) (T : List (Addr × Str)) : Sp := fun vs H Q _ => ∃ (a : Addr) (ns : List Int), vs = [.ref a] ∧ Tabs T H ∧ SqL K H a (ns.map V.int) ∧ ns.length ≤ 63 ∧ ∀ H', Q (.bl true) H'
abbrev s_law : Stmt := topS 43
theorem sc_law : FnScope ["_law_script", "_law_at"] ["_law_script"] (defScope s_law) := ⟨rfl, rfl, rfl, by decide +kernel, rfl, by decide +kernel, by decide +kernel⟩
theorem ok_law {f : Addr} {fd : FuncData} (F : FunD K "law" "law" (defArgs s_law) (defBody s_law) (defScope s_law) [] [] f fd) (T : Tx P w K mg base) (d_law_pot : Cal P w K mg base CX0 1 "_law_pot" ["_law_script", "_law_at"] (spPot K)) (d_law_right : Cal P w K mg base CX0 11 "_law_right" ["_law_pot_here"] (spPotT TT)) : FnG P w K mg base CX0 12 f fd ["_law_script"] (spLawT K TT) := by
  refine fnG F sc_law (fun vs H Q E h => ?_) (fun cdv A outer s H vs Q E gd hr h => ?_)
  · obtain ⟨a, ns, rfl, _⟩ := h
    rfl
  · skip
    refine ⟨_, PSs.nox ((pss_one (ps_ret (pe_callB (cr_allK (K := K)) (by rfl) T.m_all (by decide +kernel) (pa_cons (pe_lc (own := [("_law_at", 1)]) (g := gName 1) (tt := tYes) rfl sc_law.nd (pi_range1 (by rfl) T.m_range (pa_cons (pe_callB (call_max2 rfl) (by rfl) T.m_max (by decide +kernel) (pa_cons pe_int (pa_cons (pe_callB (call_min2 rfl) (by rfl) T.m_min (by decide +kernel) (pa_cons (pe_callB (call_lenK (K := K)) (by rfl) T.m_len (by decide +kernel) (pa_cons (pv 0) pa_nil)) (pa_cons pe_int pa_nil))) pa_nil))) pa_nil)) (blkOk_by (own := [("_law_at", 1)]) (N := ["_law_script", "_law_at"]) (sc := defScope s_law) (by decide +kernel)) (fun _ _ _ _ _ => pg_name (i := 1) sc_law.nd rfl (by first | exact Or.inl rfl | exact Or.inr rfl)) (fun _ _ _ _ _ => pts_nil) (fun _ _ _ _ _ => (pe_cal d_law_right gd hr (pa_cons (pe_cal d_law_pot gd hr (pa_cons (pv 0) (pa_cons (pv 1) pa_nil))) pa_nil)))) pa_nil))))), ?_⟩
    obtain ⟨a, ns, rfl, htab, hS, hlen, q⟩ := h
    refine ⟨_, rfl, a, _, rfl, .inl hS, _, _, rfl, _, _, rfl, _, rfl, ?_, ?_, fun D hD => ?_⟩
    · split <;> split <;> omega
    · split <;> split <;> omega
    · have hn : ∀ n : Nat, n ≤ 63 → (if (if (4 : Int) < (n : Int) then 4 else (n : Int)) > 1 then (if (4 : Int) < (n : Int) then 4 else (n : Int)) else 1).toNat ≤ 4 := fun n _ => by split <;> split <;> omega
      have hn4 := hn _ (show (ns.map V.int).length ≤ 63 by rw [List.length_map]; exact hlen)
      refine lc_range (lo := 0) (n := (if (if (4 : Int) < ((ns.map V.int).length : Int) then 4 else ((ns.map V.int).length : Int)) > 1 then (if (4 : Int) < ((ns.map V.int).length : Int) then 4 else ((ns.map V.int).length : Int)) else 1).toNat) (fun i H' => R (Z0 TT) H H' ∧ H' D = some (.lst (List.replicate i (.bl true)))) ⟨(R.refl (Z := Z0 TT) ⟨htab, fun _ z => z.elim⟩).new hD, upd_same⟩ (fun i H' hi hP => ?_) (fun H' hP => ?_)
      · obtain ⟨e, hl⟩ := hP
        refine ⟨rfl, ?_⟩
        unfold tYes
        dsimp only
        try rw [if_pos rfl]
        refine ⟨_, rfl, _, rfl, a, ns, _, rfl, Rm.sql_R e hS, hlen, by omega, by omega, fun p H2 np s2 po => ?_⟩
        have e2 : R (Z0 TT) H H2 := e.ex s2
        refine ⟨p, rfl, po, e2.b.1, fun H3 x3 => ⟨List.replicate i (.bl true), x3.st _ _ (s2 _ _ hl) nt_lst (ne_of_none hl np), ?_, ?_, ?_⟩⟩
        · rw [List.length_replicate]
          exact sz_lt (by omega)
        · exact Rm.R.mut (Rm.R.drop e2 x3 (e.fr (fr_none np))) (fr_none hD) (x3.st _ _ (s2 _ _ hl) nt_lst (ne_of_none hl np)) trivial
        · rw [upd_same, List.replicate_succ']
      · obtain ⟨e, hl⟩ := hP
        refine ⟨D, List.replicate _ true, rfl, SqL.of (by rw [List.map_replicate]; exact hl), ?_⟩
        have z : ∀ n, (List.replicate n true).all id = true := fun n => by
          rw [List.all_replicate]
          cases n <;> rfl
        rw [z]
        exact q H'

end
end K21
namespace K21
open PySem PySem.Spec PyProof.Rows L2 Lw Evl LamX Tk
open LwX (XC XF)
/-! ### what the head tells of the classes -/
def neB (K : PySem.W.Frag) (x : Str) : Bool := He.eqO (PySem.W.findIn K (.ref (He.ga K x)) "__ne__") (some (some (.builtin "object.__ne__"))) && decide (PySem.W.mroIn K (He.ga K x) (.type "object") = some true)
def syB (K : PySem.W.Frag) : Bool := ownB K "Saying" && ((He.Fa.mkr "Saying").ok K && ((He.Fa.noat "Saying" "_triggers").ok K && ((He.Fa.noat "Saying" "_makes").ok K && ((He.Fa.meth "Saying" "triggers").ok K && ((He.Fa.meth "Saying" "makes").ok K && ((He.Fa.meth "Saying" "letters").ok K && ((He.Fa.meth "Saying" "make_letters").ok K && ((He.Fa.meth "Saying" "trigger_front").ok K && ((He.Fa.meth "Saying" "make_front").ok K && ((He.Fa.meth "Saying" "with_triggers").ok K && ((He.Fa.meth "Saying" "with_makes").ok K && ((He.Fa.meth "Saying" "__eq__").ok K && ((He.Fa.meth "Saying" "__repr__").ok K && (cintB K "Saying" "MOST" 3 && (conB K "Saying" "MOST" 3 && (neB K "Saying" && (othB K (He.ga K "Saying"))))))))))))))))))
section
variable {K : PySem.W.Frag} {mg : Str → Option Value} {h : Heap}
structure SyF (K : PySem.W.Frag) (mg : Str → Option Value) : Prop where
  o : OwnC K mg "Saying" (He.ga K "Saying")
  make : Mk K (He.ga K "Saying") (He.fAd K ("Saying", some "__init__"))
  nT : NoAttr K (He.ga K "Saying") "_triggers"
  nM : NoAttr K (He.ga K "Saying") "_makes"
  tr : Meth K (He.ga K "Saying") "triggers" (He.fAd K ("Saying", some "triggers"))
  ma : Meth K (He.ga K "Saying") "makes" (He.fAd K ("Saying", some "makes"))
  le : Meth K (He.ga K "Saying") "letters" (He.fAd K ("Saying", some "letters"))
  ml : Meth K (He.ga K "Saying") "make_letters" (He.fAd K ("Saying", some "make_letters"))
  tf : Meth K (He.ga K "Saying") "trigger_front" (He.fAd K ("Saying", some "trigger_front"))
  mf : Meth K (He.ga K "Saying") "make_front" (He.fAd K ("Saying", some "make_front"))
  wt : Meth K (He.ga K "Saying") "with_triggers" (He.fAd K ("Saying", some "with_triggers"))
  wm : Meth K (He.ga K "Saying") "with_makes" (He.fAd K ("Saying", some "with_makes"))
  eq : Meth K (He.ga K "Saying") "__eq__" (He.fAd K ("Saying", some "__eq__"))
  rp : Meth K (He.ga K "Saying") "__repr__" (He.fAd K ("Saying", some "__repr__"))
  ci : CInt K (He.ga K "Saying") "MOST" 3
  co : ConI K (He.ga K "Saying") "MOST" 3
  ne : NeO K (He.ga K "Saying")
  ok : OthK K (He.ga K "Saying")
theorem sy_ok (X : K.In h) (G : h.Ns mainGlobals mg) (e : syB K = true) : SyF K mg := by
  obtain ⟨e0, e⟩ := He.ba e
  obtain ⟨e1, e⟩ := He.ba e
  obtain ⟨e2, e⟩ := He.ba e
  obtain ⟨e3, e⟩ := He.ba e
  obtain ⟨e4, e⟩ := He.ba e
  obtain ⟨e5, e⟩ := He.ba e
  obtain ⟨e6, e⟩ := He.ba e
  obtain ⟨e7, e⟩ := He.ba e
  obtain ⟨e8, e⟩ := He.ba e
  obtain ⟨e9, e⟩ := He.ba e
  obtain ⟨e10, e⟩ := He.ba e
  obtain ⟨e11, e⟩ := He.ba e
  obtain ⟨e12, e⟩ := He.ba e
  obtain ⟨e13, e⟩ := He.ba e
  obtain ⟨e14, e⟩ := He.ba e
  obtain ⟨e15, e⟩ := He.ba e
  obtain ⟨e16, e17⟩ := He.ba e
  exact ⟨own_ok X G e0, He.mkr_ok e1, He.noat_ok e2, He.noat_ok e3, He.meth_ok e4, He.meth_ok e5, He.meth_ok e6, He.meth_ok e7, He.meth_ok e8, He.meth_ok e9, He.meth_ok e10, He.meth_ok e11, He.meth_ok e12, He.meth_ok e13, cint_ok e14, con_ok e15, ⟨He.eqO_ok (He.ba e16).1, of_decide_eq_true (He.ba e16).2⟩, oth_ok e17⟩
end
def dAFr (K : PySem.W.Frag) : Addr := dfA K ("Front", some "__init__")
def frB (K : PySem.W.Frag) : Bool := ownB K "Front" && ((He.Fa.mkr "Front").ok K && ((He.Fa.noat "Front" "_words").ok K && ((He.Fa.meth "Front" "words").ok K && ((He.Fa.meth "Front" "__eq__").ok K && (etupB K (dAFr K) && (neB K "Front"))))))
section
variable {K : PySem.W.Frag} {mg : Str → Option Value} {h : Heap}
structure FrF (K : PySem.W.Frag) (mg : Str → Option Value) : Prop where
  o : OwnC K mg "Front" (He.ga K "Front")
  make : Mk K (He.ga K "Front") (He.fAd K ("Front", some "__init__"))
  nW : NoAttr K (He.ga K "Front") "_words"
  wo : Meth K (He.ga K "Front") "words" (He.fAd K ("Front", some "words"))
  eq : Meth K (He.ga K "Front") "__eq__" (He.fAd K ("Front", some "__eq__"))
  dA : ∀ H, SqT K H (dAFr K) []
  ne : NeO K (He.ga K "Front")
theorem fr_ok (X : K.In h) (G : h.Ns mainGlobals mg) (e : frB K = true) : FrF K mg := by
  obtain ⟨e0, e⟩ := He.ba e
  obtain ⟨e1, e⟩ := He.ba e
  obtain ⟨e2, e⟩ := He.ba e
  obtain ⟨e3, e⟩ := He.ba e
  obtain ⟨e4, e⟩ := He.ba e
  obtain ⟨e5, e6⟩ := He.ba e
  exact ⟨own_ok X G e0, He.mkr_ok e1, He.noat_ok e2, He.meth_ok e3, He.meth_ok e4, etup_ok e5, ⟨He.eqO_ok (He.ba e6).1, of_decide_eq_true (He.ba e6).2⟩⟩
end
def relY (K : PySem.W.Frag) : Bool := kkB K "Front" "Saying" false && PySem.W.notFirst K (He.ga K "Saying") (.ref (He.ga K "Front"))
end K21
namespace K21H
open PySem PySem.Spec PyProof.Rows L2 Lw Evl
open K21

def dF0 : He.DefD := ⟨("_law_draw", none), "_law_draw", "_law_draw", defArgs (topS 30), defBody (topS 30), defScope (topS 30), [], []⟩
def dF1 : He.DefD := ⟨("_law_pot", none), "_law_pot", "_law_pot", defArgs (topS 29), defBody (topS 29), defScope (topS 29), [], []⟩
def dF2 : He.DefD := ⟨("is_letter", none), "is_letter", "is_letter", defArgs (topS 15), defBody (topS 15), defScope (topS 15), [], []⟩
def dF3 : He.DefD := ⟨("is_word", none), "is_word", "is_word", defArgs (topS 16), defBody (topS 16), defScope (topS 16), [], []⟩
def dF4 : He.DefD := ⟨("is_list", none), "is_list", "is_list", defArgs (topS 2), defBody (topS 2), defScope (topS 2), [], []⟩
def dF5 : He.DefD := ⟨("in_order", none), "in_order", "in_order", defArgs (topS 19), defBody (topS 19), defScope (topS 19), [], []⟩
def dF6 : He.DefD := ⟨("_law_pick", none), "_law_pick", "_law_pick", defArgs (topS 31), defBody (topS 31), defScope (topS 31), [], []⟩
def dF7 : He.DefD := ⟨("_law_tags", none), "_law_tags", "_law_tags", defArgs (topS 32), defBody (topS 32), defScope (topS 32), [], []⟩
def dF8 : He.DefD := ⟨("_law_all", none), "_law_all", "_law_all", defArgs (topS 33), defBody (topS 33), defScope (topS 33), [], []⟩
def dF9 : He.DefD := ⟨("_law_verses", none), "_law_verses", "_law_verses", defArgs (topS 35), defBody (topS 35), defScope (topS 35), [], []⟩
def dF10 : He.DefD := ⟨("_law_saw", none), "_law_saw", "_law_saw", defArgs (topS 36), defBody (topS 36), defScope (topS 36), [], []⟩
def dF11 : He.DefD := ⟨("need_word", none), "need_word", "need_word", defArgs (topS 17), defBody (topS 17), defScope (topS 17), [], []⟩
def dF12 : He.DefD := ⟨("beginnings", none), "beginnings", "beginnings", defArgs (topS 18), defBody (topS 18), defScope (topS 18), [], []⟩
def dF13 : He.DefD := ⟨("Front", some "__init__"), "__init__", "Front.__init__", defArgs (inClass (topS 22) 1), defBody (inClass (topS 22) 1), defScope (inClass (topS 22) 1), [.adr dAFr], []⟩
def dF14 : He.DefD := ⟨("Front", some "words"), "words", "Front.words", defArgs (inClass (topS 22) 3), defBody (inClass (topS 22) 3), defScope (inClass (topS 22) 3), [], []⟩
def dF15 : He.DefD := ⟨("Front", some "letters"), "letters", "Front.letters", defArgs (inClass (topS 22) 4), defBody (inClass (topS 22) 4), defScope (inClass (topS 22) 4), [], []⟩
def dF16 : He.DefD := ⟨("Front", some "__contains__"), "__contains__", "Front.__contains__", defArgs (inClass (topS 22) 6), defBody (inClass (topS 22) 6), defScope (inClass (topS 22) 6), [], []⟩
def dF17 : He.DefD := ⟨("Front", some "__len__"), "__len__", "Front.__len__", defArgs (inClass (topS 22) 7), defBody (inClass (topS 22) 7), defScope (inClass (topS 22) 7), [], []⟩
def dF18 : He.DefD := ⟨("Front", some "__eq__"), "__eq__", "Front.__eq__", defArgs (inClass (topS 22) 15), defBody (inClass (topS 22) 15), defScope (inClass (topS 22) 15), [], []⟩
def dF19 : He.DefD := ⟨("Front", some "__repr__"), "__repr__", "Front.__repr__", defArgs (inClass (topS 22) 16), defBody (inClass (topS 22) 16), defScope (inClass (topS 22) 16), [], []⟩
def dF20 : He.DefD := ⟨("is_row", none), "is_row", "is_row", defArgs (topS 25), defBody (topS 25), defScope (topS 25), [], []⟩
def dF21 : He.DefD := ⟨("first_wrong", none), "first_wrong", "first_wrong", defArgs (topS 26), defBody (topS 26), defScope (topS 26), [], []⟩
def dF22 : He.DefD := ⟨("Saying", some "__init__"), "__init__", "Saying.__init__", defArgs (inClass (topS 27) 1), defBody (inClass (topS 27) 1), defScope (inClass (topS 27) 1), [], []⟩
def dF23 : He.DefD := ⟨("Saying", some "with_triggers"), "with_triggers", "Saying.with_triggers", defArgs (inClass (topS 27) 8), defBody (inClass (topS 27) 8), defScope (inClass (topS 27) 8), [], []⟩
def dF24 : He.DefD := ⟨("Saying", some "with_makes"), "with_makes", "Saying.with_makes", defArgs (inClass (topS 27) 9), defBody (inClass (topS 27) 9), defScope (inClass (topS 27) 9), [], []⟩
def dF25 : He.DefD := ⟨("Saying", some "__eq__"), "__eq__", "Saying.__eq__", defArgs (inClass (topS 27) 10), defBody (inClass (topS 27) 10), defScope (inClass (topS 27) 10), [], []⟩
def dF26 : He.DefD := ⟨("letters_of", none), "letters_of", "letters_of", defArgs (topS 24), defBody (topS 24), defScope (topS 24), [], []⟩
def dF27 : He.DefD := ⟨("Saying", some "triggers"), "triggers", "Saying.triggers", defArgs (inClass (topS 27) 2), defBody (inClass (topS 27) 2), defScope (inClass (topS 27) 2), [], []⟩
def dF28 : He.DefD := ⟨("Saying", some "makes"), "makes", "Saying.makes", defArgs (inClass (topS 27) 3), defBody (inClass (topS 27) 3), defScope (inClass (topS 27) 3), [], []⟩
def dF29 : He.DefD := ⟨("Saying", some "letters"), "letters", "Saying.letters", defArgs (inClass (topS 27) 4), defBody (inClass (topS 27) 4), defScope (inClass (topS 27) 4), [], []⟩
def dF30 : He.DefD := ⟨("Saying", some "make_letters"), "make_letters", "Saying.make_letters", defArgs (inClass (topS 27) 5), defBody (inClass (topS 27) 5), defScope (inClass (topS 27) 5), [], []⟩
def dF31 : He.DefD := ⟨("Saying", some "trigger_front"), "trigger_front", "Saying.trigger_front", defArgs (inClass (topS 27) 6), defBody (inClass (topS 27) 6), defScope (inClass (topS 27) 6), [], []⟩
def dF32 : He.DefD := ⟨("Saying", some "make_front"), "make_front", "Saying.make_front", defArgs (inClass (topS 27) 7), defBody (inClass (topS 27) 7), defScope (inClass (topS 27) 7), [], []⟩
def dF33 : He.DefD := ⟨("Saying", some "__repr__"), "__repr__", "Saying.__repr__", defArgs (inClass (topS 27) 11), defBody (inClass (topS 27) 11), defScope (inClass (topS 27) 11), [], []⟩
def dF34 : He.DefD := ⟨("_law_lined", none), "_law_lined", "_law_lined", defArgs (topS 34), defBody (topS 34), defScope (topS 34), [], []⟩
def dF35 : He.DefD := ⟨("_law_closed", none), "_law_closed", "_law_closed", defArgs (topS 39), defBody (topS 39), defScope (topS 39), [], []⟩
def dF36 : He.DefD := ⟨("_law_mixed", none), "_law_mixed", "_law_mixed", defArgs (topS 37), defBody (topS 37), defScope (topS 37), [], []⟩
def dF37 : He.DefD := ⟨("_law_tags_in", none), "_law_tags_in", "_law_tags_in", defArgs (topS 38), defBody (topS 38), defScope (topS 38), [], []⟩
def dF38 : He.DefD := ⟨("_law_tells", none), "_law_tells", "_law_tells", defArgs (topS 40), defBody (topS 40), defScope (topS 40), [], []⟩
def dF39 : He.DefD := ⟨("_law_near", none), "_law_near", "_law_near", defArgs (topS 41), defBody (topS 41), defScope (topS 41), [], []⟩
def dF40 : He.DefD := ⟨("_law_right", none), "_law_right", "_law_right", defArgs (topS 42), defBody (topS 42), defScope (topS 42), [], []⟩
def dF41 : He.DefD := ⟨("law", none), "law", "law", defArgs (topS 43), defBody (topS 43), defScope (topS 43), [], []⟩
def dF42 : He.DefD := ⟨("InvalidTriggers", some "__init__"), "__init__", "InvalidTriggers.__init__", defArgs (inClass (topS 8) 0), defBody (inClass (topS 8) 0), defScope (inClass (topS 8) 0), [], []⟩
def dF43 : He.DefD := ⟨("InvalidMakes", some "__init__"), "__init__", "InvalidMakes.__init__", defArgs (inClass (topS 9) 0), defBody (inClass (topS 9) 0), defScope (inClass (topS 9) 0), [], []⟩
def dF44 : He.DefD := ⟨("InvalidWords", some "__init__"), "__init__", "InvalidWords.__init__", defArgs (inClass (topS 6) 0), defBody (inClass (topS 6) 0), defScope (inClass (topS 6) 0), [], []⟩
def fn : List He.DefD := [dF0, dF1, dF2, dF3, dF4, dF5, dF6, dF7, dF8, dF9, dF10, dF11, dF12, dF13, dF14, dF15, dF16, dF17, dF18, dF19, dF20, dF21, dF22, dF23, dF24, dF25, dF26, dF27, dF28, dF29, dF30, dF31, dF32, dF33, dF34, dF35, dF36, dF37, dF38, dF39, dF40, dF41, dF42, dF43, dF44]
def fa : List He.Fa := [.glo "_law_draw", .glo "_law_pot", .glo "is_letter", .glo "is_word", .glo "is_list", .glo "in_order", .glo "_law_pick", .glo "_law_tags", .glo "_law_all", .glo "_law_verses", .glo "_law_saw", .glo "need_word", .glo "beginnings", .glo "is_row", .glo "first_wrong", .glo "letters_of", .glo "_law_lined", .glo "_law_closed", .glo "_law_mixed", .glo "_law_tags_in", .glo "_law_tells", .glo "_law_near", .glo "_law_right", .glo "law", .free "len", .free "range", .free "abs", .free "max", .free "min", .free "int", .free "divmod", .free "all", .free "isinstance", .free "enumerate", .free "repr", .free "list", .free "tuple", .free "sorted", .free "str", .free "dict", .free "set", .free "any", .free "ValueError", .int "MOST_SIGNS" (8), .int "MOST_IN_WORD" (3)]
def tf : List He.Defn := [("in_order", none)]
def LL : List (He.Defn × Str) := [(("in_order", none), "in_order.<locals>.<lambda>")]
def ex (K : PySem.W.Frag) : Bool := Tk.oneB K "InvalidTriggers" "position" && (Tk.oneB K "InvalidMakes" "position" && (Tk.oneB K "InvalidWords" "position" && (relY K && (syB K && (frB K && decide ((LL.map fun e => (He.cT K e.1).2).Nodup))))))
abbrev R : PySem.W.OpenRow := PySem.W.OpenLaw.row PySem.Challenge.rw_wakesayings_k21_whole_sayings_by_own_lis
abbrev hk : PySem.W.Hook := Tk.hookY 6 fa fn tf ex
def ob (s : PySem.W.SharedT) : Tk.ToldY := Tk.obsY 6 fa fn tf ex (HandSHeadRun.getT s)
theorem ob_eq (s : PySem.W.SharedT) : ob s = hk.obs s.abs := Tk.obsY_eq 6 fa fn tf ex (HandSHeadRun.getT_eq s)
def loose0 : List PySem.Str := ["_wall", "is_list", "WakeError", "InvalidWord", "InvalidWords", "InvalidFront", "InvalidTriggers", "InvalidMakes", "MissingError", "UnknownLetter", "is_letter", "is_word", "need_word", "beginnings", "in_order", "need_front", "Front", "letters_of", "is_row", "first_wrong", "Saying", "_law_pot", "_law_draw", "_law_pick", "_law_tags", "_law_all", "_law_lined", "_law_verses", "_law_saw", "_law_mixed"]
def loose1 : List PySem.Str := ["_law_tags_in", "_law_closed", "_law_tells", "_law_near", "_law_right", "MOST_SIGNS", "MOST_IN_WORD"]
def loose : List PySem.Str := loose0 ++ loose1
set_option maxHeartbeats 0 in
theorem run (w : World) : HandSHeadRun.RunEq R (PySem.W.view R.prog [43]) hk ob 12000 loose w := by
  intro os
  kernel_rfl
end K21H
namespace K21
open PySem PySem.Spec PyProof.Rows L2 Lw Evl
open K21H

section
variable {P : Program} {w : World} {K : PySem.W.Frag} {mg : Str → Option Value} {base h : Heap}
theorem mkCal {k : Nat} {x : Str} {ps : List Str} {sp : Sp} {f : Addr} {fd : FuncData} (g : mg x = some (.ref f)) (kp : PySem.W.keepIn K (.ref f) = true) (b : Binds K fd ps []) (H : FnG P w K mg base CX0 k f fd ps sp) : Cal P w K mg base CX0 k x ps sp := ⟨f, fd, g, kp, b, H⟩
theorem mkCalR {k : Nat} {x : Str} {ps : List Str} {sp : Sp} {f : Addr} {fd : FuncData} (g : mg x = some (.ref f)) (kp : PySem.W.keepIn K (.ref f) = true) (b : ∀ (ws : List Value) (s : Shared), ws.length = ps.length → BindsTo s fd ⟨[], ps.reverse.zip ws⟩ (ps.zip ws.reverse)) (H : FnG P w K mg base CX0 k f fd ps sp) : CalR P w K mg base CX0 k x ps sp := ⟨f, fd, g, kp, b, H⟩
theorem bindsR {qual x : Str} {params : Arguments} {scope : Scope} {f : Addr} {fd : FuncData} {body : List Stmt} {ps : List Str} (F : FunD K x qual params body scope [] [] f fd)
    (z : ∀ (kV doc pm : Value) (an : Option Addr) (cdv ct : Value) (ws : List Value), ws.length = ps.length → bindArgs (PySem.W.fnOf x qual params body scope .none kV doc pm an cdv ct) ⟨[], ps.reverse.zip ws⟩ = pure (ps.zip ws.reverse)) (ws : List Value) (s : Shared) (e : ws.length = ps.length) :
    BindsTo s fd ⟨[], ps.reverse.zip ws⟩ (ps.zip ws.reverse) := by
  obtain ⟨oc, od, dV, kV, doc, pm, an, cdv, ct, osl, rfl, _, _, hD, _⟩ := F.ex
  rcases hD with ⟨_, rfl⟩ | ⟨n, _⟩
  · exact .of_eq (z kV doc pm an cdv ct ws e)
  · exact absurd rfl n
theorem tx (X : K.In h) (G : h.Ns mainGlobals mg) (c : He.SaysD fa fn K) : Tx P w K mg base := ⟨He.free_ok X G (c.fact 24 (f := .free "len") rfl), He.free_ok X G (c.fact 25 (f := .free "range") rfl), He.free_ok X G (c.fact 26 (f := .free "abs") rfl), He.free_ok X G (c.fact 27 (f := .free "max") rfl), He.free_ok X G (c.fact 28 (f := .free "min") rfl), He.free_ok X G (c.fact 29 (f := .free "int") rfl), He.free_ok X G (c.fact 30 (f := .free "divmod") rfl), He.free_ok X G (c.fact 31 (f := .free "all") rfl), He.free_ok X G (c.fact 32 (f := .free "isinstance") rfl), He.free_ok X G (c.fact 33 (f := .free "enumerate") rfl), He.free_ok X G (c.fact 34 (f := .free "repr") rfl), He.free_ok X G (c.fact 35 (f := .free "list") rfl), He.free_ok X G (c.fact 36 (f := .free "tuple") rfl), He.free_ok X G (c.fact 37 (f := .free "sorted") rfl), He.free_ok X G (c.fact 38 (f := .free "str") rfl), He.free_ok X G (c.fact 39 (f := .free "dict") rfl), He.free_ok X G (c.fact 40 (f := .free "set") rfl), He.free_ok X G (c.fact 41 (f := .free "any") rfl), He.int_ok X G (c.fact 43 (f := .int "MOST_SIGNS" (8)) rfl), He.int_ok X G (c.fact 44 (f := .int "MOST_IN_WORD" (3)) rfl)⟩
/-- the tables of code objects, by the names of what they hold -/
def TTs (K : PySem.W.Frag) : List (Addr × Str) := LL.map fun e => ((He.cT K e.1).2, e.2)
theorem uniq_T (nd : (LL.map fun e => (He.cT K e.1).2).Nodup) {p : Addr} {q : Str} (h : (p, q) ∈ TTs K) : ∀ z ∈ TTs K, z.1 = p → z.2 = q := by
  have key : ∀ {l : List (He.Defn × Str)}, (l.map fun e => (He.cT K e.1).2).Nodup → (p, q) ∈ l.map (fun e => ((He.cT K e.1).2, e.2)) → ∀ z ∈ l.map (fun e => ((He.cT K e.1).2, e.2)), z.1 = p → z.2 = q := by
    intro l
    induction l with
    | nil => intro _ _ z hz
             cases hz
    | cons a l ih =>
      intro nd h z hz e
      rw [List.map_cons, List.nodup_cons] at nd
      rw [List.map_cons] at h hz
      have out : ∀ y ∈ l.map (fun e => ((He.cT K e.1).2, e.2)), y.1 ≠ (He.cT K a.1).2 := fun y hy ey => nd.1 (by
        obtain ⟨b, hb, rfl⟩ := List.mem_map.mp hy
        exact List.mem_map.mpr ⟨b, hb, ey⟩)
      rcases List.mem_cons.mp h with h | h
      · rcases List.mem_cons.mp hz with hz | hz
        · rw [hz]
          exact (Prod.mk.inj h).2.symm
        · exact absurd (e.trans (Prod.mk.inj h).1) (out z hz)
      · rcases List.mem_cons.mp hz with hz | hz
        · rw [hz] at e
          exact absurd e.symm (out _ h)
        · exact ih nd.2 h z hz e
  exact key nd h
theorem facts {f : Addr} (X : K.In h) (G : h.Ns mainGlobals mg) (hfa : mg ("law" : Str) = some (.ref f)) (c : He.SaysD fa fn K) (e : ex K = true) :
    ∃ fd : FuncData, (∀ (s : Shared) (v : Value), BindsTo s fd ⟨[v], []⟩ [("_law_script", v)]) ∧ ∀ base : Heap, (∀ z ∈ tf.map (He.cT K), LamX.TabB base mg z.1 z.2) → FnG P w K mg base CX0 12 f fd ["_law_script"] (spLawT K (TTs K)) := by
  obtain ⟨fd0, F0⟩ := c.def_ 0 (d := dF0) rfl
  have g0 : mg "_law_draw" = some (.ref (He.ga K "_law_draw")) := He.glo_ok X G (c.fact 0 (f := .glo "_law_draw") rfl)
  have b0 : Binds K fd0 ["_law_pot_here", "_law_sides"] [] := F0.bindsN fun _ _ _ _ _ _ us hl => match us, hl with | [_, _], _ => rfl
  obtain ⟨fd1, F1⟩ := c.def_ 1 (d := dF1) rfl
  have g1 : mg "_law_pot" = some (.ref (He.ga K "_law_pot")) := He.glo_ok X G (c.fact 1 (f := .glo "_law_pot") rfl)
  have b1 : Binds K fd1 ["_law_script", "_law_at"] [] := F1.bindsN fun _ _ _ _ _ _ us hl => match us, hl with | [_, _], _ => rfl
  obtain ⟨fd2, F2⟩ := c.def_ 2 (d := dF2) rfl
  have g2 : mg "is_letter" = some (.ref (He.ga K "is_letter")) := He.glo_ok X G (c.fact 2 (f := .glo "is_letter") rfl)
  have b2 : Binds K fd2 ["value"] [] := F2.bindsN fun _ _ _ _ _ _ us hl => match us, hl with | [_], _ => rfl
  have r2 := bindsR (ps := ["value"]) F2 fun _ _ _ _ _ _ us hl => match us, hl with | [_], _ => rfl
  obtain ⟨fd3, F3⟩ := c.def_ 3 (d := dF3) rfl
  have g3 : mg "is_word" = some (.ref (He.ga K "is_word")) := He.glo_ok X G (c.fact 3 (f := .glo "is_word") rfl)
  have b3 : Binds K fd3 ["value"] [] := F3.bindsN fun _ _ _ _ _ _ us hl => match us, hl with | [_], _ => rfl
  have r3 := bindsR (ps := ["value"]) F3 fun _ _ _ _ _ _ us hl => match us, hl with | [_], _ => rfl
  obtain ⟨fd4, F4⟩ := c.def_ 4 (d := dF4) rfl
  have g4 : mg "is_list" = some (.ref (He.ga K "is_list")) := He.glo_ok X G (c.fact 4 (f := .glo "is_list") rfl)
  have b4 : Binds K fd4 ["value"] [] := F4.bindsN fun _ _ _ _ _ _ us hl => match us, hl with | [_], _ => rfl
  have r4 := bindsR (ps := ["value"]) F4 fun _ _ _ _ _ _ us hl => match us, hl with | [_], _ => rfl
  obtain ⟨fd5, F5⟩ := c.def_ 5 (d := dF5) rfl
  have g5 : mg "in_order" = some (.ref (He.ga K "in_order")) := He.glo_ok X G (c.fact 5 (f := .glo "in_order") rfl)
  have b5 : Binds K fd5 ["words"] [] := F5.bindsN fun _ _ _ _ _ _ us hl => match us, hl with | [_], _ => rfl
  have r5 := bindsR (ps := ["words"]) F5 fun _ _ _ _ _ _ us hl => match us, hl with | [_], _ => rfl
  obtain ⟨fd6, F6⟩ := c.def_ 6 (d := dF6) rfl
  have g6 : mg "_law_pick" = some (.ref (He.ga K "_law_pick")) := He.glo_ok X G (c.fact 6 (f := .glo "_law_pick") rfl)
  have b6 : Binds K fd6 ["_law_pot_here", "_law_some"] [] := F6.bindsN fun _ _ _ _ _ _ us hl => match us, hl with | [_, _], _ => rfl
  obtain ⟨fd7, F7⟩ := c.def_ 7 (d := dF7) rfl
  have g7 : mg "_law_tags" = some (.ref (He.ga K "_law_tags")) := He.glo_ok X G (c.fact 7 (f := .glo "_law_tags") rfl)
  have b7 : Binds K fd7 ["_law_pot_here", "_law_amount"] [] := F7.bindsN fun _ _ _ _ _ _ us hl => match us, hl with | [_, _], _ => rfl
  obtain ⟨fd8, F8⟩ := c.def_ 8 (d := dF8) rfl
  have g8 : mg "_law_all" = some (.ref (He.ga K "_law_all")) := He.glo_ok X G (c.fact 8 (f := .glo "_law_all") rfl)
  have b8 : Binds K fd8 ["_law_tags_here", "_law_most"] [] := F8.bindsN fun _ _ _ _ _ _ us hl => match us, hl with | [_, _], _ => rfl
  obtain ⟨fd9, F9⟩ := c.def_ 9 (d := dF9) rfl
  have g9 : mg "_law_verses" = some (.ref (He.ga K "_law_verses")) := He.glo_ok X G (c.fact 9 (f := .glo "_law_verses") rfl)
  have b9 : Binds K fd9 ["_law_pot_here", "_law_tags_here"] [] := F9.bindsN fun _ _ _ _ _ _ us hl => match us, hl with | [_, _], _ => rfl
  obtain ⟨fd10, F10⟩ := c.def_ 10 (d := dF10) rfl
  have g10 : mg "_law_saw" = some (.ref (He.ga K "_law_saw")) := He.glo_ok X G (c.fact 10 (f := .glo "_law_saw") rfl)
  have b10 : Binds K fd10 ["_law_pot_here", "_law_tags_here"] [] := F10.bindsN fun _ _ _ _ _ _ us hl => match us, hl with | [_, _], _ => rfl
  obtain ⟨fd11, F11⟩ := c.def_ 11 (d := dF11) rfl
  have g11 : mg "need_word" = some (.ref (He.ga K "need_word")) := He.glo_ok X G (c.fact 11 (f := .glo "need_word") rfl)
  have b11 : Binds K fd11 ["value"] [] := F11.bindsN fun _ _ _ _ _ _ us hl => match us, hl with | [_], _ => rfl
  have r11 := bindsR (ps := ["value"]) F11 fun _ _ _ _ _ _ us hl => match us, hl with | [_], _ => rfl
  obtain ⟨fd12, F12⟩ := c.def_ 12 (d := dF12) rfl
  have g12 : mg "beginnings" = some (.ref (He.ga K "beginnings")) := He.glo_ok X G (c.fact 12 (f := .glo "beginnings") rfl)
  have b12 : Binds K fd12 ["word"] [] := F12.bindsN fun _ _ _ _ _ _ us hl => match us, hl with | [_], _ => rfl
  have r12 := bindsR (ps := ["word"]) F12 fun _ _ _ _ _ _ us hl => match us, hl with | [_], _ => rfl
  obtain ⟨fd13, F13⟩ := c.def_ 13 (d := dF13) rfl
  obtain ⟨fd14, F14⟩ := c.def_ 14 (d := dF14) rfl
  have b14 : Binds K fd14 ["self"] [] := F14.bindsN fun _ _ _ _ _ _ us hl => match us, hl with | [_], _ => rfl
  have r14 := Tk.bindsS (ps := []) F14 fun _ _ _ _ _ _ _ us hl => match us, hl with | [], _ => rfl
  obtain ⟨fd15, F15⟩ := c.def_ 15 (d := dF15) rfl
  have b15 : Binds K fd15 ["self"] [] := F15.bindsN fun _ _ _ _ _ _ us hl => match us, hl with | [_], _ => rfl
  have r15 := Tk.bindsS (ps := []) F15 fun _ _ _ _ _ _ _ us hl => match us, hl with | [], _ => rfl
  obtain ⟨fd16, F16⟩ := c.def_ 16 (d := dF16) rfl
  have b16 : Binds K fd16 ["self", "value"] [] := F16.bindsN fun _ _ _ _ _ _ us hl => match us, hl with | [_, _], _ => rfl
  have r16 := Tk.bindsS (ps := ["value"]) F16 fun _ _ _ _ _ _ _ us hl => match us, hl with | [_], _ => rfl
  obtain ⟨fd17, F17⟩ := c.def_ 17 (d := dF17) rfl
  have b17 : Binds K fd17 ["self"] [] := F17.bindsN fun _ _ _ _ _ _ us hl => match us, hl with | [_], _ => rfl
  have r17 := Tk.bindsS (ps := []) F17 fun _ _ _ _ _ _ _ us hl => match us, hl with | [], _ => rfl
  obtain ⟨fd18, F18⟩ := c.def_ 18 (d := dF18) rfl
  have b18 : Binds K fd18 ["self", "other"] [] := F18.bindsN fun _ _ _ _ _ _ us hl => match us, hl with | [_, _], _ => rfl
  have r18 := Tk.bindsS (ps := ["other"]) F18 fun _ _ _ _ _ _ _ us hl => match us, hl with | [_], _ => rfl
  obtain ⟨fd19, F19⟩ := c.def_ 19 (d := dF19) rfl
  have b19 : Binds K fd19 ["self"] [] := F19.bindsN fun _ _ _ _ _ _ us hl => match us, hl with | [_], _ => rfl
  have r19 := Tk.bindsS (ps := []) F19 fun _ _ _ _ _ _ _ us hl => match us, hl with | [], _ => rfl
  obtain ⟨fd20, F20⟩ := c.def_ 20 (d := dF20) rfl
  have g20 : mg "is_row" = some (.ref (He.ga K "is_row")) := He.glo_ok X G (c.fact 13 (f := .glo "is_row") rfl)
  have b20 : Binds K fd20 ["value"] [] := F20.bindsN fun _ _ _ _ _ _ us hl => match us, hl with | [_], _ => rfl
  have r20 := bindsR (ps := ["value"]) F20 fun _ _ _ _ _ _ us hl => match us, hl with | [_], _ => rfl
  obtain ⟨fd21, F21⟩ := c.def_ 21 (d := dF21) rfl
  have g21 : mg "first_wrong" = some (.ref (He.ga K "first_wrong")) := He.glo_ok X G (c.fact 14 (f := .glo "first_wrong") rfl)
  have b21 : Binds K fd21 ["words"] [] := F21.bindsN fun _ _ _ _ _ _ us hl => match us, hl with | [_], _ => rfl
  have r21 := bindsR (ps := ["words"]) F21 fun _ _ _ _ _ _ us hl => match us, hl with | [_], _ => rfl
  obtain ⟨fd22, F22⟩ := c.def_ 22 (d := dF22) rfl
  have b22 : Binds K fd22 ["self", "triggers", "makes"] [] := F22.bindsN fun _ _ _ _ _ _ us hl => match us, hl with | [_, _, _], _ => rfl
  have r22 := Tk.bindsS (ps := ["triggers", "makes"]) F22 fun _ _ _ _ _ _ _ us hl => match us, hl with | [_, _], _ => rfl
  obtain ⟨fd23, F23⟩ := c.def_ 23 (d := dF23) rfl
  have b23 : Binds K fd23 ["self", "triggers"] [] := F23.bindsN fun _ _ _ _ _ _ us hl => match us, hl with | [_, _], _ => rfl
  have r23 := Tk.bindsS (ps := ["triggers"]) F23 fun _ _ _ _ _ _ _ us hl => match us, hl with | [_], _ => rfl
  obtain ⟨fd24, F24⟩ := c.def_ 24 (d := dF24) rfl
  have b24 : Binds K fd24 ["self", "makes"] [] := F24.bindsN fun _ _ _ _ _ _ us hl => match us, hl with | [_, _], _ => rfl
  have r24 := Tk.bindsS (ps := ["makes"]) F24 fun _ _ _ _ _ _ _ us hl => match us, hl with | [_], _ => rfl
  obtain ⟨fd25, F25⟩ := c.def_ 25 (d := dF25) rfl
  have b25 : Binds K fd25 ["self", "other"] [] := F25.bindsN fun _ _ _ _ _ _ us hl => match us, hl with | [_, _], _ => rfl
  have r25 := Tk.bindsS (ps := ["other"]) F25 fun _ _ _ _ _ _ _ us hl => match us, hl with | [_], _ => rfl
  obtain ⟨fd26, F26⟩ := c.def_ 26 (d := dF26) rfl
  have g26 : mg "letters_of" = some (.ref (He.ga K "letters_of")) := He.glo_ok X G (c.fact 15 (f := .glo "letters_of") rfl)
  have b26 : Binds K fd26 ["rows"] [] := F26.bindsN fun _ _ _ _ _ _ us hl => match us, hl with | [_], _ => rfl
  have r26 := bindsR (ps := ["rows"]) F26 fun _ _ _ _ _ _ us hl => match us, hl with | [_], _ => rfl
  obtain ⟨fd27, F27⟩ := c.def_ 27 (d := dF27) rfl
  have b27 : Binds K fd27 ["self"] [] := F27.bindsN fun _ _ _ _ _ _ us hl => match us, hl with | [_], _ => rfl
  have r27 := Tk.bindsS (ps := []) F27 fun _ _ _ _ _ _ _ us hl => match us, hl with | [], _ => rfl
  obtain ⟨fd28, F28⟩ := c.def_ 28 (d := dF28) rfl
  have b28 : Binds K fd28 ["self"] [] := F28.bindsN fun _ _ _ _ _ _ us hl => match us, hl with | [_], _ => rfl
  have r28 := Tk.bindsS (ps := []) F28 fun _ _ _ _ _ _ _ us hl => match us, hl with | [], _ => rfl
  obtain ⟨fd29, F29⟩ := c.def_ 29 (d := dF29) rfl
  have b29 : Binds K fd29 ["self"] [] := F29.bindsN fun _ _ _ _ _ _ us hl => match us, hl with | [_], _ => rfl
  have r29 := Tk.bindsS (ps := []) F29 fun _ _ _ _ _ _ _ us hl => match us, hl with | [], _ => rfl
  obtain ⟨fd30, F30⟩ := c.def_ 30 (d := dF30) rfl
  have b30 : Binds K fd30 ["self"] [] := F30.bindsN fun _ _ _ _ _ _ us hl => match us, hl with | [_], _ => rfl
  have r30 := Tk.bindsS (ps := []) F30 fun _ _ _ _ _ _ _ us hl => match us, hl with | [], _ => rfl
  obtain ⟨fd31, F31⟩ := c.def_ 31 (d := dF31) rfl
  have b31 : Binds K fd31 ["self"] [] := F31.bindsN fun _ _ _ _ _ _ us hl => match us, hl with | [_], _ => rfl
  have r31 := Tk.bindsS (ps := []) F31 fun _ _ _ _ _ _ _ us hl => match us, hl with | [], _ => rfl
  obtain ⟨fd32, F32⟩ := c.def_ 32 (d := dF32) rfl
  have b32 : Binds K fd32 ["self"] [] := F32.bindsN fun _ _ _ _ _ _ us hl => match us, hl with | [_], _ => rfl
  have r32 := Tk.bindsS (ps := []) F32 fun _ _ _ _ _ _ _ us hl => match us, hl with | [], _ => rfl
  obtain ⟨fd33, F33⟩ := c.def_ 33 (d := dF33) rfl
  have b33 : Binds K fd33 ["self"] [] := F33.bindsN fun _ _ _ _ _ _ us hl => match us, hl with | [_], _ => rfl
  have r33 := Tk.bindsS (ps := []) F33 fun _ _ _ _ _ _ _ us hl => match us, hl with | [], _ => rfl
  obtain ⟨fd34, F34⟩ := c.def_ 34 (d := dF34) rfl
  have g34 : mg "_law_lined" = some (.ref (He.ga K "_law_lined")) := He.glo_ok X G (c.fact 16 (f := .glo "_law_lined") rfl)
  have b34 : Binds K fd34 ["_law_verses_here"] [] := F34.bindsN fun _ _ _ _ _ _ us hl => match us, hl with | [_], _ => rfl
  obtain ⟨fd35, F35⟩ := c.def_ 35 (d := dF35) rfl
  have g35 : mg "_law_closed" = some (.ref (He.ga K "_law_closed")) := He.glo_ok X G (c.fact 17 (f := .glo "_law_closed") rfl)
  have b35 : Binds K fd35 ["_law_verses_here"] [] := F35.bindsN fun _ _ _ _ _ _ us hl => match us, hl with | [_], _ => rfl
  obtain ⟨fd36, F36⟩ := c.def_ 36 (d := dF36) rfl
  have g36 : mg "_law_mixed" = some (.ref (He.ga K "_law_mixed")) := He.glo_ok X G (c.fact 18 (f := .glo "_law_mixed") rfl)
  have b36 : Binds K fd36 ["_law_pot_here", "_law_some"] [] := F36.bindsN fun _ _ _ _ _ _ us hl => match us, hl with | [_, _], _ => rfl
  obtain ⟨fd37, F37⟩ := c.def_ 37 (d := dF37) rfl
  have g37 : mg "_law_tags_in" = some (.ref (He.ga K "_law_tags_in")) := He.glo_ok X G (c.fact 19 (f := .glo "_law_tags_in") rfl)
  have b37 : Binds K fd37 ["_law_verses_here"] [] := F37.bindsN fun _ _ _ _ _ _ us hl => match us, hl with | [_], _ => rfl
  obtain ⟨fd38, F38⟩ := c.def_ 38 (d := dF38) rfl
  have g38 : mg "_law_tells" = some (.ref (He.ga K "_law_tells")) := He.glo_ok X G (c.fact 20 (f := .glo "_law_tells") rfl)
  have b38 : Binds K fd38 ["_law_one", "_law_saw_here"] [] := F38.bindsN fun _ _ _ _ _ _ us hl => match us, hl with | [_, _], _ => rfl
  obtain ⟨fd39, F39⟩ := c.def_ 39 (d := dF39) rfl
  have g39 : mg "_law_near" = some (.ref (He.ga K "_law_near")) := He.glo_ok X G (c.fact 21 (f := .glo "_law_near") rfl)
  have b39 : Binds K fd39 ["_law_pot_here", "_law_tags_here", "_law_saw_here"] [] := F39.bindsN fun _ _ _ _ _ _ us hl => match us, hl with | [_, _, _], _ => rfl
  obtain ⟨fd40, F40⟩ := c.def_ 40 (d := dF40) rfl
  have g40 : mg "_law_right" = some (.ref (He.ga K "_law_right")) := He.glo_ok X G (c.fact 22 (f := .glo "_law_right") rfl)
  have b40 : Binds K fd40 ["_law_pot_here"] [] := F40.bindsN fun _ _ _ _ _ _ us hl => match us, hl with | [_], _ => rfl
  obtain ⟨fd41, F41⟩ := c.def_ 41 (d := dF41) rfl
  have g41 : mg "law" = some (.ref (He.ga K "law")) := He.glo_ok X G (c.fact 23 (f := .glo "law") rfl)
  have ee := hfa.symm.trans g41
  cases ee
  have bl := FunD.bindsA (ps := ["_law_script"]) F41 fun _ _ _ _ _ _ us hl => match us, hl with | [_], _ => rfl
  refine ⟨fd41, fun s v => bl s [v] rfl, fun base tb => ?_⟩
  have T : Tx P w K mg base := tx X G c
  obtain ⟨fd42, F42⟩ := c.def_ 42 (d := dF42) rfl
  obtain ⟨fd43, F43⟩ := c.def_ 43 (d := dF43) rfl
  obtain ⟨fd44, F44⟩ := c.def_ 44 (d := dF44) rfl
  have e1 := He.ba e
  have e2 := He.ba e1.2
  have e3 := He.ba e2.2
  have e4 := He.ba e3.2
  have e5 := He.ba e4.2
  have e6 := He.ba e5.2
  have e7 := He.ba e4.1
  have nd := of_decide_eq_true e6.2
  have oT := Tk.one_ok (mg := mg) X G e1.1
  have oM := Tk.one_ok (mg := mg) X G e2.1
  have oS := Tk.one_ok (mg := mg) X G e3.1
  have SF := sy_ok (mg := mg) X G e5.1
  have FF := fr_ok (mg := mg) X G e6.1
  have zT := Tk.xrz (P := P) (w := w) (base := base) F42 ⟨rfl, rfl, rfl, by decide +kernel, rfl, by decide +kernel, by decide +kernel⟩ rfl rfl (by decide) (by decide) (fun _ _ _ _ _ _ us hl => match us, hl with | [_, _], _ => rfl) oT
  have zM := Tk.xrz (P := P) (w := w) (base := base) F43 ⟨rfl, rfl, rfl, by decide +kernel, rfl, by decide +kernel, by decide +kernel⟩ rfl rfl (by decide) (by decide) (fun _ _ _ _ _ _ us hl => match us, hl with | [_, _], _ => rfl) oM
  have zS := Tk.xrz (P := P) (w := w) (base := base) F44 ⟨rfl, rfl, rfl, by decide +kernel, rfl, by decide +kernel, by decide +kernel⟩ rfl rfl (by decide) (by decide) (fun _ _ _ _ _ _ us hl => match us, hl with | [_, _], _ => rfl) oS
  have bA := Tk.bD2 (p := "words") F13 fun T kV doc pm an cdv ct u v z => ⟨_, rfl, rfl⟩
  have bB := Tk.bD1 (p := "words") F13 fun T kV doc pm an cdv ct u z => ⟨_, rfl, rfl⟩
  have bK := Tk.bDK (p := "words") F13 fun T kV doc pm an cdv ct u v z => ⟨_, rfl, rfl⟩
  have H0 := ok_draw F0 T 
  have H1 := ok_pot F1 T 
  have H2 := ok_is_letter F2 T 
  have H3 := ok_is_word F3 T ⟨_, _, g2, F2.kp, b2, r2, H2.mono (by decide)⟩
  have H4 := ok_is_list F4 T 
  have H5 := ok_in_order F5 T (TT := TTs K) (codeAt_of F5) (tb _ (List.mem_map.mpr ⟨_, (List.mem_cons_self), rfl⟩)) (List.mem_map.mpr ⟨_, (List.mem_cons_self), rfl⟩) (uniq_T nd (List.mem_map.mpr ⟨_, (List.mem_cons_self), rfl⟩)) zS ⟨_, _, g4, F4.kp, b4, r4, H4.mono (by decide)⟩ ⟨_, _, g3, F3.kp, b3, r3, H3.mono (by decide)⟩
  have H6 := ok_pick F6 T (mkCal g0 F0.kp b0 (H0.up (by decide)))
  have H7 := ok_tags F7 T (mkCal g0 F0.kp b0 (H0.up (by decide))) (mkCal g6 F6.kp b6 (H6.up (by decide)))
  have H8 := ok_all F8 T 
  have H9 := ok_verses F9 T (mkCal g0 F0.kp b0 (H0.up (by decide))) (mkCal g8 F8.kp b8 (H8.up (by decide)))
  have H10 := ok_saw F10 T (mkCal g9 F9.kp b9 (H9.up (by decide)))
  have H11 := ok_need_word F11 T ⟨_, _, g3, F3.kp, b3, r3, H3.mono (by decide)⟩
  have H12 := ok_beginnings F12 T ⟨_, _, g11, F11.kp, b11, r11, H11.mono (by decide)⟩
  have H13 := ok_fr_init (TT := TTs K) F13 T FF.o FF.nW ⟨_, _, g5, F5.kp, b5, r5, H5.mono (by decide)⟩ ⟨_, _, g12, F12.kp, b12, r12, H12.mono (by decide)⟩
  have H14 := ok_fr_words F14 T FF.o FF.nW
  have H15 := ok_fr_letters F15 T FF.o FF.nW
  have H16 := ok_fr_in F16 T FF.o FF.nW ⟨_, _, g3, F3.kp, b3, r3, H3.mono (by decide)⟩
  have H17 := ok_fr_len F17 T FF.o FF.nW
  have H18 := ok_fr_eq F18 T FF.o FF.nW
  have H19 := ok_fr_repr F19 T FF.o FF.nW
  have H20 := ok_is_row F20 T SF.o SF.ci ⟨_, _, g4, F4.kp, b4, r4, H4.mono (by decide)⟩
  have H21 := ok_first_wrong F21 T ⟨_, _, g3, F3.kp, b3, r3, H3.mono (by decide)⟩
  have H22 := ok_sy_init (TT := TTs K) F22 T SF.o SF.nT SF.nM zT zM ⟨_, _, g20, F20.kp, b20, r20, H20.mono (by decide)⟩ ⟨_, _, g21, F21.kp, b21, r21, H21.mono (by decide)⟩ ⟨_, _, g5, F5.kp, b5, r5, H5.mono (by decide)⟩
  have H23 := ok_sy_wt (TT := TTs K) F23 T SF.o SF.nM ⟨_, _, SF.o.g, SF.make, b22, r22, H22⟩
  have H24 := ok_sy_wm (TT := TTs K) F24 T SF.o SF.nT ⟨_, _, SF.o.g, SF.make, b22, r22, H22⟩
  have H25 := ok_sy_eq F25 T SF.o SF.nT SF.nM
  have H26 := ok_letters_of F26 T 
  have H27 := ok_sy_triggers F27 T SF.o SF.nT
  have H28 := ok_sy_makes F28 T SF.o SF.nM
  have H29 := ok_sy_letters F29 T SF.o SF.nT SF.nM ⟨_, _, g26, F26.kp, b26, r26, H26.mono (by decide)⟩
  have H30 := ok_sy_make_letters F30 T SF.o SF.nM ⟨_, _, g26, F26.kp, b26, r26, H26.mono (by decide)⟩
  have H31 := ok_sy_tf (TT := TTs K) F31 T SF.o SF.nT FF.o ⟨_, _, FF.o.g, FF.make, bA, bB, bK, H13⟩
  have H32 := ok_sy_mf (TT := TTs K) F32 T SF.o SF.nM FF.o ⟨_, _, FF.o.g, FF.make, bA, bB, bK, H13⟩
  have H33 := ok_sy_repr F33 T SF.o SF.nT SF.nM
  have H34 := ok_lined F34 T 
  have H35 := ok_closed F35 T (mkCal g34 F34.kp b34 (H34.up (by decide)))
  have H36 := ok_mixed F36 T (mkCal g0 F0.kp b0 (H0.up (by decide)))
  have H37 := ok_tags_in F37 T 
  have H38 := ok_tells (TT := TTs K) F38 T SF.o SF.ci SF.co FF.o ⟨_, _, SF.tr, b27, r27, H27⟩ ⟨_, _, SF.ma, b28, r28, H28⟩ ⟨_, _, SF.le, b29, r29, H29⟩ ⟨_, _, SF.ml, b30, r30, H30⟩ ⟨_, _, SF.tf, b31, r31, H31⟩ ⟨_, _, SF.mf, b32, r32, H32⟩ ⟨_, _, FF.wo, b14, r14, H14⟩ ⟨_, _, FF.o.g, FF.make, bA, bB, bK, H13⟩ ⟨_, _, FF.eq.at_, eq_of_beq FF.eq.fn, b18, H18⟩ FF.ne ⟨_, _, SF.rp.at_, eq_of_beq SF.rp.fn, b33, H33⟩ (mkCal g34 F34.kp b34 (H34.up (by decide))) (mkCal g37 F37.kp b37 (H37.up (by decide))) (mkCal g35 F35.kp b35 (H35.up (by decide)))
  have H39 := ok_near F39 T (mkCal g0 F0.kp b0 (H0.up (by decide))) (mkCal g6 F6.kp b6 (H6.up (by decide))) (mkCal g8 F8.kp b8 (H8.up (by decide)))
  have H40 := ok_right (TT := TTs K) F40 T SF.o FF.o ⟨_, _, SF.o.g, SF.make, b22, r22, H22⟩ ⟨_, _, SF.wt, b23, r23, H23⟩ ⟨_, _, SF.wm, b24, r24, H24⟩ ⟨_, _, SF.tr, b27, r27, H27⟩ ⟨_, _, FF.o.g, FF.make, bA, bB, bK, H13⟩ ⟨_, _, SF.eq.at_, eq_of_beq SF.eq.fn, b25, H25⟩ SF.ne SF.ok e7.2 (of_decide_eq_true e7.1) ⟨_, _, SF.rp.at_, eq_of_beq SF.rp.fn, b33, H33⟩ (mkCal g0 F0.kp b0 (H0.up (by decide))) (mkCal g7 F7.kp b7 (H7.up (by decide))) (mkCal g10 F10.kp b10 (H10.up (by decide))) (mkCal g36 F36.kp b36 (H36.up (by decide))) (mkCal g39 F39.kp b39 (H39.up (by decide))) (mkCal g38 F38.kp b38 (H38.up (by decide)))
  exact ok_law (TT := TTs K) F41 T (mkCal g1 F1.kp b1 (H1.up (by decide))) (mkCal g40 F40.kp b40 (H40.up (by decide)))
end
end K21
open PySem PySem.W PySem.Calls PyProof.Rows
set_option maxHeartbeats 0 in
theorem PySem.Challenge.cw_wakesayings_k21_whole_sayings_by_own_lis_holds : PySem.Challenge.rw_wakesayings_k21_whole_sayings_by_own_lis.Holds := by
  w_on; o_law
  refine HandSHeadRun.head_any (r := OpenLaw.row PySem.Challenge.rw_wakesayings_k21_whole_sayings_by_own_lis) (q := view (OpenLaw.row PySem.Challenge.rw_wakesayings_k21_whole_sayings_by_own_lis).prog [43]) (H := K21H.hk) (ob := K21H.ob) (M := 12000) (loose := K21H.loose) (d := HandSHeadRun.topDef (OpenLaw.row PySem.Challenge.rw_wakesayings_k21_whole_sayings_by_own_lis).prog 43) (kwd := []) K21H.ob_eq
    (by kernel_rfl) (fun s => by kernel_rfl) K21H.run (by kernel_rfl) (by kernel_rfl) (by kernel_rfl) (by rfl) (by first | assumption | decide +kernel) (by decide +kernel) ⟨rfl, rfl, rfl, rfl, rfl, by decide +kernel⟩ ?hw ?hc
  case hw => w_witness2
  case hc =>
    refine Lw.walkGT (l := PySem.Challenge.rw_wakesayings_k21_whole_sayings_by_own_lis) (n := 63) (k := 12) (x := "_law_script") rfl (by decide) (by kernel_rfl) ⟨rfl, by decide, by decide⟩ ?F
    intro w mg fa h Y G hmg0
    obtain ⟨K, KX, c⟩ := Y
    have hmg : mg ("law" : PySem.Str) = some (.ref fa) := by
      have e : (HandSHeadRun.topDef (OpenLaw.row PySem.Challenge.rw_wakesayings_k21_whole_sayings_by_own_lis).prog 43).name = ("law" : PySem.Str) := by kernel_rfl
      rw [← e]
      exact hmg0
    obtain ⟨fd, hb, hF⟩ := K21.facts (P := (PySem.Challenge.rw_wakesayings_k21_whole_sayings_by_own_lis).prog) (w := w) KX G hmg c.t.d c.more
    refine ⟨K, fd, _, K21H.tf.map (He.cT K), KX, fun z hz => ?_, fun z hz => ?_, fun z hz => ?_, hb, fun H a ns hl hT hS => ⟨a, ns, rfl, fun z hz => by
      obtain ⟨e, he, rfl⟩ := List.mem_map.mp hz
      exact LamX.TabS.nil (hT _ (List.mem_map.mpr ⟨e.1, List.mem_map.mpr ⟨e, he, rfl⟩, rfl⟩)), hS, hl, fun _ => rfl⟩, fun base _ _ tb => hF base tb⟩
    · obtain ⟨p, hp, rfl⟩ := List.mem_map.mp hz
      exact c.empty p hp
    · obtain ⟨p, hp, rfl⟩ := List.mem_map.mp hz
      exact c.out p hp
    · obtain ⟨p, hp, rfl⟩ := List.mem_map.mp hz
      exact PySem.W.codeHd_of_K KX (c.hd p hp)
