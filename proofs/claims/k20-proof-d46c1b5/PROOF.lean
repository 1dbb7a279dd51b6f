import PyProof.Rows.All
import Wide.All
import OpenK.AllK
import Wide.FinOn
import HandS.ForMost
import HandS.ForExc
import HandS.More
import HandS.Evl
import HandS.Defaults
import HandS.IsInst
import HandS.HeadEnd
import PyProof.ReprRoads
import HandS.ExcInit
import HandS.ExcIs
import HandS.MakeKw
import KE.KExcIs
import KE.KExcInit
import HandS.Text
import HandS.Iter
import HandS.Walk
import HandS.TupAny
import HandS.Deep
import HandS.Style
import KE.SortKeyHeap
import KE.SortData
import KE.GoesMore
import PyProof.Draws
import PyProof.EnumMake
import HandS.DictComp
import HandS.Conv
import HandS.Lambda
import HandS.List
import KE.KSortKey
import HandS.EndTab
import HandS.HeadHook4
import HandS.NestedK
import HandS.ExcField
import HandS.TryMany
import PyProof.InstSpecial
import HandS.ClsMeth
import HandS.Property
import HandS.MakeKwOnly
import HandS.RaiseMore
import HandS.Head0
import PyProof.StrLawsRepr
import PyProof.Rows.StrCase
import PyProof.Rows.TupDisplay
import PyProof.P3In
import HandS.SortKw
import HandS.TupMul
import HandS.Head1
import HandS.Head2
import PySem.Challenge.RW_wakesayings_k20_sayings_refused
set_option Elab.async false
set_option linter.all false
set_option maxRecDepth 100000
set_option maxHeartbeats 4000000
namespace Lw
open PySem PySem.Spec PyProof.Rows L2
/-! ### what a def keeps, called where no repr is under way -/
structure FnG (P : Program) (w : World) (K : PySem.W.Frag) (mg : Str → Option Value) (base : Heap) (CX : CXT) (k : Nat) (f : Addr) (fd : FuncData) (ps : List Str) (sp : Sp) : Prop where
  len : ∀ vs H Q E, sp vs H Q E → vs.length = ps.length
  go : ∀ {A : Around} {outer : List Env} {s : Shared} {H : Hp} {args : Args} {us : List Value} {vs : List V} {Q : VK} {E : XK},
    A.guards = some [] → Room k A → Env0 P w K mg base A outer s H → BindsTo s fd args (ps.zip us) → Vals vs us → sp vs H Q E →
    codeAny (model P w) A (.call (.ref f) args) (CR CX outer P w H s Q E) s
section
variable {P : Program} {w : World} {K : PySem.W.Frag} {mg : Str → Option Value} {base : Heap} {CX : CXT}
theorem FnG.up {j k : Nat} {f : Addr} {fd : FuncData} {ps : List Str} {sp : Sp} (F : FnG P w K mg base CX j f fd ps sp) (h : j ≤ k) : FnG P w K mg base CX k f fd ps sp :=
  ⟨F.len, fun g r => F.go g (r.mono h)⟩
/-- a def by its body: the body's reading, at a place where no repr is under way -/
theorem fnG {x qual : Str} {params : Arguments} {body : List Stmt} {scope : Scope} {dvs : List V} {kws : List (Str × V)} {f : Addr} {fd : FuncData} {N ps : List Str} {k : Nat} {sp : Sp}
    (F : FunD K x qual params body scope dvs kws f fd) (S : FnScope N ps scope) (len : ∀ vs H Q E, sp vs H Q E → vs.length = ps.length)
    (walk : ∀ (cdv : Value) (A : Around) (outer : List Env) (s : Shared) (H : Hp) (vs : List V) (Q : VK) (E : XK), A.guards = some [] → Room k (A.deeper (envOfC qual scope s.heap.objs.size f cdv)) → sp vs H Q E →
      ∃ t, PSs (cxOf CX P w K mg base N qual scope f cdv A outer s H E) body t ∧ t { nx := fun _ H' => Q .non H', rt := Q } (start N vs) H) :
    FnG P w K mg base CX (k + 1) f fd ps sp := by
  obtain ⟨_, _, dV, kV, doc, pm, an, cdv, ct, osl, rfl, lk, hcd, _, _⟩ := F.ex
  refine ⟨len, ?_⟩
  intro A outer s H args us vs Q E hg hr e0 hb rv hsp
  have hsz : (us.length = ps.length) := by
    rw [← rv.length]
    exact len _ _ _ _ hsp
  have kIn : K.In s.heap := e0.mod.kin.keeps fun b o e => (e0.bs b o e).1
  have noL : s.heap.NoLimit := e0.mod.nolimit.keeps fun b o e => (e0.bs b o e).1
  refine codeAny_call_function hr.depth (kIn _ _ lk) rfl S.co S.gen rfl (PySem.W.codeRec_of kIn hcd) (hb _ _ _ _ ?_)
  refine wpAny_newFunctionEnv_cells S.kind ?_ ?_
  · rintro ⟨n, v⟩ hm
    cases S.par n (List.of_mem_zip hm).1 with
    | inl q => exact .inl q
    | inr q => exact .inr ⟨q, PySem.W.cellsFrom_some _ _ _ (.inl q)⟩
  · rintro env rfl s1 x
    refine ⟨noL.keeps x.toInCall.keep, codeAny_func ?_⟩
    obtain ⟨t, ht, hq⟩ := walk cdv A outer s H vs Q E hg (hr.deeper _) hsp
    refine wpAny_mono (ht.run [] s1 (start N vs) H _ (inv_start S hr.hd e0 (len _ _ _ _ hsp) rv x) hq) (fun fl s2 hs => ?_) fun _ _ z => z
    cases fl with
    | ret u => exact match hs with
      | ⟨v, _, H', J, r, q⟩ => ⟨v, H', J.os, J.bare, J.base, J.hok, r, q⟩
    | next => exact match hs with
      | ⟨_, H', J, q⟩ => ⟨V.non, H', J.os, J.bare, J.base, J.hok, rfl, q⟩
    | brk => exact match hs with
      | ⟨_, _, _, q⟩ => q.elim
    | cont => exact match hs with
      | ⟨_, _, _, q⟩ => q.elim
/-! ### a def of the top, as its callers see it -/
def Cal (P : Program) (w : World) (K : PySem.W.Frag) (mg : Str → Option Value) (base : Heap) (CX : CXT) (k : Nat) (x : Str) (ps : List Str) (sp : Sp) : Prop :=
  ∃ f fd, mg x = some (.ref f) ∧ PySem.W.keepIn K (.ref f) = true ∧ Binds K fd ps [] ∧ FnG P w K mg base CX k f fd ps sp
end
section
variable {X : Cx} {CX : CXT} {k : Nat} {x : Str} {ps : List Str} {sp : Sp} {p pos : Pos} {e : Expr} {es : List Expr} {t : TA} {E : XK}
theorem runG {pins : List (Addr × Obj)} {σ : L2.St} {H : Hp} {s : Shared} {Q : VK} {f : Addr} {fd : FuncData} {us : List Value} {vs : List V} (F : FnG X.prog X.w X.K X.mg X.base CX k f fd ps sp) (hg : X.A.guards = some []) (hr : Room k X.A) (hb : Binds X.K fd ps [])
    (hx : Passes CX X E) (I : Inv X pins σ H s) (r : Vals vs us) (h : sp vs H Q E) : wpAny (model X.prog X.w) X.A (call (.ref f) us) (EP X pins σ Q) X.xe s := by
  have hl : (us ++ []).length = ps.length := by
    rw [List.append_nil, ← r.length]
    exact F.len _ _ _ _ h
  have bt := hb s us I.kIn hl
  rw [List.append_nil] at bt
  refine wpAny_call (codeAny_mono (F.go hg hr I.env0 bt r h) fun r s2 hq => ?_)
  cases r with
  | error er => exact hx pins σ H s er s2 I hq
  | ok fl =>
    cases fl with
    | ret u => exact I.after hq
    | next => exact hq.elim
    | brk => exact hq.elim
    | cont => exact hq.elim
theorem pe_calX (C : Cal X.prog X.w X.K X.mg X.base CX k x ps sp) {j : Nat} (gd : X.A.guards = some []) (hr : Room j X.A) (hx : Passes CX X E) (ha : PA X (e :: es) t) (hj : k ≤ j := by decide) (hg : Gl X x := by rfl) (hdb : (x == ("__debug__" : Str)) = false := by decide)
    (he : starEach (e :: es) X.env = (false, eval e X.env) :: starEach es X.env := by rfl) (hpl : (backTo pos (starEach es X.env)).any (·.1) = false := by rfl) :
    PE X (.Call (.Name x p) (e :: es) [] pos) (tCall sp [] E t) := by
  obtain ⟨f, fd, hm, hk, hb, F⟩ := C
  constructor
  intro pins s σ H Q I h
  refine wpAny_Call_Name_kw (ld_glob I hg hm ?_ hdb)
  refine PySem.W.callWith_K (h₀ := X.base) I.ok.mod.kin hk (thn (ha.run pos pins s σ H _ I h) fun us s1 hh => ?_) he hpl
  obtain ⟨vs, H1, I1, r, q⟩ := hh
  rw [List.append_nil] at q
  exact ⟨I1.kIn, runG F gd (hr.mono hj) hb hx I1 r q⟩
/-- .. that lets no error out -/
theorem pe_cal (C : Cal X.prog X.w X.K X.mg X.base CX0 k x ps sp) {j : Nat} (gd : X.A.guards = some []) (hr : Room j X.A) (ha : PA X (e :: es) t) (hj : k ≤ j := by decide) (hg : Gl X x := by rfl) (hdb : (x == ("__debug__" : Str)) = false := by decide)
    (he : starEach (e :: es) X.env = (false, eval e X.env) :: starEach es X.env := by rfl) (hpl : (backTo pos (starEach es X.env)).any (·.1) = false := by rfl) :
    PE X (.Call (.Name x p) (e :: es) [] pos) (tCall sp [] E0 t) := pe_calX C gd hr pass0 ha hj hg hdb he hpl
end
/-! ### the law's own call -/
/-- what the law's heap holds at the entry: the script, locked -/
def scr (a : Addr) (o : Obj) (ns : List Int) : Hp := fun b => if b = a then some (.frz o (.lst (ns.map V.int))) else none
theorem scr_at {a : Addr} {o : Obj} {ns : List Int} : scr a o ns a = some (.frz o (.lst (ns.map V.int))) := if_pos rfl
theorem scr_off {a b : Addr} {o : Obj} {ns : List Int} (h : b ≠ a) : scr a o ns b = none := if_neg h
theorem lawG {P : Program} {w : World} {K : PySem.W.Frag} {mg mb : Str → Option Value} {k : Nat} {fa a : Addr} {fd : FuncData} {x : Str} {sp : Sp} {s : Shared} {vs : List Value} {ns : List Int}
    (KX : K.In s.heap) (hns : s.heap.Ns mainGlobals mg) (hb : s.heap.Ns builtinsNs mb) (hbb : ∀ x : Str, x ≠ "__name__" → mb x = bootBuiltins x) (hlim : s.heap.NoLimit) (hgen : s.gens = #[])
    (ha : s.heap.get? a = some { cls := .type "list", data := .seq vs.toArray }) (hi : IntsAre vs ns) (hl : ns.length ≤ sizeLine) (hr : Room k callerA)
    (F : ∀ base : Heap, K.In base → base.Ns mainGlobals mg → FnG P w K mg base CX0 k fa fd [x] sp) (hbind : ∀ (s : Shared) (u : Value), BindsTo s fd ⟨[u], []⟩ [(x, u)])
    (hsp : ∀ H : Hp, SqL K H a (ns.map V.int) → sp [.ref a] H (fun v _ => v = .bl true) E0) :
    codeAny (model P w) callerA (.call (.ref fa) ⟨[.ref a], []⟩) (fun r s' => r = .ok (.ret (.bool true)) ∧ OldK s.heap s'.heap ∧ s'.os = s.os ∧ AllBare s'.gens) s := by
  have rv := vals_ints hi
  -- a heap H that tracks nothing but what is locked
  have go : ∀ H : Hp, SqL K H a (ns.map V.int) → HOk P w H s.heap → (∀ b u, H b = some u → b = a ∧ K.lookup a = none ∧ ∃ o xs, u = .frz o (.lst xs)) →
      codeAny (model P w) callerA (.call (.ref fa) ⟨[.ref a], []⟩) (fun r s' => r = .ok (.ret (.bool true)) ∧ OldK s.heap s'.heap ∧ s'.os = s.os ∧ AllBare s'.gens) s := by
    intro H hS hok hH
    have free : ∀ b, b ≠ a → H b = none := fun b n => by
      cases q : H b with
      | none => rfl
      | some u => exact absurd (hH b u q).1 n
    have notDict : ∀ {b : Addr} {o : Obj} {es : Array DictEntry} {n : Nat}, s.heap.get? b = some o → o.data = .dict es n → H b = none := fun {b o es n} e d => free b fun z => by
      rw [z, ha] at e
      cases e
      cases d
    have nsB : ∀ {b : Addr} {m : Str → Option Value}, s.heap.Ns b m → (hidT s.heap H).Ns b m := fun {b m} z => by
      obtain ⟨o, es, n, e, d, r⟩ := z
      exact ⟨o, es, n, hidT_get e (notDict e d), d, r⟩
    have KB : K.In (hidT s.heap H) := fun b o e => hidT_get (KX b o e) (by
      cases q : H b with
      | none => rfl
      | some u =>
        obtain ⟨rfl, n, _⟩ := hH b u q
        rw [n] at e
        cases e)
    have md : Mod K mg (hidT s.heap H) := ⟨KB, nsB hns, ⟨mb, nsB hb, hbb⟩, by
      obtain ⟨m, z1, z2⟩ := hlim
      exact ⟨m, nsB z1, z2⟩⟩
    have e0 : Env0 P w K mg (hidT s.heap H) callerA [] s H := ⟨rfl, md, fun b o e => of_hidT e, Nat.le_of_eq (hidT_size _ _), trivial, fun b z => absurd z (List.not_mem_nil), hok, .of_eq hgen⟩
    refine codeAny_mono ((F _ KB (nsB hns)).go (vs := [.ref a]) (us := [.ref a]) rfl hr e0 (hbind s (.ref a)) (.cons rfl .nil) (hsp H hS)) fun r s2 h => ?_
    cases r with
    | error er => exact h.elim
    | ok fl =>
      cases fl with
      | next => exact h.elim
      | brk => exact h.elim
      | cont => exact h.elim
      | ret u =>
        obtain ⟨v, H2, os, bare, un, hok2, rv2, rfl⟩ := h
        obtain rfl : u = Value.bool true := rv2
        refine ⟨rfl, OldK.of_keep fun b o e => ?_, os, bare⟩
        cases q : H b with
        | none => exact un.keep b o e q List.not_mem_nil List.not_mem_nil
        | some u =>
          obtain ⟨rfl, _, ob, xs, rfl⟩ := hH b u q
          have z1 := (hok b _ q).1
          have z2 := (hok2 b _ (un.frzs b ob _ q)).1
          rw [z1] at e
          cases e
          exact z2
  cases hk : K.lookup a with
  | some o =>
    have e := KX a o hk
    rw [ha] at e
    cases e
    exact go (fun _ => none) (.inr ⟨_, vs.toArray, _, hk, rfl, rfl, rfl, by rw [List.size_toArray, hi.length]; exact hl, by simpa using rv⟩) (fun _ _ z => nomatch z) (fun _ _ z => nomatch z)
  | none =>
    refine go (scr a { cls := .type "list", data := .seq vs.toArray } ns) (.inl (.inr ⟨_, scr_at⟩)) (fun b u z => ?_) (fun b u z => ?_)
    · by_cases q : b = a
      · subst q
        rw [scr_at] at z
        cases z
        exact ⟨ha, by rw [List.length_map]; exact hl, vs, _, rv, ha⟩
      · rw [scr_off q] at z
        cases z
    · by_cases q : b = a
      · subst q
        rw [scr_at] at z
        cases z
        exact ⟨rfl, hk, _, _, rfl⟩
      · rw [scr_off q] at z
        cases z
/-- the end of a law's row: its promise, from the facts that the head tells -/
theorem walkG {l : PySem.W.OpenLaw} {n k : Nat} {q : Program} {loose : List Str} {XP : (Str → Option Value) → Heap → Prop} {YP : World → Heap → Prop} {d : DefRec} {x : Str}
    (hn : l.most = some n) (hn2 : n ≤ sizeLine) (hdf : d.params.defaults = []) (hr : Room k callerA)
    (F : ∀ (w : World) (mg : Str → Option Value) (fa : Addr) (h : Heap), YP w h → h.Ns mainGlobals mg → mg d.name = some (.ref fa) →
      ∃ (K : PySem.W.Frag) (fd : FuncData) (sp : Sp), K.In h ∧ (∀ (s : Shared) (u : Value), BindsTo s fd ⟨[u], []⟩ [(x, u)]) ∧
        (∀ (H : Hp) (a : Addr) (ns : List Int), ns.length ≤ n → SqL K H a (ns.map V.int) → sp [.ref a] H (fun v _ => v = .bl true) E0) ∧
        ∀ base : Heap, K.In base → base.Ns mainGlobals mg → FnG l.prog w K mg base CX0 k fa fd [x] sp) :
    PySem.W.WalkO q loose XP YP l.row.toRowW d [] (fun f vs => PySem.call f vs) := by
  refine Att.attach_call hn hdf fun w s₀ s₁ mg mb fa o pm cd doc a vs ns G Y ho hd hcd hmg hobj hints hlen hg => ?_
  obtain ⟨K, fd, sp, KX, hb, hsp, hF⟩ := F w mg fa _ Y G.T.g hmg
  exact lawG KX G.T.g G.T.b G.T.builtins G.T.nolimit hg hobj hints (Nat.le_trans hlen hn2) hr hF hb fun H hS => hsp H a ns hlen hS
/-! ### the pot: a list of two numbers that a draw changes -/
/-- a heap at which a pot stands at p -/
def Po (p : Addr) (H : Hp) : Prop := ∃ i j : Int, H p = some (.lst [.int i, .int j]) ∧ 0 ≤ i ∧ 0 ≤ j ∧ j < 2147483648
/-- all that was tracked, but the pot, stands -/
def Xp (p : Addr) (H H' : Hp) : Prop := (∀ a o, a ≠ p → H a = some o → H' a = some o) ∧ Po p H'
theorem Xp.refl {p : Addr} {H : Hp} (h : Po p H) : Xp p H H := ⟨fun _ _ _ e => e, h⟩
theorem Xp.trans {p : Addr} {H H1 H2 : Hp} (a : Xp p H H1) (b : Xp p H1 H2) : Xp p H H2 := ⟨fun c o n e => b.1 c o n (a.1 c o n e), b.2⟩
theorem Po.some {p : Addr} {H : Hp} (h : Po p H) : ∃ o, H p = some o := ⟨_, h.choose_spec.choose_spec.1⟩
/-- a new object beside the pot -/
theorem Xp.new {p q : Addr} {H : Hp} {o : HO} (h : Po p H) (hq : H q = none) : Xp p H (upd H q o) := by
  obtain ⟨i, j, e, r⟩ := h
  refine ⟨fun a u _ ea => ?_, i, j, ?_, r⟩
  · rw [upd_ne (ne_of_none ea hq)]
    exact ea
  · rw [upd_ne (ne_of_none e hq)]
    exact e
theorem Xp.snew {p q : Addr} {H H1 : Hp} {o : HO} (x : Xp p H H1) (hq : H1 q = none) : Xp p H (upd H1 q o) := x.trans (.new x.2 hq)
theorem Xp.same {p : Addr} {H H1 H2 : Hp} (x : Xp p H H1) (s : Same H1 H2) : Xp p H H2 := by
  obtain ⟨h, i, j, e, r⟩ := x
  exact ⟨fun a o n ea => s _ _ (h a o n ea), i, j, s _ _ e, r⟩
/-- what is seen of a list, a tuple that isn't the pot -/
theorem Xp.at {p : Addr} {H H' : Hp} (x : Xp p H H') {a : Addr} {o : HO} (e : H a = some o) (n : a ≠ p) : H' a = some o := x.1 a o n e
/-- a draw: some number below the size -/
def spDraw : Sp := fun vs H Q _ => ∃ (p : Addr) (n : Int), vs = [.ref p, .int n] ∧ Po p H ∧ 0 < n ∧ n < 1073741824 ∧
  ∀ (d : Int) (H' : Hp), 0 ≤ d → d < n → Xp p H H' → Q (.int d) H'
/-- one of a list, at any place -/
def spPick (K : PySem.W.Frag) : Sp := fun vs H Q _ => ∃ (p l : Addr) (xs : List V), vs = [.ref p, .ref l] ∧ Po p H ∧ H l = some (.lst xs) ∧ l ≠ p ∧ 0 < xs.length ∧ xs.length < 100000 ∧
  ∀ (v : V) (H' : Hp), v ∈ xs → Xp p H H' → Q v H'
/-- a new pot -/
def spPot (K : PySem.W.Frag) : Sp := fun vs H Q _ => ∃ (a : Addr) (ns : List Int) (k : Int), vs = [.ref a, .int k] ∧ SqL K H a (ns.map V.int) ∧ ns.length ≤ 63 ∧ 0 ≤ k ∧ k ≤ 63 ∧
  ∀ (p : Addr) (H' : Hp), H p = none → Same H H' → Po p H' → Q (.ref p) H'
theorem atI_mem {xs : List V} {d : Int} (h0 : 0 ≤ d) (h1 : d < xs.length) : ∃ v, atI xs d = some v ∧ v ∈ xs := by
  obtain ⟨n, rfl⟩ := Int.eq_ofNat_of_zero_le h0
  have hn : n < xs.length := by omega
  exact ⟨xs[n], atI_nat (List.getElem?_eq_getElem hn), List.getElem_mem hn⟩
end Lw
namespace Lw
open PySem PySem.Spec PyProof.Rows L2
/-! ### what a value shows by repr -/
/-- wherever H is kept, v is read as d; no dict stands at sys.modules -/
def Rw (P : Program) (w : World) (H : Hp) (v : V) (d : PyData) : Prop :=
  ∀ h : Heap, HOk P w H h → ∀ u : Value, RelV v u → ∃ as, Reads h u d as ∧ (d.hasDict = true → sysModules ∉ as)
section
variable {P : Program} {w : World} {H H' : Hp}
theorem rw_non : Rw P w H .non .none := fun h _ u r => by
  cases (show u = Value.none from r)
  exact ⟨_, .none, fun z => nomatch z⟩
theorem rw_bl (b : Bool) : Rw P w H (.bl b) (.bool b) := fun h _ u r => by
  cases (show u = Value.bool b from r)
  exact ⟨_, .bool b, fun z => nomatch z⟩
theorem rw_int (i : Int) : Rw P w H (.int i) (.int i) := fun h _ u r => by
  obtain ⟨t, rfl⟩ := (show ∃ t, u = Value.int i t from r)
  exact ⟨_, .int i t, fun z => nomatch z⟩
theorem rw_str (x : Str) : Rw P w H (.str x) (.str x) := fun h _ u r => by
  obtain ⟨t, rfl⟩ := (show ∃ t, u = Value.str x t from r)
  exact ⟨_, .str x t, fun z => nomatch z⟩
theorem rw_all {h : Heap} (hok : HOk P w H h) : ∀ {vs : List V} {ds : List PyData} {us : List Value}, Paired (Rw P w H) vs ds → Vals vs us → ∃ as, ReadsAll h us ds as
  | _, _, _, .nil, .nil => ⟨_, .nil⟩
  | _, _, _, .cons r t, .cons q s => by
    obtain ⟨as, r1, _⟩ := r h hok _ q
    obtain ⟨bs, r2⟩ := rw_all hok t s
    exact ⟨_, .cons r1 r2⟩
theorem rw_lst {a : Addr} {vs : List V} {ds : List PyData} (e : H a = some (.lst vs)) (hp : Paired (Rw P w H) vs ds) (nd : PyData.hasDictAll ds = false) : Rw P w H (.ref a) (.list ds) := fun h hok u r => by
  cases (show u = Value.ref a from r)
  obtain ⟨_, its, n, rv, ho⟩ : vs.length ≤ sizeLine ∧ ∃ (its : List Value) (n : Nat), Vals vs its ∧ h.get? a = some { cls := .type "list", data := .seq its.toArray n } := hok a _ e
  obtain ⟨as, ra⟩ := rw_all hok hp rv
  exact ⟨_, .list ho rfl rfl ra, fun z => by rw [PyData.hasDict, nd] at z; cases z⟩
theorem rw_tup {a : Addr} {vs : List V} {ds : List PyData} (e : H a = some (.tup vs)) (hp : Paired (Rw P w H) vs ds) (nd : PyData.hasDictAll ds = false) : Rw P w H (.ref a) (.tuple ds) := fun h hok u r => by
  cases (show u = Value.ref a from r)
  obtain ⟨_, its, rv, o, ho, hc, n, hd⟩ : vs.length ≤ sizeLine ∧ ∃ its : List Value, Vals vs its ∧ IsTup h a its.toArray := hok a _ e
  obtain ⟨as, ra⟩ := rw_all hok hp rv
  exact ⟨_, .tuple ho hc hd ra, fun z => by rw [PyData.hasDict, nd] at z; cases z⟩
end
/-! a dict with plain values -/
def kD : Key → PyData
  | .inl i => .int i
  | .inr x => .str x
def vD : V → Option PyData
  | .non => some .none
  | .bl b => some (.bool b)
  | .int i => some (.int i)
  | .str x => some (.str x)
  | _ => none
theorem vD_reads {h : Heap} {v : V} {d : PyData} {u : Value} (e : vD v = some d) (r : RelV v u) : Reads h u d [] := by
  cases v with
  | non =>
    cases (show u = Value.none from r)
    cases e
    exact .none
  | bl b =>
    cases (show u = Value.bool b from r)
    cases e
    exact .bool b
  | int i =>
    obtain ⟨t, rfl⟩ := (show ∃ t, u = Value.int i t from r)
    cases e
    exact .int i t
  | str x =>
    obtain ⟨t, rfl⟩ := (show ∃ t, u = Value.str x t from r)
    cases e
    exact .str x t
  | _ => cases e
section
variable {P : Program} {w : World} {H H' : Hp}
theorem kv_reads {h : Heap} : ∀ {kvs : List (Key × V)} {ds : List PyData} {vs : List (Key × Value)} {es : List DictEntry}, kvs.map (fun q => vD q.2) = ds.map some → KV kvs vs → Pairs (mixKind P w) es vs →
    ReadsAll h (es.map (·.key)) ((kvs.zipWith (fun q d => (kD q.1, d)) ds).map (·.1)) [] ∧ ReadsAll h (es.map (·.val)) ((kvs.zipWith (fun q d => (kD q.1, d)) ds).map (·.2)) []
  | [], [], _, _, _, .nil, .nil => ⟨.nil, .nil⟩
  | [], _ :: _, _, _, e, _, _ => by cases e
  | _ :: _, [], _, _, e, _, _ => by cases e
  | (k, v) :: kvs, d :: ds, _, _, e, .cons (b := q) ⟨e1, rv⟩ t, .cons (e := en) h1 h2 t2 => by
    injection e with e2 e3
    obtain ⟨z1, z2⟩ := kv_reads (h := h) e3 t t2
    have rk : Reads h en.key (kD k) [] := by
      have e1' : k = q.1 := e1
      rw [← e1'] at h1
      rcases keyIs_shape (show keyIs k en.key = true from h1) with ⟨i, t, rfl, e⟩ | ⟨x, t, rfl, e⟩
      · rw [e]
        exact .int i t
      · rw [e]
        exact .str x t
    have rv' : Reads h en.val d [] := by
      rw [h2]
      exact vD_reads e2 rv
    exact ⟨.cons rk z1, .cons rv' z2⟩
theorem rw_dk {a : Addr} {kvs : List (Key × V)} {ds : List PyData} (e : H a = some (.dK kvs)) (hv : kvs.map (fun q => vD q.2) = ds.map some) : Rw P w H (.ref a) (.dict (kvs.zipWith (fun q d => (kD q.1, d)) ds)) := fun h hok u r => by
  cases (show u = Value.ref a from r)
  obtain ⟨_, hs, vs, kv, o, es, ep, ho, hx, hd, _, hp, _⟩ : kvs.length ≤ sizeLine ∧ (a == sysModules) = false ∧ ∃ vs, KV kvs vs ∧ h.DictOf (mixKind P w) a vs := hok a _ e
  obtain ⟨z1, z2⟩ := kv_reads (h := h) hv kv hp
  refine ⟨_, .dict ho hx.1 hd z1 z2, fun _ z => ?_⟩
  have z' : sysModules = a := by simpa using z
  rw [← z'] at hs
  simp at hs
/-! the rule -/
theorem rk_all {h : Heap} (hok : HOk P w H h) : ∀ {vs : List V} {ds : List PyData} {us : List Value}, Paired (Rw P w H) vs ds → Vals vs us → PyData.showableAll ds = true → (∀ t ∈ PyData.shownAll ds, t.length ≤ sizeLine) →
    ∃ bs, ReadAtMost h (PyData.depthAll ds) bs ∧ ReprAllK P w bs h (PyData.depthAll ds) us (PyData.shownAll ds)
  | _, _, _, .nil, .nil, _, _ => ⟨[], (fun _ z => nomatch z), by simp only [PyData.shownAll]; exact .nil⟩
  | _, _, _, .cons (b := d) (l₂ := ds) r t, .cons q s, hs, hz => by
    have hs' : d.showable = true ∧ PyData.showableAll ds = true := by simpa [PyData.showableAll] using hs
    obtain ⟨as, r1, hd⟩ := r h hok _ q
    obtain ⟨b1, m1, k1⟩ := ReprK.of_reads (prog := P) (w := w) r1 hs'.1 hd (hz _ (by simp only [PyData.shownAll]; exact List.mem_cons_self ..))
    obtain ⟨b2, m2, k2⟩ := rk_all hok t s hs'.2 (fun t ht => hz t (by simp only [PyData.shownAll]; exact List.mem_cons_of_mem _ ht))
    refine ⟨b1 ++ b2, ?_, ?_⟩
    · simp only [PyData.depthAll]
      exact (m1.mono (Nat.le_max_left _ _)).append (m2.mono (Nat.le_max_right _ _))
    · simp only [PyData.depthAll, PyData.shownAll]
      exact .cons ((k1.more fun b z => List.mem_append_left _ z).level_le (Nat.le_max_left _ _)) (k2.more_le (fun b z => List.mem_append_right _ z) (Nat.le_max_right _ _))
end
/-- repr of a list -/
def rReprL (P : Program) (w : World) : List V → Hp → VK → Prop := fun xs H Q => ∃ (p : Addr) (vs : List V) (ds : List PyData), xs = [.ref p] ∧ H p = some (.lst vs) ∧ Paired (Rw P w H) vs ds ∧
  PyData.showableAll ds = true ∧ (listText (PyData.shownAll ds)).length ≤ sizeLine ∧ PyData.depthAll ds ≤ 40 ∧ Q (.str (listText (PyData.shownAll ds))) H
theorem call_reprL {X : Cx} (gd : X.A.guards = some []) (hu : X.A.units + 64 < cLine) : CallR X (.builtin "repr") (rReprL X.prog X.w) := by
  intro pins s σ H xs us Q I r h
  obtain ⟨p, vs, ds, rfl, e, hp, hs, hz, hd, q⟩ := h
  cases r with
  | cons rx rr =>
    cases rr
    cases rx
    obtain ⟨_, its, n, rv, ho⟩ : vs.length ≤ sizeLine ∧ ∃ (its : List Value) (n : Nat), Vals vs its ∧ s.heap.get? p = some { cls := .type "list", data := .seq its.toArray n } := I.hok p _ e
    obtain ⟨as, ra⟩ := rw_all I.hok hp rv
    obtain ⟨bs, hb, hk⟩ := rk_all (P := X.prog) (w := X.w) I.hok hp rv hs fun t ht => Nat.le_trans (listText_mem_le ht) hz
    have hna : p ∉ bs := not_mem_of_deeper (.list ho rfl rfl ra) (by simp only [PyData.depth]; omega) hb
    have ty : s.TypeIs (.ref p) "list" := ⟨_, ho, rfl⟩
    refine call_repr_slot (by omega) ty F.slot_list_repr.toG ?_
    have fin : ∀ h' u tk, (∀ b o, s.heap.get? b = some o → h'.get? b = some o) → EP X pins σ Q (.str (listText (PyData.shownAll ds)) u) { s with heap := h', toks := tk } :=
      fun h' u tk k => ⟨.str (listText (PyData.shownAll ds)), H, I.kept k, ⟨u, rfl⟩, q⟩
    cases its with
    | nil =>
      cases rv
      cases hp
      simp only [PyData.shownAll, listText_nil] at fin
      exact call_list_repr_empty ty ho rfl ⟨_, _, rfl, fin s.heap _ _ fun _ _ z => z⟩
    | cons x l =>
      exact call_list_reprK ho rfl rfl hna (by simpa using hk.length_eq) (fun i y z => hk.item i y (by simpa using z)) gd (fun b _ => Clear.nil b) (by show X.A.in1.units + _ < cLine; show X.A.units + 1 + _ < cLine; omega) (fun _ _ z => z) (fun h' u tk k => ⟨_, _, rfl, fin h' u tk k⟩) hz
end Lw
/-! ### an exception class of the program's own, called with values by position and by name -/
namespace LwX
open PySem PySem.W PySem.Calls PySem.HandSPX
open Builtin Builtin.ObjectAttr
section
variable {M : Model} {prog : Program} {w : World} {A : Around} {E : Value → Shared → Prop} {R : Result → Shared → Prop} {h : Heap} {g : Array GenState} {d : Drawn} {t : Nat} {os : OsState}
variable {nm q : Str} {C N : Addr} {bs bm bB : List Value} {hdct : Bool} {sn : List Str} {sub : List Value} {ab : Bool} {col : Option Bool} {dd : Option Addr} {k0 k1 k2 k3 k5 : Option Value} {B nI iI : String}
variable {pos : List Value} {kw : List (Str × Value)}
theorem chkK (F : ExcBaseFacts B nI iI bB) (hT : ∀ X : String, bm.contains (.type X) = bB.contains (.type X)) {Q : Unit → Shared → Prop}
    (hC : h.get? C = some (excClassObj nm q C N bs bm hdct sn sub ab col dd k0 k1 k2 k3 k5 nI)) (hq : Q () ⟨h, g, d, t, os⟩) : wpAny M A (checkBuiltinCall nI ⟨.ref C :: pos, kw⟩) Q E ⟨h, g, d, t, os⟩ := by
  have cB : (Value.ref C :: bm).contains (.type B) = true := by rw [List.contains_cons, hT, F.hasB, Bool.or_true]
  have ns := F.noStar
  simp only [checkBuiltinCall, F.newKind, F.newSplit, F.newRow]
  repeat (first
    | refine wpAny_loadPart_at hC ?_
    | (refine wpAny_isSubtype_exc hC ?_; rw [cB])
    | refine wpAny_staticBase_exc hC ?_
    | refine wpAny_madeBy_exc hC ?_
    | simp only [bne_self_eq_false, Bool.false_eq_true, if_false]
    | wp_step)
  exact hq
theorem newK (F : ExcBaseFacts B nI iI bB) (hT : ∀ X : String, bm.contains (.type X) = bB.contains (.type X))
    (hC : h.get? C = some (excClassObj nm q C N bs bm hdct sn sub ab col dd k0 k1 k2 k3 k5 nI)) (hz : pos.length ≤ sizeLine)
    (hq : R (.ok (.ret (.ref (h.objs.size + 1)))) ⟨(h.push (W.kdv_tup pos)).push (excO C h.objs.size), g, d, t, os⟩) :
    codeAny (model prog w) A (.builtin nI ⟨.ref C :: pos, kw⟩) R ⟨h, g, d, t, os⟩ := by
  have ends := F.ends
  have cB : (Value.ref C :: bm).contains (.type B) = true := by rw [List.contains_cons, hT, F.hasB, Bool.or_true]
  have cA : (Value.ref C :: bm).contains (.type "AttributeError") = false := by rw [List.contains_cons, hT, F.noAttr]; rfl
  have cN : (Value.ref C :: bm).contains (.type "NameError") = false := by rw [List.contains_cons, hT, F.noName]; rfl
  have hrest : pos.length ≤ sizeLine := hz
  refine codeAny_builtinAt F.entry ?_
  unfold Builtin.«BaseException.__new__»
  refine wpAt_bind ?_
  show wpAt _ _ _ (stack >>= _) _ _ _
  refine wpAt_bind (wpAt_stack fun p below => wpAt_of_wpAny ?_)
  wp_walk
  refine wpAt_of_wpAny ?_
  rw [F.owner]
  repeat (first
    | with_reducible refine wpAny_madeHere_exc F.canon hC ?_
    | with_reducible refine wpAny_loadPart_at hC ?_
    | (with_reducible refine wpAny_isSubtype_exc hC ?_; first | rw [cB] | rw [cA] | rw [cN])
    | wp_step)
  show R _ _
  rw [Heap.size_push]
  exact hq
theorem tcK (F : ExcBaseFacts B nI iI bB) (hT : ∀ X : String, bm.contains (.type X) = bB.contains (.type X)) {fI : Addr} {Q : Fin → Shared → Prop}
    (hC : h.get? C = some (excClassObj nm q C N bs bm hdct sn sub ab col dd k0 k1 k2 k3 k5 nI))
    (hi : W.Looks (model prog w) h (typeLookup (.ref C) "__init__") (some (.ref fI))) (hb : ∀ self, W.Looks (model prog w) h (bindSpecial (.ref fI) self) (.ref fI, [self])) (hz : pos.length ≤ sizeLine)
    (hq : codeAny (model prog w) A (.call (.ref fI) ⟨.ref (h.objs.size + 1) :: pos, kw⟩)
      (fun r s' => match r with | .ok (.ret v) => v = .none ∧ Q (.done (.ret (.ref (h.objs.size + 1)))) s' | .ok _ => False | .error e => E e s')
      ⟨(h.push (W.kdv_tup pos)).push (excO C h.objs.size), g, d, t, os⟩) :
    wpAny (model prog w) A (Builtin.«type.__call__» ⟨.ref C :: pos, kw⟩) Q E ⟨h, g, d, t, os⟩ := by
  have hrest : pos.length ≤ sizeLine := hz
  repeat (first
    | with_reducible refine wpAny_loadPart_at hC ?_
    | with_reducible refine wpAny_madeBy_exc hC ?_
    | wp_step)
  refine codeAny_call_builtin_code (Code.quiet_builtin _ F.quiet) (chkK F hT hC ?_)
  refine newK F hT hC hz ?_
  show wpAny _ _ _ _ _ _
  have k : ∀ b o, h.get? b = some o → ((h.push (W.kdv_tup pos)).push (excO C h.objs.size)).get? b = some o := fun b o e => Heap.get?_push_of_some _ (Heap.get?_push_of_some _ e)
  have hC1 := k _ _ hC
  have made : ((h.push (W.kdv_tup pos)).push (excO C h.objs.size)).get? (h.objs.size + 1) = some (excO C h.objs.size) := by heap_get
  have cC : (Value.ref C :: bm).contains (.ref C) = true := by simp
  have i1 := hi.keeps k
  have b1 := (hb (.ref (h.objs.size + 1))).keeps k
  unfold isInstance
  repeat (first
    | with_reducible refine wpAny_loadPart_at made ?_
    | (with_reducible refine wpAny_isSubtype_exc hC1 ?_; rw [cC])
    | wp_step)
  show wpAny _ _ (typeLookup (.ref C) _) _ _ _
  refine i1.at ?_
  refine wpAny_holding (wpAny_bind (b1.at ?_))
  refine wpAny_bind (wpAny_call (codeAny_mono hq fun r s' z => ?_))
  rcases r with e | (v | _ | _ | _)
  all_goals (first | exact z | exact z.elim | skip)
  obtain ⟨rfl, z⟩ := z
  first
    | exact wpAny_pure (wpAny_pure z)
    | (wp_walk; exact z)
theorem callK (F : ExcBaseFacts B nI iI bB) (hT : ∀ X : String, bm.contains (.type X) = bB.contains (.type X)) {fI : Addr}
    (hC : h.get? C = some (excClassObj nm q C N bs bm hdct sn sub ab col dd k0 k1 k2 k3 k5 nI))
    (hi : W.Looks (model prog w) h (typeLookup (.ref C) "__init__") (some (.ref fI))) (hb : ∀ self, W.Looks (model prog w) h (bindSpecial (.ref fI) self) (.ref fI, [self])) (hz : pos.length ≤ sizeLine)
    (hq : codeAny (model prog w) (A.under (.builtin "type.__call__" ⟨.ref C :: pos, kw⟩)) (.call (.ref fI) ⟨.ref (h.objs.size + 1) :: pos, kw⟩) (W.InitBack (h.objs.size + 1) R)
      ⟨(h.push (W.kdv_tup pos)).push (excO C h.objs.size), g, d, t, os⟩) :
    codeAny (model prog w) A (.call (.ref C) ⟨pos, kw⟩) R ⟨h, g, d, t, os⟩ := by
  have f1 := tc_lookup
  have f2 := tc_bind (.ref C)
  have ty : (⟨h, g, d, t, os⟩ : Shared).TypeIs (.ref C) "type" := ⟨_, hC, rfl⟩
  refine codeAny_of_tree ?_
  show wpAny _ _ (callAny (.ref C) _) _ _ _
  repeat (any_goals (first
    | assumption
    | with_reducible refine wpAny_loadPart_at hC ?_
    | wp_step))
  refine ⟨rfl, ?_⟩
  refine codeAny_call_builtin_at (Code.quiet_builtin _ (by decide +kernel)) entry_typeCall (wpAny_check_type_call_sub hC (tcK F hT hC hi hb hz ?_))
  refine codeAny_mono hq fun r s' z => ?_
  rcases r with e | (v | _ | _ | _) <;> exact z
end
end LwX
namespace LwX
open PySem PySem.W PySem.Calls
open Builtin Builtin.ObjectAttr
/-! ### what the top tells of an exception class -/
structure XC (K : Frag) (C : Addr) : Prop where
  base : ∃ (B nI iI : String) (bB : List Value), ExcBaseFacts B nI iI bB ∧ StoreFacts B bB "object.__setattr__" "object" ∧ excInitIn K C bB nI = true ∧ excOver K C bB = true
  hd : hasDictIn K C = true
  kp : keepIn K (.ref C) = true
  sa : findIn K (.ref C) "__setattr__" = some (some (.builtin "object.__setattr__"))
  ga : findIn K (.ref C) "__getattribute__" = some (some (.builtin "BaseException.__getattribute__"))
  gg : findIn K (.ref C) "__getattr__" = some none
  sub : subIn K (.ref C) (.type "BaseException") = some true
  ty : typeIn K (.ref C) = some (.type "type")
  cl : findIn K (.ref C) "__class__" = some (some (.builtin "object.__class__"))
  gt : specialIn K (.builtin "object.__class__") "__get__" = some (some (.builtin "getset_descriptor.__get__"))
  tk : takesIn K (.builtin "object.__class__") = some true
  mo : mroIn K C (.type "object") = some true
/-- a class whose attribute f is the instances' own -/
structure XF (K : Frag) (C : Addr) (f : Str) : Prop where
  no : findIn K (.ref C) f = some none
  tk : takerIn K C f = some none
/-- the mro of the built-in base -/
def bmOf (B : String) : List Value := [.type B, .type "Exception", .type "BaseException", .type "object"]
def baseB (K : Frag) (C : Addr) : Bool :=
  (excInitIn K C (bmOf "ValueError") "ValueError.__new__" && excOver K C (bmOf "ValueError")) || ((excInitIn K C (bmOf "LookupError") "LookupError.__new__" && excOver K C (bmOf "LookupError")) ||
  ((excInitIn K C (bmOf "RuntimeError") "RuntimeError.__new__" && excOver K C (bmOf "RuntimeError")) || (excInitIn K C (bmOf "ArithmeticError") "ArithmeticError.__new__" && excOver K C (bmOf "ArithmeticError"))))
def xcB (K : Frag) (C : Addr) : Bool := baseB K C && (hasDictIn K C && (keepIn K (.ref C) && (decide (findIn K (.ref C) "__setattr__" = some (some (.builtin "object.__setattr__"))) &&
  (decide (findIn K (.ref C) "__getattribute__" = some (some (.builtin "BaseException.__getattribute__"))) && (decide (findIn K (.ref C) "__getattr__" = some none) && (decide (subIn K (.ref C) (.type "BaseException") = some true) &&
  (decide (typeIn K (.ref C) = some (.type "type")) && (decide (findIn K (.ref C) "__class__" = some (some (.builtin "object.__class__"))) && (decide (specialIn K (.builtin "object.__class__") "__get__" = some (some (.builtin "getset_descriptor.__get__"))) &&
  (decide (takesIn K (.builtin "object.__class__") = some true) && decide (mroIn K C (.type "object") = some true)))))))))))
def xfB (K : Frag) (C : Addr) (f : Str) : Bool := decide (findIn K (.ref C) f = some none) && decide (takerIn K C f = some none)
theorem xf_ok {K : Frag} {C : Addr} {f : Str} (h : xfB K C f = true) : XF K C f := by
  obtain ⟨h1, h2⟩ := Bool.and_eq_true_iff.mp h
  exact ⟨of_decide_eq_true h1, of_decide_eq_true h2⟩
theorem xc_ok {K : Frag} {C : Addr} (h : xcB K C = true) : XC K C := by
  obtain ⟨h1, h⟩ := Bool.and_eq_true_iff.mp h
  obtain ⟨h2, h⟩ := Bool.and_eq_true_iff.mp h
  obtain ⟨h3, h⟩ := Bool.and_eq_true_iff.mp h
  obtain ⟨h4, h⟩ := Bool.and_eq_true_iff.mp h
  obtain ⟨h5, h⟩ := Bool.and_eq_true_iff.mp h
  obtain ⟨h6, h⟩ := Bool.and_eq_true_iff.mp h
  obtain ⟨h7, h⟩ := Bool.and_eq_true_iff.mp h
  obtain ⟨h8, h⟩ := Bool.and_eq_true_iff.mp h
  obtain ⟨h9, h⟩ := Bool.and_eq_true_iff.mp h
  obtain ⟨h10, h⟩ := Bool.and_eq_true_iff.mp h
  obtain ⟨h11, h12⟩ := Bool.and_eq_true_iff.mp h
  refine ⟨?_, h2, h3, of_decide_eq_true h4, of_decide_eq_true h5, of_decide_eq_true h6, of_decide_eq_true h7, of_decide_eq_true h8, of_decide_eq_true h9, of_decide_eq_true h10, of_decide_eq_true h11, of_decide_eq_true h12⟩
  unfold baseB at h1
  rcases Bool.or_eq_true_iff.mp h1 with z | h1
  · obtain ⟨z1, z2⟩ := Bool.and_eq_true_iff.mp z
    exact ⟨_, _, _, _, F.excBase_ValueError, F.store_ValueError, z1, z2⟩
  rcases Bool.or_eq_true_iff.mp h1 with z | h1
  · obtain ⟨z1, z2⟩ := Bool.and_eq_true_iff.mp z
    exact ⟨_, _, _, _, F.excBase_LookupError, F.store_LookupError, z1, z2⟩
  rcases Bool.or_eq_true_iff.mp h1 with z | z
  · obtain ⟨z1, z2⟩ := Bool.and_eq_true_iff.mp z
    exact ⟨_, _, _, _, F.excBase_RuntimeError, F.store_RuntimeError, z1, z2⟩
  · obtain ⟨z1, z2⟩ := Bool.and_eq_true_iff.mp z
    exact ⟨_, _, _, _, F.excBase_ArithmeticError, F.store_ArithmeticError, z1, z2⟩
/-! ### self.f = v, the first one and a further one -/
section
variable {prog : Program} {w : World} {A : Around} {R : Result → Shared → Prop} {K : Frag} {x C dx : Addr} {f : Str} {tk : Tok} {v : Value}
variable {hp : Heap} {g : Array GenState} {d : Drawn} {t : Nat} {os : OsState} {fv : Array Value} {t0 : Addr}
theorem osaN (T : XC K C) (F : XF K C f) (X : K.In hp) (hx : hp.get? x = some (PySem.HandSPX.excO C t0))
    (hq : ∀ h' tk' dx, (∀ b o, b ≠ x → hp.get? b = some o → h'.get? b = some o) → hp.objs.size ≤ dx → dx ≠ x → h'.get? x = some { cls := .ref C, dict := some dx, data := .fields #[.ref t0, .none, .none, .none, .bool false, .none] } →
      h'.Ns1 dx (fun y => if y = f then some v else none) → R (.ok (.ret .none)) ⟨h', g, d, tk', os⟩) :
    codeAny (model prog w) A (.call (.builtin "object.__setattr__") ⟨[.ref x, .str f tk, v], []⟩) R ⟨hp, g, d, t, os⟩ := by
  obtain ⟨B, nI, iI, bB, _, SF, _, ov⟩ := T.base
  have I : InstAt hp x (PySem.HandSPX.excO C t0) C none := ⟨hx, rfl, rfl, trivial⟩
  refine osa_openX (s := ⟨hp, g, d, t, os⟩) SF X I ov F.tk fun b => ?_
  show wpAny _ _ (storeInOwnDict (.ref x) (.ref C) (.str f tk) f v b) _ _ _
  obtain ⟨cd, hc, hh⟩ := any_some T.hd
  have Lc : Looks (model prog w) hp (classData C) cd := looks_clsIn X hc
  have nx : x ≠ hp.objs.size := Nat.ne_of_lt (Heap.lt_size hx)
  obtain ⟨nm, bs, mro, ns, qn, hd, sn, sb, ab, col, del⟩ := cd
  dsimp only at hh
  subst hh
  unfold storeInOwnDict ownDictForStores
  repeat (first
    | with_reducible refine PySem.HandSPX.store_in_new ?_ ?_
    | with_reducible refine wpAny_loadPart_at hx ?_
    | with_reducible refine Lc.at ?_
    | wp_step)
  · exact ⟨_, #[], _, (Heap.get?_update_ne _ _ _ _ nx.symm).trans (Heap.get?_push_at rfl rfl), rfl, fun e he => absurd he (by simp), fun _ => rfl⟩
  · intro h' tk' hn' hs
    have hx1 : (hp.push { cls := .type "dict", data := .dict #[] }).get? x = some (PySem.HandSPX.excO C t0) := Heap.get?_push_of_some _ hx
    refine hq h' tk' hp.objs.size (fun b o hb ho => ?_) (Nat.le_refl _) nx.symm ?_ hn'
    · exact (hs.2 b (Nat.ne_of_lt (Heap.lt_size ho))).trans ((Heap.get?_update_ne _ _ _ _ hb).trans (Heap.get?_push_of_some _ ho))
    · exact (hs.2 x nx).trans (Heap.get?_update_self _ hx1 rfl)
theorem osaD {m0 : Str → Option Value} {nl : List Str} (T : XC K C) (F : XF K C f) (X : K.In hp) (hx : hp.get? x = some { cls := .ref C, dict := some dx, data := .fields fv }) (hns : hp.Ns1 dx m0) (hw : Within m0 nl) (hz : nl.length ≤ 1000)
    (hq : ∀ h' tk', (∀ b o, b ≠ dx → hp.get? b = some o → h'.get? b = some o) → h'.Ns1 dx (fun y => if y = f then some v else m0 y) → R (.ok (.ret .none)) ⟨h', g, d, tk', os⟩) :
    codeAny (model prog w) A (.call (.builtin "object.__setattr__") ⟨[.ref x, .str f tk, v], []⟩) R ⟨hp, g, d, t, os⟩ := by
  obtain ⟨B, nI, iI, bB, _, SF, _, ov⟩ := T.base
  obtain ⟨oD, _, _, hoD, _, _⟩ := hns.count hw
  have I : InstAt hp x { cls := .ref C, dict := some dx, data := .fields fv } C (some oD) := ⟨hx, rfl, rfl, hoD⟩
  refine osa_openX (s := ⟨hp, g, d, t, os⟩) SF X I ov F.tk fun b => ?_
  show wpAny _ _ (storeInOwnDict (.ref x) (.ref C) (.str f tk) f v b) _ _ _
  obtain ⟨cd, hc, hh⟩ := any_some T.hd
  have Lc : Looks (model prog w) hp (classData C) cd := looks_clsIn X hc
  obtain ⟨nm, bs, mro, ns, qn, hd, sn, sb, ab, col, del⟩ := cd
  dsimp only at hh
  subst hh
  unfold storeInOwnDict ownDictForStores
  repeat (first
    | with_reducible refine PySem.OEX.store_in_old hns hw hz ?_
    | with_reducible refine wpAny_loadPart_at hx ?_
    | with_reducible refine Lc.at ?_
    | wp_step)
  intro h' tk' hn' hs
  exact hq h' tk' (fun b o hb ho => (hs.2 b hb).trans ho) hn'
end
end LwX
namespace Lw
open PySem PySem.Spec PyProof.Rows L2
open LwX (XC XF)
/-! ### self.f = v in an exception's own __init__ -/
section
variable {X : Cx} {pins : List (Addr × Obj)} {σ : L2.St} {H : Hp} {s : Shared} {a C dx : Addr} {f : Str} {y : V} {u : Value} {fs : List (Str × V)} {Q : Unit → Shared → Prop} {E : Value → Shared → Prop} {A : Around}
theorem xst_new (T : XC X.K C) (F : XF X.K C f) (I : Inv X pins σ H s) (e : H a = some (exo a C none)) (ry : RelV y u)
    (h : ∀ dx s', H dx = none → dx ≠ a → Inv X pins σ (upd (upd H dx (exd dx [(f, y)])) a (exo a C (some dx))) s' → Q () s') : wpAny (model X.prog X.w) A (setAttr (.ref a) f u) Q E s := by
  obtain ⟨t1, ho⟩ := exo_at I.hok e
  obtain ⟨hp, g, d, t, os⟩ := s
  refine PySem.W.set_plain I.kIn (ox := { cls := .ref C, dict := none, data := .fields #[.ref t1, .none, .none, .none, .bool false, .none] }) (od := none) ⟨ho, rfl, rfl, trivial⟩ T.sa ?_
  refine LwX.osaN T F I.kIn ho fun h2 tk2 dx k dn dne hx hn => ?_
  have free : H dx = none := I.hok.fresh dn
  have old : ∀ {b : Addr} {o : Obj}, hp.get? b = some o → b ≠ dx := fun {b o} q => Nat.ne_of_lt (Nat.lt_of_lt_of_le (Heap.lt_size q) dn)
  have off : ∀ {b : Addr}, H b = none → b ≠ a := fun {b} n z => by
    rw [z, e] at n
    cases n
  have un : Un X.fs [] H (upd (upd H dx (exd dx [(f, y)])) a (exo a C (some dx))) hp h2 := {
    keep := fun b o q n _ _ => k b o (off n) q
    slot := fun b o q n _ _ => ⟨o.slots, k b o (off n) q⟩
    free := fun b o q n _ => by
      rw [upd_ne (off n), upd_ne (old q)]
      exact n
    there := fun b o q _ => by
      by_cases hb : b = a
      · exact ⟨_, hb ▸ hx⟩
      · exact ⟨o, k b o hb q⟩
    tups := fun b xs q => by
      rw [upd_ne (at_ne e q exo_tup), upd_ne (ne_of_none q free)]
      exact q
    frzs := fun b o v q => by
      rw [upd_ne (at_ne e q exo_frz), upd_ne (ne_of_none q free)]
      exact q
    tbls := fun b ps q => ⟨#[], by
      rw [upd_ne (at_ne e q exo_tbl), upd_ne (ne_of_none q free), q]
      simp⟩ }
  refine h dx _ free dne (I.un (t' := tk2) un fun b o q => ?_)
  by_cases hb : b = a
  · subst hb
    rw [upd_same] at q
    cases q
    exact exo_ok hx
  rw [upd_ne hb] at q
  by_cases hd : b = dx
  · subst hd
    rw [upd_same] at q
    cases q
    exact exd_ok hn (relO_put (fs := []) ry fun _ => True.intro)
  rw [upd_ne hd] at q
  refine (I.hok b o q).stay (fun c v hc z => k c v ?_ z) (fun c hc => ?_) (fun c xs hc => ?_)
  · rcases hc with rfl | hc
    · exact hb
    · exact at_ne e hc exo_own
  · rw [upd_ne (at_ne e hc exo_own), upd_ne (ne_of_none hc free)]
    exact hc
  · rw [upd_ne (at_ne e hc exo_tup), upd_ne (ne_of_none hc free)]
    exact hc
theorem xst_old (T : XC X.K C) (F : XF X.K C f) (I : Inv X pins σ H s) (e : H a = some (exo a C (some dx))) (ed : H dx = some (exd dx fs)) (hl : fs.length ≤ 900) (ry : RelV y u)
    (h : ∀ s', Inv X pins σ (upd H dx (exd dx ((f, y) :: fs))) s' → Q () s') : wpAny (model X.prog X.w) A (setAttr (.ref a) f u) Q E s := by
  obtain ⟨t1, ho⟩ := exo_at I.hok e
  obtain ⟨mA, hns, rel⟩ := exd_at I.hok ed
  have hw := within_of rel
  obtain ⟨hp, g, d, t, os⟩ := s
  obtain ⟨oD, _, _, hoD, _, _⟩ := hns.count hw
  refine PySem.W.set_plain I.kIn (ox := { cls := .ref C, dict := some dx, data := .fields #[.ref t1, .none, .none, .none, .bool false, .none] }) (od := some oD) ⟨ho, rfl, rfl, hoD⟩ T.sa ?_
  refine LwX.osaD T F I.kIn ho hns hw (by rw [List.length_map]; omega) fun h2 tk2 k hn => ?_
  obtain ⟨o2, es2, ep2, e2, r2⟩ := hn
  exact h _ (I.write (t' := tk2) (x := dx) (e := dx) (o := exd dx ((f, y) :: fs)) (by rw [ed]; exact True.intro) (.inl rfl) k ⟨o2, e2⟩ (exd_ok ⟨o2, es2, ep2, e2, r2⟩ (relO_put ry rel)))
end
/-- self.f = e: the reading -/
def tXst (K : PySem.W.Frag) (f : Str) (to te : TE) : TS := fun D σ H => te σ H fun y H1 => to σ H1 fun x H2 => ∃ a C : Addr, x = .ref a ∧ XC K C ∧ XF K C f ∧
  ((H2 a = some (exo a C none) ∧ ∀ dx, H2 dx = none → dx ≠ a → D.nx σ (upd (upd H2 dx (exd dx [(f, y)])) a (exo a C (some dx)))) ∨
    ∃ (dx : Addr) (fs : List (Str × V)), H2 a = some (exo a C (some dx)) ∧ H2 dx = some (exd dx fs) ∧ fs.length ≤ 900 ∧ D.nx σ (upd H2 dx (exd dx ((f, y) :: fs))))
theorem ps_xst {X : Cx} {o e : Expr} {to te : TE} {f : Str} {p' pos : Pos} (ho : PE X o to) (he : PE X e te) (hs : swapsWith e (some (.Attribute o f p')) pos.line X.env = pure false := by rfl) : PS X (.Assign [.Attribute o f p'] e pos) (tXst X.K f to te) := by
  constructor
  intro pins s σ H D I h
  refine plainObj_wpAny_Assign_Attribute (thn (he.run pins s σ H _ I h) fun v s1 h1 => ?_) hs
  obtain ⟨y, H1, I1, r1, q1⟩ := h1
  refine thn (ho.run pins s1 σ H1 _ I1 q1) fun u s2 h2 => ?_
  obtain ⟨x, H2, I2, r2, a, C, rfl, T, F, q⟩ := h2
  obtain rfl : u = Value.ref a := r2
  rcases q with ⟨ea, q⟩ | ⟨dx, fs, ea, ed, hl, q⟩
  · exact xst_new T F I2 ea r1 fun dx s3 n ne J => ⟨σ, _, J, q dx n ne⟩
  · exact xst_old T F I2 ea ed hl r1 fun s3 J => ⟨σ, _, J, q⟩
/-! ### an exception as a value -/
/-- at a: an exception of the class at C whose own attributes are fs -/
def Xo (H : Hp) (a C : Addr) (fs : List (Str × V)) : Prop := (fs = [] ∧ H a = some (exo a C none)) ∨ ∃ d, H a = some (exo a C (some d)) ∧ H d = some (exd d fs)
theorem Xo.same {H H' : Hp} {a C : Addr} {fs : List (Str × V)} (x : Xo H a C fs) (s : Same H H') : Xo H' a C fs := by
  rcases x with ⟨e, h⟩ | ⟨d, h1, h2⟩
  · exact .inl ⟨e, s _ _ h⟩
  · exact .inr ⟨d, s _ _ h1, s _ _ h2⟩
/-- e.f -/
def tXat (K : PySem.W.Frag) (f : Str) (te : TE) : TE := fun σ H Q => te σ H fun x H1 => ∃ (a C : Addr) (fs : List (Str × V)) (v : V), x = .ref a ∧ Xo H1 a C fs ∧ XC K C ∧ XF K C f ∧ fs.lookup f = some v ∧ Q v H1
theorem pe_xat {X : Cx} {e : Expr} {te : TE} {f : Str} {pos : Pos} (he : PE X e te) (hb : attributeBase e f X.env (eval e X.env) = eval e X.env := by rfl) : PE X (.Attribute e f pos) (tXat X.K f te) := by
  constructor
  intro pins s σ H Q I h
  refine attr_of hb (thn (he.run pins s σ H _ I h) fun u s1 hh => ?_)
  obtain ⟨x, H1, I1, rx, a, C, fs, v, rfl, xo, T, F, l, q⟩ := hh
  obtain rfl : u = Value.ref a := rx
  rcases xo with ⟨rfl, _⟩ | ⟨d, h1, h2⟩
  · cases l
  · obtain ⟨t1, ho⟩ := exo_at I1.hok h1
    obtain ⟨mA, hns, hr⟩ := exd_at I1.hok h2
    obtain ⟨od, hod, hl⟩ := lookIn_ns hns
    obtain ⟨w', hw, rw'⟩ := RelO.some_of (v := v) (o := mA f) (by rw [← l]; exact hr f)
    have J : PySem.W.InstAt s1.heap a { cls := .ref C, dict := some d, data := .fields #[.ref t1, .none, .none, .none, .bool false, .none] } C (some od) := ⟨ho, rfl, rfl, hod⟩
    exact HandSPX.exc_get I1.kIn J T.ga T.gg T.sub (PySem.W.findObj_own T.hd F.no rfl (by rw [hl, hw])) (handed_of rw') ⟨v, H1, I1.tok _, rw', q⟩
/-- isinstance(e, c) of such a value -/
def rIsX (K : PySem.W.Frag) : List V → Hp → VK → Prop := fun xs H Q => ∃ (a C : Addr) (fs : List (Str × V)) (c : V) (cv : Value) (b : Bool), xs = [.ref a, c] ∧ Xo H a C fs ∧ XC K C ∧ (∀ u, RelV c u → u = cv) ∧ PySem.W.kitOne K (.ref C) cv = some b ∧ Q (.bl b) H
theorem call_isX {X : Cx} : CallR X (.builtin "isinstance") (rIsX X.K) := by
  intro pins s σ H xs us Q I r h
  obtain ⟨a, C, fs, c, cv, b, rfl, xo, T, hcv, e, q⟩ := h
  cases r with
  | cons rx rr =>
    cases rr with
    | cons rt rr =>
      cases rr
      cases rx
      have ec := hcv _ rt
      subst ec
      obtain ⟨ox, od, J⟩ : ∃ (ox : Obj) (od : Option Obj), PySem.W.InstAt s.heap a ox C od := by
        rcases xo with ⟨_, h1⟩ | ⟨d, h1, h2⟩
        · obtain ⟨t1, ho⟩ := exo_at I.hok h1
          exact ⟨_, none, ho, rfl, rfl, trivial⟩
        · obtain ⟨t1, ho⟩ := exo_at I.hok h1
          obtain ⟨mA, hns, _⟩ := exd_at I.hok h2
          obtain ⟨od, hod, _⟩ := lookIn_ns hns
          exact ⟨_, some od, ho, rfl, rfl, hod⟩
      have hcl : (PySem.W.clsIn X.K C).isSome = true := by
        obtain ⟨cd, hc, _⟩ := PySem.W.any_some T.hd
        rw [hc]
        rfl
      exact PySem.W.kia_one (PySem.W.kitx_exc hcl T.ga T.gg T.sub T.cl T.gt T.tk T.mo) I.kIn J e (fun z => nomatch z) fun tk => ⟨.bl b, H, I.kept (t' := tk) fun _ _ z => z, rfl, q⟩
/-! ### C(e, ..), C(f = e, ..) -/
/-- a class of the top with an __init__ of its own -/
structure XCls (P : Program) (w : World) (K : PySem.W.Frag) (mg : Str → Option Value) (base : Heap) (k : Nat) (x : Str) (C : Addr) (ps : List Str) (sp : Sp) : Prop where
  g : mg x = some (.ref C)
  xc : XC K C
  ini : ∃ fI fd, PySem.W.findIn K (.ref C) "__init__" = some (some (.ref fI)) ∧ PySem.W.typeIn K (.ref fI) = some (.type "function") ∧ FnG P w K mg base CX0 k fI fd ps sp ∧ Binds K fd ps [] ∧
    ∀ (us ws : List Value) (s : Shared), us.length = 1 → ws.length = (ps.drop 1).length → BindsTo s fd ⟨us, (ps.drop 1).reverse.zip ws⟩ (ps.zip (us ++ ws.reverse))
theorem Vals.reverse : ∀ {xs : List V} {us : List Value}, Vals xs us → Vals xs.reverse us.reverse
  | _, _, .nil => .nil
  | _, _, .cons r t => by
    rw [List.reverse_cons, List.reverse_cons]
    exact L2.Vals.append (Vals.reverse t) (.cons r .nil)
section
variable {X : Cx} {k : Nat} {x : Str} {C : Addr} {ps : List Str} {sp : Sp} {p pos : Pos} {e : Expr} {es : List Expr} {kws : List Keyword} {t tk : TA}
/-- the promise of C(..): an exception at a, not yet filled, then its __init__ -/
def xmk (C : Addr) (sp : Sp) (vs : List V) (H : Hp) (Q : VK) : Prop := ∀ a, H a = none → sp (.ref a :: vs) (upd H a (exo a C none)) (fun v H2 => v = .non ∧ Q (.ref a) H2) E0
theorem run_xmk {pins : List (Addr × Obj)} {σ : L2.St} {H : Hp} {s : Shared} {Q : VK} {us : List Value} {kw : List (Str × Value)} {vs : List V} {bs : List Value} {fI : Addr} {fd : FuncData} (T : XC X.K C)
    (hi : PySem.W.findIn X.K (.ref C) "__init__" = some (some (.ref fI))) (ti : PySem.W.typeIn X.K (.ref fI) = some (.type "function")) (F : FnG X.prog X.w X.K X.mg X.base CX0 k fI fd ps sp) (gd : X.A.guards = some []) (hr : Room (k + 1) X.A)
    (I : Inv X pins σ H s) (hz : us.length ≤ sizeLine) (r : Vals vs bs) (hb : ∀ (s : Shared) (a : Addr), X.K.In s.heap → BindsTo s fd ⟨.ref a :: us, kw⟩ (ps.zip (.ref a :: bs))) (h : xmk C sp vs H Q) :
    wpAny (model X.prog X.w) X.A (call (.ref C) us kw) (EP X pins σ Q) X.xe s := by
  obtain ⟨B, nI, iI, bB, FB, _, q, _⟩ := T.base
  obtain ⟨hp, g, dr, tok, os⟩ := s
  obtain ⟨nm, N, qn, bs', bm, hdct, sn, sub, ab, col, dd, k0, k1, k2, k3, k5, hC, hT⟩ := PySem.W.excInit_of (h := hp) I.kIn q
  have hsz : hp.objs.size ≤ hp.objs.size + 1 := Nat.le_succ _
  have hn : H (hp.objs.size + 1) = none := I.hok.fresh hsz
  have hq := h (hp.objs.size + 1) hn
  have kk : ∀ b o, hp.get? b = some o → ((hp.push (PySem.W.kdv_tup us)).push (PySem.HandSPX.excO C hp.objs.size)).get? b = some o := fun b o z => Heap.get?_push_of_some _ (Heap.get?_push_of_some _ z)
  have made : ((hp.push (PySem.W.kdv_tup us)).push (PySem.HandSPX.excO C hp.objs.size)).get? (hp.objs.size + 1) = some (PySem.HandSPX.excO C hp.objs.size) := by heap_get
  have I2 : Inv X pins σ (upd H (hp.objs.size + 1) (exo (hp.objs.size + 1) C none)) ⟨(hp.push (PySem.W.kdv_tup us)).push (PySem.HandSPX.excO C hp.objs.size), g, dr, tok, os⟩ :=
    I.laid (t' := tok) (a := hp.objs.size + 1) (o := exo (hp.objs.size + 1) C none) kk hsz (exo_ok made)
  refine wpAny_call (LwX.callK FB hT hC (PySem.W.looks_findIn I.kIn hi) (fun self => PySem.W.bind_fn I.kIn self ti) hz
    (codeAny_mono (F.go (vs := .ref (hp.objs.size + 1) :: vs) (us := .ref (hp.objs.size + 1) :: bs) ?_ (hr.make C us kw) (I2.env0.make C us kw) (hb _ _ I2.kIn) (.cons rfl r) hq) fun r s2 hq2 => ?_))
  · simp [Around.under, pushGuards, gd, Code.guards, Code.isGuard, guardIds]
  · cases r with
    | error er => exact hq2.elim
    | ok fl =>
      cases fl with
      | next => exact hq2.elim
      | brk => exact hq2.elim
      | cont => exact hq2.elim
      | ret u =>
        obtain ⟨v, H3, I3, rv, rfl, q3⟩ := I2.after hq2
        exact ⟨rv, ⟨.ref (hp.objs.size + 1), H3, I3, rfl, q3⟩⟩
def tXmk (C : Addr) (sp : Sp) (t : TA) : TE := fun σ H Q => t σ H fun vs H1 => vs.length ≤ 1000 ∧ xmk C sp vs H1 Q
theorem pe_xmk (T : XCls X.prog X.w X.K X.mg X.base k x C ps sp) {j : Nat} (gd : X.A.guards = some []) (hr : Room j X.A) (ha : PA X (e :: es) t) (hj : k + 1 ≤ j := by decide) (hg : Gl X x := by rfl) (hdb : (x == ("__debug__" : Str)) = false := by decide)
    (he : starEach (e :: es) X.env = (false, eval e X.env) :: starEach es X.env := by rfl) (hpl : (backTo pos (starEach es X.env)).any (·.1) = false := by rfl) :
    PE X (.Call (.Name x p) (e :: es) [] pos) (tXmk C sp t) := by
  obtain ⟨fI, fd, hi, ti, F, hb, _⟩ := T.ini
  constructor
  intro pins s σ H Q I h
  refine wpAny_Call_Name_kw (ld_glob I hg T.g ?_ hdb)
  refine PySem.W.callWith_K (h₀ := X.base) I.ok.mod.kin T.xc.kp (thn (ha.run pos pins s σ H _ I h) fun us s1 hh => ?_) he hpl
  obtain ⟨vs, H1, I1, r, hz, q⟩ := hh
  refine ⟨I1.kIn, run_xmk T.xc hi ti F gd (hr.mono hj) I1 (by show us.length ≤ sizeLine; rw [← r.length, sizeLine_eq]; omega) r (fun s a hk => ?_) q⟩
  have hl : (Value.ref a :: us ++ []).length = ps.length := by
    rw [List.append_nil, List.length_cons, ← r.length]
    have := F.len _ _ _ _ (q (s1.heap.objs.size + 1) (I1.hok.fresh (Nat.le_succ _)))
    rw [← this]
    rfl
  have z := hb s (.ref a :: us) hk hl
  rw [List.append_nil] at z
  exact z
theorem pe_xmk0 (T : XCls X.prog X.w X.K X.mg X.base k x C ps sp) {j : Nat} (gd : X.A.guards = some []) (hr : Room j X.A) (hj : k + 1 ≤ j := by decide) (hg : Gl X x := by rfl) (hdb : (x == ("__debug__" : Str)) = false := by decide) :
    PE X (.Call (.Name x p) [] [] pos) (tXmk C sp tNil) := by
  obtain ⟨fI, fd, hi, ti, F, hb, _⟩ := T.ini
  constructor
  intro pins s σ H Q I h
  obtain ⟨_, q⟩ := h
  refine wpAny_Call_Name_kw (ld_glob I hg T.g ?_ hdb)
  refine PySem.W.callWith_K0 I.kIn T.xc.kp (run_xmk T.xc hi ti F gd (hr.mono hj) I (Nat.zero_le _) .nil (fun s3 a hk => ?_) q)
  have hl : ([Value.ref a] ++ []).length = ps.length := F.len _ _ _ _ (q s.heap.objs.size (I.hok.fresh (Nat.le_refl _)))
  exact hb s3 [.ref a] hk hl
/-- with all values by name, in the other sequence -/
def tXmkK (C : Addr) (sp : Sp) (tk : TA) : TE := fun σ H Q => tk σ H fun vs H1 => xmk C sp vs.reverse H1 Q
theorem pe_xmkK (T : XCls X.prog X.w X.K X.mg X.base k x C ps sp) {j : Nat} (gd : X.A.guards = some []) (hr : Room j X.A) (hkw : PK X kws tk) (hj : k + 1 ≤ j := by decide) (hg : Gl X x := by rfl) (hdb : (x == ("__debug__" : Str)) = false := by decide)
    (hall : (backToKw pos (keywordEach kws X.env)).all (·.1.isSome) = true := by rfl) (hks : (backToKw pos (keywordEach kws X.env)).filterMap (·.1) = (ps.drop 1).reverse := by rfl)
    (hpl : ((backTo pos (starEach [] X.env)).any (·.1) || (backToKw pos (keywordEach kws X.env)).any (·.1.isNone)) = false := by rfl) :
    PE X (.Call (.Name x p) [] kws pos) (tXmkK C sp tk) := by
  obtain ⟨fI, fd, hi, ti, F, _, hb⟩ := T.ini
  constructor
  intro pins s σ H Q I h
  refine wpAny_Call_Name_kw (ld_glob I hg T.g ?_ hdb)
  refine PySem.W.callWith_KW0 (h₀ := X.base) I.ok.mod.kin T.xc.kp hall ?_ hpl
  refine thn (hkw.run pos pins s σ H _ I h) fun ws s2 hh => ?_
  obtain ⟨zs, H2, I2, rz, q⟩ := hh
  refine ⟨I2.kIn, ?_⟩
  rw [hks]
  have hl : zs.length = (ps.drop 1).length := by
    have z := F.len _ _ _ _ (q (s2.heap.objs.size + 1) (I2.hok.fresh (Nat.le_succ _)))
    rw [List.length_cons, List.length_reverse] at z
    rw [List.length_drop]
    omega
  refine run_xmk (us := []) (bs := ws.reverse) T.xc hi ti F gd (hr.mono hj) I2 (Nat.zero_le _) (Vals.reverse rz) (fun s a hk => ?_) q
  exact hb [.ref a] ws s rfl (rz.length.symm.trans hl)
end
end Lw
namespace Lw
open PySem PySem.Spec PyProof.Rows L2 Evl
open LwX (XC XF)
section
variable {K : PySem.W.Frag} {σ : L2.St} {H H' : Hp} {ta tb te : TE} {xs ys : List V}
/-! ### lists put together, repeated -/
theorem el_cat (ha : EvL ta σ H xs) (hb : EvL tb σ H ys) (hz : xs.length + ys.length ≤ 100000) : EvL (tOp rCat ta tb) σ H (xs ++ ys) := fun H1 e Q q =>
  ha H1 e _ fun p H2 hp e2 hl => hb H2 (e.trans e2) _ fun r H3 hr e3 hl3 => ⟨p, r, xs, ys, rfl, rfl, e3 _ _ hl, hl3, sz_of hz, fun t ht => q t _ (fresh_back (e2.trans e3) ht) ((e2.trans e3).trans (Ex.new ht)) upd_same⟩
/-- the first one stands already -/
theorem el_catV {p : Addr} (ha : Ev ta σ H (.ref p)) (hp : H p = some (.lst xs)) (hb : EvL tb σ H ys) (hz : xs.length + ys.length ≤ 100000) : EvL (tOp rCat ta tb) σ H (xs ++ ys) := fun H1 e Q q =>
  ha H1 e _ fun H2 e2 => hb H2 (e.trans e2) _ fun r H3 hr e3 hl3 => ⟨p, r, xs, ys, rfl, rfl, e3 _ _ (e2 _ _ (e _ _ hp)), hl3, sz_of hz, fun t ht => q t _ (fresh_back (e2.trans e3) ht) ((e2.trans e3).trans (Ex.new ht)) upd_same⟩
theorem flatten_rep1 (n : Nat) (v : V) : (List.replicate n [v]).flatten = List.replicate n v := by
  induction n with
  | zero => rfl
  | succ n ih => rw [List.replicate_succ, List.flatten_cons, ih, List.replicate_succ]; rfl
/-- [v] * n -/
theorem el_rep1 {v : V} {n : Nat} (ha : EvL ta σ H [v]) (hb : ∀ H1, Ex H H1 → Ev tb σ H1 (.int (n : Int))) (hz : n ≤ 100000) : EvL (tOp rRep ta tb) σ H (List.replicate n v) := fun H1 e Q q =>
  ha H1 e _ fun p H2 hp e2 hl => hb H2 (e.trans e2) H2 (Ex.refl _) _ fun H3 e3 => ⟨p, (n : Int), [v], rfl, rfl, e3 _ _ hl, by omega, by omega, by
    show 1 * (n : Int).toNat ≤ sizeLine
    rw [Nat.one_mul, Int.toNat_natCast]
    exact sz_of hz, fun t ht => by
    rw [Int.toNat_natCast, flatten_rep1]
    exact q t _ (fresh_back (e2.trans e3) ht) ((e2.trans e3).trans (Ex.new ht)) upd_same⟩
/-- two lists of plain data compared, both new -/
theorem ev_neD {d e : PyData} (ha : EvL ta σ H xs) (hb : EvL tb σ H ys) (hd : ∀ H1 p, Ex H H1 → H1 p = some (.lst xs) → Dp K H1 (.ref p) d) (he : ∀ H1 p, Ex H H1 → H1 p = some (.lst ys) → Dp K H1 (.ref p) e)
    (sd : SeqAt.shaped d = true) (se : SeqAt.shaped e = true) : Ev (tOp (rNeD K) ta tb) σ H (.bl (!PyData.eqv d e)) := fun H1 e1 Q q =>
  ha H1 e1 _ fun p H2 hp e2 hl => hb H2 (e1.trans e2) _ fun r H3 hr e3 hl3 => ⟨d, e, hd H3 p (e1.trans (e2.trans e3)) (e3 _ _ hl), he H3 r (e1.trans (e2.trans e3)) hl3, sd, se, q H3 (e2.trans e3)⟩
/-! ### loops over enumerate(xs) -/
theorem for_enum {a : Addr} {xs : List V} {g : TG} {tb : TS} {D : Ends} (Pv : Nat → L2.St → Hp → Prop) (h0 : Pv 0 σ H) (hl : ∀ i σ H, i ≤ xs.length → Pv i σ H → SqL K H a xs)
    (hs : ∀ i x σ H T, xs[i]? = some x → Pv i σ H → H T = none → g (.ref T) σ (upd H T (.tup [.int (i : Nat), x])) fun σ2 H2 => tb { D with nx := Pv (i + 1), ct := Pv (i + 1), bk := D.nx } σ2 H2) (hd : ∀ σ H, Pv xs.length σ H → D.nx σ H) :
    ∃ W : Nat → Nat → L2.St → Hp → Prop, (∃ m, W 0 m σ H) ∧ ∀ i m σ H, W i m σ H →
      ((Ite K a).stop i H ∧ D.nx σ H) ∨ ((Ite K a).go i H ∧ ∃ N : L2.St → Hp → Prop, (∀ σ' H', N σ' H' → ∃ m', m' < m ∧ W (i + 1) m' σ' H') ∧ ∀ x H', (Ite K a).yld i H x H' → g x σ H' fun σ2 H2 => tb { D with nx := N, ct := N, bk := D.nx } σ2 H2) := by
  refine ⟨fun i m σ H => i + m = xs.length ∧ Pv i σ H, ⟨xs.length, by omega, h0⟩, ?_⟩
  rintro i m σ H ⟨em, p⟩
  have q := hl i σ H (by omega) p
  by_cases c : i < xs.length
  · refine .inr ⟨⟨xs, xs[i], q, List.getElem?_eq_getElem c⟩, Pv (i + 1), fun σ' H' p' => ⟨m - 1, by omega, by omega, p'⟩, fun x H' y => ?_⟩
    obtain ⟨T, z, rfl, hT, rfl, hz⟩ := y
    exact hs i z σ H T (hz xs q) p hT
  · have e : i = xs.length := by omega
    subst e
    exact .inl ⟨⟨xs, q, Nat.le_refl _⟩, hd σ H p⟩
end
/-! ### what an exception's __init__ does -/
def spI0 (C : Addr) : Sp := fun vs H Q _ => ∃ a : Addr, vs = [.ref a] ∧ H a = some (exo a C none) ∧ Q .non H
def spI1 (f : Str) (C : Addr) : Sp := fun vs H Q _ => ∃ (a : Addr) (v : V), vs = [.ref a, v] ∧ H a = some (exo a C none) ∧ ∀ dx, H dx = none → dx ≠ a → Q .non (upd (upd H dx (exd dx [(f, v)])) a (exo a C (some dx)))
def spI2 (f g : Str) (C : Addr) : Sp := fun vs H Q _ => ∃ (a : Addr) (v w : V), vs = [.ref a, v, w] ∧ H a = some (exo a C none) ∧
  ∀ dx, H dx = none → dx ≠ a → Q .non (upd (upd (upd H dx (exd dx [(f, v)])) a (exo a C (some dx))) dx (exd dx [(g, w), (f, v)]))
theorem xmk0 {C : Addr} {H : Hp} {Q : VK} (k : ∀ a H', Ex H H' → Xo H' a C [] → Q (.ref a) H') : xmk C (spI0 C) [] H Q := fun a ha =>
  ⟨a, rfl, upd_same, rfl, k a _ (Ex.new ha) (.inl ⟨rfl, upd_same⟩)⟩
theorem off_upd {H : Hp} {a d : Addr} {o : HO} (h : upd H a o d = none) : H d = none ∧ d ≠ a := by
  by_cases z : d = a
  · rw [z, upd_same] at h
    cases h
  · rw [upd_ne z] at h
    exact ⟨h, z⟩
theorem xmk1 {C : Addr} {H : Hp} {f : Str} {v : V} {Q : VK} (k : ∀ a H', Ex H H' → Xo H' a C [(f, v)] → Q (.ref a) H') : xmk C (spI1 f C) [v] H Q := fun a ha => by
  refine ⟨a, v, rfl, upd_same, fun dx hd hne => ⟨rfl, ?_⟩⟩
  obtain ⟨hd', _⟩ := off_upd hd
  refine k a _ (fun b o e => ?_) (.inr ⟨dx, upd_same, ?_⟩)
  · rw [upd_ne (ne_of_none e ha), upd_ne (ne_of_none e hd'), upd_ne (ne_of_none e ha)]
    exact e
  · rw [upd_ne hne]
    exact upd_same
theorem xmk2 {C : Addr} {H : Hp} {f g : Str} {v w : V} {Q : VK} (k : ∀ a H', Ex H H' → Xo H' a C [(g, w), (f, v)] → Q (.ref a) H') : xmk C (spI2 f g C) [v, w] H Q := fun a ha => by
  refine ⟨a, v, w, rfl, upd_same, fun dx hd hne => ⟨rfl, ?_⟩⟩
  obtain ⟨hd', _⟩ := off_upd hd
  refine k a _ (fun b o e => ?_) (.inr ⟨dx, ?_, upd_same⟩)
  · rw [upd_ne (ne_of_none e hd'), upd_ne (ne_of_none e ha), upd_ne (ne_of_none e hd'), upd_ne (ne_of_none e ha)]
    exact e
  · rw [upd_ne hne.symm]
    exact upd_same
section
variable {P : Program} {w : World} {K : PySem.W.Frag} {mg : Str → Option Value} {base : Heap} {C fI : Addr} {fd : FuncData} {qual : Str} {params : Arguments} {scope : Scope}
/-- the body: self.f = f -/
theorem init1 {f : Str} {q1 q2 q3 q4 : Pos} (F : FunD K "__init__" qual params [.Assign [.Attribute (.Name "self" q1) f q2] (.Name f q3) q4] scope [] [] fI fd) (S : FnScope ["self", f] ["self", f] scope) (T : XC K C) (A : XF K C f)
    (l1 : scope.names.lookup ("self" : Str) = some .local) (l2 : scope.names.lookup f = some .local) (n1 : (f == ("__debug__" : Str)) = false) (n2 : (f == ("__classdict__" : Str)) = false) :
    FnG P w K mg base CX0 1 fI fd ["self", f] (spI1 f C) := by
  refine fnG F S (fun vs H Q E h => ?_) (fun cdv A' outer s H vs Q E gd hr h => ?_)
  · obtain ⟨a, v, rfl, _⟩ := h
    rfl
  · obtain ⟨a, v, rfl, ha, q⟩ := h
    refine ⟨_, PSs.nox (pss_one (ps_xst (pv 0 rfl (.inl l1)) (pv 1 rfl (.inl l2) n1 n2))), ?_⟩
    exact ⟨v, rfl, .ref a, rfl, a, C, rfl, T, A, .inl ⟨ha, fun dx hd ne => q dx hd ne⟩⟩
/-- self.f = f; self.g = g -/
theorem init2 {f g : Str} {q1 q2 q3 q4 r1 r2 r3 r4 : Pos} (F : FunD K "__init__" qual params [.Assign [.Attribute (.Name "self" q1) f q2] (.Name f q3) q4, .Assign [.Attribute (.Name "self" r1) g r2] (.Name g r3) r4] scope [] [] fI fd)
    (S : FnScope ["self", f, g] ["self", f, g] scope) (T : XC K C) (A : XF K C f) (B : XF K C g)
    (l1 : scope.names.lookup ("self" : Str) = some .local) (l2 : scope.names.lookup f = some .local) (l3 : scope.names.lookup g = some .local) (n1 : (f == ("__debug__" : Str)) = false) (n2 : (f == ("__classdict__" : Str)) = false)
    (n3 : (g == ("__debug__" : Str)) = false) (n4 : (g == ("__classdict__" : Str)) = false) :
    FnG P w K mg base CX0 1 fI fd ["self", f, g] (spI2 f g C) := by
  refine fnG F S (fun vs H Q E h => ?_) (fun cdv A' outer s H vs Q E gd hr h => ?_)
  · obtain ⟨a, v, w, rfl, _⟩ := h
    rfl
  · obtain ⟨a, v, w', rfl, ha, q⟩ := h
    refine ⟨_, PSs.nox (pss_cons (ps_xst (pv 0 rfl (.inl l1)) (pv 1 rfl (.inl l2) n1 n2)) (pss_one (ps_xst (pv 0 rfl (.inl l1)) (pv 2 rfl (.inl l3) n3 n4)))), ?_⟩
    refine ⟨v, rfl, .ref a, rfl, a, C, rfl, T, A, .inl ⟨ha, fun dx hd ne => ?_⟩⟩
    exact ⟨w', rfl, .ref a, rfl, a, C, rfl, T, B, .inr ⟨dx, _, upd_same, by rw [upd_ne ne]; exact upd_same, (by show 1 ≤ 900; decide), q dx hd ne⟩⟩
/-- pass -/
theorem init0 {q1 : Pos} (F : FunD K "__init__" qual params [.Pass q1] scope [] [] fI fd) (S : FnScope ["self"] ["self"] scope) : FnG P w K mg base CX0 1 fI fd ["self"] (spI0 C) := by
  refine fnG F S (fun vs H Q E h => ?_) (fun cdv A' outer s H vs Q E gd hr h => ?_)
  · obtain ⟨a, rfl, _⟩ := h
    rfl
  · obtain ⟨a, rfl, ha, q⟩ := h
    exact ⟨_, PSs.nox (pss_one ps_pass), q⟩
/-- how values by name are bound -/
theorem kbound {x : Str} {body : List Stmt} {ps : List Str} (F : FunD K x qual params body scope [] [] fI fd)
    (h : ∀ (kV doc pm : Value) (an : Option Addr) (cdv ct : Value) (us ws : List Value), us.length = 1 → ws.length = (ps.drop 1).length →
      bindArgs (PySem.W.fnOf x qual params body scope .none kV doc pm an cdv ct) ⟨us, (ps.drop 1).reverse.zip ws⟩ = pure (ps.zip (us ++ ws.reverse)))
    (us ws : List Value) (s : Shared) (h1 : us.length = 1) (h2 : ws.length = (ps.drop 1).length) : BindsTo s fd ⟨us, (ps.drop 1).reverse.zip ws⟩ (ps.zip (us ++ ws.reverse)) := by
  obtain ⟨oc, od, dV, kV, doc, pm, an, cdv, ct, osl, rfl, lk, hcd, hD, hK⟩ := F.ex
  rcases hD with ⟨_, rfl⟩ | ⟨e, _⟩
  · exact .of_eq (h kV doc pm an cdv ct us ws h1 h2)
  · exact absurd rfl e
end
end Lw
namespace Lw
open PySem PySem.Spec PyProof.Rows L2 Evl
/-! ### small data beside a pot -/
/-- data whose text is short -/
def Rok (d : PyData) : Prop := d.showable = true ∧ d.shown.length ≤ 2500 ∧ d.depth ≤ 10
/-- v is such data, whatever is drawn later -/
def Sm (P : Program) (w : World) (p : Addr) (H : Hp) (v : V) : Prop := ∃ d, Rok d ∧ ∀ H', Xp p H H' → Rw P w H' v d
section
variable {P : Program} {w : World} {p : Addr} {H H' : Hp} {σ : L2.St}
theorem Sm.on {v : V} (s : Sm P w p H v) (x : Xp p H H') : Sm P w p H' v := by
  obtain ⟨d, h, r⟩ := s
  exact ⟨d, h, fun H2 y => r H2 (x.trans y)⟩
theorem sm_int {i : Int} (h : i.natAbs.log2 < 1920) : Sm P w p H (.int i) := by
  refine ⟨.int i, ⟨by simpa [PyData.showable] using h, ?_, by simp [PyData.depth]⟩, fun H' _ => rw_int i⟩
  have := int_text_len_1921 h
  simp only [PyData.shown]
  exact Nat.le_trans this (by decide)
theorem log_of {i : Int} {k : Nat} (h : i.natAbs < 2 ^ k) (hk : k ≤ 1900) : i.natAbs.log2 < 1920 := by
  by_cases z : i.natAbs = 0
  · rw [z]
    decide
  · have := (Nat.log2_lt z).mpr h
    omega
theorem sm_small {i : Int} (h0 : -(2 ^ 120) < i) (h1 : i < 2 ^ 120) : Sm P w p H (.int i) := sm_int (log_of (k := 120) (by omega) (by decide))
theorem sm_bl (b : Bool) : Sm P w p H (.bl b) := by
  refine ⟨.bool b, ⟨rfl, ?_, by simp [PyData.depth]⟩, fun H' _ => rw_bl b⟩
  cases b
  · decide +kernel
  · decide +kernel
theorem sm_non : Sm P w p H .non := ⟨.none, ⟨rfl, by decide +kernel, by simp [PyData.depth]⟩, fun H' _ => rw_non⟩
theorem sm_str (x : Str) (h : (reprText x).length ≤ 2500) : Sm P w p H (.str x) := ⟨.str x, ⟨rfl, by simpa only [PyData.shown] using h, by simp [PyData.depth]⟩, fun H' _ => rw_str x⟩
theorem sm_obj {a : Addr} {o : HO} {d : PyData} (hr : Rok d) (n : a ≠ p) (e : H a = some o) (f : ∀ H', H' a = some o → Rw P w H' (.ref a) d) : Sm P w p H (.ref a) := ⟨d, hr, fun H' x => f H' (x.1 a o n e)⟩
/-! expressions, argument lists that give small data -/
def SmE (P : Program) (w : World) (p : Addr) (σ : L2.St) (te : TE) : Prop := ∀ H, Po p H → ∀ Q : VK, (∀ v H', Xp p H H' → Sm P w p H' v → Q v H') → te σ H Q
def SmA (P : Program) (w : World) (p : Addr) (σ : L2.St) (n : Nat) (ta : TA) : Prop := ∀ H, Po p H → ∀ Q : List V → Hp → Prop, (∀ vs H', Xp p H H' → vs.length = n → (∀ v ∈ vs, Sm P w p H' v) → Q vs H') → ta σ H Q
theorem sa_nil : SmA P w p σ 0 tNil := fun H hp Q q => q [] H (.refl hp) rfl (fun _ z => nomatch z)
theorem sa_cons {n : Nat} {te : TE} {ta : TA} (h : SmE P w p σ te) (hr : SmA P w p σ n ta) : SmA P w p σ (n + 1) (tCons te ta) := fun H hp Q q =>
  h H hp _ fun v H1 x1 s1 => hr H1 x1.2 _ fun vs H2 x2 hl hs => q _ H2 (x1.trans x2) (by rw [List.length_cons, hl]) fun u hu => by
    rcases List.mem_cons.mp hu with rfl | hu
    · exact s1.on x2
    · exact hs u hu
theorem se_c {v : V} (h : ∀ H, Sm P w p H v) : SmE P w p σ (tC v) := fun H hp Q q => q v H (.refl hp) (h H)
/-- a display of constants -/
def CA (ta : TA) (vs : List V) : Prop := ∀ (σ : L2.St) (H : Hp) (Q : List V → Hp → Prop), Q vs H → ta σ H Q
theorem ca_nil : CA tNil [] := fun _ _ _ q => q
theorem ca_cons {v : V} {ta : TA} {vs : List V} (h : CA ta vs) : CA (tCons (tC v) ta) (v :: vs) := fun σ H Q q => h σ H _ q
theorem se_tup {ta : TA} {vs : List V} {ds : List PyData} (h : CA ta vs) (hr : Rok (.tuple ds)) (hz : vs.length ≤ 100000) (hd : ∀ H, Paired (Rw P w H) vs ds) (nd : PyData.hasDictAll ds = false) : SmE P w p σ (tTup ta) := fun H hp Q q =>
  h σ H _ ⟨sz_of hz, fun t ht => q _ _ (Xp.new hp ht) (sm_obj hr (by
    obtain ⟨o, e⟩ := hp.some
    exact (ne_of_none e ht).symm) upd_same fun H' e => rw_tup e (hd H') nd)⟩
theorem se_lst {ta : TA} {vs : List V} {ds : List PyData} (h : CA ta vs) (hr : Rok (.list ds)) (hz : vs.length ≤ 100000) (hd : ∀ H, Paired (Rw P w H) vs ds) (nd : PyData.hasDictAll ds = false) : SmE P w p σ (tLst ta) := fun H hp Q q =>
  h σ H _ ⟨sz_of hz, fun t ht => q _ _ (Xp.new hp ht) (sm_obj hr (by
    obtain ⟨o, e⟩ := hp.some
    exact (ne_of_none e ht).symm) upd_same fun H' e => rw_lst e (hd H') nd)⟩
end
section
variable {P : Program} {w : World} {p : Addr} {H H' : Hp} {σ : L2.St} {D : Ends} {tz : TS} {ta : TA} {i j n : Nat}
/-- a list of small data given to a name -/
theorem s_lstSm (h : SmA P w p σ n ta) (hp : Po p H) (hn : n ≤ 100000) (k : ∀ vs H1 l, Xp p H H1 → vs.length = n → (∀ v ∈ vs, Sm P w p H1 v) → H1 l = some (.lst vs) → l ≠ p → tz D (σ.set i (some (.ref l))) H1) : tSeq (tAsg (tLst ta) (gName i)) tz D σ H :=
  h H hp _ fun vs H1 x hl hs => ⟨sz_of (by omega), fun l nl => by
    have y := x.snew (o := .lst vs) nl
    refine k vs _ l y hl (fun v hv => (hs v hv).on (.new x.2 nl)) upd_same ?_
    obtain ⟨o, e⟩ := x.2.some
    exact (ne_of_none e nl).symm⟩
/-- .. one more list behind it -/
theorem s_catSm {l : Addr} {us : List V} {tj : TE} (hj : ∀ H (Q : VK), Q (.ref l) H → tj σ H Q) (e : H l = some (.lst us)) (hlp : l ≠ p) (hu : ∀ v ∈ us, Sm P w p H v) (h : SmA P w p σ n ta) (hp : Po p H) (hn : us.length + n ≤ 100000)
    (k : ∀ vs H1 l, Xp p H H1 → vs.length = us.length + n → (∀ v ∈ vs, Sm P w p H1 v) → H1 l = some (.lst vs) → l ≠ p → tz D (σ.set i (some (.ref l))) H1) : tSeq (tAsg (tOp rCat tj (tLst ta)) (gName i)) tz D σ H := by
  refine hj H _ (h H hp _ fun vs H1 x hl hs => ⟨sz_of (by omega), fun l2 n2 => ?_⟩)
  have e1 : (upd H1 l2 (.lst vs)) l = some (.lst us) := by
    rw [upd_ne (ne_of_none (x.1 l _ hlp e) n2)]
    exact x.1 l _ hlp e
  refine ⟨l, l2, us, vs, rfl, rfl, e1, upd_same, sz_of (by omega), fun l3 n3 => ?_⟩
  have y := x.snew (o := .lst vs) n2
  have y3 := y.snew (o := .lst (us ++ vs)) n3
  refine k _ _ l3 y3 (by rw [List.length_append, hl]) (fun v hv => ?_) upd_same ?_
  · rcases List.mem_append.mp hv with hv | hv
    · exact (hu v hv).on y3
    · exact ((hs v hv).on (.new x.2 n2)).on (.new y.2 n3)
  · obtain ⟨o, eo⟩ := y.2.some
    exact (ne_of_none eo n3).symm
end
/-- the texts of small lists -/
theorem lst_rok {ds : List PyData} (h : ∀ d ∈ ds, Rok d) (hn : ds.length ≤ 1000) : PyData.showableAll ds = true ∧ (listText (PyData.shownAll ds)).length ≤ sizeLine ∧ PyData.depthAll ds ≤ 40 := by
  have key : ∀ ds : List PyData, (∀ d ∈ ds, Rok d) → PyData.showableAll ds = true ∧ ((PyData.shownAll ds).map (·.length)).sum ≤ 2500 * ds.length ∧ (PyData.shownAll ds).length = ds.length ∧ PyData.depthAll ds ≤ 10 := by
    intro ds
    induction ds with
    | nil => intro _; exact ⟨rfl, by simp [PyData.shownAll], by simp [PyData.shownAll], by simp [PyData.depthAll]⟩
    | cons d ds ih =>
      intro h
      obtain ⟨a, b, c, e⟩ := ih fun x hx => h x (List.mem_cons_of_mem _ hx)
      obtain ⟨h1, h2, h3⟩ := h d (List.mem_cons_self ..)
      refine ⟨by simp [PyData.showableAll, h1, a], ?_, by simp [PyData.shownAll, c], by simp only [PyData.depthAll]; omega⟩
      simp only [PyData.shownAll, List.map_cons, List.sum_cons, List.length_cons]
      omega
  obtain ⟨a, b, c, e⟩ := key ds h
  refine ⟨a, ?_, by omega⟩
  have := listText_len_le (PyData.shownAll ds)
  rw [sizeLine_eq]
  omega
end Lw
namespace Lw
open PySem PySem.Spec PyProof.Rows L2 Evl
/-! ### repr of any small value, of a list of such -/
def rReprV (P : Program) (w : World) : List V → Hp → VK → Prop := fun xs H Q => ∃ (v : V) (d : PyData), xs = [v] ∧ Rw P w H v d ∧ Rok d ∧ Q (.str d.shown) H
def rRepr (P : Program) (w : World) : List V → Hp → VK → Prop := fun xs H Q => rReprL P w xs H Q ∨ rReprV P w xs H Q
theorem call_reprV {X : Cx} (gd : X.A.guards = some []) (hu : X.A.units + 64 < cLine) : CallR X (.builtin "repr") (rReprV X.prog X.w) := by
  intro pins s σ H xs us Q I r h
  obtain ⟨v, d, rfl, hr, ⟨h1, h2, h3⟩, q⟩ := h
  cases r with
  | cons rx rr =>
    cases rr
    rename_i u
    have hz : d.shown.length ≤ sizeLine := by rw [sizeLine_eq]; omega
    obtain ⟨as, rd, hm⟩ := hr s.heap I.hok u rx
    have fin : ∀ h' t tk, (∀ b o, s.heap.get? b = some o → h'.get? b = some o) → EP X pins σ Q (.str d.shown t) { s with heap := h', toks := tk } :=
      fun h' t tk k => ⟨.str d.shown, H, I.kept k, ⟨t, rfl⟩, q⟩
    cases u with
    | ref a => exact repr_of_reads' rd h1 hm gd (by omega) (fun _ _ z => z) (fun h' t tk k => fin h' t tk k) hz
    | none =>
      cases rd
      simp only [PyData.shown] at fin
      exact PySem.P.repr_of_none (fin _ _ _ fun _ _ z => z)
    | bool b =>
      cases rd
      simp only [PyData.shown] at fin
      refine PySem.P.repr_of_bool ?_
      cases b
      · exact fin _ _ _ fun _ _ z => z
      · exact fin _ _ _ fun _ _ z => z
    | int i t =>
      cases rd
      simp only [PyData.shown] at fin
      exact PySem.P.repr_of_int (by simpa [PyData.showable] using h1) (fin _ _ _ fun _ _ z => z)
    | str x t =>
      cases rd
      simp only [PyData.shown] at fin hz
      exact PySem.P.repr_of_str (fin _ _ _ fun _ _ z => z) hz
    | _ => cases rd
theorem call_repr {X : Cx} (gd : X.A.guards = some []) (hu : X.A.units + 64 < cLine) : CallR X (.builtin "repr") (rRepr X.prog X.w) := by
  intro pins s σ H xs us Q I r h
  rcases h with h | h
  · exact call_reprL gd hu pins s σ H xs us Q I r h
  · exact call_reprV gd hu pins s σ H xs us Q I r h
section
variable {P : Program} {w : World} {K : PySem.W.Frag} {σ : L2.St} {H : Hp} {te : TE} {xs : List V} {ds : List PyData}
theorem ev_reprL (h : EvL te σ H xs) (hd : ∀ H1, Ex H H1 → Paired (Rw P w H1) xs ds) (hr : ∀ d ∈ ds, Rok d) (hn : ds.length ≤ 1000) : Ev (tCB (rRepr P w) (tCons te tNil)) σ H (.str (listText (PyData.shownAll ds))) := fun H1 e Q q =>
  h H1 e _ fun p H2 hp e2 hl => by
    obtain ⟨a, b, c⟩ := lst_rok hr hn
    exact .inl ⟨p, xs, ds, rfl, hl, hd H2 (e.trans e2), a, b, c, q H2 e2⟩
theorem ev_reprV {v : V} {d : PyData} (h : Ev te σ H v) (hd : ∀ H1, Ex H H1 → Rw P w H1 v d) (hr : Rok d) : Ev (tCB (rRepr P w) (tCons te tNil)) σ H (.str d.shown) := fun H1 e Q q =>
  h H1 e _ fun H2 e2 => .inr ⟨v, d, rfl, hd H2 (e.trans e2), hr, q H2 e2⟩
end
/-! ### lists of truths -/
theorem dpa_bools {K : PySem.W.Frag} {H : Hp} : ∀ bs : List Bool, DpAll K H (bs.map V.bl) (bs.map PyData.bool)
  | [] => .nil
  | b :: bs => .cons (.bl b) (dpa_bools bs)
theorem dp_bools {K : PySem.W.Frag} {H : Hp} {p : Addr} {bs : List Bool} (h : H p = some (.lst (bs.map V.bl))) : Dp K H (.ref p) (.list (bs.map PyData.bool)) := .lst (SqL.of h) (dpa_bools bs)
theorem lay_bools : ∀ bs : List Bool, PyData.canLayAll0 (bs.map PyData.bool) = true ∧ PyData.depthAll (bs.map PyData.bool) = 0
  | [] => ⟨rfl, rfl⟩
  | b :: bs => by
    obtain ⟨h1, h2⟩ := lay_bools bs
    exact ⟨by simp [PyData.canLayAll0, PyData.canLay0, h1], by simp [PyData.depthAll, PyData.depth, h2]⟩
theorem shaped_bools (bs : List Bool) : SeqAt.shaped (.list (bs.map PyData.bool)) = true := by
  obtain ⟨h1, h2⟩ := lay_bools bs
  simp [SeqAt.shaped, PyData.canLay0, PyData.depth, h1, h2]
theorem eqv_bools (bs : List Bool) : PyData.eqv (.list (bs.map PyData.bool)) (.list (bs.map PyData.bool)) = true := by
  obtain ⟨h1, _⟩ := lay_bools bs
  exact SeqAt.eqv_refl _ (by simp [PyData.canLay0, h1])
section
variable {K : PySem.W.Frag} {σ : L2.St} {H : Hp} {ta tb : TE}
/-- two new lists of the same truths are not unlike -/
theorem ev_sameB {bs : List Bool} {xs ys : List V} (ha : EvL ta σ H xs) (hb : EvL tb σ H ys) (hx : xs = bs.map V.bl) (hy : ys = bs.map V.bl) : Ev (tOp (rNeD K) ta tb) σ H (.bl false) := by
  subst hx hy
  have z := ev_neD (K := K) ha hb (d := .list (bs.map PyData.bool)) (e := .list (bs.map PyData.bool)) (fun H1 p _ h => dp_bools h) (fun H1 p _ h => dp_bools h) (shaped_bools bs) (shaped_bools bs)
  rw [eqv_bools bs] at z
  exact z
theorem given_all (n : Nat) (v : Nat → V) : given n (fun _ => true) v = (List.range n).map v := by
  unfold given
  rw [List.filter_eq_self.mpr (fun _ _ => rfl)]
theorem et_yes : EvT tYes σ H true := fun H1 e Q q => q H1 (Ex.refl H1)
end
/-- parts of a list -/
theorem cut_to (xs : List V) (n : Nat) (h : n ≤ xs.length) : cutV xs none (some (n : Int)) = xs.take n := by
  unfold cutV
  rw [show HT.sIx xs.length xs.length (some (n : Int)) = min n xs.length from HT.sIx_nat _ _ n, HT.sIx_none]
  rw [Nat.min_eq_left h, List.drop_zero, Nat.sub_zero]
theorem cut_mid (xs : List V) (m n : Nat) (h : n ≤ xs.length) (hm : m ≤ n) : cutV xs (some (m : Int)) (some (n : Int)) = (xs.drop m).take (n - m) := by
  unfold cutV
  rw [show HT.sIx xs.length xs.length (some (n : Int)) = min n xs.length from HT.sIx_nat _ _ n, show HT.sIx xs.length 0 (some (m : Int)) = min m xs.length from HT.sIx_nat _ _ m]
  rw [Nat.min_eq_left h, Nat.min_eq_left (Nat.le_trans hm h)]
/-! ### the rules whose readings name what the top has written, K said -/
section
variable {X : Cx} {K : PySem.W.Frag}
theorem op_inK (h : X.K = K := by rfl) : OpR X (compareOp .In) (rIn K false) := h ▸ op_in_seq
theorem op_notInK (h : X.K = K := by rfl) : OpR X (compareOp .NotIn) (rIn K true) := h ▸ op_notIn_seq
theorem ix_listK (h : X.K = K := by rfl) : IxR X (rIxL K) := h ▸ ix_list
theorem ix_tupK (h : X.K = K := by rfl) : IxR X (rIxT K) := h ▸ ix_tup
theorem sl_listK (h : X.K = K := by rfl) : SlR X (rSlL K) := h ▸ sl_list
theorem op_neDK (hu : X.A.units + 64 < cLine) (h : X.K = K := by rfl) : OpR X (compareOp .NotEq) (rNeD K) := h ▸ op_neD hu
theorem op_eqDK (hu : X.A.units + 64 < cLine) (h : X.K = K := by rfl) : OpR X (compareOp .Eq) (rEqD K) := h ▸ op_eqD hu
theorem call_isXK (h : X.K = K := by rfl) : CallR X (.builtin "isinstance") (rIsX K) := h ▸ call_isX
theorem cr_allK (hc : X.calm = true := by rfl) (h : X.K = K := by rfl) : CallR X (.builtin "all") (rAll K) := h ▸ cr_all hc
theorem call_lenK (h : X.K = K := by rfl) : CallR X (.builtin "len") (rLenS K) := by
  subst h
  exact call_len_seq
theorem call_reprK {P : Program} {w : World} (gd : X.A.guards = some []) (hu : X.A.units + 64 < cLine) (h : X.prog = P := by rfl) (h2 : X.w = w := by rfl) : CallR X (.builtin "repr") (rRepr P w) := by
  subst h h2
  exact call_repr gd hu
theorem pe_xatK {e : Expr} {te : TE} {f : Str} {pos : Pos} (he : PE X e te) (h : X.K = K := by rfl) (hb : attributeBase e f X.env (eval e X.env) = eval e X.env := by rfl) : PE X (.Attribute e f pos) (tXat K f te) := h ▸ pe_xat he hb
theorem pi_listK {tg e : Expr} {te : TE} (he : PE X e te) (h : X.K = K := by rfl) : PI X tg e (iList K te) := by
  subst h
  exact pi_list he
end
end Lw
namespace Lw
open PySem PySem.Spec PyProof.Rows L2 Evl TL
/-! ### letters -/
/-- the sign's place in the alphabet -/
def abc : List Nat := (List.range 26).map (97 + ·)
def sgn (c : Nat) : Str := ⟨#[c]⟩
/-- a letter: one to eight signs of the alphabet -/
def isL (s : Str) : Bool := (1 ≤ s.cps.toList.length && s.cps.toList.length ≤ 8) && s.cps.toList.all fun c => 97 ≤ c && c ≤ 122
theorem isL_iff {s : Str} : isL s = true ↔ (1 ≤ s.cps.toList.length ∧ s.cps.toList.length ≤ 8) ∧ ∀ c ∈ s.cps.toList, 97 ≤ c ∧ c ≤ 122 := by
  unfold isL
  rw [Bool.and_eq_true, Bool.and_eq_true, decide_eq_true_iff, decide_eq_true_iff, List.all_eq_true]
  exact ⟨fun ⟨a, b⟩ => ⟨a, fun c hc => by
    obtain ⟨x, y⟩ := Bool.and_eq_true_iff.mp (b c hc)
    exact ⟨of_decide_eq_true x, of_decide_eq_true y⟩⟩, fun ⟨a, b⟩ => ⟨a, fun c hc => Bool.and_eq_true_iff.mpr ⟨decide_eq_true (b c hc).1, decide_eq_true (b c hc).2⟩⟩⟩
theorem tl_sgn (c : Nat) : (sgn c).cps.toList = [c] := rfl
theorem sgn_inj {c d : Nat} (h : sgn c = sgn d) : c = d := by
  have e : (sgn c).cps.toList = (sgn d).cps.toList := by rw [h]
  rw [tl_sgn, tl_sgn] at e
  injection e
theorem isL_sgn {c : Nat} (h : 97 ≤ c) (h2 : c ≤ 122) : isL (sgn c) = true := isL_iff.mpr ⟨by rw [tl_sgn]; exact ⟨Nat.le_refl 1, (by decide : 1 ≤ 8)⟩, fun d hd => by
  rw [tl_sgn] at hd
  cases List.mem_singleton.mp hd
  exact ⟨h, h2⟩⟩
theorem len_cps (s : Str) : s.length = s.cps.toList.length := by simp [Str.length]
theorem isL_len {s : Str} (h : isL s = true) : 1 ≤ s.length ∧ s.length ≤ 8 := by
  rw [len_cps]
  exact (isL_iff.mp h).1
theorem tl_app (x y : Str) : (x ++ y).cps.toList = x.cps.toList ++ y.cps.toList := tl_append x y
theorem isL_app {s : Str} {c : Nat} (h : isL s = true) (hl : s.length < 8) (h1 : 97 ≤ c) (h2 : c ≤ 122) : isL (s ++ sgn c) = true := by
  obtain ⟨⟨a, b⟩, d⟩ := isL_iff.mp h
  rw [len_cps] at hl
  refine isL_iff.mpr ⟨?_, fun e he => ?_⟩
  · rw [tl_app, List.length_append, tl_sgn]
    exact ⟨by omega, by show s.cps.toList.length + 1 ≤ 8; omega⟩
  · rw [tl_app, tl_sgn] at he
    rcases List.mem_append.mp he with z | z
    · exact d e z
    · cases List.mem_singleton.mp z
      exact ⟨h1, h2⟩
/-- signs put together -/
theorem isL_join {cs : List Nat} (h : ∀ c ∈ cs, 97 ≤ c ∧ c ≤ 122) (h1 : 1 ≤ cs.length) (h8 : cs.length ≤ 8) : isL (Str.join (Str.ofString "") (cs.map sgn)) = true := by
  have e : ∀ cs : List Nat, joinL [] ((cs.map sgn).map tl) = cs := fun cs => by
    induction cs with
    | nil => rfl
    | cons c r ih =>
      cases r with
      | nil => rfl
      | cons d r =>
        show [c] ++ ([] ++ joinL [] (([d] : List Nat) :: (r.map sgn).map tl)) = _
        have ih2 : joinL [] (([d] : List Nat) :: (r.map sgn).map tl) = d :: r := ih
        rw [ih2]
        rfl
  have z : tl (Str.join (Str.ofString "") (cs.map sgn)) = cs := by
    rw [tl_join, show tl (Str.ofString "") = [] from rfl, e]
  refine isL_iff.mpr ⟨?_, fun c hc => ?_⟩
  · rw [show (Str.join (Str.ofString "") (cs.map sgn)).cps.toList = cs from z]
    exact ⟨h1, h8⟩
  · rw [show (Str.join (Str.ofString "") (cs.map sgn)).cps.toList = cs from z] at hc
    exact h c hc
/-! ### a list without repeats within another is no longer -/
theorem nodup_le {α : Type} [DecidableEq α] : ∀ {l m : List α}, l.Nodup → (∀ x ∈ l, x ∈ m) → l.length ≤ m.length
  | [], _, _, _ => Nat.zero_le _
  | x :: l, m, h, hs => by
    obtain ⟨hx, hl⟩ := List.nodup_cons.mp h
    have mx : x ∈ m := hs x List.mem_cons_self
    have z := nodup_le (m := m.erase x) hl fun y hy => (List.mem_erase_of_ne (fun e => hx (by rw [← e]; exact hy))).mpr (hs y (List.mem_cons_of_mem _ hy))
    rw [List.length_erase_of_mem mx] at z
    have : 0 < m.length := List.length_pos_of_mem mx
    show l.length + 1 ≤ m.length
    omega
theorem inV_str {x : Str} {xs : List Str} : inV (.str x) (xs.map V.str) = decide (x ∈ xs) := by
  unfold inV
  induction xs with
  | nil => rfl
  | cons y r ih =>
    rw [List.map_cons, List.any_cons, ih]
    by_cases h : y = x
    · subst h
      simp [eqV]
    · simp [eqV, h, Ne.symm h]
theorem flat_str (xs : List Str) : (xs.map V.str).all flatV = true := by
  rw [List.all_map]
  exact List.all_eq_true.mpr fun _ _ => rfl
theorem dpa_str {K : PySem.W.Frag} {H : Hp} : ∀ xs : List Str, DpAll K H (xs.map V.str) (xs.map PyData.str)
  | [] => .nil
  | x :: xs => .cons (.str x) (dpa_str xs)
end Lw
namespace Lw
open PySem PySem.Spec PyProof.Rows L2 Evl TL
theorem strOk_of {s : Str} (h : isL s = true) : PyData.strOk s = true := by
  obtain ⟨_, d⟩ := isL_iff.mp h
  show s.cps.all (· < 0x110000) = true
  rw [← Array.all_toList]
  exact List.all_eq_true.mpr fun c hc => decide_eq_true (by have := d c hc; omega)
theorem lay_strs : ∀ {xs : List Str}, (∀ x ∈ xs, PyData.strOk x = true) → PyData.canLayAll0 (xs.map PyData.str) = true ∧ PyData.depthAll (xs.map PyData.str) = 0
  | [], _ => ⟨rfl, rfl⟩
  | x :: xs, h => by
    obtain ⟨h1, h2⟩ := lay_strs fun y hy => h y (List.mem_cons_of_mem _ hy)
    exact ⟨by simp [PyData.canLayAll0, PyData.canLay0, h1, h x List.mem_cons_self], by simp [PyData.depthAll, PyData.depth, h2]⟩
theorem shaped_strs {xs : List Str} (h : ∀ x ∈ xs, PyData.strOk x = true) : SeqAt.shaped (.list (xs.map PyData.str)) = true := by
  obtain ⟨h1, h2⟩ := lay_strs h
  simp [SeqAt.shaped, PyData.canLay0, PyData.depth, h1, h2]
theorem shaped_strsT {xs : List Str} (h : ∀ x ∈ xs, PyData.strOk x = true) : SeqAt.shaped (.tuple (xs.map PyData.str)) = true := by
  obtain ⟨h1, h2⟩ := lay_strs h
  simp [SeqAt.shaped, PyData.canLay0, PyData.depth, h1, h2]
theorem tt_if {b : Bool} {p q : Prop} (h1 : b = true → p) (h2 : b = false → q) : if b = true then p else q := by
  cases b
  · exact h2 rfl
  · exact h1 rfl
end Lw
namespace Lw
open PySem PySem.Spec PyProof.Rows L2 Evl TL
section
variable {X : Cx} {K : PySem.W.Frag}
def rJoin (K : PySem.W.Frag) : V → List V → Hp → VK → Prop := fun x xs H Q => ∃ a p, ∃ ys : List Str, x = .str a ∧ xs = [.ref p] ∧ (SqL K H p (ys.map V.str) ∨ SqT K H p (ys.map V.str)) ∧ (ys.map (·.length)).sum + ys.length * a.length ≤ 16777216 ∧ Q (.str (Txt.join a ys)) H
theorem pe_joinK {o e : Expr} {to te : TE} {apos pos : Pos} (ho : PE X o to) (he : PE X e te) (h : X.K = K := by rfl) (hs : starEach [e] X.env = [(false, eval e X.env)] := by rfl) (hbase : attributeBase o "join" X.env (eval o X.env) = eval o X.env := by rfl) (hline : (apos.endLine == pos.line) = true := by rfl) :
    PE X (.Call (.Attribute o "join" apos) [e] [] pos) (tM1 (rJoin K) to te) := by
  subst h
  exact pe_join ho he hs hbase hline
end
end Lw
namespace Lw
open PySem PySem.Spec PyProof.Rows L2 Evl TL
theorem Xp.back {p D : Addr} {H H1 : Hp} (x : Xp p H H1) (hD : H1 D = none) : H D = none := by
  have ne : D ≠ p := fun e => by
    obtain ⟨o, ho⟩ := x.2.some
    rw [e, ho] at hD
    cases hD
  cases e : H D with
  | none => rfl
  | some o =>
    rw [x.1 _ _ ne e] at hD
    cases hD
theorem Xp.own {p D : Addr} {H H3 : Hp} {o : HO} (x : Xp p H H3) (hD : H D = none) (ne : D ≠ p) : Xp p H (upd H3 D o) := by
  refine ⟨fun a u na ea => ?_, ?_⟩
  · rw [upd_ne (ne_of_none ea hD)]
    exact x.1 a u na ea
  · obtain ⟨i, j, e, r⟩ := x.2
    exact ⟨i, j, by rw [upd_ne ne.symm]; exact e, r⟩
theorem sum_sgn : ∀ cs : List Nat, ((cs.map sgn).map (·.length)).sum = cs.length
  | [] => rfl
  | c :: cs => by
    rw [List.map_cons, List.map_cons, List.sum_cons, sum_sgn cs, List.length_cons, show (sgn c).length = 1 from rfl]
    omega
theorem tand_raw {t u : TT} {σ : L2.St} {H : Hp} {Q : Bool → Hp → Prop} (h : t σ H fun b H1 => if b = true then u σ H1 Q else Q false H1) : tAnd t u σ H Q := h
end Lw
namespace Lw
open PySem PySem.Spec PyProof.Rows L2 Evl TL
theorem atI_end {xs : List Str} (h : xs ≠ []) : ∃ s, s ∈ xs ∧ atI (xs.map V.str) (-1) = some (.str s) := by
  refine ⟨xs.getLast h, List.getLast_mem h, ?_⟩
  have e : xs = xs.dropLast ++ [xs.getLast h] := (List.dropLast_concat_getLast h).symm
  have z := L2.atI_last (xs.dropLast.map V.str) (V.str (xs.getLast h))
  have e2 : xs.map V.str = xs.dropLast.map V.str ++ [V.str (xs.getLast h)] := by
    conv => lhs; rw [e]
    rw [List.map_append]
    rfl
  rw [e2]
  exact z
end Lw
namespace Lw
open PySem PySem.Spec PyProof.Rows L2 Evl TL
/-- the first n letters of one sign -/
def firsts (n : Nat) : List Str := (List.range n).map fun j => sgn (97 + j)
theorem firsts_succ (n : Nat) : firsts (n + 1) = firsts n ++ [sgn (97 + n)] := by
  unfold firsts
  rw [List.range_succ, List.map_append]
  rfl
theorem firsts_len (n : Nat) : (firsts n).length = n := by
  unfold firsts
  rw [List.length_map, List.length_range]
theorem firsts_nodup (n : Nat) : (firsts n).Nodup := by
  unfold firsts
  have z : (List.range n).Pairwise (fun a b => a ≠ b) := List.nodup_range
  refine List.pairwise_map.mpr (z.imp fun {a b} h (e : sgn (97 + a) = sgn (97 + b)) => h ?_)
  have := sgn_inj e
  omega
theorem firsts_isL {n : Nat} (h : n ≤ 26) {s : Str} (hs : s ∈ firsts n) : isL s = true := by
  obtain ⟨j, hj, rfl⟩ := List.mem_map.mp hs
  have := List.mem_range.mp hj
  exact isL_sgn (by omega) (by omega)
end Lw
namespace Lw
open PySem PySem.Spec PyProof.Rows L2 Evl TL
section
variable {X : Cx} {K : PySem.W.Frag}
theorem call_isiK1 (h : X.K = K := by rfl) : CallR X (.builtin "isinstance") (rIsi K) := h ▸ call_isi
theorem pi_tupK {tg e : Expr} {te : TE} (he : PE X e te) (h : X.K = K := by rfl) : PI X tg e (iTup K te) := by
  subst h
  exact pi_tup he
theorem ix_tupK2 (h : X.K = K := by rfl) : IxR X (rIxT K) := h ▸ ix_tup
end
/-- what a value tells when it is asked whether it is a letter -/
inductive LB (K : PySem.W.Frag) (H : Hp) : V → Bool → Prop
  | str (s : Str) (h : s.length ≤ 100000) : LB K H (.str s) (isL s)
  | oth {v : V} {t : String} (h : TyX K H v (.type t)) (hn : kitB t "str" = some false) : LB K H v false
theorem kitB_str : kitB "str" "str" = some true := rfl
theorem isL_app0 (s : Str) : isL s = ((decide (1 ≤ s.length) && decide (s.length ≤ 8)) && s.cps.toList.all fun c => decide (97 ≤ c) && decide (c ≤ 122)) := by
  unfold isL
  rw [len_cps]
end Lw
namespace Lw
open PySem PySem.Spec PyProof.Rows L2 Evl TL
section
variable {K : PySem.W.Frag} {σ : L2.St} {H : Hp} {te tz : TE}
/-- over the signs of a text -/
theorem el_lcS {z : Str} {j : Nat} {vs : List Nat} (v : Nat → V) (h : Ev tz σ H (.str z)) (hz : z.cps.size ≤ 40000) (hw : ∀ x, wipe ((wipe σ vs).set j (some x)) vs = wipe σ vs)
    (he : ∀ (i c : Nat) H1, Ex H H1 → z.cps[i]? = some c → Ev te ((wipe σ vs).set j (some (.str ⟨#[c]⟩))) H1 (v i)) :
    EvL (tLc (iStr tz) (gName j) tYes te vs) σ H ((List.range z.cps.size).map v) := fun H0 e Q q => h H0 e _ fun H1 e1 => ⟨z, rfl, fun Dl hD =>
  lc_it walk_str (Cw H1 (fun _ => true) v Dl) ⟨hD, Ex.new hD, upd_same⟩ (fun _ _ _ _ => trivial) (fun i x H' H'' hi p y => by
    obtain ⟨rfl, c, hc, rfl⟩ := y
    exact ⟨hw _, cw_turn p (by omega) et_yes (fun _ => he i c H1 (e.trans e1) hc)⟩) (fun H' p => q Dl H' (fresh_back e1 p.1) (e1.trans p.2.1) (by rw [← given_all]; exact p.2.2))⟩
/-- over a tuple -/
theorem el_lcT {a : Addr} {xs : List V} {j : Nat} {vs : List Nat} (v : Nat → V) (h : Ev tz σ H (.ref a)) (hx : SqT K H a xs) (hz : xs.length ≤ 40000) (hw : ∀ x, wipe ((wipe σ vs).set j (some x)) vs = wipe σ vs)
    (he : ∀ (i : Nat) (x : V) H1, Ex H H1 → xs[i]? = some x → Ev te ((wipe σ vs).set j (some x)) H1 (v i)) :
    EvL (tLc (iTup K tz) (gName j) tYes te vs) σ H ((List.range xs.length).map v) := fun H0 e Q q => h H0 e _ fun H1 e1 => ⟨a, rfl, ⟨xs, ex_t (e.trans e1) hx⟩, fun Dl hD =>
  lc_it walk_tup (Cw H1 (fun _ => true) v Dl) ⟨hD, Ex.new hD, upd_same⟩ (fun i H' _ p => ex_t ((e.trans e1).trans p.2.1) hx) (fun i x H' H'' hi p y => by
    obtain ⟨rfl, hy⟩ := y
    exact ⟨hw _, cw_turn p (by omega) et_yes (fun _ => he i x H1 (e.trans e1) hy)⟩) (fun H' p => q Dl H' (fresh_back e1 p.1) (e1.trans p.2.1) (by rw [← given_all]; exact p.2.2))⟩
theorem ev_all {bs : List Bool} {xs : List V} (h : EvL te σ H xs) (hx : xs = bs.map V.bl) : Ev (tCB (rAll K) (tCons te tNil)) σ H (.bl (bs.all id)) := fun H1 e Q q => h H1 e _ fun p H2 _ e2 hl => ⟨p, bs, rfl, SqL.of (by rw [← hx]; exact hl), q H2 e2⟩
theorem ev_isi {v : V} {t cls : String} {b : Bool} (h : Ev te σ H v) (ht : ∀ H1, Ex H H1 → TyX K H1 v (.type t)) (hk : kitB t cls = some b) : Ev (tCB (rIsi K) (tCons te (tCons (tC (.ty cls)) tNil))) σ H (.bl b) := fun H1 e Q q =>
  h H1 e _ fun H2 e2 => ⟨v, .ty cls, .type t, .type cls, b, rfl, .ty cls, ht H2 (e.trans e2), hk, q H2 e2⟩
def rLenStr : List V → Hp → VK → Prop := fun xs H Q => ∃ z, xs = [.str z] ∧ z.length ≤ sizeLine ∧ Q (.int z.length) H
theorem ev_lenS {z : Str} (h : Ev te σ H (.str z)) (hz : z.length ≤ 100000) : Ev (tCB (fun xs H Q => ∃ z, xs = [V.str z] ∧ z.length ≤ sizeLine ∧ Q (V.int z.length) H) (tCons te tNil)) σ H (.int (z.length : Int)) := fun H1 e Q q =>
  h H1 e _ fun H2 e2 => ⟨z, rfl, sz_of hz, q H2 e2⟩
theorem et_chainI {f g : Int → Int → Bool} {ta tb tc : TE} {i j k : Int} (ha : Ev ta σ H (.int i)) (hb : Ev tb σ H (.int j)) (hc : Ev tc σ H (.int k)) :
    EvT (tTest (tChain (rI0 fun i j => V.bl (f i j)) (rI0 fun i j => V.bl (g i j)) ta tb tc)) σ H (f i j && g j k) := fun H1 e Q q => ha H1 e _ fun H2 e2 => hb H2 (e.trans e2) _ fun H3 e3 => ⟨i, j, rfl, rfl, f i j, rfl, by
    revert q
    cases f i j with
    | true => exact fun q => hc H3 ((e.trans e2).trans e3) _ fun H4 e4 => ⟨j, k, rfl, rfl, g j k, rfl, q H4 ((e2.trans e3).trans e4)⟩
    | false => exact fun q => ⟨false, rfl, q H3 (e2.trans e3)⟩⟩
end
theorem tyx_mono {K : PySem.W.Frag} {H H1 : Hp} {v : V} {t : Value} (e : Ex H H1) (h : TyX K H v t) : TyX K H1 v t := by
  cases h with
  | base b =>
    refine .base ?_
    cases b with
    | non => exact .non
    | bl y => exact .bl y
    | int i => exact .int i
    | str y => exact .str y
    | flt y => exact .flt y
    | lst ea => exact .lst (e _ _ ea)
    | frz ea => exact .frz (e _ _ ea)
    | tup ea => exact .tup (e _ _ ea)
    | dK ea => exact .dK (e _ _ ea)
    | dT ea => exact .dT (e _ _ ea)
    | ins ea cl ha hn htk hm => exact .ins (e _ _ ea) cl ha hn htk hm
  | byt b => exact .byt b
  | set ea => exact .set (e _ _ ea)
  | kList ea c => exact .kList ea c
  | kTuple ea c => exact .kTuple ea c
  | kDict ea c => exact .kDict ea c
  | fTuple ea => exact .fTuple (e _ _ ea)
  | fDict ea => exact .fDict (e _ _ ea)
end Lw
namespace Lw
open PySem PySem.Spec PyProof.Rows L2 Evl TL
theorem range_get {α β : Type} (l : List α) (d : α) (g : α → β) : (List.range l.length).map (fun i => g (l.getD i d)) = l.map g := by
  refine List.ext_getElem (by simp) fun i h1 h2 => ?_
  rw [List.getElem_map, List.getElem_map, List.getElem_range]
  have hi : i < l.length := by simpa using h2
  congr 1
  rw [List.getD_eq_getElem?_getD, List.getElem?_eq_getElem hi]
  rfl
def rLeS : R2 := fun x y H Q => ∃ i j, x = .str i ∧ y = .str j ∧ Q (.bl (!decide (j.cps.toList < i.cps.toList))) H
def leS (a b : Str) : Bool := !decide (b.cps.toList < a.cps.toList)
theorem ev_chainS {σ : L2.St} {H : Hp} {ta tb tc : TE} {a b c : Str} (ha : Ev ta σ H (.str a)) (hb : Ev tb σ H (.str b)) (hc : Ev tc σ H (.str c)) :
    Ev (tChain (fun x y H Q => ∃ i j, x = V.str i ∧ y = V.str j ∧ Q (V.bl !decide (j.cps.toList < i.cps.toList)) H) (fun x y H Q => ∃ i j, x = V.str i ∧ y = V.str j ∧ Q (V.bl !decide (j.cps.toList < i.cps.toList)) H) ta tb tc) σ H (.bl (leS a b && leS b c)) := fun H1 e Q q => ha H1 e _ fun H2 e2 => hb H2 (e.trans e2) _ fun H3 e3 => ⟨a, b, rfl, rfl, leS a b, rfl, by
    revert q
    cases leS a b with
    | true => exact fun q => hc H3 ((e.trans e2).trans e3) _ fun H4 e4 => ⟨b, c, rfl, rfl, q H4 ((e2.trans e3).trans e4)⟩
    | false => exact fun q => q H3 (e2.trans e3)⟩
theorem lt_one (c d : Nat) : decide (([c] : List Nat) < [d]) = decide (c < d) := by
  refine decide_eq_decide.mpr ?_
  simp [List.cons_lt_cons_iff]
theorem leS_sgn (c d : Nat) : leS (sgn c) (sgn d) = decide (c ≤ d) := by
  unfold leS
  rw [tl_sgn, tl_sgn, lt_one]
  by_cases h : c ≤ d
  · rw [decide_eq_true h, decide_eq_false (by omega)]
    rfl
  · rw [decide_eq_false h, decide_eq_true (by omega)]
    rfl
end Lw
namespace Lw
open PySem PySem.Spec PyProof.Rows L2 Evl TL
section
variable {K : PySem.W.Frag} {σ : L2.St} {H : Hp} {te : TE}
theorem ev_lenT {p : Addr} {xs : List V} (ha : Ev te σ H (.ref p)) (h : SqT K H p xs) : Ev (tCB (rLenS K) (tCons te tNil)) σ H (.int (xs.length : Int)) := fun H1 e Q q =>
  ha H1 e _ fun H2 e2 => ⟨p, xs, rfl, .inr (ex_t (e.trans e2) h), q H2 e2⟩
end
/-- what a value tells when it is asked whether it is a word -/
inductive WB (K : PySem.W.Frag) (H : Hp) : V → Bool → Prop
  | tup {a : Addr} {vs : List V} {bs : List Bool} (h : SqT K H a vs) (ht : TyX K H (.ref a) (.type "tuple")) (hl : vs.length ≤ 40000) (hb : Paired (LB K H) vs bs) : WB K H (.ref a) (decide (vs.length ≤ 3) && bs.all id)
  | oth {v : V} {t : String} (h : TyX K H v (.type t)) (hn : kitB t "tuple" = some false) : WB K H v false
theorem lb_mono {K : PySem.W.Frag} {H H1 : Hp} {v : V} {b : Bool} (e : Ex H H1) (h : LB K H v b) : LB K H1 v b := by
  cases h with
  | str s hs => exact .str s hs
  | oth ht hn => exact .oth (tyx_mono e ht) hn
theorem paired_mono {α β : Type} {R S : α → β → Prop} (h : ∀ a b, R a b → S a b) : ∀ {xs : List α} {ys : List β}, Paired R xs ys → Paired S xs ys
  | _, _, .nil => .nil
  | _, _, .cons r t => .cons (h _ _ r) (paired_mono h t)
end Lw
namespace Lw
open PySem PySem.Spec PyProof.Rows L2 Evl TL
section
variable {X : Cx} {K : PySem.W.Frag}
/-- a statement that is not reached -/
def tDead : TS := fun _ _ _ => False
theorem ps_dead {st : Stmt} : PS X st tDead := ⟨fun _ _ _ _ _ _ h => h.elim⟩
theorem op_catAK (h : X.K = K := by rfl) : OpR X (binaryOp .Add) (rCatA K) := h ▸ op_catA
theorem sl_tupAK (h : X.K = K := by rfl) : SlR X (rSlA K) := h ▸ sl_tupA
theorem pt_truthK {a : Expr} {ta : TE} (ha : PE X a ta) (h : X.K = K := by rfl) (he : ∀ whole, isTrue a X.env whole = (do let v ← whole; standAt a.pos; holding [v] (truthy v)) := by intro _; rfl) :
    PT X a (fun σ H Q => ta σ H fun x H' => ∃ k, TruV K x H' k ∧ Q k H') := by
  subst h
  exact pt_truth ha he
end
theorem tyx_tup {K : PySem.W.Frag} {H : Hp} {a : Addr} {xs : List V} (h : SqT K H a xs) : TyX K H (.ref a) (.type "tuple") := by
  rcases h with (h | ⟨o, h⟩) | ⟨o, its, n, h, c, _⟩
  · exact .base (.tup h)
  · exact .fTuple h
  · exact .kTuple h c
/-- a tuple of texts -/
def Wd (_ : PySem.W.Frag) (H : Hp) (v : V) (ys : List Str) : Prop := ∃ a, v = .ref a ∧ H a = some (.tup (ys.map V.str))
/-- such a tuple that is a word -/
def isW (ys : List Str) : Bool := decide (ys.length ≤ 3) && ys.all isL
theorem isW_iff {ys : List Str} : isW ys = true ↔ ys.length ≤ 3 ∧ ∀ y ∈ ys, isL y = true := by
  unfold isW
  rw [Bool.and_eq_true, decide_eq_true_iff, List.all_eq_true]
theorem wd_mono {K : PySem.W.Frag} {H H1 : Hp} {v : V} {ys : List Str} (e : Ex H H1) (h : Wd K H v ys) : Wd K H1 v ys := by
  obtain ⟨a, rfl, h⟩ := h
  exact ⟨a, rfl, e _ _ h⟩
theorem sqt_xp {K : PySem.W.Frag} {p a : Addr} {H H1 : Hp} {xs : List V} (hp : Po p H) (x : Xp p H H1) (h : SqT K H a xs) : SqT K H1 a xs := by
  obtain ⟨i, j, e, _⟩ := hp
  rcases h with (h | ⟨o, h⟩) | h
  · refine .inl (.inl (x.1 _ _ (fun z => ?_) h))
    rw [z, e] at h
    cases h
  · refine .inl (.inr ⟨o, x.1 _ _ (fun z => ?_) h⟩)
    rw [z, e] at h
    cases h
  · exact .inr h
theorem wd_xp {K : PySem.W.Frag} {p : Addr} {H H1 : Hp} {v : V} {ys : List Str} (hp : Po p H) (x : Xp p H H1) (h : Wd K H v ys) : Wd K H1 v ys := by
  obtain ⟨a, rfl, h⟩ := h
  obtain ⟨i, j, e, _⟩ := hp
  exact ⟨a, rfl, x.1 _ _ (fun z => by rw [z, e] at h; cases h) h⟩
theorem isL_short {s : Str} (h : isL s = true) : s.length ≤ 100000 := Nat.le_trans (isL_len h).2 (by decide)
theorem lbs_of {K : PySem.W.Frag} {H : Hp} : ∀ {ys : List Str}, (∀ y ∈ ys, y.length ≤ 100000) → Paired (LB K H) (ys.map V.str) (ys.map isL)
  | [], _ => .nil
  | y :: ys, h => .cons (.str y (h y List.mem_cons_self)) (lbs_of fun z hz => h z (List.mem_cons_of_mem _ hz))
theorem wb_of {K : PySem.W.Frag} {H : Hp} {v : V} {ys : List Str} (h : Wd K H v ys) (hs : ∀ y ∈ ys, y.length ≤ 100000) (hl : ys.length ≤ 40000) : WB K H v (isW ys) := by
  obtain ⟨a, rfl, h⟩ := h
  have h := SqT.of (K := K) h
  have z := WB.tup h (tyx_tup h) (by rw [List.length_map]; exact hl) (lbs_of (H := H) hs)
  rw [List.length_map, List.all_map] at z
  exact z
theorem wb_word {K : PySem.W.Frag} {H : Hp} {v : V} {ys : List Str} (h : Wd K H v ys) (hw : isW ys = true) : WB K H v true := by
  obtain ⟨h3, hl⟩ := isW_iff.mp hw
  have z := wb_of h (fun y hy => isL_short (hl y hy)) (by omega)
  rw [hw] at z
  exact z
/-- an expression that gives such a tuple -/
def EvW (K : PySem.W.Frag) (te : TE) (σ : L2.St) (H : Hp) (ys : List Str) : Prop := ∀ H1, Ex H H1 → ∀ Q : VK, (∀ v H2, Ex H1 H2 → Wd K H2 v ys → Q v H2) → te σ H1 Q
section
variable {K : PySem.W.Frag} {σ : L2.St} {H : Hp} {te ta tb : TE} {xs ys : List Str}
theorem ew_of {v : V} (h : Ev te σ H v) (hw : Wd K H v ys) : EvW K te σ H ys := fun H1 e Q q => h H1 e _ fun H2 e2 => q v H2 e2 (wd_mono (e.trans e2) hw)
theorem ew_cat (ha : EvW K ta σ H xs) (hb : EvW K tb σ H ys) (hz : xs.length + ys.length ≤ 100000) : EvW K (tOp (rCatA K) ta tb) σ H (xs ++ ys) := fun H1 e Q q =>
  ha H1 e _ fun v H2 e2 ⟨a, ea, hx⟩ => hb H2 (e.trans e2) _ fun u H3 e3 ⟨b, eb, hy⟩ => by
    refine ⟨a, b, xs.map V.str, ys.map V.str, ea, eb, SqT.of (e3 _ _ hx), SqT.of hy, by rw [List.length_map, List.length_map]; exact sz_of hz, fun z => ?_, fun z1 z => ?_, fun z1 z2 p hp => ?_⟩
    · have : xs = [] := List.map_eq_nil_iff.mp z
      subst this
      exact q _ H3 (e2.trans e3) ⟨b, rfl, hy⟩
    · have : ys = [] := List.map_eq_nil_iff.mp z
      subst this
      rw [List.append_nil] at q
      exact q _ H3 (e2.trans e3) ⟨a, rfl, e3 _ _ hx⟩
    · exact q _ _ ((e2.trans e3).trans (Ex.new hp)) ⟨p, rfl, by rw [List.map_append]; exact upd_same⟩
/-- a beginning -/
theorem ew_to {n : Nat} {to th : TO} (ha : EvW K ta σ H xs) (h1 : EvO to σ H none) (h2 : EvO th σ H (some (n : Int))) (hn : n ≤ xs.length) : EvW K (tSl (rSlA K) ta to th) σ H (xs.take n) := fun H1 e Q q =>
  ha H1 e _ fun v H2 e2 ⟨a, ea, hx⟩ => h1 H2 (e.trans e2) _ fun H3 e3 => h2 H3 ((e.trans e2).trans e3) _ fun H4 e4 => by
    have hx4 := (e3.trans e4) _ _ hx
    have e14 := (e2.trans e3).trans e4
    refine ⟨a, xs.map V.str, ea, SqT.of hx4, fun z => ?_, fun z p hp => ?_⟩
    · have z2 : HT.sIx (xs.map V.str).length (xs.map V.str).length (some (n : Int)) = (xs.map V.str).length := z.2
      rw [HT.sIx_nat, List.length_map, Nat.min_eq_left hn] at z2
      rw [z2, List.take_length] at q
      exact q _ H4 e14 ⟨a, rfl, hx4⟩
    · refine q _ _ (e14.trans (Ex.new hp)) ⟨p, rfl, ?_⟩
      rw [← List.map_take.symm, ← cut_to (xs.map V.str) n (by rw [List.length_map]; exact hn)] 
      exact upd_same
end
end Lw
namespace Lw
open PySem PySem.Spec PyProof.Rows L2 Evl TL
section
variable {K : PySem.W.Frag} {σ : L2.St} {H : Hp} {te ta : TE} {ys : List Str} {tz : TS} {D : Ends}
theorem q_asgW {i : Nat} (h : EvW K te σ H ys) (k : ∀ v H1, Ex H H1 → Wd K H1 v ys → tz D (σ.set i (some v)) H1) : tSeq (tAsg te (gName i)) tz D σ H := h H (Ex.refl H) _ fun v H1 e hw => k v H1 e hw
theorem s_retW (h : EvW K te σ H ys) (k : ∀ v H1, Ex H H1 → Wd K H1 v ys → D.rt v H1) : tRet te D σ H := h H (Ex.refl H) _ fun v H1 e hw => k v H1 e hw
/-- a list of such tuples -/
def LW (K : PySem.W.Frag) (H : Hp) (l : Addr) (ws : List (List Str)) : Prop := ∃ us, H l = some (.lst us) ∧ Paired (Wd K H) us ws
theorem lw_mono {H1 : Hp} {l : Addr} {ws : List (List Str)} (e : Ex H H1) (h : LW K H l ws) : LW K H1 l ws := by
  obtain ⟨us, h1, h2⟩ := h
  exact ⟨us, e _ _ h1, paired_mono (fun _ _ r => wd_mono e r) h2⟩
def EvLW (K : PySem.W.Frag) (te : TE) (σ : L2.St) (H : Hp) (ws : List (List Str)) : Prop := ∀ H1, Ex H H1 → ∀ Q : VK, (∀ l H2, H1 l = none → Ex H1 H2 → LW K H2 l ws → Q (.ref l) H2) → te σ H1 Q
theorem paired_app {α β : Type} {R : α → β → Prop} : ∀ {xs xs2 : List α} {ys ys2 : List β}, Paired R xs ys → Paired R xs2 ys2 → Paired R (xs ++ xs2) (ys ++ ys2)
  | _, _, _, _, .nil, h => h
  | _, _, _, _, .cons r t, h => .cons r (paired_app t h)
/-- a list of n such tuples, put together turn by turn -/
theorem elw_R1 {ta : TA} {j : Nat} {vs : List Nat} {n : Nat} (f : Nat → List Str) (h : EvA ta σ H [.int (n : Int)]) (hn : n ≤ 40000) (hw : ∀ x, wipe ((wipe σ vs).set j (some x)) vs = wipe σ vs)
    (he : ∀ (i : Nat) H1, Ex H H1 → i < n → EvW K te ((wipe σ vs).set j (some (.int (i : Int)))) H1 (f i)) : EvLW K (tLc (iRng1 ta) (gName j) tYes te vs) σ H ((List.range n).map f) := fun H0 e Q q => h H0 e _ fun H1 e1 => ⟨n, rfl, by omega, by omega, fun Dl hD =>
  lc_range (lo := 0) (n := n) (fun i H' => Ex H1 H' ∧ LW K H' Dl ((List.range i).map f)) ⟨Ex.new hD, [], upd_same, .nil⟩ (fun i H' hi p => by
    obtain ⟨p1, us, p2, p3⟩ := p
    have e0 : (0 : Int) + (i : Int) = (i : Int) := Int.zero_add _
    show wipe ((wipe σ vs).set j (some (.int ((0 : Int) + (i : Int))))) vs = wipe σ vs ∧ tYes ((wipe σ vs).set j (some (.int ((0 : Int) + (i : Int))))) H' fun b H3 => if b = true then te ((wipe σ vs).set j (some (.int ((0 : Int) + (i : Int))))) H3 fun y H4 => ∃ acc, H4 Dl = some (.lst acc) ∧ acc.length < sizeLine ∧ (Ex H1 (upd H4 Dl (.lst (acc ++ [y]))) ∧ LW K (upd H4 Dl (.lst (acc ++ [y]))) Dl ((List.range (i + 1)).map f)) else (Ex H1 H3 ∧ LW K H3 Dl ((List.range (i + 1)).map f))
    rw [e0]
    refine ⟨hw _, ?_⟩
    show te ((wipe σ vs).set j (some (.int (i : Int)))) H' fun y H4 => ∃ acc, H4 Dl = some (.lst acc) ∧ acc.length < sizeLine ∧ (Ex H1 (upd H4 Dl (.lst (acc ++ [y]))) ∧ LW K (upd H4 Dl (.lst (acc ++ [y]))) Dl ((List.range (i + 1)).map f))
    refine he i H' ((e.trans e1).trans p1) hi H' (Ex.refl H') _ fun y H4 e4 hy => ?_
    have hl := Paired.length p3
    rw [List.length_map, List.length_range] at hl
    -- what is tracked, but the new list, stands
    have keep : ∀ {v : V} {zs : List Str}, Wd K H4 v zs → Wd K (upd H4 Dl (.lst (us ++ [y]))) v zs := fun {v zs} hz => by
      obtain ⟨a, rfl, hz⟩ := hz
      refine ⟨a, rfl, ?_⟩
      have hd := e4 _ _ p2
      rw [upd_ne (fun q => by rw [q, hd] at hz; cases hz)]
      exact hz
    refine ⟨us, e4 _ _ p2, sz_lt (by omega), Ex.mut (p1.trans e4) hD, us ++ [y], upd_same, ?_⟩
    rw [List.range_succ, List.map_append]
    exact paired_app (paired_mono (fun _ _ r => keep (wd_mono e4 r)) p3) (.cons (keep hy) .nil)) (fun H' p => q Dl H' (fresh_back e1 hD) (e1.trans p.1) p.2)⟩
end
end Lw
namespace Lw
open PySem PySem.Spec PyProof.Rows L2 Evl TL
section
variable {P : Program} {w : World} {K : PySem.W.Frag} {σ : L2.St} {H : Hp} {te ta : TE} {ys : List Str}
def wD (ys : List Str) : PyData := .tuple (ys.map PyData.str)
theorem rw_strs : ∀ {ys : List Str}, Paired (Rw P w H) (ys.map V.str) (ys.map PyData.str)
  | [] => .nil
  | y :: ys => .cons (rw_str y) (rw_strs (ys := ys))
theorem nodict_strs : ∀ ys : List Str, PyData.hasDictAll (ys.map PyData.str) = false
  | [] => rfl
  | y :: ys => by
    have := nodict_strs ys
    simp [PyData.hasDictAll, PyData.hasDict, this]
theorem rw_word {v : V} (h : Wd K H v ys) : Rw P w H v (wD ys) := by
  obtain ⟨a, rfl, h⟩ := h
  exact rw_tup h rw_strs (nodict_strs ys)
theorem rws_words {us : List V} {ws : List (List Str)} (h : Paired (Wd K H) us ws) : Paired (Rw P w H) us (ws.map wD) := by
  induction h with
  | nil => exact .nil
  | cons r t ih => exact .cons (rw_word r) ih
/-- repr of a list of such tuples -/
theorem ev_reprLW {ws : List (List Str)} (h : EvLW K te σ H ws) (hr : ∀ d ∈ ws.map wD, Rok d) (hn : ws.length ≤ 1000) : Ev (tCB (rRepr P w) (tCons te tNil)) σ H (.str (listText (PyData.shownAll (ws.map wD)))) := fun H1 e Q q =>
  h H1 e _ fun p H2 hp e2 hl => by
    obtain ⟨us, h1, h2⟩ := hl
    obtain ⟨a, b, c⟩ := lst_rok hr (by rw [List.length_map]; exact hn)
    exact .inl ⟨p, us, ws.map wD, rfl, h1, rws_words h2, a, b, c, q H2 e2⟩
theorem ev_reprLWv {l : Addr} {ws : List (List Str)} (h : Ev te σ H (.ref l)) (hl : LW K H l ws) (hr : ∀ d ∈ ws.map wD, Rok d) (hn : ws.length ≤ 1000) : Ev (tCB (rRepr P w) (tCons te tNil)) σ H (.str (listText (PyData.shownAll (ws.map wD)))) := fun H1 e Q q =>
  h H1 e _ fun H2 e2 => by
    obtain ⟨us, h1, h2⟩ := lw_mono (e.trans e2) hl
    obtain ⟨a, b, c⟩ := lst_rok hr (by rw [List.length_map]; exact hn)
    exact .inl ⟨l, us, ws.map wD, rfl, h1, rws_words h2, a, b, c, q H2 e2⟩
end
end Lw
namespace Lw
open PySem PySem.Spec PyProof.Rows L2 Evl TL
/-- the text of a word -/
def tx (ys : List Str) : Str := if ys = [] then "-" else Str.join "." ys
theorem tx_ne {ys : List Str} (h : ys ≠ []) : tx ys = Str.join "." ys := if_neg h
/-- its beginnings -/
def begs (ys : List Str) : List (List Str) := (List.range (ys.length + 1)).map fun i => ys.take i
theorem join_head {ys : List Str} (h : ys ≠ []) (hw : isW ys = true) : ∃ c r, (Str.join "." ys).cps.toList = c :: r ∧ 97 ≤ c ∧ c ≤ 122 := by
  cases ys with
  | nil => exact absurd rfl h
  | cons y ys =>
    have hy := (isW_iff.mp hw).2 y List.mem_cons_self
    obtain ⟨⟨h1, _⟩, h2⟩ := isL_iff.mp hy
    have e : tl (Str.join "." (y :: ys)) = joinL (tl ".") ((y :: ys).map tl) := tl_join "." (y :: ys)
    cases q : y.cps.toList with
    | nil =>
      rw [q] at h1
      exact absurd h1 (by decide)
    | cons c r =>
      have hc := h2 c (by rw [q]; exact List.mem_cons_self)
      have q2 : tl y = c :: r := q
      cases ys with
      | nil => exact ⟨c, r, by show tl _ = _; rw [e]; exact q2, hc⟩
      | cons z zs =>
        refine ⟨c, r ++ (tl "." ++ joinL (tl ".") ((z :: zs).map tl)), ?_, hc⟩
        show tl _ = _
        rw [e]
        show tl y ++ (tl "." ++ joinL (tl ".") ((z :: zs).map tl)) = _
        rw [q2]
        rfl
theorem tx_dash {ys : List Str} (h : ys ≠ []) (hw : isW ys = true) : tx ys ≠ "-" := fun e => by
  rw [tx_ne h] at e
  obtain ⟨c, r, hc, h1, _⟩ := join_head h hw
  rw [e] at hc
  have : ("-" : Str).cps.toList = [45] := rfl
  rw [this] at hc
  injection hc with hc _
  omega
theorem split_word {ys : List Str} (h : ys ≠ []) (hw : isW ys = true) : Txt.split (Str.join "." ys) "." = ys := by
  have z := split_join (y := ".") (s := 46) (S := []) rfl (by decide +kernel) h (fun p hp hm => by
    have := (isL_iff.mp ((isW_iff.mp hw).2 p hp)).2 46 hm
    omega)
  rw [TL.join_eq] at z
  exact z
theorem sum_le : ∀ {ys : List Str}, (∀ y ∈ ys, y.length ≤ 8) → (ys.map (·.length)).sum ≤ 8 * ys.length
  | [], _ => Nat.zero_le _
  | y :: ys, h => by
    have h1 := sum_le (ys := ys) fun z hz => h z (List.mem_cons_of_mem _ hz)
    have h2 := h y List.mem_cons_self
    rw [List.map_cons, List.sum_cons, List.length_cons]
    omega
section
variable {K : PySem.W.Frag} {σ : L2.St} {H : Hp} {te ta : TE} {ys : List Str} {D : Ends}
theorem ev_joinW (h : EvW K te σ H ys) (hw : isW ys = true) : Ev (tM1 (rJoin K) (tC (.str ".")) te) σ H (.str (Str.join "." ys)) := fun H1 e Q q => ⟨⟨_, rfl⟩, h H1 e _ fun v H2 e2 ⟨a, ea, hv⟩ => by
  obtain ⟨h3, hl⟩ := isW_iff.mp hw
  have z := sum_le fun y hy => (isL_len (hl y hy)).2
  have z1 : Str.length "." = 1 := rfl
  subst ea
  refine ⟨_, a, ys, rfl, rfl, .inr (SqT.of hv), by rw [z1]; omega, ?_⟩
  rw [TL.join_eq]
  exact q H2 e2⟩
theorem et_truW {v : V} (h : Ev te σ H v) (hv : Wd K H v ys) : EvT (fun σ H Q => te σ H fun x H' => ∃ k, TruV K x H' k ∧ Q k H') σ H (!ys.isEmpty) := fun H1 e Q q => h H1 e _ fun H2 e2 => by
  obtain ⟨a, ea, hv2⟩ := wd_mono (e.trans e2) hv
  subst ea
  refine ⟨!ys.isEmpty, .inr (.inl ⟨ys.map V.str, SqT.of hv2, ?_⟩), q H2 e2⟩
  cases ys <;> rfl
theorem ev_lenW {v : V} (h : Ev te σ H v) (hv : Wd K H v ys) : Ev (tCB (rLenS K) (tCons te tNil)) σ H (.int (ys.length : Int)) := fun H1 e Q q => h H1 e _ fun H2 e2 => by
  obtain ⟨a, ea, hv2⟩ := wd_mono (e.trans e2) hv
  refine ⟨a, ys.map V.str, by rw [ea], .inr (SqT.of hv2), ?_⟩
  rw [List.length_map]
  exact q H2 e2
theorem s_retLW {ws : List (List Str)} (h : EvLW K te σ H ws) (k : ∀ l H1, H l = none → Ex H H1 → LW K H1 l ws → D.rt (.ref l) H1) : tRet te D σ H := h H (Ex.refl H) _ k
end
end Lw
namespace Lw
open PySem PySem.Spec PyProof.Rows L2 Evl TL
theorem len_app (x y : Str) : (x ++ y).length = x.length + y.length := by
  rw [len_cps, len_cps, len_cps, tl_app, List.length_append]
theorem join_len : ∀ {ys : List Str}, (∀ y ∈ ys, y.length ≤ 8) → (Str.join "." ys).length ≤ 9 * ys.length
  | [], _ => Nat.zero_le _
  | [y], h => by
    have := h y List.mem_cons_self
    show y.length ≤ 9 * 1
    omega
  | y :: z :: r, h => by
    have h1 := join_len (ys := z :: r) fun u hu => h u (List.mem_cons_of_mem _ hu)
    have h2 := h y List.mem_cons_self
    show (y ++ "." ++ Str.join "." (z :: r)).length ≤ _
    rw [len_app, len_app, show Str.length "." = 1 from rfl]
    rw [List.length_cons]
    omega
theorem word_len {ys : List Str} (hw : isW ys = true) : (Str.join "." ys).length ≤ 27 := by
  obtain ⟨h3, hl⟩ := isW_iff.mp hw
  have := join_len fun y hy => (isL_len (hl y hy)).2
  omega
end Lw
namespace Lw
open PySem PySem.Spec PyProof.Rows L2 Evl TL
section
variable {K : PySem.W.Frag} {σ : L2.St} {H : Hp}
theorem ev_chainI {f g : Int → Int → Bool} {ta tb tc : TE} {i j k : Int} (ha : Ev ta σ H (.int i)) (hb : Ev tb σ H (.int j)) (hc : Ev tc σ H (.int k)) :
    Ev (tChain (rI0 fun i j => V.bl (f i j)) (rI0 fun i j => V.bl (g i j)) ta tb tc) σ H (.bl (f i j && g j k)) := fun H1 e Q q => ha H1 e _ fun H2 e2 => hb H2 (e.trans e2) _ fun H3 e3 => ⟨i, j, rfl, rfl, f i j, rfl, by
    revert q
    cases f i j with
    | true => exact fun q => hc H3 ((e.trans e2).trans e3) _ fun H4 e4 => ⟨j, k, rfl, rfl, q H4 ((e2.trans e3).trans e4)⟩
    | false => exact fun q => q H3 (e2.trans e3)⟩
theorem rv_inSign {c : Nat} {z : Str} : RV (fun x y H Q => ∃ (c : Nat) (z : Str), x = V.str ⟨#[c]⟩ ∧ y = V.str z ∧ Q (.bl (decide (c ∈ z.cps.toList))) H) (.str ⟨#[c]⟩) (.str z) H (.bl (decide (c ∈ z.cps.toList))) :=
  fun H1 e Q q => ⟨c, z, rfl, rfl, q H1 (Ex.refl H1)⟩
end
end Lw
namespace Lw
open PySem PySem.Spec PyProof.Rows L2 Evl TL
/-- texts, each behind a dot -/
def glue (ys : List Str) : Str := ys.foldl (fun s y => s ++ "." ++ y) ""
theorem tl_glue_from : ∀ (ys : List Str) (s : Str), tl (ys.foldl (fun s y => s ++ "." ++ y) s) = tl s ++ (ys.map fun y => 46 :: tl y).flatten
  | [], s => by simp
  | y :: ys, s => by
    rw [List.foldl_cons, tl_glue_from ys, tl_append, tl_append, List.map_cons, List.flatten_cons, List.append_assoc, List.append_assoc]
    rfl
theorem glue_succ {ys : List Str} {i : Nat} {y : Str} (h : ys[i]? = some y) : glue (ys.take (i + 1)) = glue (ys.take i) ++ "." ++ y := by
  obtain ⟨hi, e⟩ := List.getElem?_eq_some_iff.mp h
  rw [← List.take_concat_get hi, e, List.concat_eq_append]
  unfold glue
  rw [List.foldl_append]
  rfl
theorem join_flat : ∀ {ys : List Str}, ys ≠ [] → 46 :: joinL [46] (ys.map tl) = (ys.map fun y => 46 :: tl y).flatten
  | [], h => absurd rfl h
  | [y], _ => by
    show 46 :: tl y = (46 :: tl y) ++ []
    rw [List.append_nil]
  | y :: z :: r, _ => by
    have ih := join_flat (ys := z :: r) (fun e => nomatch e)
    show 46 :: (tl y ++ ([46] ++ joinL [46] ((z :: r).map tl))) = (46 :: tl y) ++ ((z :: r).map fun y => 46 :: tl y).flatten
    rw [← ih]
    rfl
theorem glue_cut {ys : List Str} (h : ys ≠ []) : cutS (glue ys) (some 1) none = Str.join "." ys := by
  refine ext_tl ?_
  have e : tl (glue ys) = 46 :: joinL [46] (ys.map tl) := by
    rw [join_flat h]
    show tl (ys.foldl (fun s y => s ++ "." ++ y) "") = _
    rw [tl_glue_from]
    rfl
  have n : (glue ys).length = (tl (glue ys)).length := len_tl _
  show (((tl (glue ys)).drop (HT.sIx (glue ys).length 0 (some ((1 : Nat) : Int)))).take (HT.sIx (glue ys).length (glue ys).length none - HT.sIx (glue ys).length 0 (some ((1 : Nat) : Int)))) = tl (Str.join "." ys)
  rw [HT.sIx_nat, HT.sIx_none, n, e, tl_join]
  rw [show min 1 (46 :: joinL [46] (ys.map tl)).length = 1 from Nat.min_eq_left (by rw [List.length_cons]; omega)]
  show ((joinL [46] (ys.map tl)).take ((joinL [46] (ys.map tl)).length + 1 - 1)) = _
  rw [Nat.add_sub_cancel, List.take_length]
  rfl
theorem glue_len : ∀ {ys : List Str}, (∀ y ∈ ys, y.length ≤ 8) → (glue ys).length ≤ 9 * ys.length := by
  intro ys h
  have e : tl (glue ys) = (ys.map fun y => 46 :: tl y).flatten := by
    show tl (ys.foldl (fun s y => s ++ "." ++ y) "") = _
    rw [tl_glue_from]
    rfl
  rw [len_tl, e]
  clear e
  induction ys with
  | nil => exact Nat.zero_le _
  | cons y ys ih =>
    have h1 := ih fun z hz => h z (List.mem_cons_of_mem _ hz)
    have h2 := h y List.mem_cons_self
    rw [len_tl] at h2
    rw [List.map_cons, List.flatten_cons, List.length_append, List.length_cons, List.length_cons]
    omega
/-- what stands aheadW of what: by the number of letters, then by the first unequal ones -/
def lexW : List Str → List Str → Bool
  | x :: xs, y :: ys => if x = y then lexW xs ys else decide (x.cps.toList < y.cps.toList)
  | _, _ => false
def aheadW (xs ys : List Str) : Bool := if xs.length = ys.length then lexW xs ys else decide (xs.length < ys.length)
theorem lexW_step {xs ys : List Str} {i : Nat} {x y : Str} (hx : xs[i]? = some x) (hy : ys[i]? = some y) : lexW (xs.drop i) (ys.drop i) = if x = y then lexW (xs.drop (i + 1)) (ys.drop (i + 1)) else decide (x.cps.toList < y.cps.toList) := by
  obtain ⟨h1, e1⟩ := List.getElem?_eq_some_iff.mp hx
  obtain ⟨h2, e2⟩ := List.getElem?_eq_some_iff.mp hy
  rw [List.drop_eq_getElem_cons h1, List.drop_eq_getElem_cons h2, e1, e2]
  rfl
end Lw
namespace Lw
open PySem PySem.Spec PyProof.Rows L2 Evl TL
theorem rv_ltS {x y : Str} {H : Hp} : RV (fun x y H Q => ∃ i j, x = V.str i ∧ y = V.str j ∧ Q (V.bl (decide (i.cps.toList < j.cps.toList))) H) (.str x) (.str y) H (.bl (decide (x.cps.toList < y.cps.toList))) :=
  fun H1 e Q q => ⟨x, y, rfl, rfl, q H1 (Ex.refl H1)⟩
theorem ev_atW {K : PySem.W.Frag} {σ : L2.St} {H : Hp} {ta tb : TE} {a : Addr} {i : Nat} {x : Str} {xs : List Str} (ha : Ev ta σ H (.ref a)) (hb : Ev tb σ H (.int (i : Int))) (h : H a = some (.tup (xs.map V.str))) (hx : xs[i]? = some x) : Ev (tOp (rIxT K) ta tb) σ H (.str x) :=
  ev_op ha hb (rv_ixT (SqT.of h) (atI_nat (by rw [List.getElem?_map, hx]; rfl)))
end Lw
namespace Lw
open PySem PySem.Spec PyProof.Rows L2 Evl TL
theorem paired_take {α β : Type} {R : α → β → Prop} : ∀ (n : Nat) {xs : List α} {ys : List β}, Paired R xs ys → Paired R (xs.take n) (ys.take n)
  | 0, _, _, _ => by rw [List.take_zero, List.take_zero]; exact .nil
  | _ + 1, _, _, .nil => .nil
  | n + 1, _, _, .cons r t => .cons r (paired_take n t)
theorem paired_drop {α β : Type} {R : α → β → Prop} : ∀ (n : Nat) {xs : List α} {ys : List β}, Paired R xs ys → Paired R (xs.drop n) (ys.drop n)
  | 0, _, _, h => h
  | _ + 1, _, _, .nil => .nil
  | n + 1, _, _, .cons r t => paired_drop n t
theorem cut_from (xs : List V) (n : Nat) (h : n ≤ xs.length) : cutV xs (some (n : Int)) none = xs.drop n := by
  unfold cutV
  rw [show HT.sIx xs.length 0 (some (n : Int)) = min n xs.length from HT.sIx_nat _ _ n, HT.sIx_none, Nat.min_eq_left h]
  rw [List.take_of_length_le (by rw [List.length_drop]; omega)]
theorem given_count {β : Type} (l : List β) (d : β) (g : β → Bool) (v : Nat → V) : (given l.length (fun i => g (l.getD i d)) v).length = (l.filter g).length := by
  unfold given
  rw [List.length_map]
  have e : l = (List.range l.length).map (fun i => l.getD i d) := by
    have z := range_get l d (fun x => x)
    rw [List.map_id''] at z
    · exact z.symm
    · intro x
      rfl
  conv => rhs; rw [e]
  rw [List.filter_map, List.length_map]
  rfl
/-- a word put into a list of different ones, behind those that stand aheadW of it -/
def insW (fs : List (List Str)) (w : List Str) : List (List Str) := if w ∈ fs then fs else fs.take (fs.filter (aheadW · w)).length ++ [w] ++ fs.drop (fs.filter (aheadW · w)).length
def srtW (ws : List (List Str)) : List (List Str) := ws.foldl insW []
theorem srtW_succ {ws : List (List Str)} {i : Nat} {w : List Str} (h : ws[i]? = some w) : srtW (ws.take (i + 1)) = insW (srtW (ws.take i)) w := by
  obtain ⟨hi, e⟩ := List.getElem?_eq_some_iff.mp h
  rw [← List.take_concat_get hi, e, List.concat_eq_append]
  unfold srtW
  rw [List.foldl_append]
  rfl
theorem insW_mem {fs : List (List Str)} {w u : List Str} : u ∈ insW fs w ↔ u ∈ fs ∨ u = w := by
  unfold insW
  split
  · rename_i h
    exact ⟨.inl, fun z => z.elim id fun e => e ▸ h⟩
  · have e : fs.take (fs.filter (aheadW · w)).length ++ fs.drop (fs.filter (aheadW · w)).length = fs := List.take_append_drop _ _
    constructor
    · intro z
      rcases List.mem_append.mp z with z | z
      · rcases List.mem_append.mp z with z | z
        · exact .inl (List.mem_of_mem_take z)
        · exact .inr (List.mem_singleton.mp z)
      · exact .inl (List.mem_of_mem_drop z)
    · rintro (z | z)
      · rw [← e] at z
        rcases List.mem_append.mp z with z | z
        · exact List.mem_append_left _ (List.mem_append_left _ z)
        · exact List.mem_append_right _ z
      · exact List.mem_append_left _ (List.mem_append_right _ (List.mem_singleton.mpr z))
theorem insW_len (fs : List (List Str)) (w : List Str) : (insW fs w).length ≤ fs.length + 1 := by
  unfold insW
  split
  · omega
  · rw [List.length_append, List.length_append, List.length_take, List.length_drop]
    have := List.length_filter_le (aheadW · w) fs
    show min _ _ + 1 + _ ≤ _
    omega
theorem srtW_mem {ws : List (List Str)} {u : List Str} : u ∈ srtW ws ↔ u ∈ ws := by
  have key : ∀ (ws fs : List (List Str)), u ∈ ws.foldl insW fs ↔ u ∈ fs ∨ u ∈ ws := fun ws => by
    induction ws with
    | nil => intro fs; simp
    | cons w ws ih =>
      intro fs
      rw [List.foldl_cons, ih, insW_mem, List.mem_cons, or_assoc]
  unfold srtW
  rw [key]
  simp
theorem srtW_len (ws : List (List Str)) : (srtW ws).length ≤ ws.length := by
  have key : ∀ (ws fs : List (List Str)), (ws.foldl insW fs).length ≤ fs.length + ws.length := fun ws => by
    induction ws with
    | nil => intro fs; exact Nat.le_refl _
    | cons w ws ih =>
      intro fs
      have h1 := ih (insW fs w)
      have h2 := insW_len fs w
      rw [List.foldl_cons, List.length_cons]
      omega
  have z := key ws []
  rw [List.length_nil, Nat.zero_add] at z
  exact z
/-! ### == of such tuples -/
theorem eqvAll_strs : ∀ xs ys : List Str, PyData.eqvAll (xs.map PyData.str) (ys.map PyData.str) = decide (xs = ys)
  | [], [] => rfl
  | [], _ :: _ => rfl
  | _ :: _, [] => rfl
  | x :: xs, y :: ys => by
    rw [List.map_cons, List.map_cons]
    unfold PyData.eqvAll
    rw [eqvAll_strs xs ys]
    by_cases h : x = y
    · subst h
      by_cases h2 : xs = ys
      · subst h2
        simp [PyData.eqv]
      · simp [PyData.eqv, h2]
    · simp [PyData.eqv, h]
theorem eqv_wD (xs ys : List Str) : PyData.eqv (wD xs) (wD ys) = decide (xs = ys) := by
  unfold wD
  unfold PyData.eqv
  exact eqvAll_strs xs ys
theorem dp_word {K : PySem.W.Frag} {H : Hp} {v : V} {ys : List Str} (h : Wd K H v ys) : Dp K H v (wD ys) := by
  obtain ⟨a, rfl, h⟩ := h
  exact .tup (SqT.of h) (dpa_str ys)
theorem dpa_words {K : PySem.W.Frag} {H : Hp} {us : List V} {ws : List (List Str)} (h : Paired (Wd K H) us ws) : DpAll K H us (ws.map wD) := by
  induction h with
  | nil => exact .nil
  | cons r t ih => exact .cons (dp_word r) ih
theorem shaped_wD {ys : List Str} (h : isW ys = true) : SeqAt.shaped (wD ys) = true := shaped_strsT fun x hx => strOk_of ((isW_iff.mp h).2 x hx)
theorem shaped_wDs {ws : List (List Str)} (h : ∀ w ∈ ws, isW w = true) : SeqAt.shaped (.list (ws.map wD)) = true := by
  have key : ∀ ws : List (List Str), (∀ w ∈ ws, isW w = true) → PyData.canLayAll0 (ws.map wD) = true ∧ PyData.depthAll (ws.map wD) ≤ 1 := fun ws => by
    induction ws with
    | nil => intro _; exact ⟨rfl, Nat.zero_le _⟩
    | cons w ws ih =>
      intro h
      obtain ⟨h1, h2⟩ := ih fun y hy => h y (List.mem_cons_of_mem _ hy)
      have hw := h w List.mem_cons_self
      obtain ⟨l1, l2⟩ := lay_strs fun x hx => strOk_of ((isW_iff.mp hw).2 x hx)
      constructor
      · simp [PyData.canLayAll0, PyData.canLay0, wD, l1, h1]
      · simp [PyData.depthAll, PyData.depth, wD, l2]
        exact Nat.max_le.mpr ⟨Nat.le_refl _, h2⟩
  obtain ⟨h1, h2⟩ := key ws h
  simp [SeqAt.shaped, PyData.canLay0, PyData.depth, h1]
  omega
end Lw
theorem L2.Room.u65 {k : Nat} {A : PySem.Around} (r : L2.Room k A) : A.units + 65 < PySem.cLine := by
  have := r.un
  omega
namespace Lw
open PySem PySem.Spec PyProof.Rows L2 Evl TL
theorem op_notInDK {X : Cx} {K : PySem.W.Frag} (hu : X.A.units + 65 < cLine) (h : X.K = K := by rfl) : OpR X (compareOp .NotIn) (rNotInD K) := h ▸ op_notInD hu
theorem any_wD (ws : List (List Str)) (w : List Str) : ((ws.map wD).any fun z => PyData.eqv z (wD w)) = decide (w ∈ ws) := by
  induction ws with
  | nil => rfl
  | cons u ws ih =>
    rw [List.map_cons, List.any_cons, ih, eqv_wD]
    by_cases h : u = w
    · subst h
      simp
    · simp [h, Ne.symm h]
section
variable {K : PySem.W.Frag} {σ : L2.St} {H : Hp} {ta tb : TE}
theorem ev_niW {v : V} {w : List Str} {l : Addr} {us : List V} {ws : List (List Str)} (ha : Ev ta σ H v) (hb : Ev tb σ H (.ref l)) (hv : Wd K H v w) (hl : H l = some (.lst us)) (hp : Paired (Wd K H) us ws) (hw : isW w = true) (hws : ∀ u ∈ ws, isW u = true) :
    Ev (tOp (rNotInD K) ta tb) σ H (.bl (!decide (w ∈ ws))) := ev_op ha hb (rv_val fun H1 e Q q =>
  ⟨wD w, ws.map wD, dp_word (wd_mono e hv), .lst (SqL.of (e _ _ hl)) (dpa_words (paired_mono (fun _ _ r => wd_mono e r) hp)), shaped_wD hw, shaped_wDs hws, by rw [any_wD]; exact q⟩)
end
end Lw
namespace Lw
open PySem PySem.Spec PyProof.Rows L2 Evl TL
/-- a def that is also called by names alone, in the other sequence -/
def CalR (P : Program) (w : World) (K : PySem.W.Frag) (mg : Str → Option Value) (base : Heap) (CX : CXT) (k : Nat) (x : Str) (ps : List Str) (sp : Sp) : Prop :=
  ∃ f fd, mg x = some (.ref f) ∧ PySem.W.keepIn K (.ref f) = true ∧ (∀ (ws : List Value) (s : Shared), ws.length = ps.length → BindsTo s fd ⟨[], ps.reverse.zip ws⟩ (ps.zip ws.reverse)) ∧ FnG P w K mg base CX k f fd ps sp
def tCallR (sp : Sp) (tk : TA) : TE := fun σ H Q => tk σ H fun vs H1 => sp vs.reverse H1 Q E0
section
variable {X : Cx} {CX : CXT} {k : Nat} {x : Str} {ps : List Str} {sp : Sp} {p pos : Pos} {kws : List Keyword} {tk : TA} {E : XK}
theorem pe_calR (C : CalR X.prog X.w X.K X.mg X.base CX0 k x ps sp) {j : Nat} (gd : X.A.guards = some []) (hr : Room j X.A) (hkw : PK X kws tk) (hj : k ≤ j := by decide) (hg : Gl X x := by rfl) (hdb : (x == ("__debug__" : Str)) = false := by decide)
    (hall : (backToKw pos (keywordEach kws X.env)).all (·.1.isSome) = true := by rfl) (hks : (backToKw pos (keywordEach kws X.env)).filterMap (·.1) = ps.reverse := by rfl)
    (hpl : ((backTo pos (starEach [] X.env)).any (·.1) || (backToKw pos (keywordEach kws X.env)).any (·.1.isNone)) = false := by rfl) :
    PE X (.Call (.Name x p) [] kws pos) (tCallR sp tk) := by
  obtain ⟨f, fd, hm, hk, hb, F⟩ := C
  constructor
  intro pins s σ H Q I h
  refine wpAny_Call_Name_kw (ld_glob I hg hm ?_ hdb)
  refine PySem.W.callWith_KW0 (h₀ := X.base) I.ok.mod.kin hk hall ?_ hpl
  refine thn (hkw.run pos pins s σ H _ I h) fun ws s2 hh => ?_
  obtain ⟨zs, H2, I2, rz, q⟩ := hh
  refine ⟨I2.kIn, ?_⟩
  rw [hks]
  have hl : zs.length = ps.length := by
    have z := F.len _ _ _ _ q
    rw [List.length_reverse] at z
    exact z
  refine wpAny_call (codeAny_mono (F.go gd (hr.mono hj) I2.env0 (hb ws s2 (rz.length.symm.trans hl)) (Vals.reverse rz) q) fun r s3 hq => ?_)
  cases r with
  | error er => exact pass0 pins σ _ s2 er s3 I2 hq
  | ok fl =>
    cases fl with
    | ret u => exact I2.after hq
    | next => exact hq.elim
    | brk => exact hq.elim
    | cont => exact hq.elim
end
section
variable {K : PySem.W.Frag} {σ : L2.St} {H : Hp} {te : TE} {tk : TA} {sp : Sp} {v z : V} {vs : List V}
theorem ev_callR (h : EvA tk σ H vs) (hs : SpV sp vs.reverse H z) : Ev (tCallR sp tk) σ H z := fun H1 e Q q => h H1 e _ fun H2 e2 => hs H2 (e.trans e2) _ (fun H3 e3 => q H3 (e2.trans e3)) E0
end
end Lw
namespace Lw
open PySem PySem.Spec PyProof.Rows L2 Evl TL
theorem jl_le : ∀ ts : List Str, (Str.join ", " ts).length ≤ (ts.map fun t => t.length + 2).sum
  | [] => Nat.zero_le _
  | [t] => by
    show t.length ≤ (t.length + 2) + 0
    omega
  | t :: u :: r => by
    have ih := jl_le (u :: r)
    show (t ++ ", " ++ Str.join ", " (u :: r)).length ≤ (t.length + 2) + ((u :: r).map fun t => t.length + 2).sum
    rw [len_app, len_app, show Str.length ", " = 2 from rfl]
    omega
theorem rok_wD {ys : List Str} (h : isW ys = true) : Rok (wD ys) := by
  obtain ⟨h3, hl⟩ := isW_iff.mp h
  have r1 : ∀ y ∈ ys, (PySem.reprText y).length + 2 ≤ 84 := fun y hy => by
    have h1 := isL_len (hl y hy)
    have h2 := PySem.StrLaws.reprText_len y fun c hc => by
      have := (isL_iff.mp (hl y hy)).2 c hc
      omega
    omega
  have sum : ∀ zs : List Str, (∀ y ∈ zs, (PySem.reprText y).length + 2 ≤ 84) → ((zs.map PySem.reprText).map fun t => t.length + 2).sum ≤ 84 * zs.length := fun zs => by
    induction zs with
    | nil => intro _; exact Nat.zero_le _
    | cons z zs ih =>
      intro hz
      have i1 := ih fun y hy => hz y (List.mem_cons_of_mem _ hy)
      have i2 := hz z List.mem_cons_self
      rw [List.map_cons, List.map_cons, List.sum_cons, List.length_cons]
      omega
  have e : (wD ys).shown = tupleText (ys.map PySem.reprText) := by
    unfold wD
    rw [PyData.shown, PyData.shownAll_strs]
  refine ⟨?_, ?_, ?_⟩
  · unfold wD
    rw [PyData.showable]
    clear h h3 hl r1 sum e
    induction ys with
    | nil => rfl
    | cons y ys ih => simp [PyData.showableAll, PyData.showable, ih]
  · rw [e]
    have j := jl_le (ys.map PySem.reprText)
    have s := sum ys r1
    unfold tupleText
    rw [len_app, len_app, show Str.length "(" = 1 from rfl]
    split
    · rw [show Str.length ",)" = 2 from rfl]
      omega
    · rw [show Str.length ")" = 1 from rfl]
      omega
  · unfold wD
    rw [PyData.depth]
    have := (lay_strs fun x hx => strOk_of (hl x hx)).2
    rw [this]
    omega
theorem roks_wD {ws : List (List Str)} (h : ∀ w ∈ ws, isW w = true) : ∀ d ∈ ws.map wD, Rok d := fun d hd => by
  obtain ⟨w, hw, rfl⟩ := List.mem_map.mp hd
  exact rok_wD (h w hw)
theorem isW_take {ys : List Str} (h : isW ys = true) (n : Nat) : isW (ys.take n) = true := by
  obtain ⟨h3, hl⟩ := isW_iff.mp h
  exact isW_iff.mpr ⟨by rw [List.length_take]; omega, fun y hy => hl y (List.mem_of_mem_take hy)⟩
theorem begs_isW {ys : List Str} (h : isW ys = true) : ∀ w ∈ begs ys, isW w = true := fun w hw => by
  obtain ⟨i, _, rfl⟩ := List.mem_map.mp hw
  exact isW_take h i
theorem begs_len (ys : List Str) : (begs ys).length = ys.length + 1 := by
  unfold begs
  rw [List.length_map, List.length_range]
end Lw
namespace Lw
open PySem PySem.Spec PyProof.Rows L2 Evl TL
theorem q_asgLW {K : PySem.W.Frag} {σ : L2.St} {H : Hp} {te : TE} {tz : TS} {D : Ends} {i : Nat} {ws : List (List Str)} (h : EvLW K te σ H ws) (k : ∀ l H1, H l = none → Ex H H1 → LW K H1 l ws → tz D (σ.set i (some (.ref l))) H1) : tSeq (tAsg te (gName i)) tz D σ H := h H (Ex.refl H) _ k
end Lw
namespace Lw
open PySem PySem.Spec PyProof.Rows L2 Evl TL
/-- a list that changes leaves tuples and other lists of them -/
theorem wd_upd {K : PySem.W.Frag} {H : Hp} {l : Addr} {xs : List V} {o : HO} {v : V} {ys : List Str} (hl : H l = some (.lst xs)) (h : Wd K H v ys) : Wd K (upd H l o) v ys := by
  obtain ⟨a, rfl, h⟩ := h
  refine ⟨a, rfl, ?_⟩
  rw [upd_ne (fun q => by rw [q, hl] at h; cases h)]
  exact h
theorem lw_upd {K : PySem.W.Frag} {H : Hp} {l r : Addr} {xs : List V} {o : HO} {ws : List (List Str)} (hl : H l = some (.lst xs)) (hr : r ≠ l) (h : LW K H r ws) : LW K (upd H l o) r ws := by
  obtain ⟨us, h1, h2⟩ := h
  exact ⟨us, by rw [upd_ne hr]; exact h1, paired_mono (fun _ _ z => wd_upd hl z) h2⟩
end Lw
namespace Lw
open PySem PySem.Spec PyProof.Rows L2 Evl TL
/-! ### the order of words -/
theorem lexW_irr : ∀ xs : List Str, lexW xs xs = false
  | [] => rfl
  | x :: xs => by
    show (if x = x then lexW xs xs else decide (x.cps.toList < x.cps.toList)) = false
    rw [if_pos rfl, lexW_irr xs]
theorem lexW_trans : ∀ {xs ys zs : List Str}, lexW xs ys = true → lexW ys zs = true → lexW xs zs = true
  | [], _, _, h, _ => by cases h
  | _ :: _, [], _, h, _ => by cases h
  | _ :: _, _ :: _, [], _, h => by cases h
  | x :: xs, y :: ys, z :: zs, h1, h2 => by
    have h1 : (if x = y then lexW xs ys else decide (x.cps.toList < y.cps.toList)) = true := h1
    have h2 : (if y = z then lexW ys zs else decide (y.cps.toList < z.cps.toList)) = true := h2
    show (if x = z then lexW xs zs else decide (x.cps.toList < z.cps.toList)) = true
    by_cases e1 : x = y
    · subst e1
      rw [if_pos rfl] at h1
      by_cases e2 : x = z
      · subst e2
        rw [if_pos rfl] at h2 ⊢
        exact lexW_trans h1 h2
      · rw [if_neg e2] at h2 ⊢
        exact h2
    · rw [if_neg e1] at h1
      have l1 := of_decide_eq_true h1
      by_cases e2 : y = z
      · subst e2
        rw [if_neg e1]
        exact h1
      · rw [if_neg e2] at h2
        have l2 := of_decide_eq_true h2
        have l3 : x.cps.toList < z.cps.toList := List.lt_trans l1 l2
        have e3 : x ≠ z := fun e => by
          rw [e] at l3
          exact List.lt_irrefl _ l3
        rw [if_neg e3]
        exact decide_eq_true l3
theorem lt_conn {a b : List Nat} (h : a ≠ b) : a < b ∨ b < a := by
  rcases Decidable.em (a < b) with z | z
  · exact .inl z
  · refine .inr ?_
    have h1 : b ≤ a := List.not_lt.mp z
    rcases Decidable.em (b < a) with y | y
    · exact y
    · have h2 : a ≤ b := List.not_lt.mp y
      exact absurd (List.le_antisymm h2 h1) h
theorem lexW_conn : ∀ {xs ys : List Str}, xs.length = ys.length → xs ≠ ys → lexW xs ys = true ∨ lexW ys xs = true
  | [], [], _, h => absurd rfl h
  | [], _ :: _, h, _ => by cases h
  | _ :: _, [], h, _ => by cases h
  | x :: xs, y :: ys, hl, h => by
    show (if x = y then lexW xs ys else decide (x.cps.toList < y.cps.toList)) = true ∨ (if y = x then lexW ys xs else decide (y.cps.toList < x.cps.toList)) = true
    by_cases e : x = y
    · subst e
      rw [if_pos rfl, if_pos rfl]
      exact lexW_conn (Nat.succ.inj hl) fun z => h (by rw [z])
    · rw [if_neg e, if_neg fun z => e z.symm]
      have ne : x.cps.toList ≠ y.cps.toList := fun z => e (ext_tl z)
      rcases lt_conn ne with z | z
      · exact .inl (decide_eq_true z)
      · exact .inr (decide_eq_true z)
theorem ahead_irr (xs : List Str) : aheadW xs xs = false := by
  unfold aheadW
  rw [if_pos rfl, lexW_irr]
theorem ahead_le {xs ys : List Str} (h : aheadW xs ys = true) : xs.length ≤ ys.length := by
  unfold aheadW at h
  split at h
  · omega
  · have := of_decide_eq_true h
    omega
theorem ahead_trans {xs ys zs : List Str} (h1 : aheadW xs ys = true) (h2 : aheadW ys zs = true) : aheadW xs zs = true := by
  have a := ahead_le h1
  have b := ahead_le h2
  unfold aheadW at h1 h2 ⊢
  by_cases e : xs.length = zs.length
  · rw [if_pos (by omega)] at h1 h2
    rw [if_pos e]
    exact lexW_trans h1 h2
  · rw [if_neg e]
    exact decide_eq_true (by omega)
theorem ahead_conn {xs ys : List Str} (h : xs ≠ ys) : aheadW xs ys = true ∨ aheadW ys xs = true := by
  unfold aheadW
  by_cases e : xs.length = ys.length
  · rw [if_pos e, if_pos e.symm]
    exact lexW_conn e h
  · rw [if_neg e, if_neg fun z => e z.symm]
    rcases Nat.lt_or_gt_of_ne e with z | z
    · exact .inl (decide_eq_true z)
    · exact .inr (decide_eq_true z)
theorem ahead_asymm {xs ys : List Str} (h : aheadW xs ys = true) : aheadW ys xs = false := by
  cases q : aheadW ys xs with
  | false => rfl
  | true =>
    have z := ahead_trans h q
    rw [ahead_irr] at z
    cases z
/-! ### sorted lists -/
def Sd (ws : List (List Str)) : Prop := ws.Pairwise fun a b => aheadW a b = true
theorem sd_uniq : ∀ {xs ys : List (List Str)}, Sd xs → Sd ys → (∀ u, u ∈ xs ↔ u ∈ ys) → xs = ys
  | [], [], _, _, _ => rfl
  | [], y :: ys, _, _, h => absurd ((h y).mpr List.mem_cons_self) List.not_mem_nil
  | x :: xs, [], _, _, h => absurd ((h x).mp List.mem_cons_self) List.not_mem_nil
  | x :: xs, y :: ys, hx, hy, h => by
    obtain ⟨x1, x2⟩ := List.pairwise_cons.mp hx
    obtain ⟨y1, y2⟩ := List.pairwise_cons.mp hy
    have e : x = y := by
      rcases List.mem_cons.mp ((h x).mp List.mem_cons_self) with z | z
      · exact z
      · rcases List.mem_cons.mp ((h y).mpr List.mem_cons_self) with w | w
        · exact w.symm
        · have a := x1 y w
          rw [ahead_asymm (y1 x z)] at a
          cases a
    subst e
    have e2 : xs = ys := sd_uniq x2 y2 fun u => by
      constructor
      · intro hu
        rcases List.mem_cons.mp ((h u).mp (List.mem_cons_of_mem _ hu)) with z | z
        · have a := x1 u hu
          rw [z, ahead_irr] at a
          cases a
        · exact z
      · intro hu
        rcases List.mem_cons.mp ((h u).mpr (List.mem_cons_of_mem _ hu)) with z | z
        · have a := y1 u hu
          rw [z, ahead_irr] at a
          cases a
        · exact z
    rw [e2]
/-- those aheadW of w stand at the beginning -/
theorem sd_split {w : List Str} : ∀ {fs : List (List Str)}, Sd fs → w ∉ fs → (∀ u ∈ fs.take (fs.filter (aheadW · w)).length, aheadW u w = true) ∧ (∀ u ∈ fs.drop (fs.filter (aheadW · w)).length, aheadW w u = true)
  | [], _, _ => ⟨fun u hu => absurd hu (by simp), fun u hu => absurd hu (by simp)⟩
  | f :: fs, h, hw => by
    obtain ⟨h1, h2⟩ := List.pairwise_cons.mp h
    have hwf : w ≠ f := fun e => hw (by rw [e]; exact List.mem_cons_self)
    have hwfs : w ∉ fs := fun z => hw (List.mem_cons_of_mem _ z)
    by_cases q : aheadW f w = true
    · obtain ⟨i1, i2⟩ := sd_split h2 hwfs
      rw [List.filter_cons, if_pos q, List.length_cons, List.take_succ_cons, List.drop_succ_cons]
      refine ⟨fun u hu => ?_, i2⟩
      rcases List.mem_cons.mp hu with z | z
      · rw [z]
        exact q
      · exact i1 u z
    · have hf : aheadW w f = true := (ahead_conn hwf).resolve_right q
      have all : ∀ u ∈ fs, aheadW w u = true := fun u hu => ahead_trans hf (h1 u hu)
      have none : fs.filter (aheadW · w) = [] := List.filter_eq_nil_iff.mpr fun u hu z => by
        rw [ahead_asymm (all u hu)] at z
        cases z
      rw [List.filter_cons, if_neg q, none]
      refine ⟨fun u hu => absurd hu (by simp), fun u hu => ?_⟩
      rw [List.length_nil, List.drop_zero] at hu
      rcases List.mem_cons.mp hu with z | z
      · rw [z]
        exact hf
      · exact all u z
theorem insW_sd {fs : List (List Str)} {w : List Str} (h : Sd fs) : Sd (insW fs w) := by
  unfold insW
  split
  · exact h
  · rename_i hw
    obtain ⟨a, b⟩ := sd_split h hw
    have e : fs.take (fs.filter (aheadW · w)).length ++ fs.drop (fs.filter (aheadW · w)).length = fs := List.take_append_drop _ _
    have h' : Sd (fs.take (fs.filter (aheadW · w)).length ++ fs.drop (fs.filter (aheadW · w)).length) := by rw [e]; exact h
    obtain ⟨p1, p2, p3⟩ := List.pairwise_append.mp h'
    refine List.pairwise_append.mpr ⟨List.pairwise_append.mpr ⟨p1, List.pairwise_singleton _ _, fun u hu v hv => ?_⟩, p2, fun u hu v hv => ?_⟩
    · rw [List.mem_singleton.mp hv]
      exact a u hu
    · rcases List.mem_append.mp hu with z | z
      · exact p3 u z v hv
      · rw [List.mem_singleton.mp z]
        exact b v hv
theorem srtW_sd (ws : List (List Str)) : Sd (srtW ws) := by
  have key : ∀ (ws fs : List (List Str)), Sd fs → Sd (ws.foldl insW fs) := fun ws => by
    induction ws with
    | nil => intro fs h; exact h
    | cons w ws ih => intro fs h; exact ih _ (insW_sd h)
  exact key ws [] .nil
/-- the same words, the same list -/
theorem srtW_same {ws us : List (List Str)} (h : ∀ u, u ∈ ws ↔ u ∈ us) : srtW ws = srtW us := sd_uniq (srtW_sd ws) (srtW_sd us) fun u => by rw [srtW_mem, srtW_mem, h]
theorem srtW_back (ws : List (List Str)) : srtW ((srtW ws).reverse ++ ws) = srtW ws := srtW_same fun u => by
  rw [List.mem_append, List.mem_reverse, srtW_mem, or_self]
end Lw
namespace Lw
open PySem PySem.Spec PyProof.Rows L2 Evl TL
/-! ### lists of words: displays, parts, joined -/
section
variable {K : PySem.W.Frag} {σ : L2.St} {H : Hp} {te ta tb : TE} {tA tr : TA} {ys w : List Str} {ws us : List (List Str)}
def EvAW (K : PySem.W.Frag) (ta : TA) (σ : L2.St) (H : Hp) (ws : List (List Str)) : Prop := ∀ H1, Ex H H1 → ∀ Q : List V → Hp → Prop, (∀ us H2, Ex H1 H2 → Paired (Wd K H2) us ws → Q us H2) → ta σ H1 Q
theorem eaw_nil : EvAW K tNil σ H [] := fun H1 _ Q q => q [] H1 (Ex.refl H1) .nil
theorem eaw_cons (h : EvW K te σ H w) (hr : EvAW K tr σ H ws) : EvAW K (tCons te tr) σ H (w :: ws) := fun H1 e Q q => h H1 e _ fun v H2 e2 hv => hr H2 (e.trans e2) _ fun us H3 e3 hu => q _ H3 (e2.trans e3) (.cons (wd_mono e3 hv) hu)
theorem ew_tup (h : EvA tA σ H (ys.map V.str)) (hz : ys.length ≤ 100000) : EvW K (tTup tA) σ H ys := fun H1 e Q q => h H1 e _ fun H2 e2 => ⟨by rw [List.length_map]; exact sz_of hz, fun p hp => q _ _ (e2.trans (Ex.new hp)) ⟨p, rfl, upd_same⟩⟩
theorem elw_lst (h : EvAW K tA σ H ws) (hz : ws.length ≤ 100000) : EvLW K (tLst tA) σ H ws := fun H1 e Q q => h H1 e _ fun us H2 e2 hu => ⟨by rw [Paired.length hu]; exact sz_of hz, fun p hp => q p _ (fresh_back e2 hp) (e2.trans (Ex.new hp)) ⟨us, upd_same, paired_mono (fun _ _ r => wd_mono (Ex.new hp) r) hu⟩⟩
theorem elw_cat (ha : EvLW K ta σ H ws) (hb : EvLW K tb σ H us) (hz : ws.length + us.length ≤ 100000) : EvLW K (tOp rCat ta tb) σ H (ws ++ us) := fun H1 e Q q => ha H1 e _ fun l H2 hl e2 hL => hb H2 (e.trans e2) _ fun r H3 hr e3 hR => by
  obtain ⟨xs, x1, x2⟩ := lw_mono e3 hL
  obtain ⟨zs, z1, z2⟩ := hR
  refine ⟨l, r, xs, zs, rfl, rfl, x1, z1, by rw [Paired.length x2, Paired.length z2]; exact sz_of hz, fun t ht => q t _ (fresh_back (e2.trans e3) ht) ((e2.trans e3).trans (Ex.new ht)) ⟨_, upd_same, paired_mono (fun _ _ r => wd_mono (Ex.new ht) r) (paired_app x2 z2)⟩⟩
/-- a list that stands, then a new one -/
theorem elw_catV {l : Addr} (ha : Ev ta σ H (.ref l)) (hl : LW K H l ws) (hb : EvLW K tb σ H us) (hz : ws.length + us.length ≤ 100000) : EvLW K (tOp rCat ta tb) σ H (ws ++ us) := fun H1 e Q q => ha H1 e _ fun H2 e2 => hb H2 (e.trans e2) _ fun r H3 hr e3 hR => by
  obtain ⟨xs, x1, x2⟩ := lw_mono ((e.trans e2).trans e3) hl
  obtain ⟨zs, z1, z2⟩ := hR
  refine ⟨l, r, xs, zs, rfl, rfl, x1, z1, by rw [Paired.length x2, Paired.length z2]; exact sz_of hz, fun t ht => q t _ (fresh_back (e2.trans e3) ht) ((e2.trans e3).trans (Ex.new ht)) ⟨_, upd_same, paired_mono (fun _ _ r => wd_mono (Ex.new ht) r) (paired_app x2 z2)⟩⟩
theorem elw_take {l : Addr} {n : Nat} {to th : TO} (ha : Ev ta σ H (.ref l)) (hl : LW K H l ws) (h1 : EvO to σ H none) (h2 : EvO th σ H (some (n : Int))) (hn : n ≤ ws.length) : EvLW K (tSl (rSlL K) ta to th) σ H (ws.take n) := fun H1 e Q q => by
  obtain ⟨xs, x1, x2⟩ := lw_mono e hl
  refine el_sl (K := K) (H := H1) (ha.mono e) (fun H2 e2 => h1 H2 (e.trans e2)) (fun H2 e2 => h2 H2 (e.trans e2)) (SqL.of x1) H1 (Ex.refl H1) _ fun p H2 hp e2 h => ?_
  rw [cut_to xs n (by rw [Paired.length x2]; exact hn)] at h
  exact q p H2 hp e2 ⟨_, h, paired_mono (fun _ _ r => wd_mono e2 r) (paired_take n x2)⟩
theorem elw_drop {l : Addr} {n : Nat} {to th : TO} (ha : Ev ta σ H (.ref l)) (hl : LW K H l ws) (h1 : EvO to σ H (some (n : Int))) (h2 : EvO th σ H none) (hn : n ≤ ws.length) : EvLW K (tSl (rSlL K) ta to th) σ H (ws.drop n) := fun H1 e Q q => by
  obtain ⟨xs, x1, x2⟩ := lw_mono e hl
  refine el_sl (K := K) (H := H1) (ha.mono e) (fun H2 e2 => h1 H2 (e.trans e2)) (fun H2 e2 => h2 H2 (e.trans e2)) (SqL.of x1) H1 (Ex.refl H1) _ fun p H2 hp e2 h => ?_
  rw [cut_from xs n (by rw [Paired.length x2]; exact hn)] at h
  exact q p H2 hp e2 ⟨_, h, paired_mono (fun _ _ r => wd_mono e2 r) (paired_drop n x2)⟩
theorem paired_rev {α β : Type} {R : α → β → Prop} : ∀ {xs : List α} {ys : List β}, Paired R xs ys → Paired R xs.reverse ys.reverse
  | _, _, .nil => .nil
  | _, _, .cons r t => by
    rw [List.reverse_cons, List.reverse_cons]
    exact paired_app (paired_rev t) (.cons r .nil)
theorem elw_rev {K' : PySem.W.Frag} (ha : EvLW K ta σ H ws) : EvLW K (tRevL K' ta) σ H ws.reverse := fun H1 e Q q => ha H1 e _ fun l H2 hl e2 hL => by
  obtain ⟨xs, x1, x2⟩ := hL
  exact ⟨l, xs, rfl, SqL.of x1, fun p hp => q p _ (fresh_back e2 hp) (e2.trans (Ex.new hp)) ⟨_, upd_same, paired_mono (fun _ _ r => wd_mono (Ex.new hp) r) (paired_rev x2)⟩⟩
theorem lw_xp {p l : Addr} {H1 : Hp} (hp : Po p H) (x : Xp p H H1) (h : LW K H l ws) : LW K H1 l ws := by
  obtain ⟨xs, x1, x2⟩ := h
  have hp2 := hp
  by_cases e : l = p
  · -- the pot's own list holds no tuples
    obtain ⟨i, j, ep, _⟩ := hp
    rw [e, ep] at x1
    injection x1 with x1
    injection x1 with x1
    subst x1
    cases x2 with
    | cons r t =>
      obtain ⟨a, ea, _⟩ := r
      cases ea
  · exact ⟨xs, x.1 _ _ e x1, paired_mono (fun _ _ r => wd_xp hp2 x r) x2⟩
end
end Lw
namespace Lw
open PySem PySem.Spec PyProof.Rows L2 Evl TL
theorem cut_to2 (xs : List V) (n : Nat) : cutV xs none (some (n : Int)) = xs.take n := by
  unfold cutV
  rw [show HT.sIx xs.length xs.length (some (n : Int)) = min n xs.length from HT.sIx_nat _ _ n, HT.sIx_none, List.drop_zero, Nat.sub_zero]
  rcases Nat.le_total n xs.length with h | h
  · rw [Nat.min_eq_left h]
  · rw [Nat.min_eq_right h, List.take_length, List.take_of_length_le h]
section
variable {P : Program} {wd : World} {K : PySem.W.Frag} {σ : L2.St} {H : Hp} {te ta tb : TE} {ys w : List Str} {ws us : List (List Str)}
theorem elw_take2 {l : Addr} {n : Nat} {to th : TO} (ha : Ev ta σ H (.ref l)) (hl : LW K H l ws) (h1 : EvO to σ H none) (h2 : EvO th σ H (some (n : Int))) : EvLW K (tSl (rSlL K) ta to th) σ H (ws.take n) := fun H1 e Q q => by
  obtain ⟨xs, x1, x2⟩ := lw_mono e hl
  refine el_sl (K := K) (H := H1) (ha.mono e) (fun H2 e2 => h1 H2 (e.trans e2)) (fun H2 e2 => h2 H2 (e.trans e2)) (SqL.of x1) H1 (Ex.refl H1) _ fun p H2 hp e2 h => ?_
  rw [cut_to2 xs n] at h
  exact q p H2 hp e2 ⟨_, h, paired_mono (fun _ _ r => wd_mono e2 r) (paired_take n x2)⟩
theorem ev_reprW (h : EvW K te σ H ys) (hw : isW ys = true) : Ev (tCB (rRepr P wd) (tCons te tNil)) σ H (.str (wD ys).shown) := fun H1 e Q q =>
  h H1 e _ fun v H2 e2 hv => .inr ⟨v, wD ys, rfl, rw_word hv, rok_wD hw, q H2 e2⟩
theorem ev_neW (ha : EvW K ta σ H ys) (hb : EvW K tb σ H ys) (hw : isW ys = true) : Ev (tOp (rNeD K) ta tb) σ H (.bl false) := fun H1 e Q q => ha H1 e _ fun v H2 e2 hv => hb H2 (e.trans e2) _ fun u H3 e3 hu => by
  have sh := shaped_wD hw
  refine ⟨wD ys, wD ys, dp_word (wd_mono e3 hv), dp_word hu, sh, sh, ?_⟩
  rw [eqv_wD, decide_eq_true rfl]
  exact q H3 (e2.trans e3)
end
end Lw
namespace Lw
open PySem PySem.Spec PyProof.Rows L2 Evl TL PySem.W
/-! ### sorted by the number of letters, then by the word -/
def kW (ys : List Str) : PyData := .tuple [.int (ys.length : Int), wD ys]
theorem rowLt_strs : ∀ {xs ys : List Str}, xs.length = ys.length → rowLt (xs.map PyData.str) (ys.map PyData.str) = lexW xs ys
  | [], [], _ => lex_irrefl _
  | x :: xs, y :: ys, h => by
    have e : rowLt (PyData.str x :: xs.map .str) (PyData.str y :: ys.map .str) = if x = y then rowLt (xs.map .str) (ys.map .str) else decide (x.cps.toList < y.cps.toList) := by
      unfold rowLt
      rw [dataLt_cons (by simp [alike]), dataLt_str]
      simp only [PyData.eqv, beq_iff_eq]
    show rowLt (PyData.str x :: xs.map .str) (PyData.str y :: ys.map .str) = if x = y then lexW xs ys else decide (x.cps.toList < y.cps.toList)
    rw [e, rowLt_strs (Nat.succ.inj h)]
theorem alike_strs : ∀ xs ys : List Str, alikeAll (xs.map PyData.str) (ys.map PyData.str) = true
  | [], _ => by simp [alikeAll]
  | _ :: _, [] => by simp [alikeAll]
  | x :: xs, y :: ys => by simp [alikeAll, alike, alike_strs xs ys]
theorem lt_kW (xs ys : List Str) : dataLt (kW xs) (kW ys) = aheadW xs ys := by
  unfold kW
  rw [dataLt_pair (by simp [alike]) (by simp [alike, wD, alike_strs]), dataLt_int, eqv_wD]
  unfold aheadW
  by_cases h : xs.length = ys.length
  · rw [if_pos (by rw [h]; simp [PyData.eqv]), if_pos h]
    by_cases e : xs = ys
    · subst e
      rw [if_pos (decide_eq_true rfl), lexW_irr]
    · rw [if_neg (by simp [e])]
      unfold wD
      rw [dataLt_tuple]
      exact rowLt_strs h
  · rw [if_neg h, if_neg (by simp [PyData.eqv]; omega)]
    exact decide_eq_decide.mpr (by omega)
theorem le_kW : dataLe false kW = fun a b => !aheadW b a := by
  funext a b
  show (!dataLt (kW b) (kW a)) = _
  rw [lt_kW]
theorem alike_kW (ws : List (List Str)) : AllAlike (ws.map kW) := fun d hd e he => by
  obtain ⟨x, _, rfl⟩ := List.mem_map.mp hd
  obtain ⟨y, _, rfl⟩ := List.mem_map.mp he
  simp [kW, alike, alikeAll, wD, alike_strs]
theorem sortable_kW (ws : List (List Str)) : Sortable (ws.map kW) := .inl fun d hd => by
  obtain ⟨x, _, rfl⟩ := List.mem_map.mp hd
  exact ⟨_, _, rfl⟩
/-- different words, sorted by that key -/
theorem sort_words {ds ws : List (List Str)} (hn : ds.Nodup) (hm : ∀ u, u ∈ ds ↔ u ∈ ws) : ds.mergeSort (dataLe false kW) = srtW ws := by
  have p : (ds.mergeSort (dataLe false kW)).Perm ds := List.mergeSort_perm ds _
  have s : (ds.mergeSort (dataLe false kW)).Pairwise fun a b => dataLe false kW a b = true := sort_pairwise (sortLe_total _ _ _) ds
  have nd : (ds.mergeSort (dataLe false kW)).Nodup := (List.Perm.nodup_iff p).mpr hn
  refine sd_uniq ?_ (srtW_sd ws) fun u => by rw [p.mem_iff, srtW_mem, hm]
  refine List.Pairwise.imp₂ (fun a b h1 h2 => ?_) s nd
  rw [le_kW] at h1
  have h1 : (!aheadW b a) = true := h1
  rcases ahead_conn (show a ≠ b from h2) with z | z
  · exact z
  · rw [z] at h1
    cases h1
end Lw
namespace Lw
open PySem PySem.Spec PyProof.Rows L2 Evl
/-! ### enumerate over a tuple -/
theorem drawsT {prog : Program} {w : World} {A : Around} (hn : A.handled = none) (r t : Addr) (ne : t ≠ r) (ys : Array Value) :
    Draws prog w A r [r, t] ys.size (fun j v => ys[j]? = some v) (fun j h => h.IsTupleIter r t j ∧ h.IsTuple t ys) where
  live := fun _ _ z => by
    obtain ⟨⟨o, e, _⟩, _⟩ := z
    exact ⟨o, e⟩
  frame := fun _ _ _ z k => ⟨z.1.at fun o e => k r (by simp) o e, z.2.at fun o e => k t (by simp) o e⟩
  item := fun j s Q E lt z q => by
    refine PySem.wpAny_nextOf_tuple_item z.1 z.2 (x := ys[j]) (by simp [lt]) fun h2 z2 sb => ?_
    exact q _ h2 s.toks (by simp [lt]) ⟨z2, z.2.at fun o e => sb.extBut t o ne e⟩ sb
  done := fun s Q E z q => PySem.wpAny_nextOf_tuple_end hn z.1 z.2 (by simp) q
theorem newEnumT (t : Addr) (ys : Array Value) (n : Nat) (d : Option Addr) (sl : Array (Option Value)) :
    Meets (Builtin.«enumerate.__new__» ⟨[.type "enumerate", .ref t], []⟩) (fun _ R s => s.heap.get? t = some { cls := .type "tuple", dict := d, data := .seq ys n, slots := sl } ∧
      R (.ok (.ret (.ref (s.heap.push { cls := .type "tuple_iterator", data := .fields #[.ref t, .int 0 0] }).objs.size)))
        { s with heap := (s.heap.push { cls := .type "tuple_iterator", data := .fields #[.ref t, .int 0 0] }).push { cls := .type "enumerate", data := .fields #[.none, .bool false, .ref s.heap.objs.size, rawInt 0, .none, .none] } }) :=
  .of_wp fun prog w A R s z => by
    obtain ⟨hp, g, dr, tk, os⟩ := s
    obtain ⟨ht, z⟩ := z
    have su := sub_enumerate
    have hT : Heap.IsTuple (Shared.heap ⟨hp, g, dr, tk, os⟩) t ys := ⟨_, ht, rfl, n, rfl⟩
    wp_walk using AutoSeq1.wpAny_loadPart' ht
    refine wpAny_stack_any fun st => wpAny_pure ?_
    split
    · rename_i c _ _ _ _ _
      cases (c == Value.type "enumerate") <;>
      · wp_walk using AutoSeq1.wpAny_loadPart' ht, wpAny_pyIter_tuple hT
        exact ⟨_, rfl, z⟩
    · wp_walk using AutoSeq1.wpAny_loadPart' ht, wpAny_pyIter_tuple hT
      exact ⟨_, rfl, z⟩
section
variable {prog : Program} {w : World} {A : Around} {E : Value → Shared → Prop} {s : Shared}
theorem callEnumT {t : Addr} {ys : Array Value} {Q : Value → Shared → Prop} (ht : s.heap.IsTuple t ys)
    (q : ∀ h2, IsEnum h2 (s.heap.objs.size + 1) s.heap.objs.size 0 .none → h2.IsTupleIter s.heap.objs.size t 0 → (∀ b o, s.heap.get? b = some o → h2.get? b = some o) → Q (.ref (s.heap.objs.size + 1)) { s with heap := h2 }) :
    wpAny (model prog w) A (call (.type "enumerate") [.ref t]) Q E s := by
  obtain ⟨⟨c, d, dt, sl⟩, ho, hc, n, hd⟩ := ht
  obtain rfl : c = .type "tuple" := hc
  obtain rfl : dt = .seq ys n := hd
  refine callType_new F.called_enumerate (by decide) (F.typeCall_enumerate_1 _) (F.newCall_enumerate_1 _) (fun obj => F.args_object_init_2 obj _) F.entry_enumerate_new (newEnumT t ys n d sl) ⟨ho, ?_⟩
  let r : Obj := { cls := .type "tuple_iterator", data := .fields #[.ref t, .int 0 0] }
  have sz : (s.heap.push r).objs.size = s.heap.objs.size + 1 := Heap.size_push ..
  have en := Heap.get?_push_size (s.heap.push r) (o := { cls := .type "enumerate", data := .fields #[.none, .bool false, .ref s.heap.objs.size, rawInt 0, .none, .none] }) rfl
  show _ ∧ _
  rw [sz] at en ⊢
  exact ⟨⟨_, en, rfl⟩, q _ en ⟨_, Heap.get?_push_of_some _ (Heap.get?_push_size _ rfl), rfl, rfl⟩ fun b o e => Heap.get?_push_of_some _ (Heap.get?_push_of_some _ e)⟩
end
/-- the tuple at a, each item in a new pair -/
def IteT (K : PySem.W.Frag) (a : Addr) : It where
  go := fun i H => ∃ (xs : List V) (x : V), SqT K H a xs ∧ xs[i]? = some x
  yld := fun i H v H' => ∃ T x, v = .ref T ∧ H T = none ∧ H' = upd H T (.tup [.int (i : Nat), x]) ∧ ∀ xs, SqT K H a xs → xs[i]? = some x
  stop := fun i H => ∃ xs : List V, SqT K H a xs ∧ i = xs.length
theorem turnEnumT {P : Program} {w : World} {K : PySem.W.Frag} {es : List Expr} {kk : Nat} {tp : Pos} (a e r : Addr) :
    Turn P w K (.Tuple es kk tp) (IteT K a) [e, r] e (fun i h => (∃ old, IsEnum h e r ((i : Nat) : Int) old) ∧ h.IsTupleIter r a i ∧ e ≠ r) where
  mem := List.mem_cons_self
  obj := fun i h z b hb => by
    obtain ⟨⟨old, z1⟩, ⟨o, e1, _, e2⟩, _⟩ := z
    rcases List.mem_cons.mp hb with rfl | hb
    · exact ⟨_, z1, fun v q => nomatch q⟩
    · obtain rfl := List.mem_singleton.mp hb
      exact ⟨o, e1, fun v q => by
        rw [e2] at q
        cases q⟩
  keep := fun i h h2 z k => by
    obtain ⟨⟨old, z1⟩, z2, z3⟩ := z
    exact ⟨⟨old, k e (by simp) _ z1⟩, z2.at fun o q => k r (by simp) o q, z3⟩
  item := by
    intro X hP hw hK hc i pins s σ H E I hf z hg
    subst hP hw hK
    obtain ⟨⟨old, z1⟩, z2, z3⟩ := z
    obtain ⟨xs, x, hq, hx⟩ := hg
    obtain ⟨its, rv, p, hz⟩ := I.tuple hq
    obtain ⟨u, hu, ru⟩ := rv.get hx
    have le : e < s.heap.objs.size := Heap.lt_size z1
    have lr : r < s.heap.objs.size := by
      obtain ⟨_, q, _⟩ := z2
      exact Heap.lt_size q
    have pT : s.heap.IsTuple a its.toArray := p
    have ar : a ≠ r := fun q => by
      obtain ⟨o1, g1, c1, _⟩ := pT
      obtain ⟨o2, g2, c2, _⟩ := z2
      rw [q, g2] at g1
      cases g1
      rw [c1] at c2
      injection c2 with c3
      exact absurd c3 (by decide)
    have ea : e ∉ [r, a] := fun q => by
      rcases List.mem_cons.mp q with q | q
      · exact z3 q
      · obtain ⟨o1, g1, c1, _⟩ := pT
        rw [← List.mem_singleton.mp q, z1] at g1
        cases g1
        injection c1 with c3
        exact absurd c3 (by decide)
    have hil : i < its.toArray.size := by
      have := (List.getElem?_eq_some_iff.mp hu).1
      simpa using this
    refine wpAny_pyNext_enum_itemD (drawsT (A := X.A.in1) (I.ok.hd hc) r a ar its.toArray) z1 ⟨z2, pT⟩ hil z3 ea fun v h1 tk hv ho st hT hsz hk => ?_
    obtain rfl : v = u := by
      have e1 : its[i]? = some v := by simpa using hv
      rw [hu] at e1
      exact (Option.some.inj e1).symm
    refine ⟨_, rfl, wpAny_letOwnedTupleGo_enum (s := { s with heap := h1, toks := tk + 1 }) ho fun h2 he2 sb => ?_⟩
    have t2 : h2.get? s.heap.objs.size = some { cls := .type "tuple", data := .seq #[.int i tk, v] } := (sb.2 _ (Nat.ne_of_gt le)).trans hT
    have new : ObjOk X.prog X.w (upd H s.heap.objs.size (.tup [.int (i : Nat), x])) h2 s.heap.objs.size (.tup [.int (i : Nat), x]) :=
      ⟨by show 2 ≤ sizeLine; decide, [.int i tk, v], .cons ⟨_, rfl⟩ (.cons ru .nil), ⟨_, t2, rfl, _, rfl⟩⟩
    have J := I.turnedNew (t' := tk + 1) (ch := [e, r]) (h' := h2) (fun b o nb q => (sb.2 b fun y => nb (by simp [y])).trans (hk b o (fun y => nb (by simp [y])) (fun y => nb (by simp [y])) q)) hf (Nat.le_refl _) new
    refine ⟨.ref s.heap.objs.size, _, J, rfl, ⟨_, x, rfl, I.hok.fresh (Nat.le_refl _), rfl, fun ys hy => ?_⟩, ⟨⟨v, ?_⟩, st.1.at fun o q => (sb.2 r (Ne.symm z3)).trans q, z3⟩, fun b hb => ?_⟩
    · rw [I.tuple_inj hy hq]
      exact hx
    · rw [show ((i + 1 : Nat) : Int) = (i : Int) + 1 by omega]
      exact he2
    · have lb : b < s.heap.objs.size := by
        rcases List.mem_cons.mp hb with rfl | hb
        · exact le
        · rw [List.mem_singleton.mp hb]
          exact lr
      rw [upd_ne (Nat.ne_of_lt lb)]
      exact (hf b hb).1
  done := by
    intro X hP hw hK hc i pins s σ H E I hf z hg
    subst hP hw hK
    obtain ⟨⟨old, z1⟩, z2, z3⟩ := z
    obtain ⟨xs, hq, hx⟩ := hg
    obtain ⟨its, rv, p, hz⟩ := I.tuple hq
    have pT : s.heap.IsTuple a its.toArray := p
    obtain ⟨f0, f1, f2, f3, f4, f5⟩ := hf r (by simp)
    have hl := rv.length
    have ar : a ≠ r := fun q => by
      obtain ⟨o1, g1, c1, _⟩ := pT
      obtain ⟨o2, g2, c2, _⟩ := z2
      rw [q, g2] at g1
      cases g1
      rw [c1] at c2
      injection c2 with c3
      exact absurd c3 (by decide)
    have en : i = its.toArray.size := by
      rw [List.size_toArray, ← hl]
      exact hx
    rw [en] at z2
    exact wpAny_pyNext_enum_endD (drawsT (A := X.A.in1) (I.ok.hd hc) r a ar its.toArray) z1 ⟨z2, pT⟩ fun h2 eb => ⟨rfl, I.turned (t' := s.toks) (fun b o nb q => eb b o nb q) f0 f1 f3 f4 f5⟩
  self := fun A i s Q E z h => by
    obtain ⟨⟨_, z1⟩, _⟩ := z
    exact wpAny_pyIter_enum z1 h
/-- over a list or a tuple -/
def iEnumS (K : PySem.W.Frag) (ta : TA) : TI := fun σ H R => ta σ H fun vs H1 => ∃ a, vs = [.ref a] ∧ ((∃ xs, SqL K H1 a xs ∧ R (Ite K a) H1) ∨ ∃ xs, SqT K H1 a xs ∧ R (IteT K a) H1)
theorem pi_enumS {X : Cx} {e : Expr} {ta : TA} {p pos tp : Pos} {es : List Expr} {kk : Nat} (hg : Gl X "enumerate") (hm : X.mg "enumerate" = none) (ha : PA X [e] ta) (hs : starEach [e] X.env = [(false, eval e X.env)] := by rfl) :
    PI X (.Tuple es kk tp) (.Call (.Name "enumerate" p) [e] [] pos) (iEnumS X.K ta) := by
  constructor
  intro pins s σ H R I h
  refine Call_ (ld_blt I hg hm boot_enumerate (PyProof.Rows.callWith_type1 (thn (ha.run pos pins s σ H _ I h) fun us s1 g => ?_) hs rfl))
  obtain ⟨vs, H1, I1, r1, a, rfl, q⟩ := g
  obtain ⟨u, rfl, ru⟩ := r1.one
  obtain rfl : u = Value.ref a := ru
  have fp : ∀ b ∈ [s1.heap.objs.size + 1, s1.heap.objs.size], FpOk X pins H1 b := fun b hb => by
    have le : s1.heap.objs.size ≤ b := by
      rcases List.mem_cons.mp hb with rfl | hb
      · exact Nat.le_succ _
      · rw [List.mem_singleton.mp hb]
        exact Nat.le_refl _
    exact I1.fpOk le (I1.hok.fresh le)
  rcases q with ⟨xs, hq, q⟩ | ⟨xs, hq, q⟩
  · obtain ⟨its, rv, pL, hz⟩ := I1.list hq
    exact call_enumerate_list pL.isList fun h2 he hit _ hk => wpAny_pyIter_enum he
      ⟨_, _, _, _, H1, rfl, I1.kept (t' := s1.toks) hk, turn_enum a (s1.heap.objs.size + 1) s1.heap.objs.size, ⟨⟨.none, he⟩, hit, Nat.succ_ne_self _⟩, fp, q⟩
  · obtain ⟨its, rv, pT, hz⟩ := I1.tuple hq
    exact callEnumT (show s1.heap.IsTuple a its.toArray from pT) fun h2 he hit hk => wpAny_pyIter_enum he
      ⟨_, _, _, _, H1, rfl, I1.kept (t' := s1.toks) hk, turnEnumT a (s1.heap.objs.size + 1) s1.heap.objs.size, ⟨⟨.none, he⟩, hit, Nat.succ_ne_self _⟩, fp, q⟩
theorem walkEnumT {K : PySem.W.Frag} {a : Addr} {xs : List V} : Walk (IteT K a) xs.length (fun H => SqT K H a xs) (YPair (fun i => some (.int (i : Nat))) (fun i => xs[i]?)) := by
  refine ⟨fun i _ hi q => ⟨xs, xs[i], q, by simp [hi]⟩, fun _ q => ⟨xs, q, rfl⟩, fun i H v H' _ q y => ?_⟩
  obtain ⟨T, x, h1, h2, h3, h4⟩ := y
  exact ⟨T, .int (i : Nat), x, h1, h2, h3, rfl, h4 xs q⟩
/-- a list or a tuple is walked -/
def iSeqS (K : PySem.W.Frag) (te : TE) : TI := fun σ H R => te σ H fun v H1 => ∃ a, v = .ref a ∧ ((∃ xs, SqL K H1 a xs ∧ R (Itl K a) H1) ∨ ∃ xs, SqT K H1 a xs ∧ R (Itt K a) H1)
theorem pi_seqS {X : Cx} {K : PySem.W.Frag} {tg l : Expr} {te : TE} (he : PE X l te) (hK : X.K = K := by rfl) : PI X tg l (iSeqS K te) := by
  subst hK
  constructor
  intro pins s σ H R I h
  refine thn (he.run pins s σ H _ I h) fun u s1 g => ?_
  obtain ⟨v, H1, I1, rv, a, rfl, q⟩ := g
  obtain rfl : u = Value.ref a := rv
  have fp : ∀ b ∈ [s1.heap.objs.size], FpOk X pins H1 b := fun b hb => by
    rw [List.mem_singleton.mp hb]
    exact I1.fpOk (Nat.le_refl _) (I1.hok.fresh (Nat.le_refl _))
  rcases q with ⟨xs, hq, q⟩ | ⟨xs, hq, q⟩
  · obtain ⟨its, _, pL, _⟩ := I1.list hq
    exact wpAny_pyIter_list pL.isList ⟨_, _, _, _, H1, rfl, I1.kept (t' := s1.toks) fun b o e => Heap.get?_push_of_some _ e, turn_list a _, ⟨_, Heap.get?_push_size _ rfl, rfl, rfl⟩, fp, q⟩
  · obtain ⟨its, _, pT, _⟩ := I1.tuple hq
    exact wpAny_pyIter_tuple (show s1.heap.IsTuple a its.toArray from pT) ⟨_, _, _, _, H1, rfl, I1.kept (t' := s1.toks) fun b o e => Heap.get?_push_of_some _ e, turn_tuple a _, ⟨_, Heap.get?_push_size _ rfl, rfl, rfl⟩, fp, q⟩
theorem pi_enumSK {X : Cx} {K : PySem.W.Frag} {e : Expr} {ta : TA} {p pos tp : Pos} {es : List Expr} {kk : Nat} (hg : Gl X "enumerate") (hm : X.mg "enumerate" = none) (ha : PA X [e] ta) (hK : X.K = K := by rfl) (hs : starEach [e] X.env = [(false, eval e X.env)] := by rfl) :
    PI X (.Tuple es kk tp) (.Call (.Name "enumerate" p) [e] [] pos) (iEnumS K ta) := by
  subst hK
  exact pi_enumS hg hm ha hs
end Lw
namespace Lw
open PySem PySem.Spec PyProof.Rows L2 Evl
/-! ### a dict comprehension whose keys are tuples of texts -/
section
variable {X : Cx} {pins : List (Addr × Obj)} {σ : L2.St} {H : Hp} {s : Shared}
/-- d[y] = v on the way of a comprehension, y a tuple -/
theorem putT {E : Value → Shared → Prop} {D b : Addr} {kvs : List (List L2.Key × V)} {k : List L2.Key} {z : V} {r : Value} {Q : Unit → Shared → Prop} (I : Inv X pins σ H s) (hu : X.A.units < cLine) (hD : H D = some (.dT kvs)) (hb : H b = some (.tup (k.map kV))) (lt : kvs.length < sizeLine) (rz : RelV z r)
    (q : ∀ t, Inv X pins σ (upd H D (.dT (putK kvs k z))) t → Q () t) : wpAny (model X.prog X.w) X.A (dictSet D (.ref b) r) Q E s := by
  obtain ⟨le, sm, xs, kt, dd⟩ := dt_of I.hok hD
  have lx : xs.length ≤ sizeLine := by
    rw [← Paired.length kt]
    exact le
  have lp : (putK kvs k z).length ≤ sizeLine := by
    have := length_putK kvs k z
    omega
  refine wpAny_dictSet_heap (hsz := lx) (knd := tupleKind (mixKind X.prog X.w)) (by first | exact tupleKind_room_in1 hu | exact tupleKind_room hu | exact hu) (key_of I.hok hb) dd fun h2 d2 sb => q _ ?_
  obtain ⟨o, es, ep, a1, a2, a3, a4, _, a5⟩ := d2
  refine d_write I (by rw [hD]; trivial) sb ⟨o, a1⟩ ⟨lp, sm, _, (kt.put k hb rz).keeps fun c ys e => ?_, o, es, ep, a1, a2, a3, a4, a5⟩
  rw [upd_ne (ne_of e hD fun z => nomatch z)]
  exact e
end
/-- {k: v for target in iter}: D is the new dict -/
def tDcT (wi : TI) (g : TG) (tk tv : TE) (ws : List Nat) : TE := fun σ H Q => wi σ H fun J H1 => ∀ D, H1 D = none → ∃ W : Nat → Nat → Hp → Prop, (∃ m, W 0 m (upd H1 D (.dT []))) ∧ ∀ i m H, W i m H →
  (J.stop i H ∧ Q (.ref D) H) ∨ (J.go i H ∧ ∃ N : Hp → Prop, (∀ H2, N H2 → ∃ l, l < m ∧ W (i + 1) l H2) ∧ ∀ x H2, J.yld i H x H2 → g x (wipe σ ws) H2 fun τ H3 => wipe τ ws = wipe σ ws ∧
    tk τ H3 fun y H4 => tv τ H4 fun z H5 => ∃ kvs k b, y = .ref b ∧ H5 b = some (.tup (k.map kV)) ∧ H5 D = some (.dT kvs) ∧ kvs.length < sizeLine ∧ N (upd H5 D (.dT (putK kvs k z))))
/-- within a comprehension's block -/
abbrev InBlk (X : Cx) (scope : Scope) (p : Cx → Prop) : Prop := ∀ s H C cl fp, p (X.blk s H scope (compEnvC scope cl C X.env) fp)
section
variable {X : Cx}
/-- what follows the last turn -/
def DcEnd (X : Cx) (pins : List (Addr × Obj)) (σ : L2.St) (use : Option (Value → Sem Unit)) (Q : VK) (Qf : Value → Shared → Prop) : Prop :=
  ∀ D C t m G, Inv X pins σ G t → Q (.ref D) G → t.heap.Ns C m → FpOk X pins G C → compPost (model X.prog X.w) X.A X.xe use Qf (.ref D) C (.ok .next) t
theorem dcT_core {pins : List (Addr × Obj)} {s : Shared} {σ : L2.St} {H : Hp} {Q : VK} {kx vx tg iter : Expr} {scope : Scope} {own : List (Str × Nat)} {pos at_ : Pos} {wi : TI} {g : TG} {tk tv : TE} {use : Option (Value → Sem Unit)} {Qf : Value → Shared → Prop} (hu : X.A.units < cLine) (cm : X.calm = true) (nd : X.N.Nodup) (I : Inv X pins σ H s) (hi : PI X tg iter wi) (bo : BlkOk X.N X.env.scope scope own)
    (gg : InBlk X scope fun Y => PG Y tg g) (gk : InBlk X scope fun Y => PE Y kx tk) (gv : InBlk X scope fun Y => PE Y vx tv) (fs : ∀ x, foldedSetIterable iter X.env x = pure x) (h : tDcT wi g tk tv (own.map (·.2)) σ H Q) (fin : DcEnd X pins σ use Q Qf) :
    wpAny (model X.prog X.w) X.A (comprehension (.DictComp kx vx [⟨tg, iter, [], 0⟩] scope pos) scope X.env at_ newDict false (eval iter X.env) use) Qf X.xe s := by
  have cells : ∀ y ∈ scope.names, y.2 = .free → ∃ c, X.env.cells.lookup y.1 = some c := fun y my ey => by
    rcases bo.free y my ey with z | z
    · exact I.ok.has _ (.inl z)
    · exact I.ok.has _ (.inr z)
  refine wpAny_comprehension_free (use := use) rfl fs (closure_ok cells) bo.kind (fun y my ey => by rw [bo.uniq y my, ey]) (thn (hi.run pins s σ H _ I h) fun xv s1 h1 => thn h1 fun itv s2 h2 => ?_)
  obtain ⟨r, fp, tn, J, H2, rfl, I2, T, st2, ff2, q⟩ := h2
  refine wpAny_newObj_type (newEnv_comp ?_)
  obtain ⟨D, eD⟩ : ∃ D, s2.heap.objs.size = D := ⟨_, rfl⟩
  have nD : H2 D = none := I2.hok.fresh (Nat.le_of_eq eD)
  obtain ⟨W, ⟨m0, w0⟩, turn⟩ := q D nD
  have kp3 : ∀ b o, s2.heap.get? b = some o → (s2.heap.push { cls := .type "dict", data := .dict #[] }).get? b = some o := fun b o e => Heap.get?_push_of_some _ e
  have J3 : Inv X pins σ (upd H2 D (.dT [])) { s2 with heap := s2.heap.push { cls := .type "dict", data := .dict #[] } } := by
    rw [← eD]
    exact I2.laid (t' := s2.toks) kp3 (Nat.le_refl _) (dt_empty s2.heap I2.big)
  have ff3 : ∀ b ∈ fp, FpOk X pins (upd H2 D (.dT [])) b ∧ b < (s2.heap.push { cls := .type "dict", data := .dict #[] }).objs.size := fun b mb => by
    obtain ⟨o, e, _⟩ := T.obj _ _ st2 b mb
    have l := Heap.lt_size e
    refine ⟨⟨?_, (ff2 b mb).2⟩, by rw [Heap.size_push]; exact Nat.lt_succ_of_lt l⟩
    rw [upd_ne (by rw [← eD]; exact Nat.ne_of_lt l)]
    exact (ff2 b mb).1
  have st3 := T.keep _ _ _ st2 fun b _ o e => kp3 b o e
  rw [eD]
  generalize e3 : ({ s2 with heap := s2.heap.push { cls := .type "dict", data := .dict #[] } } : Shared) = t3 at J3 ⊢
  have hp3 : t3.heap = s2.heap.push { cls := .type "dict", data := .dict #[] } := by rw [← e3]
  rw [← hp3] at ff3 st3
  have B4 := block_start J3 bo nd ff3
  have pg := gg t3 (upd H2 D (.dT [])) t3.heap.objs.size (cellsFrom (t3.heap.objs.size + 1) scope.names (cloFrom X.env.cells scope.names [])) fp
  have pk := gk t3 (upd H2 D (.dT [])) t3.heap.objs.size (cellsFrom (t3.heap.objs.size + 1) scope.names (cloFrom X.env.cells scope.names [])) fp
  have pv := gv t3 (upd H2 D (.dT [])) t3.heap.objs.size (cellsFrom (t3.heap.objs.size + 1) scope.names (cloFrom X.env.cells scope.names [])) fp
  have lift4 : tn 0 (pushCells (t3.heap.push { cls := .type "dict", data := .dict #[] }) scope.names) := T.keep _ _ _ st3 fun b _ o e => pushCells_keeps _ _ _ _ (Heap.get?_push_of_some _ e)
  obtain ⟨ce, hce⟩ : ∃ ce, compEnvC scope (cellsFrom (t3.heap.objs.size + 1) scope.names (cloFrom X.env.cells scope.names [])) t3.heap.objs.size X.env = ce := ⟨_, rfl⟩
  have cl : ce.locals = t3.heap.objs.size := by rw [← hce]; rfl
  rw [hce] at B4 pg pk pv
  obtain ⟨G, hG⟩ : ∃ G, upd H2 D (.dT []) = G := ⟨_, rfl⟩
  rw [hG] at J3 ff3 B4 pg pk pv w0
  have fin0 : ∀ b ∈ fp, G b = none := fun b mb => (ff3 b mb).1.1
  have fpOk : ∀ {τ : L2.St} {K1 : Hp} {t : Shared}, Inv (X.blk t3 G scope ce fp) [] τ K1 t → (∀ b ∈ fp, K1 b = none) → ∀ b ∈ fp, FpOk (X.blk t3 G scope ce fp) [] K1 b := fun {τ K1 t} I' nn b mb => by
    have z := I'.ok.exf b mb
    exact ⟨nn b mb, z.1, I'.ok.exfs b mb, .inl mb, fun x c e => z.2 x c e, fun p mp => nomatch (show p ∈ ([] : List (Addr × Obj)) from mp)⟩
  change codeAny _ _ (.compStart _ 0 (.ref r) (.ref D) (compEnvC scope (cellsFrom (t3.heap.objs.size + 1) scope.names (cloFrom X.env.cells scope.names [])) t3.heap.objs.size X.env)) (compPost _ _ _ use Qf (.ref D) t3.heap.objs.size)
    { t3 with heap := pushCells (t3.heap.push { cls := .type "dict", data := .dict #[] }) scope.names }
  rw [hce]
  replace lift4 : tn 0 ({ t3 with heap := pushCells (t3.heap.push { cls := .type "dict", data := .dict #[] }) scope.names } : Shared).heap := lift4
  generalize ({ t3 with heap := pushCells (t3.heap.push { cls := .type "dict", data := .dict #[] }) scope.names } : Shared) = t4 at B4 lift4 ⊢
  -- the state between two turns, and behind the last one
  let St : Nat → Shared → Prop := fun m t => ∃ i K1, Inv (X.blk t3 G scope ce fp) [] (wipe σ (own.map (·.2))) K1 t ∧ tn i t.heap ∧ (∀ b ∈ fp, K1 b = none) ∧ W i m K1
  have walk : codeAny (model X.prog X.w) X.A (.compLoop (.DictComp kx vx [⟨tg, iter, [], 0⟩] scope pos) 0 (.ref r) (.ref D) ce) (compPost (model X.prog X.w) X.A X.xe use Qf (.ref D) t3.heap.objs.size) t4 := by
    refine compLoop_anyD St ?_ m0 ⟨0, G, B4, lift4, fin0, w0⟩
    rintro m t5 ⟨i, K5, B5, z5, n5, w5⟩
    rcases turn i m K5 w5 with ⟨over, done⟩ | ⟨go, N, less, body⟩
    · refine thnF (T.done (X.blk t3 G scope ce fp) rfl rfl rfl cm i [] t5 _ K5 (fun _ _ => False) B5 (fpOk B5 n5) z5 over) fun rr t6 h6 => ?_
      obtain ⟨rfl, B6⟩ := h6
      have J6 : Inv X pins σ K5 t6 := J3.call' (ch := fp) B6.os B6.base B6.hok B6.bare fun b mb => by
        have z := (ff3 b mb).1.2
        exact ⟨z.2.2.1, z.1, z.2.2.2.1, z.2.2.2.2⟩
      obtain ⟨mm, ns, _⟩ := B6.loc
      replace ns : t6.heap.Ns ce.locals mm := ns
      rw [cl] at ns
      have y0 : K5 t3.heap.objs.size = none := by
        rw [← cl]
        exact B6.free
      exact fin D t3.heap.objs.size t6 mm K5 J6 done ns (J3.fpOk (Nat.le_refl _) y0)
    · refine thnF (T.item (X.blk t3 G scope ce fp) rfl rfl rfl cm i [] t5 _ K5 (fun _ _ => False) B5 (fpOk B5 n5) z5 go) fun rr t6 h6 => ?_
      obtain ⟨u, rfl, h6⟩ := h6
      refine thnF h6 fun _ t7 h7 => ?_
      obtain ⟨x, K7, B7, r7, y7, z7, n7⟩ := h7
      have P7 := B7.pinned (fpOk B7 n7) (T.obj _ _ z7)
      refine thnF (pg.run _ t7 _ K7 x u _ P7 r7 (body x K7 y7)) fun _ t8 h8 => ?_
      obtain ⟨τ, K8, B8, wp8, q8⟩ := h8
      rw [List.forIn_nil]
      refine wpAny_pure ?_
      rw [if_pos rfl]
      refine thnF (pk.run _ t8 τ K8 _ B8 q8) fun ky t9 h9 => ?_
      obtain ⟨yk, K9, B9, r9, q9⟩ := h9
      refine thnF (pv.run _ t9 τ K9 _ B9 q9) fun vz t10 h10 => ?_
      obtain ⟨yv, K10, B10, r10, kvs, k, b, rfl, hb, hD, lt, nx⟩ := h10
      obtain rfl : ky = Value.ref b := r9
      refine putT (X := X.blk t3 G scope ce fp) B10 hu hD hb lt r10 fun t11 B11 => ?_
      obtain ⟨l, ll, wl⟩ := less _ nx
      have pin : ∀ b ∈ fp, ∀ o, t7.heap.get? b = some o → t11.heap.get? b = some o ∧ (upd K10 D (.dT (putK kvs k yv))) b = none := fun b mb o e => by
        have z := B11.pin (b, o) (List.mem_append_right _ (List.mem_append_right _ (mem_pinsAt mb e)))
        exact ⟨z.1, z.2.1⟩
      have len : (wipe σ (own.map (·.2))).length = τ.length := by rw [← wp8, wipe_length]
      refine ⟨l, ll, i + 1, _, (B11.unpinned (pins := [])).weak len (fun j v e => ?_), T.keep _ _ _ z7 fun b mb o e => (pin b mb o e).1, fun b mb => ?_, wl⟩
      · rw [← wp8] at e
        exact (wipe_some e).1
      · obtain ⟨o, e, _⟩ := T.obj _ _ z7 b mb
        exact (pin b mb o e).2
  exact codeAny_compStart_dict walk (T.self X.A 0 _ _ _ lift4 walk)
theorem pe_dcT {kx vx tg iter : Expr} {scope : Scope} {own : List (Str × Nat)} {pos : Pos} {wi : TI} {g : TG} {tk tv : TE} (hu : X.A.units < cLine) (cm : X.calm = true) (nd : X.N.Nodup) (hi : PI X tg iter wi) (bo : BlkOk X.N X.env.scope scope own)
    (gg : InBlk X scope fun Y => PG Y tg g) (gk : InBlk X scope fun Y => PE Y kx tk) (gv : InBlk X scope fun Y => PE Y vx tv) (fs : ∀ x, foldedSetIterable iter X.env x = pure x := by intro _; rfl) :
    PE X (.DictComp kx vx [⟨tg, iter, [], 0⟩] scope pos) (tDcT wi g tk tv (own.map (·.2))) := by
  constructor
  intro pins s σ H Q I h
  rw [arm_eval_DictComp]
  refine dcT_core hu cm nd I hi bo gg gk gv fs h fun D C t m G J q ns fp => ⟨m, ns, fun h2 sb => ?_⟩
  obtain ⟨y0, y1, y2, y3, y4, y5⟩ := fp
  exact ⟨.ref D, G, J.turned (t' := t.toks) (fun b o nb e => (sb.2 b nb).trans e) y0 y1 y3 y4 y5, rfl, q⟩
theorem swD {kx vx : Expr} {gs : List Comprehension} {scope : Scope} {pos py : Pos} {y : Str} {l : Nat} {env : Env} (hk : env.scope.kind = .function) (hy : env.scope.names.lookup y = some .local) (hl : (py.line == pos.line) = true)
    (no : (scope.names.any fun (n, k) => n == y && (k == .local || k == .cell)) = false) : swapsWith (.DictComp kx vx gs scope pos) (some (.Name y py)) l env = pure true := by
  have k1 : env.kindOf y = some .local := hy
  have k2 : env.blockKind = .function := by
    unfold Env.blockKind
    rw [hk]
    rfl
  unfold swapsWith
  simp only [k1, k2, no, hl, Expr.pos]
  rfl
/-- y = {k: v for ..} -/
theorem ps_setDcT {i : Nat} {y : Str} {py : Pos} {kx vx tg iter : Expr} {scope : Scope} {own : List (Str × Nat)} {pos sp : Pos} {wi : TI} {g : TG} {tk tv : TE} (hu : X.A.units < cLine) (cm : X.calm = true) (nd : X.N.Nodup) (hy : X.N[i]? = some y) (yl : X.env.scope.names.lookup y = some .local)
    (sw : swapsWith (.DictComp kx vx [⟨tg, iter, [], 0⟩] scope pos) (some (.Name y py)) sp.line X.env = pure true) (hi : PI X tg iter wi) (bo : BlkOk X.N X.env.scope scope own)
    (gg : InBlk X scope fun Y => PG Y tg g) (gk : InBlk X scope fun Y => PE Y kx tk) (gv : InBlk X scope fun Y => PE Y vx tv) (fs : ∀ x, foldedSetIterable iter X.env x = pure x := by intro _; rfl) :
    PS X (.Assign [.Name y py] (.DictComp kx vx [⟨tg, iter, [], 0⟩] scope pos) sp) (tAsg (tDcT wi g tk tv (own.map (·.2))) (gName i)) := by
  constructor
  intro pins s σ H D I h
  rw [exec_Assign_Name_used _ _ _ _ sw]
  refine wpAny_bind (wpAny_standAt (wpAny_bind ?_))
  show wpAny _ X.A (do let _ ← comprehension (.DictComp kx vx [⟨tg, iter, [], 0⟩] scope pos) scope X.env (firstIterPos [⟨tg, iter, [], 0⟩] pos) newDict false (eval iter X.env) (some (assign (.Name y py) X.env))) _ _ s
  refine wpAny_bind (thn (dcT_core (Qf := fun _ t => SP X pins D .next t) (Q := fun x H1 => gName i x σ H1 D.nx) hu cm nd I hi bo gg gk gv fs h fun L C t m G J q ns fp => ?_) fun _ t e => wpAny_pure (wpAny_pure e))
  show wpAny _ _ (assign (.Name y py) X.env (.ref L)) _ _ _
  refine wpAny_assign_Name (store_ok2 (v := V.ref L) J nd hy (.inl yl) rfl (fun t2 J2 z => ?_) (.inr yl))
  obtain ⟨a, sb, ha⟩ := z
  obtain ⟨y0, y1, y2, y3, y4, y5⟩ := fp
  have nC : C ≠ a := by
    rcases ha with e | ha
    · rw [e]
      exact y1
    · exact fun e => y4 y a ha e.symm
  exact ⟨m, ns.sameBut sb nC, fun h3 sb3 => ⟨_, G, J2.turned (t' := t2.toks) (fun b o nb e => (sb3.2 b nb).trans e) y0 y1 y3 y4 y5, q⟩⟩
end
end Lw
namespace Lw
open PySem PySem.Spec PyProof.Rows L2 Evl
/-! ### sorted(.., key=lambda row: (len(row), row)) -/
/-- what the lambda's names are -/
structure RowS (sc : Scope) (x : Str) : Prop where
  kind : sc.kind = .function
  co : sc.isCoroutine = false
  gen : sc.isGenerator = false
  cell : ∀ y ∈ sc.names, y.2 ≠ .cell
  free : ∀ y ∈ sc.names, y.2 ≠ .free
  par : sc.names.lookup x = some .local
  len : sc.names.lookup ("len" : Str) = some .globalImplicit
theorem rowKey {prog : Program} {w : World} {A : Around} {s : Shared} {f c a : Addr} {ys : Array Value} {ps : Arguments} {sc : Scope} {x q : Str} {pm ct : Value} {cl : List (Str × Addr)} {n : Nat} {p1 p2 p3 p4 p5 : Pos} {mg mb : Str → Option Value} {ds : List PyData}
    (room : A.depth < recursionLimit) (fo : s.heap.get? f = some (PySem.W.kla_obj "<lambda>" q ps (.Tuple [.Call (.Name "len" p1) [.Name x p2] [] p3, .Name x p4] n p5) sc cl pm c ct))
    (co : ∃ (oc : Obj) (vs : Array Value) (t : Tok), s.heap.get? c = some oc ∧ oc.data = .fields vs ∧ vs[1]? = some (.str q t)) (S : RowS sc x)
    (bind : bindArgs (PySem.W.kla_fn "<lambda>" q ps (.Tuple [.Call (.Name "len" p1) [.Name x p2] [] p3, .Name x p4] n p5) sc cl pm (.ref c) ct) ⟨[.ref a], []⟩ = pure [(x, .ref a)])
    (G : s.heap.Ns mainGlobals mg) (gl : mg "len" = none) (B : s.heap.Ns builtinsNs mb) (bl : mb "len" = some (.builtin "len")) (lim : s.heap.NoLimit)
    (ht : IsTup s.heap a ys) (fit : (ys.size : Int) < 2 ^ 63) (rd : Reads s.heap (.ref a) (.tuple ds) []) (xd : (x == ("__debug__" : Str)) = false) :
    wpAny (model prog w) A (call (.ref f) [.ref a]) (PySem.W.KeyPure (.tuple [.int (ys.size : Int), .tuple ds]) s) (fun _ _ => False) s := by
  refine wpAny_call (PySem.W.kla_callFunE room fo rfl S.co S.gen rfl ?_ ?_)
  · obtain ⟨oc, vs, t, h1, h2, h3⟩ := co
    exact ⟨c, oc, vs, t, rfl, h1, h2, h3⟩
  rw [bind]
  refine wpAny_pure (wpAny_newFunctionEnv S.cell (fun y my => ?_) (fun h1 ns sb => ?_) S.kind)
  · rw [List.mem_singleton.mp my]
    exact S.par
  have keep : ∀ b o, s.heap.get? b = some o → h1.get? b = some o := fun b o e => sb.extBut b o (Nat.ne_of_lt (Heap.lt_size e)) (Heap.get?_push_of_some _ e)
  refine ⟨lim.keeps keep, ?_⟩
  generalize ht1 : s.toks + ([(x, Value.ref a)] : List (Str × Value)).length = tk1
  show codeAny _ _ (.expr _ (PySem.W.envX q sc s.heap.objs.size f (.ref c) cl)) _ { s with heap := h1, toks := tk1 }
  refine PySem.W.kla_codeExpr (wpAny_Tuple_spliced ?_)
  have ld : ∀ (E : Value → Shared → Prop) (Q : Value → Shared → Prop) (tk : Tok) (p : Pos), Q (.ref a) { s with heap := h1, toks := tk } →
      wpAny (model prog w) (A.deeper (PySem.W.envX q sc s.heap.objs.size f (.ref c) cl)) (eval (.Name x p) (PySem.W.envX q sc s.heap.objs.size f (.ref c) cl)) Q E { s with heap := h1, toks := tk } := fun E Q tk p hq =>
    wpAny_Name (wpAny_loadName_local S.kind S.par ns (by simp) hq) xd
  refine Calls.spliced_cons (wpAny_Call_Name_kw (Calls.Name_function_global S.kind S.len (Calls.loadGlobal_builtin (G.keeps keep) gl (B.keeps keep) bl ?_) (by decide)))
  refine PyProof.Rows.callWith_builtin1 (Calls.spliced_cons (ld _ _ _ _ (Calls.spliced_nil ?_))) (by rfl) (by rfl)
  refine len_tuple (show IsTup h1 a ys from ?_) fit (Calls.spliced_cons (ld _ _ _ _ (Calls.spliced_nil ⟨by show 2 ≤ sizeLine; decide, ?_⟩)))
  · obtain ⟨o, e, r⟩ := ht
    exact ⟨o, keep _ _ e, r⟩
  have up : ∀ (z : Obj) b o, s.heap.get? b = some o → (h1.push z).get? b = some o := fun z b o e => Heap.get?_push_of_some _ (keep b o e)
  refine ⟨_, _, rfl, up _, ?_⟩
  exact .tuple (Heap.get?_push_size _ rfl) rfl rfl (.cons (.int _ _) (.cons (PyProof.Rows.Reads.keeps (up _) rd) .nil))
end Lw
namespace Lw
open PySem PySem.Spec PyProof.Rows L2 Evl LamX
theorem reads_strs {h : Heap} : ∀ {xs : List Str} {us : List Value}, Vals (xs.map V.str) us → PySem.ReadsAll h us (xs.map PyData.str) []
  | [], _, .nil => .nil
  | x :: xs, _, .cons r t => by
    obtain ⟨tk, rfl⟩ := r
    exact .cons (.str x tk) (reads_strs t)
theorem reads_tup {P : Program} {w : World} {H : Hp} {h : Heap} (ok : HOk P w H h) {a : Addr} {xs : List Str} (e : H a = some (.tup (xs.map V.str))) :
    ∃ ys : Array Value, IsTup h a ys ∧ ys.size = xs.length ∧ xs.length ≤ sizeLine ∧ Reads h (.ref a) (.tuple (xs.map PyData.str)) [] := by
  obtain ⟨le, its, r, o, e1, e2, n, e3⟩ := ok a _ e
  rw [List.length_map] at le
  have z := r.length
  rw [List.length_map] at z
  exact ⟨its.toArray, ⟨o, e1, e2, n, e3⟩, by rw [List.size_toArray, ← z], le, .tuple e1 e2 e3 (by simpa using reads_strs r)⟩
/-- all but the table at P stands, and nothing that was there is free -/
def ExtP (P : Addr) (H H2 : Hp) : Prop := (∀ b o, b ≠ P → H b = some o → H2 b = some o) ∧ ∀ b, H2 b = none → H b = none
theorem ExtP.trans {P : Addr} {H H2 H3 : Hp} (a : ExtP P H H2) (b : ExtP P H2 H3) : ExtP P H H3 := ⟨fun c o n e => b.1 c o n (a.1 c o n e), fun c e => a.2 c (b.2 c e)⟩
theorem ExtP.of {P : Addr} {H H2 : Hp} (e : Ex H H2) : ExtP P H H2 := ⟨fun c o _ q => e c o q, fun c q => fresh_back e q⟩
theorem ExtP.nt {P : Addr} {H H2 : Hp} {q : Str} (x : ExtP P H H2) (t : TabS H P q) {b : Addr} {o : HO} (e : H b = some o) (n : ∀ ps, o ≠ .tbl ps) : H2 b = some o := x.1 b o (fun z => by
  obtain ⟨ps, h, _⟩ := t
  rw [z, h] at e
  exact n ps (Option.some.inj e).symm) e
section
variable {X : Cx} {pins : List (Addr × Obj)} {σ : L2.St} {H : Hp} {s : Shared}
/-- a lambda that captures nothing is made -/
theorem mkLam {T : List (Addr × Str)} {c P : Addr} {ps : Arguments} {body : Expr} {sc : Scope} {pos : Pos} {E : Value → Shared → Prop} {Q : Value → Shared → Prop} (I : Inv X pins σ H s) (TB : TabB X.base X.mg c P) (hc : X.env.code = .ref c)
    (hm : (P, X.env.qual ++ "<lambda>") ∈ T) (hu : ∀ z ∈ T, z.1 = P → z.2 = X.env.qual ++ "<lambda>") (t : Tabs T H) (df : defaultsOf ps X.env = ([], [])) (nf : ∀ y ∈ sc.names, y.2 ≠ .free)
    (q : ∀ (f c2 : Addr) (pm ct : Value) (H2 : Hp) (s2 : Shared), Inv X pins σ H2 s2 → ExtP P H H2 → Tabs T H2 →
      s2.heap.get? f = some (PySem.W.kla_obj "<lambda>" (X.env.qual ++ "<lambda>") ps body sc (cloFrom X.env.cells sc.names []) pm c2 ct) → H2 c2 = some (CodeO c2 (X.env.qual ++ "<lambda>")) → Q (.ref f) s2) :
    wpAny (model X.prog X.w) X.A (eval (.Lambda ps body sc pos) X.env) Q E s := by
  obtain ⟨arr, hP, tr, all⟩ := t _ hm
  have clo : closureFor sc X.env = pure (cloFrom X.env.cells sc.names []) := closure_ok fun y my ey => absurd ey (nf y my)
  have gk := I.mod.glob.keeps I.bk
  have bk := TB.bm.keeps I.bk
  have oP : s.heap.get? P = some { cls := .none, data := .fields arr } := I.hok P _ hP
  refine PySem.W.kla_eval df ?_
  rcases hcode : codeAmong pos arr.toList with _ | cv
  · refine PySem.W.kla_makeFunction (mg := X.mg) (c := c) (P := P) (ps := arr) clo I.ok.glob gk hc (TB.code.keeps I.bk) oP tr hcode TB.gP bk fun c2 ct h2 tk eb ge lt rec2 tab => ?_
    obtain ⟨_, oc, vs, tt, z, o1, o2, o3⟩ := rec2
    cases z
    have nc : H c2 = none := I.hok.fresh ge
    have pc : P ≠ c2 := ne_of_none hP nc
    have J := inv_table (t' := tk) (more := #[rawInt pos.line, rawInt pos.col, .ref c2]) (q := X.env.qual ++ "<lambda>") (h' := h2.push (PySem.W.kla_obj "<lambda>" (X.env.qual ++ "<lambda>") ps body sc (cloFrom X.env.cells sc.names []) ((X.mg "__name__").getD .none) c2 ct)) I hP
      (fun b o nb e => Heap.get?_push_of_some _ (eb b o nb e)) (Heap.get?_push_of_some _ tab) ge ⟨oc, vs, tt, Heap.get?_push_of_some _ o1, o2, o3⟩
    have st : ∀ b o, b ≠ P → H b = some o → (upd (upd H P (.tbl (arr ++ #[rawInt pos.line, rawInt pos.col, .ref c2]))) c2 (CodeO c2 (X.env.qual ++ "<lambda>"))) b = some o := fun b o nb e => by
      rw [upd_ne (ne_of_none e nc), upd_ne nb]
      exact e
    have fr : ∀ b, (upd (upd H P (.tbl (arr ++ #[rawInt pos.line, rawInt pos.col, .ref c2]))) c2 (CodeO c2 (X.env.qual ++ "<lambda>"))) b = none → H b = none := fun b e => by
      by_cases n1 : b = c2
      · rw [n1]
        exact nc
      · rw [upd_ne n1] at e
        by_cases n2 : b = P
        · rw [n2, upd_same] at e
          cases e
        · rwa [upd_ne n2] at e
    have li : (arr ++ #[rawInt pos.line, rawInt pos.col, .ref c2]).toList = arr.toList ++ [rawInt pos.line, rawInt pos.col, .ref c2] := by simp
    refine q _ c2 _ ct _ _ J ⟨st, fr⟩ (fun z hz => ?_) (Heap.get?_push_size _ rfl) upd_same
    by_cases e : z.1 = P
    · rw [hu z hz e, e]
      refine ⟨_, by rw [upd_ne pc, upd_same], by rw [li]; exact PySem.TriplesOk_snoc _ _ _ _ tr, fun p2 cv hcv => ?_⟩
      rw [li] at hcv
      rcases among_app _ tr hcv with y | y
      · obtain ⟨c0, rfl, z2⟩ := all p2 cv y
        exact ⟨c0, rfl, st _ _ (fun y => by rw [y, hP] at z2; cases z2) z2⟩
      · exact ⟨c2, y, upd_same⟩
    · obtain ⟨arr2, a1, a2, a3⟩ := t z hz
      refine ⟨arr2, st _ _ e a1, a2, fun p2 cv hcv => ?_⟩
      obtain ⟨c0, rfl, z2⟩ := a3 p2 cv hcv
      exact ⟨c0, rfl, st _ _ (fun y => by rw [y, hP] at z2; cases z2) z2⟩
  · obtain ⟨c2, rfl, co⟩ := all pos cv hcode
    refine PySem.W.kla_makeFunctionHit (mg := X.mg) (c := c) (P := P) (ps := arr) clo I.ok.glob gk hc (TB.code.keeps I.bk) oP tr hcode bk fun ct h2 tk kp le => ?_
    exact q h2.objs.size c2 _ ct H _ (I.kept fun b o e => Heap.get?_push_of_some _ (kp b o e)) (.of (Ex.refl H)) t (Heap.get?_push_size _ rfl) co
end
/-- sorted(e, key=lambda row: (len(row), row)), e a list of tuples of texts -/
def tSortRow (K : PySem.W.Frag) (T : List (Addr × Str)) (P : Addr) (te : TE) : TE := fun σ H Q => te σ H fun v H1 => Tabs T H1 ∧ ∃ l ws, v = .ref l ∧ LW K H1 l ws ∧ ws.length ≤ 100000 ∧
  ∀ r H2, ExtP P H1 H2 → Tabs T H2 → H1 r = none → LW K H2 r (ws.mergeSort (PySem.W.dataLe false kW)) → Q (.ref r) H2
theorem depth_strs : ∀ xs : List Str, PyData.depthAll (xs.map PyData.str) = 0
  | [] => rfl
  | x :: xs => by simp [PyData.depthAll, PyData.depth, depth_strs xs]
theorem depth_kW (xs : List Str) : (kW xs).depth ≤ 2 := by
  simp [kW, wD, PyData.depth, PyData.depthAll, depth_strs]
/-- a word, as it stands among the values -/
def WR (H : Hp) (v : Value) (xs : List Str) : Prop := ∃ a, v = .ref a ∧ H a = some (.tup (xs.map V.str))
theorem wr_of {K : PySem.W.Frag} {H : Hp} : ∀ {us : List V} {ws : List (List Str)} {vs : List Value}, Paired (Wd K H) us ws → Vals us vs → PySem.W.EachIs (WR H) vs ws
  | _, _, _, .nil, .nil => .nil
  | _, _, _, .cons r t, .cons rv tv => by
    obtain ⟨a, rfl, e⟩ := r
    obtain rfl : _ = Value.ref a := rv
    exact .cons ⟨a, rfl, e⟩ (wr_of t tv)
theorem wr_back {K : PySem.W.Frag} {H : Hp} : ∀ {vs : List Value} {ws : List (List Str)}, PySem.W.EachIs (WR H) vs ws → ∃ us, Vals us vs ∧ Paired (Wd K H) us ws
  | _, _, .nil => ⟨[], .nil, .nil⟩
  | _, _, .cons r t => by
    obtain ⟨us, h1, h2⟩ := wr_back (K := K) t
    obtain ⟨a, rfl, e⟩ := r
    exact ⟨.ref a :: us, .cons rfl h1, .cons ⟨a, rfl, e⟩ h2⟩
section
variable {X : Cx}
theorem pe_sortRow {K : PySem.W.Frag} {T : List (Addr × Str)} {te : TE} {c P : Addr} {e : Expr} {ps : Arguments} {sc : Scope} {x : Str} {n : Nat} {p p1 p2 p3 p4 p5 lp kp pos : Pos} (gd : Gl X "sorted") (gm : X.mg "sorted" = none) (gl : X.mg "len" = none) (he : PE X e te)
    (TB : TabB X.base X.mg c P) (hc : X.env.code = .ref c) (hm : (P, X.env.qual ++ "<lambda>") ∈ T) (hu : ∀ z ∈ T, z.1 = P → z.2 = X.env.qual ++ "<lambda>") (room : X.A.depth < recursionLimit) (un : X.A.units + 64 < cLine) (S : RowS sc x)
    (df : defaultsOf ps X.env = ([], [])) (xd : (x == ("__debug__" : Str)) = false)
    (bind : ∀ (q : Str) (cl : List (Str × Addr)) (pm ct : Value) (c a : Addr), bindArgs (PySem.W.kla_fn "<lambda>" q ps (.Tuple [.Call (.Name "len" p1) [.Name x p2] [] p3, .Name x p4] n p5) sc cl pm (.ref c) ct) ⟨[.ref a], []⟩ = pure [(x, .ref a)])
    (hK : X.K = K := by rfl)
    (h1 : backTo pos (starEach [e] X.env) = [(false, eval e X.env)] := by rfl) :
    PE X (.Call (.Name "sorted" p) [e] [⟨some "key", .Lambda ps (.Tuple [.Call (.Name "len" p1) [.Name x p2] [] p3, .Name x p4] n p5) sc lp, kp⟩] pos) (tSortRow K T P te) := by
  subst hK
  constructor
  intro pins s σ H Q I h
  refine wpAny_Call_Name_kw (ld_blt I gd gm PyProof.Rows.boot_sorted ?_)
  refine PyProof.Rows.callWith_kw (e := e) (rest := []) ?_ h1 (by rw [h1]; rfl) (by rfl) (by rfl)
  rw [h1]
  refine Calls.spliced_cons (thn (he.run pins s σ H _ I h) fun u s1 h2 => Calls.spliced_nil ?_)
  obtain ⟨v, H1, I1, rv, t1, l, ws, rfl, lw, lz, q⟩ := h2
  obtain rfl : u = Value.ref l := rv
  show wpAny _ _ (evalAll [do let v ← eval (.Lambda _ _ sc lp) X.env; standAt pos; pure v]) _ _ s1
  refine PyProof.Rows.evalAll_cons (wpAny_bind (mkLam I1 TB hc hm hu t1 df S.free fun f c2 pm ct H2 s2 I2 eN t2 fo hco => wpAny_bind (wpAny_standAt (wpAny_pure ?_))))
  refine wpAny_evalAll_nil ?_
  show wpAny _ _ (call (.builtin "sorted") [.ref l] [(Str.ofString "key", .ref f)]) _ _ s2
  obtain ⟨us, hl, hp⟩ := lw
  have hl2 : H2 l = some (.lst us) := eN.nt (t1 _ hm) hl fun ps z => nomatch z
  have hp2 : Paired (Wd X.K H2) us ws := paired_mono (fun v ys r => by
    obtain ⟨a, rfl, ea⟩ := r
    exact ⟨a, rfl, eN.nt (t1 _ hm) ea fun ps z => nomatch z⟩) hp
  obtain ⟨zl, its, ep, rel, ho⟩ := I2.hok l _ hl2
  have e := wr_of hp2 rel
  obtain ⟨mb, b1, b2⟩ := I2.mod.blt
  refine PySem.W.sorted_key_data (R := WR H2) (b := false) kW ⟨_, ho, rfl, ep, rfl⟩ e (alike_kW ws) (sortable_kW ws) (sz_of lz) (fun ys _ => by have := depth_kW ys; omega) (PyProof.Rows.ksk_s1 _ _) (fun _ => PyProof.Rows.ksk_l1 _ _) (fun _ => PyProof.Rows.ksk_t1 _ _)
    (fun v ys r _ h3 tk kp => ?_) (fun out cnt h3 tk kp fr hD _ eo => ?_)
  · obtain ⟨a, rfl, ea⟩ := r
    obtain ⟨arr, ht, hs, le, rd⟩ := reads_tup I2.hok ea
    have line := line63
    have co := (I2.hok c2 _ hco).1
    have z := rowKey (prog := X.prog) (w := X.w) (A := X.A.in1.in1) (s := { s2 with heap := h3, toks := tk }) (ds := ys.map PyData.str) room (kp _ _ fo) (by
      obtain ⟨oc, vs, t, z1, z2, z3⟩ := co
      exact ⟨oc, vs, t, kp _ _ z1, z2, z3⟩) S (bind _ _ _ _ _ _) ((I2.mod.glob.keeps I2.bk).keeps kp) gl ((b1.keeps I2.bk).keeps kp) ((b2 "len" (by decide)).trans (by decide +kernel)) (I2.nolimit.keeps kp) (ht.keeps kp) (by omega) (PyProof.Rows.Reads.keeps kp rd) xd
    rw [hs] at z
    exact z
  · obtain ⟨us2, v2, w2⟩ := wr_back (K := X.K) eo
    have hn : H2 (s2.heap.objs.size + 1) = none := I2.hok.fresh (Nat.le_succ _)
    have len : us2.length ≤ sizeLine := by
      rw [Paired.length w2, List.length_mergeSort]
      exact sz_of lz
    refine ⟨.ref _, upd H2 (s2.heap.objs.size + 1) (.lst us2), I2.laid (t' := tk) kp (Nat.le_succ _) ⟨len, out, cnt, v2, hD⟩, rfl, q _ _ (eN.trans (.of (Ex.new hn))) (t2.ext (Ex.new hn)) ?_ ⟨us2, upd_same, ?_⟩⟩
    · exact eN.2 _ hn
    · exact paired_mono (fun _ _ r => wd_mono (Ex.new hn) r) w2
end
end Lw
namespace Lw
open PySem PySem.Spec PyProof.Rows L2 Evl
section
variable {K : PySem.W.Frag}
/-- a tuple of words -/
def TW (K : PySem.W.Frag) (H : Hp) (l : Addr) (ws : List (List Str)) : Prop := ∃ us, H l = some (.tup us) ∧ Paired (Wd K H) us ws
section
variable {σ : L2.St} {H : Hp} {te ta tb : TE} {tk : TA} {l : Addr} {ws us : List (List Str)}
/-- an expression that gives a list, or a tuple, of words -/
def EvSW (K : PySem.W.Frag) (te : TE) (σ : L2.St) (H : Hp) (ws : List (List Str)) : Prop := ∀ H1, Ex H H1 → ∀ Q : VK, (∀ l H2, Ex H1 H2 → LW K H2 l ws ∨ TW K H2 l ws → Q (.ref l) H2) → te σ H1 Q
theorem esw_var (h : Ev te σ H (.ref l)) (hl : LW K H l ws) : EvSW K te σ H ws := fun H1 e Q q => h H1 e _ fun H2 e2 => q l H2 e2 (.inl (lw_mono (e.trans e2) hl))
theorem esw_new (h : EvLW K te σ H ws) : EvSW K te σ H ws := fun H1 e Q q => h H1 e _ fun l H2 _ e2 hl => q l H2 e2 (.inl hl)
theorem esw_tup {K' : PySem.W.Frag} (h : Ev te σ H (.ref l)) (hl : LW K H l ws) : EvSW K (tCB (fun xs H Q => ∃ p ys, xs = [V.ref p] ∧ ((SqL K' H p ys ∧ ∀ l, H l = none → Q (V.ref l) (upd H l (.tup ys))) ∨ (SqT K' H p ys ∧ Q (V.ref p) H))) (tCons te tNil)) σ H ws := fun H1 e Q q => h H1 e _ fun H2 e2 => by
  obtain ⟨us, h1, h2⟩ := lw_mono (e.trans e2) hl
  exact ⟨l, us, rfl, .inl ⟨SqL.of h1, fun t ht => q t _ (e2.trans (Ex.new ht)) (.inr ⟨us, upd_same, paired_mono (fun _ _ r => wd_mono (Ex.new ht) r) h2⟩)⟩⟩
theorem esw_revcat {K' : PySem.W.Frag} {a b : Addr} (ha : Ev ta σ H (.ref a)) (hb : Ev tb σ H (.ref b)) (h1 : LW K H a us) (h2 : LW K H b ws) (hz : us.length + ws.length ≤ 100000) : EvSW K (tOp rCat (tRevL K' ta) tb) σ H (us.reverse ++ ws) := fun H1 e Q q => ha H1 e _ fun H2 e2 => by
  obtain ⟨vs, v1, v2⟩ := lw_mono (e.trans e2) h1
  refine ⟨a, vs, rfl, SqL.of v1, fun p hp => hb _ ((e.trans e2).trans (Ex.new hp)) _ fun H3 e3 => ?_⟩
  obtain ⟨zs, z1, z2⟩ := lw_mono (((e.trans e2).trans (Ex.new hp)).trans e3) h2
  have l1 := Paired.length v2
  have l2 := Paired.length z2
  refine ⟨p, b, vs.reverse, zs, rfl, rfl, e3 _ _ upd_same, z1, sz_of (by rw [List.length_reverse]; omega), fun t ht => q t _ (((e2.trans (Ex.new hp)).trans e3).trans (Ex.new ht)) (.inl ⟨_, upd_same, ?_⟩)⟩
  exact paired_mono (fun _ _ r => wd_mono (Ex.new ht) r) (paired_app (paired_mono (fun _ _ r => wd_mono ((Ex.new hp).trans e3) r) (paired_rev v2)) z2)
theorem elw_nil : EvLW K (tLst tNil) σ H [] := fun H1 e Q q => ⟨Nat.zero_le _, fun p hp => q p _ hp (Ex.new hp) ⟨[], upd_same, .nil⟩⟩
theorem ev_neLW {a b : Addr} (ha : Ev ta σ H (.ref a)) (hb : Ev tb σ H (.ref b)) (h1 : LW K H a ws) (h2 : LW K H b ws) (hw : ∀ x ∈ ws, isW x = true) : Ev (tOp (rNeD K) ta tb) σ H (.bl false) := ev_op ha hb (rv_val fun H1 e Q q => by
  obtain ⟨vs, v1, v2⟩ := lw_mono e h1
  obtain ⟨zs, z1, z2⟩ := lw_mono e h2
  have sh := shaped_wDs hw
  refine ⟨.list (ws.map wD), .list (ws.map wD), .lst (SqL.of v1) (dpa_words v2), .lst (SqL.of z1) (dpa_words z2), sh, sh, ?_⟩
  rw [SeqAt.eqv_refl _ (SeqAt.canLay_of_shaped sh)]
  exact q)
variable {xs ys : List Str}
/-- a list of two such tuples -/
theorem elw_two (ha : EvW K ta σ H xs) (hb : EvW K tb σ H ys) : EvLW K (tLst (tCons ta (tCons tb tNil))) σ H [xs, ys] := fun H1 e Q q => ha H1 e _ fun x H2 e2 hx => hb H2 (e.trans e2) _ fun y H3 e3 hy =>
  ⟨(by show 2 ≤ sizeLine; decide), fun p hp => q p _ (fresh_back (e2.trans e3) hp) ((e2.trans e3).trans (Ex.new hp)) ⟨[x, y], upd_same, .cons (wd_mono (e3.trans (Ex.new hp)) hx) (.cons (wd_mono (Ex.new hp) hy) .nil)⟩⟩
theorem et_neS {x y : Str} (ha : Ev ta σ H (.str x)) (hb : Ev tb σ H (.str y)) : EvT (tTest (tOp rNe ta tb)) σ H (!decide (x = y)) := by
  have z := et_test (ev_op ha hb (rv_ne (H := H) (x := .str x) (y := .str y) rfl))
  rw [show decide (V.str x = V.str y) = decide (x = y) from decide_eq_decide.mpr ⟨fun e => by injection e, fun e => by rw [e]⟩] at z
  exact z
theorem et_neSS {x : Str} (ha : Ev ta σ H (.str x)) (hb : Ev tb σ H (.str x)) : EvT (tTest (tOp rNe ta tb)) σ H false := by
  have z := et_neS ha hb
  rw [decide_eq_true rfl] at z
  exact z
end
end
end Lw
namespace Rm
open PySem PySem.Spec PyProof.Rows L2 Lw Evl LamX
/-! ### what stands while tables of code objects grow, and pots turn -/
structure Zn where
  T : List (Addr × Str)
  M : Addr → Prop
abbrev Z0 (T : List (Addr × Str)) : Zn := ⟨T, fun _ => False⟩
abbrev Zp (T : List (Addr × Str)) (p : Addr) : Zn := ⟨T, fun a => a = p⟩
def Ok (Z : Zn) (H : Hp) : Prop := Tabs Z.T H ∧ ∀ a, Z.M a → Po a H
def NT (o : HO) : Prop := ∀ ps, o ≠ .tbl ps
theorem nt_lst {xs : List V} : NT (.lst xs) := fun _ z => nomatch z
theorem nt_tup {xs : List V} : NT (.tup xs) := fun _ z => nomatch z
theorem nt_frz {o : Obj} {u : HO} : NT (.frz o u) := fun _ z => nomatch z
theorem nt_dT {kvs : List (List L2.Key × V)} : NT (.dT kvs) := fun _ z => nomatch z
theorem nt_dK {kvs : List (L2.Key × V)} : NT (.dK kvs) := fun _ z => nomatch z
theorem nt_ins {C d : Addr} {fs : List (Str × V)} : NT (.ins C d fs) := fun _ z => nomatch z
theorem nt_own {x : Addr} : NT (.own x) := fun _ z => nomatch z
/-- nothing stands there, but a table at most -/
def Fr (H : Hp) (x : Addr) : Prop := ∀ o, H x = some o → ¬ NT o
theorem fr_none {H : Hp} {x : Addr} (h : H x = none) : Fr H x := fun o e => by rw [h] at e; cases e
theorem fr_ne {H : Hp} {x b : Addr} {o : HO} (h : Fr H x) (e : H b = some o) (n : NT o) : b ≠ x := fun z => by
  rw [z] at e
  exact h o e n
structure R (Z : Zn) (H H2 : Hp) : Prop where
  a : Ok Z H
  b : Ok Z H2
  st : ∀ x o, H x = some o → NT o → ¬ Z.M x → H2 x = some o
section
variable {Z : Zn} {H H1 H2 H3 : Hp} {x p : Addr} {o u : HO} {K : PySem.W.Frag}
theorem R.refl (h : Ok Z H) : R Z H H := ⟨h, h, fun _ _ e _ _ => e⟩
theorem R.trans (r : R Z H H1) (q : R Z H1 H2) : R Z H H2 := ⟨r.a, q.b, fun x o e n m => q.st x o (r.st x o e n m) n m⟩
theorem R.fr (r : R Z H H1) (h : Fr H1 x) : Fr H x := fun o e n => by
  by_cases m : Z.M x
  · obtain ⟨i, j, q, _⟩ := r.b.2 x m
    exact h _ q nt_lst
  · exact h o (r.st x o e n m) n
theorem po_ex (e : Ex H H1) (h : Po p H) : Po p H1 := by
  obtain ⟨i, j, q, z⟩ := h
  exact ⟨i, j, e _ _ q, z⟩
theorem R.of (h : Ok Z H) (e : Ex H H1) : R Z H H1 := ⟨h, ⟨h.1.ext e, fun a m => po_ex e (h.2 a m)⟩, fun x o q _ _ => e x o q⟩
theorem R.ex (r : R Z H H1) (e : Ex H1 H2) : R Z H H2 := r.trans (.of r.b e)
theorem R.new (r : R Z H H1) (h : H1 p = none) : R Z H (upd H1 p o) := r.ex (.new h)
theorem Ok.nm (h : Ok Z H) (e : H x = some o) (n : ∀ xs, o ≠ .lst xs) : ¬ Z.M x := fun m => by
  obtain ⟨i, j, q, _⟩ := h.2 x m
  rw [e] at q
  exact n _ (Option.some.inj q)
theorem Ok.fresh (h : Ok Z H) (e : Fr H x) : ¬ Z.M x := fun m => by
  obtain ⟨i, j, q, _⟩ := h.2 x m
  exact e _ q nt_lst
theorem R.tup {us : List V} (r : R Z H H1) (h : H x = some (.tup us)) : H1 x = some (.tup us) := r.st x _ h nt_tup (r.a.nm h fun _ z => nomatch z)
theorem R.frz {w : Obj} (r : R Z H H1) (h : H x = some (.frz w u)) : H1 x = some (.frz w u) := r.st x _ h nt_frz (r.a.nm h fun _ z => nomatch z)
theorem R.lst {us : List V} (r : R Z H H1) (h : H x = some (.lst us)) (n : ¬ Z.M x) : H1 x = some (.lst us) := r.st x _ h nt_lst n
/-- an object that was not there may change; it is no table and no code object -/
def Pl : HO → Prop
  | .tbl _ => False
  | .ext _ => False
  | _ => True
theorem R.mut (r : R Z H H1) (h : Fr H p) (h1 : H1 p = some u) (pl : Pl u) : R Z H (upd H1 p o) := by
  have np : ¬ Z.M p := r.a.fresh h
  refine ⟨r.a, ⟨fun z hz => ?_, fun a m => ?_⟩, fun x v e n m => ?_⟩
  · obtain ⟨ps, e1, e2, e3⟩ := r.b.1 z hz
    have n1 : z.1 ≠ p := fun y => by
      rw [y, h1] at e1
      cases Option.some.inj e1
      exact pl
    refine ⟨ps, by rw [upd_ne n1]; exact e1, e2, fun q v hv => ?_⟩
    obtain ⟨c, y, e4⟩ := e3 q v hv
    refine ⟨c, y, ?_⟩
    rw [upd_ne fun y2 => by
      rw [y2, h1] at e4
      cases Option.some.inj e4
      exact pl]
    exact e4
  · obtain ⟨i, j, q, z⟩ := r.b.2 a m
    exact ⟨i, j, by rw [upd_ne fun y => np (by rw [← y]; exact m)]; exact q, z⟩
  · rw [upd_ne (fr_ne h e n)]
    exact r.st x v e n m
theorem R.lam (h : Ok Z H) (e : ExtN H H1) (t : Tabs Z.T H1) : R Z H H1 :=
  ⟨h, ⟨t, fun a m => by
    obtain ⟨i, j, y, z⟩ := h.2 a m
    exact ⟨i, j, e _ _ y nt_lst, z⟩⟩, fun x o y n _ => e _ _ y n⟩
theorem R.lamP {P : Addr} {q : Str} (h : Ok Z H) (hm : (P, q) ∈ Z.T) (e : ExtP P H H1) (t : Tabs Z.T H1) : R Z H H1 :=
  ⟨h, ⟨t, fun a m => by
    obtain ⟨i, j, y, z⟩ := h.2 a m
    exact ⟨i, j, e.nt (h.1 _ hm) y nt_lst, z⟩⟩, fun x o y n _ => e.nt (h.1 _ hm) y n⟩
theorem Tabs.po {T : List (Addr × Str)} (t : Tabs T H) (h : Po p H) (x : Xp p H H1) : Tabs T H1 := fun z hz => by
  obtain ⟨i, j, q, _⟩ := h
  obtain ⟨ps, e1, e2, e3⟩ := t z hz
  refine ⟨ps, x.1 _ _ (fun y => by rw [y, q] at e1; cases e1) e1, e2, fun a v hv => ?_⟩
  obtain ⟨c, y, e4⟩ := e3 a v hv
  exact ⟨c, y, x.1 _ _ (fun y => by rw [y, q] at e4; cases e4) e4⟩
theorem R.xp {T : List (Addr × Str)} (t : Tabs T H) (h : Po p H) (x : Xp p H H1) : R (Zp T p) H H1 :=
  ⟨⟨t, fun a m => by rw [m]; exact h⟩, ⟨Tabs.po t h x, fun a m => by rw [m]; exact x.2⟩, fun a o e _ n => x.1 a o n e⟩
theorem R.sub {T : List (Addr × Str)} (r : R (Z0 T) H H1) (h : Po p H) : R (Zp T p) H H1 :=
  ⟨⟨r.a.1, fun a m => by rw [m]; exact h⟩, ⟨r.b.1, fun a m => by
    obtain ⟨i, j, e, z⟩ := h
    rw [m]
    exact ⟨i, j, r.st _ _ e nt_lst fun y => y, z⟩⟩, fun a o e n _ => r.st a o e n fun y => y⟩
theorem wd_R {v : V} {ys : List Str} (r : R Z H H1) (h : Wd K H v ys) : Wd K H1 v ys := by
  obtain ⟨a, e, h⟩ := h
  exact ⟨a, e, r.tup h⟩
theorem lw_R {l : Addr} {ws : List (List Str)} (r : R Z H H1) (n : ¬ Z.M l) (h : LW K H l ws) : LW K H1 l ws := by
  obtain ⟨us, h1, h2⟩ := h
  exact ⟨us, r.lst h1 n, paired_mono (fun _ _ q => wd_R r q) h2⟩
theorem tw_R {l : Addr} {ws : List (List Str)} (r : R Z H H1) (h : TW K H l ws) : TW K H1 l ws := by
  obtain ⟨us, h1, h2⟩ := h
  exact ⟨us, r.tup h1, paired_mono (fun _ _ q => wd_R r q) h2⟩
end
theorem sql_R {Z : Zn} {H H1 : Hp} {K : PySem.W.Frag} {a : Addr} {ns : List Int} (r : R Z H H1) (h : SqL K H a (ns.map V.int)) (n : ¬ Z.M a := by exact fun z => z) : SqL K H1 a (ns.map V.int) := by
  rcases h with (h | ⟨o, h⟩) | h
  · exact .inl (.inl (r.lst h n))
  · exact .inl (.inr ⟨o, r.frz h⟩)
  · exact .inr h
/-! ### what evaluates to what -/
/-- a value | a truth | a new list of words | a list or tuple of words -/
def Ew (Z : Zn) (te : TE) (σ : L2.St) (H : Hp) (v : V) : Prop := ∀ H1, R Z H H1 → ∀ Q : VK, (∀ H2, R Z H1 H2 → Q v H2) → te σ H1 Q
def Et (Z : Zn) (tt : TT) (σ : L2.St) (H : Hp) (b : Bool) : Prop := ∀ H1, R Z H H1 → ∀ Q : Bool → Hp → Prop, (∀ H2, R Z H1 H2 → Q b H2) → tt σ H1 Q
def Elw (Z : Zn) (K : PySem.W.Frag) (te : TE) (σ : L2.St) (H : Hp) (ws : List (List Str)) : Prop := ∀ H1, R Z H H1 → ∀ Q : VK, (∀ l H2, Fr H1 l → R Z H1 H2 → LW K H2 l ws → Q (.ref l) H2) → te σ H1 Q
def Esw (Z : Zn) (K : PySem.W.Frag) (te : TE) (σ : L2.St) (H : Hp) (ws : List (List Str)) : Prop := ∀ H1, R Z H H1 → ∀ Q : VK, (∀ l H2, R Z H1 H2 → LW K H2 l ws ∨ TW K H2 l ws → Q (.ref l) H2) → te σ H1 Q
section
variable {Z : Zn} {K : PySem.W.Frag} {P : Program} {w : World} {σ : L2.St} {H H1 : Hp} {te ta tb : TE} {tt tu : TT} {v x y : V} {ws : List (List Str)} {b c : Bool} {D : Ends} {tz : TS}
theorem ew_of (h : ∀ H1, R Z H H1 → Ev te σ H1 v) : Ew Z te σ H v := fun H1 r Q q => h H1 r H1 (Ex.refl H1) Q fun H2 e => q H2 (.of r.b e)
theorem et_of (h : ∀ H1, R Z H H1 → EvT tt σ H1 b) : Et Z tt σ H b := fun H1 r Q q => h H1 r H1 (Ex.refl H1) Q fun H2 e => q H2 (.of r.b e)
theorem elw_of (h : ∀ H1, R Z H H1 → EvLW K te σ H1 ws) : Elw Z K te σ H ws := fun H1 r Q q => h H1 r H1 (Ex.refl H1) Q fun l H2 n e => q l H2 (fr_none n) (.of r.b e)
theorem esw_of (h : ∀ H1, R Z H H1 → EvSW K te σ H1 ws) : Esw Z K te σ H ws := fun H1 r Q q => h H1 r H1 (Ex.refl H1) Q fun l H2 e => q l H2 (.of r.b e)
theorem esw_new (h : Elw Z K te σ H ws) : Esw Z K te σ H ws := fun H1 r Q q => h H1 r Q fun l H2 _ r2 z => q l H2 r2 (.inl z)
theorem ew_var {i : Nat} (h : σ[i]? = some (some v)) : Ew Z (tVar i) σ H v := ew_of fun _ _ => ev_var h
theorem ew_c : Ew Z (tC v) σ H v := ew_of fun _ _ => ev_c
theorem ew_op {r : R2} {z : V} (ha : Ew Z ta σ H x) (hb : Ew Z tb σ H y) (hr : ∀ H1, R Z H H1 → RV r x y H1 z) : Ew Z (tOp r ta tb) σ H z := fun H1 e Q q =>
  ha H1 e _ fun H2 e2 => hb H2 (e.trans e2) _ fun H3 e3 => hr H3 ((e.trans e2).trans e3) H3 (Ex.refl H3) Q fun H4 e4 => q H4 ((e2.trans e3).ex e4)
theorem et_test (h : Ew Z te σ H (.bl b)) : Et Z (tTest te) σ H b := fun H1 e _ q => h H1 e _ fun H2 e2 => ⟨b, rfl, q H2 e2⟩
theorem et_not (h : Et Z tt σ H b) : Et Z (tNot tt) σ H (!b) := fun H1 e _ q => h H1 e _ fun H2 e2 => q H2 e2
theorem et_and (h : Et Z tt σ H b) (k : b = true → Et Z tu σ H c) : Et Z (tAnd tt tu) σ H (b && c) := fun H1 e Q q => h H1 e _ fun H2 e2 => by
  cases b with
  | true => exact k rfl H2 (e.trans e2) Q fun H3 e3 => q H3 (e2.trans e3)
  | false => exact q H2 e2
theorem et_or (h : Et Z tt σ H b) (k : b = false → Et Z tu σ H c) : Et Z (tOr tt tu) σ H (b || c) := fun H1 e Q q => h H1 e _ fun H2 e2 => by
  cases b with
  | true => exact q H2 e2
  | false => exact k rfl H2 (e.trans e2) Q fun H3 e3 => q H3 (e2.trans e3)
theorem ew_is (h : Ew Z te σ H x) (e : x = v) : Ew Z te σ H v := e ▸ h
theorem s_ret (o : Ok Z H) (h : Ew Z te σ H v) (k : ∀ H1, R Z H H1 → D.rt v H1) : tRet te D σ H := h H (.refl o) _ k
theorem q_when {tu : TS} (o : Ok Z H) (h : Et Z tt σ H b) (h1 : b = true → ∀ H1, R Z H H1 → tu { D with nx := tz D } σ H1) (h2 : b = false → ∀ H1, R Z H H1 → tz D σ H1) : tSeq (tIfS tt tu tNext) tz D σ H := h H (.refl o) _ fun H1 r => by
  cases b with
  | true => exact h1 rfl H1 r
  | false => exact h2 rfl H1 r
theorem ew_andV {a : Bool} (h : Ew Z ta σ H (.bl a)) (k : a = true → Ew Z tb σ H (.bl b)) : Ew Z (tAndV ta tb) σ H (.bl (a && b)) := fun H1 r Q q => h H1 r _ fun H2 r2 => ⟨a, rfl, by
  cases a with
  | false => exact q H2 r2
  | true => exact k rfl H2 (r.trans r2) Q fun H3 r3 => q H3 (r2.trans r3)⟩
theorem ew_orV {a : Bool} (h : Ew Z ta σ H (.bl a)) (k : a = false → Ew Z tb σ H (.bl b)) : Ew Z (tOrV ta tb) σ H (.bl (a || b)) := fun H1 r Q q => h H1 r _ fun H2 r2 => ⟨a, rfl, by
  cases a with
  | true => exact q H2 r2
  | false => exact k rfl H2 (r.trans r2) Q fun H3 r3 => q H3 (r2.trans r3)⟩
theorem ew_notV {a : Bool} (h : Ew Z ta σ H (.bl a)) : Ew Z (tNotV ta) σ H (.bl (!a)) := fun H1 r _ q => h H1 r _ fun H2 r2 => ⟨a, rfl, q H2 r2⟩
theorem et_B (h : Ew Z te σ H (.bl b)) : Et Z (tB te) σ H b := fun H1 r _ q => h H1 r _ fun H2 r2 => ⟨b, rfl, q H2 r2⟩
/-- a pot that is new, turned -/
theorem R.drop {T : List (Addr × Str)} {p : Addr} {H2 H3 : Hp} (r : R (Z0 T) H H2) (q : R (Zp T p) H2 H3) (n : Fr H p) : R (Z0 T) H H3 :=
  ⟨r.a, ⟨q.b.1, fun _ z => z.elim⟩, fun x o e t _ => q.st x o (r.st x o e t fun z => z) t (fr_ne n e t)⟩
end
end Rm
namespace Lw
open PySem PySem.Spec PyProof.Rows L2
/-- the def at f has the code object c -/
def CodeAt (K : PySem.W.Frag) (f c : Addr) : Prop := ∃ oc od fd osl, K.lookup f = some ⟨oc, od, .func fd, osl⟩ ∧ fd.code = .ref c
/-- fnG, the code object known -/
theorem fnGc {P : Program} {w : World} {K : PySem.W.Frag} {mg : Str → Option Value} {base : Heap} {CX : CXT} {x qual : Str} {params : Arguments} {body : List Stmt} {scope : Scope} {dvs : List V} {kws : List (Str × V)} {f c : Addr} {fd : FuncData} {N ps : List Str} {k : Nat} {sp : Sp}
    (C : CodeAt K f c) (F : FunD K x qual params body scope dvs kws f fd) (S : FnScope N ps scope) (len : ∀ vs H Q E, sp vs H Q E → vs.length = ps.length)
    (walk : ∀ (A : Around) (outer : List Env) (s : Shared) (H : Hp) (vs : List V) (Q : VK) (E : XK), A.guards = some [] → Room k (A.deeper (envOfC qual scope s.heap.objs.size f (.ref c))) → sp vs H Q E →
      ∃ t, PSs (cxOf CX P w K mg base N qual scope f (.ref c) A outer s H E) body t ∧ t { nx := fun _ H' => Q .non H', rt := Q } (start N vs) H) :
    FnG P w K mg base CX (k + 1) f fd ps sp := by
  obtain ⟨_, _, dV, kV, doc, pm, an, cdv, ct, osl, rfl, lk, hcd, _, _⟩ := F.ex
  obtain rfl : cdv = .ref c := by
    obtain ⟨_, _, fd2, _, e1, e2⟩ := C
    rw [lk] at e1
    cases e1
    exact e2
  refine ⟨len, ?_⟩
  intro A outer s H args us vs Q E hg hr e0 hb rv hsp
  have hsz : (us.length = ps.length) := by
    rw [← rv.length]
    exact len _ _ _ _ hsp
  have kIn : K.In s.heap := e0.mod.kin.keeps fun b o e => (e0.bs b o e).1
  have noL : s.heap.NoLimit := e0.mod.nolimit.keeps fun b o e => (e0.bs b o e).1
  refine codeAny_call_function hr.depth (kIn _ _ lk) rfl S.co S.gen rfl (PySem.W.codeRec_of kIn hcd) (hb _ _ _ _ ?_)
  refine wpAny_newFunctionEnv_cells S.kind ?_ ?_
  · rintro ⟨n, v⟩ hm
    cases S.par n (List.of_mem_zip hm).1 with
    | inl q => exact .inl q
    | inr q => exact .inr ⟨q, PySem.W.cellsFrom_some _ _ _ (.inl q)⟩
  · rintro env rfl s1 x
    refine ⟨noL.keeps x.toInCall.keep, codeAny_func ?_⟩
    obtain ⟨t, ht, hq⟩ := walk A outer s H vs Q E hg (hr.deeper _) hsp
    refine wpAny_mono (ht.run [] s1 (start N vs) H _ (inv_start S hr.hd e0 (len _ _ _ _ hsp) rv x) hq) (fun fl s2 hs => ?_) fun _ _ z => z
    cases fl with
    | ret u => exact match hs with
      | ⟨v, _, H', J, r, q⟩ => ⟨v, H', J.os, J.bare, J.base, J.hok, r, q⟩
    | next => exact match hs with
      | ⟨_, H', J, q⟩ => ⟨V.non, H', J.os, J.bare, J.base, J.hok, rfl, q⟩
    | brk => exact match hs with
      | ⟨_, _, _, q⟩ => q.elim
    | cont => exact match hs with
      | ⟨_, _, _, q⟩ => q.elim
end Lw
namespace Lw
open PySem PySem.Spec PyProof.Rows L2 LamX
/-! ### the law's call where tables of code objects stand -/
abbrev tab0 : Obj := { cls := .none, data := .fields #[] }
theorem lawGT {P : Program} {w : World} {K : PySem.W.Frag} {mg mb : Str → Option Value} {k : Nat} {fa a : Addr} {fd : FuncData} {x : Str} {sp : Sp} {s : Shared} {vs : List Value} {ns : List Int} (cs : List (Addr × Addr))
    (KX : K.In s.heap) (hns : s.heap.Ns mainGlobals mg) (hb : s.heap.Ns builtinsNs mb) (hbb : ∀ x : Str, x ≠ "__name__" → mb x = bootBuiltins x) (hlim : s.heap.NoLimit) (hgen : s.gens = #[])
    (tT : ∀ z ∈ cs, s.heap.get? z.2 = some tab0) (tK : ∀ z ∈ cs, K.lookup z.2 = none) (tC : ∀ z ∈ cs, PySem.W.CodeHd s.heap z.1 z.2)
    (bmod : ∃ (m : Addr) (o : Obj), mg "__builtins__" = some (.ref m) ∧ m ≠ builtinsNs ∧ s.heap.get? m = some o ∧ o.cls = .type "module" ∧ o.dict = some builtinsNs ∧ o.data = .plain)
    (ha : s.heap.get? a = some { cls := .type "list", data := .seq vs.toArray }) (hi : IntsAre vs ns) (hl : ns.length ≤ sizeLine) (hr : Room k callerA)
    (F : ∀ base : Heap, K.In base → base.Ns mainGlobals mg → (∀ z ∈ cs, TabB base mg z.1 z.2) → FnG P w K mg base CX0 k fa fd [x] sp) (hbind : ∀ (s : Shared) (u : Value), BindsTo s fd ⟨[u], []⟩ [(x, u)])
    (hsp : ∀ H : Hp, (∀ z ∈ cs, H z.2 = some (.tbl #[])) → SqL K H a (ns.map V.int) → sp [.ref a] H (fun v _ => v = .bl true) E0) :
    codeAny (model P w) callerA (.call (.ref fa) ⟨[.ref a], []⟩) (fun r s' => r = .ok (.ret (.bool true)) ∧ OldK s.heap s'.heap ∧ s'.os = s.os ∧ AllBare s'.gens) s := by
  have rv := vals_ints hi
  have at_ : ∀ b ∈ cs.map (·.2), s.heap.get? b = some tab0 := fun b hb => by
    obtain ⟨z, hz, rfl⟩ := List.mem_map.mp hb
    exact tT z hz
  have na : a ∉ cs.map (·.2) := fun z => by
    have q := at_ a z
    rw [ha] at q
    have q2 : Data.seq vs.toArray 0 = Data.fields #[] := congrArg Obj.data (Option.some.inj q)
    cases q2
  -- a heap H that tracks the tables and, at most, the script
  have go : ∀ H : Hp, (∀ b ∈ cs.map (·.2), H b = some (.tbl #[])) → SqL K H a (ns.map V.int) → HOk P w H s.heap →
      (∀ b u, H b = some u → b ∈ cs.map (·.2) ∨ (b = a ∧ K.lookup a = none ∧ ∃ o xs, u = .frz o (.lst xs))) →
      codeAny (model P w) callerA (.call (.ref fa) ⟨[.ref a], []⟩) (fun r s' => r = .ok (.ret (.bool true)) ∧ OldK s.heap s'.heap ∧ s'.os = s.os ∧ AllBare s'.gens) s := by
    intro H hT hS hok hH
    -- what is neither a list nor an empty record is not tracked
    have off : ∀ {b : Addr} {o : Obj}, s.heap.get? b = some o → (∀ xs n, o.data ≠ .seq xs n) → o.data ≠ .fields #[] → H b = none := fun {b o} e n1 n2 => by
      cases q : H b with
      | none => rfl
      | some u =>
        rcases hH b u q with z | ⟨z, _⟩
        · rw [at_ b z] at e
          cases e
          exact absurd rfl n2
        · rw [z, ha] at e
          cases e
          exact absurd rfl (n1 _ _)
    have offD : ∀ {b : Addr} {o : Obj} {es : Array DictEntry} {n : Nat}, s.heap.get? b = some o → o.data = .dict es n → H b = none := fun e d => off e (fun xs n z => by rw [d] at z; cases z) fun z => by rw [d] at z; cases z
    have nsB : ∀ {b : Addr} {m : Str → Option Value}, s.heap.Ns b m → (hidT s.heap H).Ns b m := fun {b m} z => by
      obtain ⟨o, es, n, e, d, r⟩ := z
      exact ⟨o, es, n, hidT_get e (offD e d), d, r⟩
    have KB : K.In (hidT s.heap H) := fun b o e => hidT_get (KX b o e) (by
      cases q : H b with
      | none => rfl
      | some u =>
        rcases hH b u q with z | ⟨rfl, n, _⟩
        · obtain ⟨y, hy, rfl⟩ := List.mem_map.mp z
          rw [tK y hy] at e
          cases e
        · rw [n] at e
          cases e)
    have md : Mod K mg (hidT s.heap H) := ⟨KB, nsB hns, ⟨mb, nsB hb, hbb⟩, by
      obtain ⟨m, z1, z2⟩ := hlim
      exact ⟨m, nsB z1, z2⟩⟩
    have e0 : Env0 P w K mg (hidT s.heap H) callerA [] s H := ⟨rfl, md, fun b o e => of_hidT e, Nat.le_of_eq (hidT_size _ _), trivial, fun b z => absurd z (List.not_mem_nil), hok, .of_eq hgen⟩
    have TB : ∀ z ∈ cs, TabB (hidT s.heap H) mg z.1 z.2 := fun z hz => by
      refine ⟨?_, ?_, fun y => ?_⟩
      · obtain ⟨o, us, f1, f2, f3, f4, f5, f6, f7, c1, c2, c3, c4, r⟩ := tC z hz
        refine ⟨o, us, f1, f2, f3, f4, f5, f6, f7, hidT_get c1 (off c1 (fun xs n y => by rw [c3] at y; cases y) fun y => ?_), c2, c3, c4, r⟩
        rw [c3] at y
        injection y with y
        rw [y] at c4
        exact absurd c4 (by simp)
      · obtain ⟨m, o, b1, b2, b3, b4, b5, b6⟩ := bmod
        have m1 : m ≠ mainGlobals := fun y => by
          obtain ⟨o2, es, n, e, d, _⟩ := hns
          rw [y, e] at b3
          cases b3
          rw [d] at b6
          cases b6
        have m2 : m ≠ z.2 := fun y => by
          rw [y, tT z hz] at b3
          cases b3
          cases b6
        exact ⟨m, o, b1, b2, m1, m2, hidT_get b3 (off b3 (fun xs n y => by rw [b6] at y; cases y) fun y => by rw [b6] at y; cases y), b4, b5, b6⟩
      · obtain ⟨o2, es, n, e, d, _⟩ := hns
        rw [y, tT z hz] at e
        cases e
        cases d
    refine codeAny_mono ((F _ KB (nsB hns) TB).go (vs := [.ref a]) (us := [.ref a]) rfl hr e0 (hbind s (.ref a)) (.cons rfl .nil) (hsp H (fun z hz => hT _ (List.mem_map.mpr ⟨z, hz, rfl⟩)) hS)) fun r s2 h => ?_
    cases r with
    | error er => exact h.elim
    | ok fl =>
      cases fl with
      | next => exact h.elim
      | brk => exact h.elim
      | cont => exact h.elim
      | ret u =>
        obtain ⟨v, H2, os, bare, un, hok2, rv2, rfl⟩ := h
        obtain rfl : u = Value.bool true := rv2
        have old : ∀ b o, b ∉ cs.map (·.2) → s.heap.get? b = some o → s2.heap.get? b = some o := fun b o n e => by
          cases q : H b with
          | none => exact un.keep b o e q List.not_mem_nil List.not_mem_nil
          | some u =>
            rcases hH b u q with z | ⟨rfl, _, ob, xs, rfl⟩
            · exact absurd z n
            · have z1 := (hok b _ q).1
              have z2 := (hok2 b _ (un.frzs b ob _ q)).1
              rw [z1] at e
              cases e
              exact z2
        have more : ∀ b ∈ cs.map (·.2), ∃ us : Array Value, s2.heap.get? b = some { cls := .none, data := .fields us } := fun b hb => by
          obtain ⟨us, z⟩ := un.tbls b #[] (hT b hb)
          exact ⟨_, hok2 b _ z⟩
        refine ⟨rfl, ⟨fun b o e => ?_, fun b o e => ?_⟩, os, bare⟩
        · by_cases hb : b ∈ cs.map (·.2)
          · obtain ⟨us, z⟩ := more b hb
            rw [at_ b hb] at e
            cases e
            obtain ⟨y, hy, rfl⟩ := List.mem_map.mp hb
            exact .inr (.inl ⟨((tC y hy).tab (tT y hy)).isCodeTable, rfl, #[], us, rfl, by rw [Array.empty_append]; exact z⟩)
          · exact .inl (old b o hb e)
        · by_cases hb : b ∈ cs.map (·.2)
          · obtain ⟨us, z⟩ := more b hb
            exact ⟨_, z⟩
          · exact ⟨o, old b o hb e⟩
  cases hk : K.lookup a with
  | some o =>
    have e := KX a o hk
    rw [ha] at e
    cases e
    refine go (fun b => if b ∈ cs.map (·.2) then some (.tbl #[]) else none) (fun b hb => if_pos hb) (.inr ⟨_, vs.toArray, _, hk, rfl, rfl, rfl, by rw [List.size_toArray, hi.length]; exact hl, by simpa using rv⟩) (fun b u z => ?_) (fun b u z => ?_)
    · by_cases q : b ∈ cs.map (·.2)
      · have z2 := (if_pos q).symm.trans z
        cases z2
        exact at_ b q
      · have z2 := (if_neg q).symm.trans z
        cases z2
    · by_cases q : b ∈ cs.map (·.2)
      · exact .inl q
      · have z2 := (if_neg q).symm.trans z
        cases z2
  | none =>
    refine go (fun b => if b ∈ cs.map (·.2) then some (.tbl #[]) else scr a { cls := .type "list", data := .seq vs.toArray } ns b) (fun b hb => if_pos hb) (.inl (.inr ⟨_, (if_neg na).trans scr_at⟩)) (fun b u z => ?_) (fun b u z => ?_)
    · by_cases q : b ∈ cs.map (·.2)
      · have z2 := (if_pos q).symm.trans z
        cases z2
        exact at_ b q
      · have z2 := (if_neg q).symm.trans z
        by_cases y : b = a
        · subst y
          rw [scr_at] at z2
          cases z2
          exact ⟨ha, by rw [List.length_map]; exact hl, vs, _, rv, ha⟩
        · rw [scr_off y] at z2
          cases z2
    · by_cases q : b ∈ cs.map (·.2)
      · exact .inl q
      · have z2 := (if_neg q).symm.trans z
        by_cases y : b = a
        · subst y
          rw [scr_at] at z2
          cases z2
          exact .inr ⟨rfl, hk, _, _, rfl⟩
        · rw [scr_off y] at z2
          cases z2
/-- the end of a law's row, tables of code objects among the facts that the head tells -/
theorem walkGT {l : PySem.W.OpenLaw} {n k : Nat} {q : Program} {loose : List Str} {XP : (Str → Option Value) → Heap → Prop} {YP : World → Heap → Prop} {d : DefRec} {x : Str}
    (hn : l.most = some n) (hn2 : n ≤ sizeLine) (hdf : d.params.defaults = []) (hr : Room k callerA)
    (F : ∀ (w : World) (mg : Str → Option Value) (fa : Addr) (h : Heap), YP w h → h.Ns mainGlobals mg → mg d.name = some (.ref fa) →
      ∃ (K : PySem.W.Frag) (fd : FuncData) (sp : Sp) (cs : List (Addr × Addr)), K.In h ∧ (∀ z ∈ cs, h.get? z.2 = some tab0) ∧ (∀ z ∈ cs, K.lookup z.2 = none) ∧ (∀ z ∈ cs, PySem.W.CodeHd h z.1 z.2) ∧ (∀ (s : Shared) (u : Value), BindsTo s fd ⟨[u], []⟩ [(x, u)]) ∧
        (∀ (H : Hp) (a : Addr) (ns : List Int), ns.length ≤ n → (∀ z ∈ cs, H z.2 = some (.tbl #[])) → SqL K H a (ns.map V.int) → sp [.ref a] H (fun v _ => v = .bl true) E0) ∧
        ∀ base : Heap, K.In base → base.Ns mainGlobals mg → (∀ z ∈ cs, TabB base mg z.1 z.2) → FnG l.prog w K mg base CX0 k fa fd [x] sp) :
    PySem.W.WalkO q loose XP YP l.row.toRowW d [] (fun f vs => PySem.call f vs) := by
  refine Att.attach_call hn hdf fun w s₀ s₁ mg mb fa o pm cd doc a vs ns G Y ho hd hcd hmg hobj hints hlen hg => ?_
  obtain ⟨K, fd, sp, cs, KX, t1, t2, t3, hb, hsp, hF⟩ := F w mg fa _ Y G.T.g hmg
  exact lawGT cs KX G.T.g G.T.b G.T.builtins G.T.nolimit hg t1 t2 t3 G.T.bmain hobj hints (Nat.le_trans hlen hn2) hr hF hb fun H hT hS => hsp H a ns hlen hT hS
/-- the code object of a def, as the head tells it -/
theorem codeAt_of {K : PySem.W.Frag} {x qual : Str} {ps : Arguments} {body : List Stmt} {sc : Scope} {dvs : List V} {kws : List (Str × V)} {fd : FuncData} {p : Str × Option Str} (F : FunD K x qual ps body sc dvs kws (He.fAd K p) fd) : CodeAt K (He.fAd K p) (He.codeOf K p) := by
  obtain ⟨oc, od, dV, kV, doc, pm, an, cdv, ct, osl, rfl, lk, hcd, _, _⟩ := F.ex
  obtain ⟨c, rfl⟩ := He.codeIn_ref hcd
  exact ⟨_, _, _, _, lk, (congrArg Value.ref (He.codeOf_eq lk rfl)).symm⟩
end Lw
namespace Lw
open PySem PySem.Spec PyProof.Rows L2 Evl
/-! ### a def of the top that may let errors out -/
def CalO (P : Program) (w : World) (K : PySem.W.Frag) (mg : Str → Option Value) (base : Heap) (CX : CXT) (k : Nat) (x : Str) (ps : List Str) (sp : Sp) : Prop :=
  ∃ f fd, mg x = some (.ref f) ∧ PySem.W.keepIn K (.ref f) = true ∧ Binds K fd ps [] ∧ (∀ (ws : List Value) (s : Shared), ws.length = ps.length → BindsTo s fd ⟨[], ps.reverse.zip ws⟩ (ps.zip ws.reverse)) ∧ FnOk P w K mg base CX k f fd ps sp
def tCallRE (sp : Sp) (E : XK) (tk : TA) : TE := fun σ H Q => tk σ H fun vs H1 => sp vs.reverse H1 Q E
section
variable {X : Cx} {CX : CXT} {k : Nat} {x : Str} {ps : List Str} {sp : Sp} {p pos : Pos} {e : Expr} {es : List Expr} {kws : List Keyword} {t tk : TA} {E : XK}
theorem pe_calO (C : CalO X.prog X.w X.K X.mg X.base CX k x ps sp) {j : Nat} (hr : Room j X.A) (hx : Passes CX X E) (ha : PA X (e :: es) t) (hj : k ≤ j := by decide) (hg : Gl X x := by rfl) (hdb : (x == ("__debug__" : Str)) = false := by decide)
    (he : starEach (e :: es) X.env = (false, eval e X.env) :: starEach es X.env := by rfl) (hpl : (backTo pos (starEach es X.env)).any (·.1) = false := by rfl) : PE X (.Call (.Name x p) (e :: es) [] pos) (tCall sp [] E t) := by
  obtain ⟨f, fd, hm, hk, hb, _, F⟩ := C
  exact pe_call F (hr.mono hj) hg hm hk hb .nil hx ha hdb he hpl
theorem pe_calOR (C : CalO X.prog X.w X.K X.mg X.base CX k x ps sp) {j : Nat} (hr : Room j X.A) (hx : Passes CX X E) (hkw : PK X kws tk) (hj : k ≤ j := by decide) (hg : Gl X x := by rfl) (hdb : (x == ("__debug__" : Str)) = false := by decide)
    (hall : (backToKw pos (keywordEach kws X.env)).all (·.1.isSome) = true := by rfl) (hks : (backToKw pos (keywordEach kws X.env)).filterMap (·.1) = ps.reverse := by rfl)
    (hpl : ((backTo pos (starEach [] X.env)).any (·.1) || (backToKw pos (keywordEach kws X.env)).any (·.1.isNone)) = false := by rfl) : PE X (.Call (.Name x p) [] kws pos) (tCallRE sp E tk) := by
  obtain ⟨f, fd, hm, hk, _, hb, F⟩ := C
  constructor
  intro pins s σ H Q I h
  refine wpAny_Call_Name_kw (ld_glob I hg hm ?_ hdb)
  refine PySem.W.callWith_KW0 (h₀ := X.base) I.ok.mod.kin hk hall ?_ hpl
  refine thn (hkw.run pos pins s σ H _ I h) fun ws s2 hh => ?_
  obtain ⟨zs, H2, I2, rz, q⟩ := hh
  refine ⟨I2.kIn, ?_⟩
  rw [hks]
  have hl : zs.length = ps.length := by
    have z := F.len _ _ _ _ q
    rw [List.length_reverse] at z
    exact z
  refine wpAny_call (codeAny_mono (F.run _ _ _ _ _ _ _ _ _ (hr.mono hj) I2.env0 (hb ws s2 (rz.length.symm.trans hl)) (Vals.reverse rz) q) fun r s3 hq => ?_)
  cases r with
  | error er => exact hx pins σ _ s2 er s3 I2 hq
  | ok fl =>
    cases fl with
    | ret u => exact I2.after hq
    | next => exact hq.elim
    | brk => exact hq.elim
    | cont => exact hq.elim
end
section
variable {P : Program} {w : World} {K : PySem.W.Frag} {mg : Str → Option Value} {base : Heap} {CX : CXT} {x qual : Str} {params : Arguments} {body : List Stmt} {scope : Scope} {dvs : List V} {kws : List (Str × V)} {f c : Addr} {fd : FuncData} {N ps : List Str} {k : Nat} {sp : Sp}
/-- a def by its body -/
theorem fnO (F : FunD K x qual params body scope dvs kws f fd) (S : FnScope N ps scope) (len : ∀ vs H Q E, sp vs H Q E → vs.length = ps.length)
    (walk : ∀ (cdv : Value) (A : Around) (outer : List Env) (s : Shared) (H : Hp) (vs : List V) (Q : VK) (E : XK), Room k (A.deeper (envOfC qual scope s.heap.objs.size f cdv)) → sp vs H Q E →
      ∃ t, PSs (cxOf CX P w K mg base N qual scope f cdv A outer s H E) body t ∧ t { nx := fun _ H' => Q .non H', rt := Q } (start N vs) H) : FnOk P w K mg base CX (k + 1) f fd ps sp := by
  obtain ⟨_, _, dV, kV, doc, pm, an, cdv, ct, osl, rfl, lk, hcd, _, _⟩ := F.ex
  exact fn_of lk hcd S len (walk cdv)
/-- .. its code object known -/
theorem fnOc (C : CodeAt K f c) (F : FunD K x qual params body scope dvs kws f fd) (S : FnScope N ps scope) (len : ∀ vs H Q E, sp vs H Q E → vs.length = ps.length)
    (walk : ∀ (A : Around) (outer : List Env) (s : Shared) (H : Hp) (vs : List V) (Q : VK) (E : XK), Room k (A.deeper (envOfC qual scope s.heap.objs.size f (.ref c))) → sp vs H Q E →
      ∃ t, PSs (cxOf CX P w K mg base N qual scope f (.ref c) A outer s H E) body t ∧ t { nx := fun _ H' => Q .non H', rt := Q } (start N vs) H) : FnOk P w K mg base CX (k + 1) f fd ps sp := by
  obtain ⟨_, _, dV, kV, doc, pm, an, cdv, ct, osl, rfl, lk, hcd, _, _⟩ := F.ex
  obtain rfl : cdv = .ref c := by
    obtain ⟨_, _, fd2, _, e1, e2⟩ := C
    rw [lk] at e1
    cases e1
    exact e2
  exact fn_of lk hcd S len walk
end
/-! ### raise C(e) -/
/-- C.__init__(self, f): self.f = f -/
def spIx (f : Str) (C : Addr) : Sp := fun vs H Q _ => ∃ (a : Addr) (y : V), vs = [.ref a, y] ∧ H a = some (exo a C none) ∧ ∀ dx, H dx = none → dx ≠ a → Q .non (upd (upd H dx (exd dx [(f, y)])) a (exo a C (some dx)))
/-- a class of the top whose instances keep one value, and are raised -/
structure XRz (P : Program) (w : World) (K : PySem.W.Frag) (mg : Str → Option Value) (base : Heap) (k : Nat) (x : Str) (C : Addr) (f : Str) : Prop where
  g : mg x = some (.ref C)
  ox : OexC K C
  ini : ∃ fI fd, PySem.W.findIn K (.ref C) "__init__" = some (some (.ref fI)) ∧ PySem.W.typeIn K (.ref fI) = some (.type "function") ∧ FnOk P w K mg base CX0 k fI fd ["self", f] (spIx f C) ∧ Binds K fd ["self", f] []
/-- an error of the class at C goes out, with v; all else stands -/
def Rz (C : Addr) (f : Str) (v : V) (H : Hp) (E : XK) : Prop := ∀ d H', Ex H H' → H' d = some (.xd [(f, v)]) → E (.ref C) (some d) H'
def tRz (C : Addr) (f : Str) (W : WX) (te : TE) : TS := fun _ σ H => te σ H fun v H1 => Rz C f v H1 fun cls d H' => W cls d σ H'
theorem PE.wk {X : Cx} {e : Expr} {te : TE} (he : PE X e te) : PE X e (fun σ H Q => ∃ R : VK, te σ H R ∧ ∀ v H1, R v H1 → Q v H1) :=
  ⟨fun pins s σ H Q I h => by
    obtain ⟨R, h, m⟩ := h
    refine wpAny_mono (he.run pins s σ H R I h) (fun u s1 hh => ?_) (fun _ _ z => z)
    obtain ⟨x, H1, I1, r1, q1⟩ := hh
    exact ⟨x, H1, I1, r1, m _ _ q1⟩⟩
theorem ps_rz {X : Cx} {W : WX} {k : Nat} {x : Str} {C : Addr} {f : Str} {e : Expr} {te : TE} {p pos pos' : Pos} (T : XRz X.prog X.w X.K X.mg X.base k x C f) {j : Nat} (hr : Room j X.A) (hc : X.calm = true) (tk : Takes X W) (he : PE X e te) (hj : k + 1 ≤ j := by decide)
    (hg : Gl X x := by rfl) (hdb : (x == ("__debug__" : Str)) = false := by decide) (h1 : starEach [e] X.env = (false, eval e X.env) :: starEach [] X.env := by rfl) (h2 : (backTo pos (starEach [] X.env)).any (·.1) = false := by rfl) :
    PS X (.Raise (some (.Call (.Name x p) [e] [] pos)) none pos') (tRz C f W te) := by
  obtain ⟨fI, fd, hi, ti, F, hb⟩ := T.ini
  have z := ps_raise (pos := pos') hc tk (pmk_oex (p := p) (pos := pos) T.ox hi ti F (hr.mono hj) hb .nil pass0 hg T.g (pa_cons (PE.wk he) pa_nil h1) hdb h1 h2)
  refine ⟨fun pins s σ H D I h => z.run pins s σ H D I ⟨_, h, fun v H1 r => ⟨by show 1 ≤ 1000; decide, fun a na => ⟨a, v, rfl, upd_same, fun dx nd ne => ⟨rfl, dx, [(f, v)], upd_same, ?_, ?_, ?_⟩⟩⟩⟩⟩
  · rw [upd_ne ne, upd_same]
  · by_cases q : dx = a
    · exact absurd q ne
    · rw [upd_ne q] at nd
      exact nd
  · have nd' : H1 dx = none := by
      rw [upd_ne ne] at nd
      exact nd
    refine r dx _ (fun b o eb => ?_) upd_same
    have n1 : b ≠ dx := ne_of_none eb nd'
    have n2 : b ≠ a := ne_of_none eb na
    rw [upd_ne n1, del_ne n2, upd_ne n2, upd_ne n1, upd_ne n2]
    exact eb
end Lw
namespace Lw
open PySem PySem.Spec PyProof.Rows L2 Evl
open LwX (XC XF)
/-! ### try: .. except C1 as n: .. except C2 as n: ..; what comes behind the clauses that are told is never reached -/
abbrev HS := Addr → Value → Option Addr → TS
def offD (i : Nat) (D : Ends) : Ends := { nx := fun σ H => D.nx (σ.set i none) H, rt := D.rt, bk := fun σ H => D.bk (σ.set i none) H, ct := fun σ H => D.ct (σ.set i none) H }
def wA (K : PySem.W.Frag) (i : Nat) (D : Ends) : List (Value × HS) → WX
  | [] => fun _ _ _ _ => False
  | q :: r => fun cls d σ H => ∃ b, PySem.W.exmOne K cls q.1 = some b ∧ (b = true → ∀ a, H a = none → q.2 a cls d (offD i D) (σ.set i (some (.ref a))) H) ∧ (b = false → wA K i D r cls d σ H)
inductive HdA (X : Cx) (n : Str) : List ExceptHandler → List (Value × HS) → Prop
  | rest (l : List ExceptHandler) : HdA X n l []
  | cons {x : Str} {cv : Value} {th : HS} {st : Stmt} {ss : List Stmt} {p1 p2 : Pos} {l : List ExceptHandler} {r : List (Value × HS)} (named : Names X x cv)
      (body : ∀ (a : Addr) (ob : Obj) (cls : Value) (d : Option Addr) (pn : List (Addr × Obj)), Zc cls d ob → (∃ vs, ob.data = .fields vs) → PSs (X.suite a ((a, ob) :: pn)) (st :: ss) (th a cls d)) (more : HdA X n l r) :
      HdA X n (.ExceptHandler (some (.Name x p1)) (some n) (st :: ss) p2 :: l) ((cv, th) :: r)
theorem ps_tryA {X : Cx} {n : Str} {i : Nat} {bd : List Stmt} {h0 : ExceptHandler} {hl : List ExceptHandler} {r0 : List (Value × HS)} {pos : Pos} {tb : WX → TS} (st : X.stack = X.env :: X.outer) (lf : X.env.frame = some X.env.locals) (nd : X.N.Nodup) (ni : X.N[i]? = some n) (nl : X.env.kindOf n = some .local)
    (hb : ∀ (W : WX) (pn : List (Addr × Obj)) (xe : Value → Shared → Prop), Takes (X.tr pn xe) W → PassesOwn (model X.prog X.w) X.A X.env xe → PSs (X.tr pn xe) bd (tb W)) (hh : HdA X n (h0 :: hl) r0) :
    PS X (.Try bd (h0 :: hl) [] [] pos) (fun D σ H => tb (wA X.K i D r0) D σ H) := by
  constructor
  intro pins s σ H D I h
  have ok := I.ok
  have fr : X.A.frames = some (X.env :: X.outer) := by rw [ok.frames, st]
  have lo : Loc X.env.scope n := .inl nl
  refine wpAny_Try_except ?_
  have run := (hb (wA X.K i D r0) (X.pn ++ pins) (fun e s1 => wpAny (model X.prog X.w) X.A (noteFrame e X.env) (fun _ s2 => wpAny (model X.prog X.w) X.A (setFlight e none) (fun _ s3 =>
    wpAny (model X.prog X.w) X.A (handleBy e X.env (h0 :: hl)) (SP X pins D) X.xe s3) X.xe s2) X.xe s1) (fun u s2 xx => ?_) PassesOwn.looking).run [] s σ H D (I.toTry _) h
  · refine wpAny_mono run (fun f s1 z => ?_) (fun _ _ z => z)
    rcases f with _ | _ | _ | u
    · obtain ⟨σ2, H2, J2, q2⟩ := z
      exact wpAny_execs_nil ⟨σ2, H2, J2.ofTry ok, q2⟩
    all_goals first
      | (obtain ⟨σ2, H2, J2, q2⟩ := z; exact ⟨σ2, H2, J2.ofTry ok, q2⟩)
      | (obtain ⟨v2, σ2, H2, J2, r2, q2⟩ := z; exact ⟨v2, σ2, H2, J2.ofTry ok, r2, q2⟩)
  · obtain ⟨a, B, sI, pin2, τ, G, cls, d, rfl, J0, nb, up, sky, na, os, ag, w⟩ := xx
    have J : Inv X pins τ G sI := J0.ofTry ok
    rw [show (X.tr (X.pn ++ pins) _).stack = X.env :: X.outer from st] at sky
    show wpAny (model X.prog X.w) X.A (noteFrame (.ref a) X.env) _ _ _
    refine Sky.land Zc.steady fr lf sky fun h3 fl up3 => ?_
    have away : ∀ {h : Heap} {o : Obj} {vs : Array Value}, h.FunFrames B (X.env :: X.outer) → h.get? a = some o → o.data = .fields vs → a ∉ frs (X.env :: X.outer) := fun {h o vs} ff e y m => by
      obtain ⟨_, o2, e2, no⟩ := ff.mem m
      rw [e] at e2
      cases e2
      exact no _ y
    obtain ⟨o3, v3, e3, z3, d3⟩ := fl.there
    have out := away fl.2.2.1 e3 d3
    have aL : a ≠ X.env.locals := fun y => out (List.mem_filterMap.mpr ⟨X.env, List.mem_cons_self, by rw [lf, y]⟩)
    have aF : a ∉ X.fs := fun y => by
      obtain ⟨e, me, q⟩ := List.mem_filterMap.mp y
      exact out (List.mem_filterMap.mpr ⟨e, List.mem_cons_of_mem _ me, q⟩)
    have J3 : Inv X pins τ G { s2 with heap := h3 } := J.landed nb fl.1 (up.trans up3) os ag
    have S3 := J3.suite e3 d3 na aL aF
    clear h hb
    suffices go : ∀ (l : List ExceptHandler) (r : List (Value × HS)), HdA X n l r → wA X.K i D r cls d τ G → wpAny (model X.prog X.w) X.A (handleBy (.ref a) X.env l) (SP X pins D) X.xe { s2 with heap := h3 } from go _ _ hh w
    intro l r hk
    induction hk with
    | rest l => exact fun y => y.elim
    | @cons x cv th st ss p1 p2 l r named body more ih =>
      intro y
      obtain ⟨b, hm, yes, no⟩ := y
      refine wpAny_handleBy_cons (codeAny_handlers_test ?_) (by intro q; cases q)
      have look : PySem.W.Looks (model X.prog X.w) h3 (typeOf (.ref a)) cls := fun A Q E s k q => wpAny_typeOf_ref (k _ _ e3) (by rw [z3.1]; exact q)
      have asks := PySem.W.exm_one (M := model X.prog X.w) J3.kIn look hm
      have name : ∀ {Q E : Value → Shared → Prop}, Q cv { s2 with heap := h3 } → wpAny (model X.prog X.w) (X.A.mark (some (.ref a))) (eval (.Name x p1) X.env) Q E { s2 with heap := h3 } := fun {Q E} q => by
        obtain ⟨g1, g2, g3 | ⟨g3, g4, g5⟩⟩ := named
        · exact ld_glob (X := X.suite a ((a, o3) :: (X.pn ++ pins))) S3 g1 g3 q g2
        · exact ld_blt (X := X.suite a ((a, o3) :: (X.pn ++ pins))) S3 g1 g3 g4 q g5 g2
      refine name (asks.here ?_)
      cases b with
      | false => exact ih (no rfl)
      | true =>
        refine codeAny_handlers_suite_as (HandSPX.lands_againZ fl fun h4 fl4 up4 => ?_)
        obtain ⟨o4, v4, e4, z4, d4⟩ := fl4.there
        have J4 : Inv X pins τ G { s2 with heap := h4 } := J.landed nb fl4.1 ((up.trans up3).trans up4) os ag
        refine store_ok (X := X.suite a ((a, o4) :: (X.pn ++ pins))) (v := .ref a) (J4.suite e4 d4 na aL aF) nd ni lo rfl (fun s5 S5 => ?_) (.inr nl)
        refine wpAny_mono ((body a o4 cls d (X.pn ++ pins) z4 ⟨_, d4⟩).run [] s5 _ G _ S5 (yes rfl a na)) (fun f s6 z => ?_) (fun _ _ z => False.elim z)
        have close : ∀ {τ6 : L2.St} {H6 : Hp} {Q : Shared → Prop}, Inv (X.suite a ((a, o4) :: (X.pn ++ pins))) [] τ6 H6 s6 → (∀ s7, Inv X pins (τ6.set i none) H6 s7 → Q s7) →
            wpAny (model X.prog X.w) X.A (do bindName X.env n .none; unbindBehindTheSuite X.env n p2) (fun _ s7 => Q s7) X.xe s6 := fun {τ6 H6 Q} S6 q => gone_ok (S6.unsuite ok) nd ni nl q
        rcases f with _ | _ | _ | u
        all_goals first
          | (obtain ⟨τ6, H6, S6, q6⟩ := z; exact close S6 fun s7 J7 => ⟨_, _, J7, q6⟩)
          | (obtain ⟨v6, τ6, H6, S6, r6, q6⟩ := z; exact close S6 fun s7 J7 => ⟨_, _, _, J7, r6, q6⟩)
/-! ### isinstance(e, c) of the caught one -/
def rIsC (K : PySem.W.Frag) (cls : Value) (d : Option Addr) (a : Addr) : List V → Hp → VK → Prop := fun xs H Q => ∃ (D dd : Addr) (fs : List (Str × V)) (c : V) (cv : Value) (b : Bool), xs = [.ref a, c] ∧ cls = .ref D ∧ d = some dd ∧ H dd = some (.xd fs) ∧ XC K D ∧
  (∀ u, RelV c u → u = cv) ∧ PySem.W.kitOne K (.ref D) cv = some b ∧ Q (.bl b) H
theorem call_isC {X : Cx} {a : Addr} {cls : Value} {d : Option Addr} {ob : Obj} {pn : List (Addr × Obj)} (hz : Zc cls d ob) (hf : ∃ vs, ob.data = .fields vs) : CallR (X.suite a ((a, ob) :: pn)) (.builtin "isinstance") (rIsC X.K cls d a) := by
  intro pins s σ H xs us Q I r h
  obtain ⟨D, dd, fs, c, cv, b, rfl, rfl, rfl, hd, T, hcv, e, q⟩ := h
  cases r with
  | cons rx rr =>
    cases rr with
    | cons rt rr =>
      cases rr
      cases rx
      have ec := hcv _ rt
      subst ec
      obtain ⟨hget, _⟩ := I.pin (a, ob) (List.mem_append.mpr (.inl List.mem_cons_self))
      obtain ⟨vs, hv⟩ := hf
      have hx : ObjOk X.prog X.w H s.heap dd (.xd fs) := I.hok dd _ hd
      obtain ⟨mA, hns, _⟩ := hx
      obtain ⟨od, ho, _⟩ := lookIn_ns hns
      have J : PySem.W.InstAt s.heap a ob D (some od) := ⟨hget, hz.1, by unfold PySem.W.notCls; rw [hv] <;> rfl, by rw [hz.2]; exact ho⟩
      have hcl : (PySem.W.clsIn X.K D).isSome = true := by
        obtain ⟨cd, hc, _⟩ := PySem.W.any_some T.hd
        rw [hc]
        rfl
      exact PySem.W.kia_one (PySem.W.kitx_exc hcl T.ga T.gg T.sub T.cl T.gt T.tk T.mo) I.kIn J e (fun z => nomatch z) fun tk => ⟨.bl b, H, I.kept (t' := tk) fun _ _ z => z, rfl, q⟩
/-- a suite that is never reached -/
theorem pss_dead {X : Cx} {ss : List Stmt} : PSs X ss (fun _ _ _ => False) := ⟨fun _ _ _ _ _ _ z => z.elim⟩
end Lw
namespace Lw
open PySem PySem.Spec PyProof.Rows L2 Evl
/-- wherever H is kept, v is read as d, and repr shows it so -/
def Sw (P : Program) (w : World) (H : Hp) (v : V) (d : PyData) : Prop :=
  ∀ h : Heap, HOk P w H h → ∀ u : Value, RelV v u → (∃ as, Reads h u d as) ∧ ∃ bs, ReadAtMost h d.depth bs ∧ ReprK P w bs h d.depth u d.shown
section
variable {P : Program} {w : World} {H : Hp}
theorem sw_of {v : V} {d : PyData} (r : Rw P w H v d) (hs : d.showable = true) (hz : d.shown.length ≤ sizeLine) : Sw P w H v d := fun h hok u q => by
  obtain ⟨as, r1, r2⟩ := r h hok u q
  exact ⟨⟨as, r1⟩, ReprK.of_reads r1 hs r2 hz⟩
theorem sw_all {h : Heap} (hok : HOk P w H h) : ∀ {vs : List V} {ds : List PyData} {us : List Value}, Paired (Sw P w H) vs ds → Vals vs us →
    (∃ as, ReadsAll h us ds as) ∧ ∃ bs, ReadAtMost h (PyData.depthAll ds) bs ∧ ReprAllK P w bs h (PyData.depthAll ds) us (PyData.shownAll ds)
  | _, _, _, .nil, .nil => ⟨⟨_, .nil⟩, [], (fun _ z => nomatch z), by simp only [PyData.shownAll]; exact .nil⟩
  | _, _, _, .cons (b := d) (l₂ := ds) r t, .cons q s => by
    obtain ⟨⟨as, r1⟩, b1, m1, k1⟩ := r h hok _ q
    obtain ⟨⟨bs, r2⟩, b2, m2, k2⟩ := sw_all hok t s
    refine ⟨⟨_, .cons r1 r2⟩, b1 ++ b2, ?_, ?_⟩
    · simp only [PyData.depthAll]
      exact (m1.mono (Nat.le_max_left _ _)).append (m2.mono (Nat.le_max_right _ _))
    · simp only [PyData.depthAll, PyData.shownAll]
      exact .cons ((k1.more fun b z => List.mem_append_left _ z).level_le (Nat.le_max_left _ _)) (k2.more_le (fun b z => List.mem_append_right _ z) (Nat.le_max_right _ _))
theorem sw_lst {a : Addr} {vs : List V} {ds : List PyData} (e : H a = some (.lst vs)) (hp : Paired (Sw P w H) vs ds) : Sw P w H (.ref a) (.list ds) := fun h hok u q => by
  cases (show u = Value.ref a from q)
  obtain ⟨_, its, n, rv, ho⟩ : vs.length ≤ sizeLine ∧ ∃ (its : List Value) (n : Nat), Vals vs its ∧ h.get? a = some { cls := .type "list", data := .seq its.toArray n } := hok a _ e
  obtain ⟨⟨as, ra⟩, bs, hb, hk⟩ := sw_all hok hp rv
  have rd : Reads h (.ref a) (.list ds) _ := .list ho rfl rfl (by simpa using ra)
  refine ⟨⟨_, rd⟩, a :: bs, ?_, ?_⟩
  · exact ReadAtMost.cons rd (by simp only [PyData.depth]; omega) hb
  · have na : a ∉ bs := not_mem_of_deeper rd (by simp only [PyData.depth]; omega) hb
    simp only [PyData.depth, PyData.shown]
    cases its with
    | nil =>
      cases rv
      cases hp
      simp only [PyData.shownAll, listText_nil]
      exact (ReprK.listEmpty ho rfl rfl)
    | cons x l => exact ReprK.list ho rfl rfl na (by simpa using hk.length_eq) (fun i y z => hk.item i y (by simpa using z))
end
def rReprS (P : Program) (w : World) : List V → Hp → VK → Prop := fun xs H Q => ∃ (p : Addr) (vs : List V) (ds : List PyData), xs = [.ref p] ∧ H p = some (.lst vs) ∧ Paired (Sw P w H) vs ds ∧
  (listText (PyData.shownAll ds)).length ≤ sizeLine ∧ PyData.depthAll ds ≤ 40 ∧ Q (.str (listText (PyData.shownAll ds))) H
theorem call_reprS {P : Program} {w : World} {X : Cx} (gd : X.A.guards = some []) (hu : X.A.units + 64 < cLine) (hP : X.prog = P := by rfl) (hw : X.w = w := by rfl) : CallR X (.builtin "repr") (rReprS P w) := by
  subst hP hw
  intro pins s σ H xs us Q I r h
  obtain ⟨p, vs, ds, rfl, e, hp, hz, hd, q⟩ := h
  cases r with
  | cons rx rr =>
    cases rr
    cases rx
    obtain ⟨_, its, n, rv, ho⟩ : vs.length ≤ sizeLine ∧ ∃ (its : List Value) (n : Nat), Vals vs its ∧ s.heap.get? p = some { cls := .type "list", data := .seq its.toArray n } := I.hok p _ e
    obtain ⟨⟨as, ra⟩, bs, hb, hk⟩ := sw_all I.hok hp rv
    have na : p ∉ bs := not_mem_of_deeper (.list ho rfl rfl ra) (by simp only [PyData.depth]; omega) hb
    have ty : s.TypeIs (.ref p) "list" := ⟨_, ho, rfl⟩
    refine call_repr_slot (by omega) ty F.slot_list_repr.toG ?_
    have out : ∀ h2 u tk, (∀ b o, s.heap.get? b = some o → h2.get? b = some o) → EP X pins σ Q (.str (listText (PyData.shownAll ds)) u) { s with heap := h2, toks := tk } :=
      fun h2 u tk k => ⟨.str (listText (PyData.shownAll ds)), H, I.kept k, ⟨u, rfl⟩, q⟩
    cases its with
    | nil =>
      cases rv
      cases hp
      simp only [PyData.shownAll, listText_nil] at out
      exact call_list_repr_empty ty ho rfl ⟨_, _, rfl, out s.heap _ _ fun _ _ z => z⟩
    | cons x l =>
      exact call_list_reprK ho rfl rfl na (by simpa using hk.length_eq) (fun i y z => hk.item i y (by simpa using z)) gd (fun b _ => Clear.nil b) (by show X.A.units + 1 + _ < cLine; omega) (fun _ _ z => z) (fun h2 u tk k => ⟨_, _, rfl, out h2 u tk k⟩) hz
end Lw
namespace Lw
open PySem PySem.Spec PyProof.Rows L2 Evl TL
/-! ### a dict of words -/
theorem dc_it {J : It} {n : Nat} {G : Hp → Prop} {Y : Nat → Hp → V → Hp → Prop} (wk : Walk J n G Y) {g : TG} {tk tv : TE} {ws : List Nat} {σ : L2.St} {H1 : Hp} {D : Addr} {Qd : Hp → Prop} (Pv : Nat → Hp → Prop) (h0 : Pv 0 (upd H1 D (.dT []))) (hG : ∀ i H, i ≤ n → Pv i H → G H)
    (hs : ∀ i x H H2, i < n → Pv i H → Y i H x H2 → g x (wipe σ ws) H2 fun τ H3 => wipe τ ws = wipe σ ws ∧ tk τ H3 fun y H4 => tv τ H4 fun z H5 => ∃ kvs k b, y = .ref b ∧ H5 b = some (.tup (k.map kV)) ∧ H5 D = some (.dT kvs) ∧ kvs.length < sizeLine ∧ Pv (i + 1) (upd H5 D (.dT (putK kvs k z)))) (hd : ∀ H, Pv n H → Qd H) :
    ∃ W : Nat → Nat → Hp → Prop, (∃ m, W 0 m (upd H1 D (.dT []))) ∧ ∀ i m H, W i m H → (J.stop i H ∧ Qd H) ∨ (J.go i H ∧ ∃ N : Hp → Prop, (∀ H2, N H2 → ∃ l, l < m ∧ W (i + 1) l H2) ∧ ∀ x H2, J.yld i H x H2 → g x (wipe σ ws) H2 fun τ H3 => wipe τ ws = wipe σ ws ∧
      tk τ H3 fun y H4 => tv τ H4 fun z H5 => ∃ kvs k b, y = .ref b ∧ H5 b = some (.tup (k.map kV)) ∧ H5 D = some (.dT kvs) ∧ kvs.length < sizeLine ∧ N (upd H5 D (.dT (putK kvs k z)))) := by
  refine ⟨fun i m H => i + m = n ∧ Pv i H, ⟨n, Nat.zero_add n, h0⟩, ?_⟩
  rintro i m H ⟨e, p⟩
  have le : i ≤ n := by omega
  rcases Nat.lt_or_eq_of_le le with lt | rfl
  · exact .inr ⟨wk.goes i H lt (hG i H le p), Pv (i + 1), fun H2 q => ⟨m - 1, by omega, by omega, q⟩, fun x H2 y => hs i x H H2 lt p (wk.yields i H x H2 lt (hG i H le p) y)⟩
  · exact .inl ⟨wk.stops H (hG i H le p), hd H p⟩
/-- a word as a key -/
def kw (ys : List Str) : List L2.Key := ys.map Sum.inr
theorem kw_inj : ∀ {xs ys : List Str}, kw xs = kw ys → xs = ys
  | [], [], _ => rfl
  | [], _ :: _, h => nomatch h
  | _ :: _, [], h => nomatch h
  | x :: xs, y :: ys, h => by
    have h2 : (Sum.inr x : L2.Key) :: kw xs = Sum.inr y :: kw ys := h
    injection h2 with a b
    rw [Sum.inr.inj a, kw_inj b]
theorem kw_val (ys : List Str) : (kw ys).map kV = ys.map V.str := by
  unfold kw
  rw [List.map_map]
  rfl
/-- the different ones, in the sequence of their first places -/
def addW (ds : List (List Str)) (w : List Str) : List (List Str) := if w ∈ ds then ds else ds ++ [w]
def uniq (ws : List (List Str)) : List (List Str) := ws.foldl addW []
def dk (ds : List (List Str)) : List (List L2.Key × V) := ds.map fun w => (kw w, V.bl true)
theorem any_dk (ds : List (List Str)) (w : List Str) : ((dk ds).any fun kv => decide (kv.1 = kw w)) = decide (w ∈ ds) := by
  unfold dk
  rw [List.any_map, Bool.eq_iff_iff, List.any_eq_true, decide_eq_true_iff]
  constructor
  · rintro ⟨x, h1, h2⟩
    rw [← kw_inj (of_decide_eq_true h2)]
    exact h1
  · intro h
    exact ⟨w, h, decide_eq_true rfl⟩
theorem put_dk (ds : List (List Str)) (w : List Str) : putK (dk ds) (kw w) (.bl true) = dk (addW ds w) := by
  unfold putK addW
  rw [any_dk]
  by_cases h : w ∈ ds
  · rw [if_pos (decide_eq_true h), if_pos h]
    unfold dk
    rw [List.map_map]
    refine List.map_congr_left fun x _ => ?_
    show (if kw x = kw w then (kw x, V.bl true) else (kw x, V.bl true)) = _
    split <;> rfl
  · rw [if_neg (by rw [decide_eq_false h]; decide), if_neg h]
    unfold dk
    rw [List.map_append]
    rfl
theorem uniq_succ {ws : List (List Str)} {i : Nat} {w : List Str} (h : ws[i]? = some w) : uniq (ws.take (i + 1)) = addW (uniq (ws.take i)) w := by
  obtain ⟨hi, e⟩ := List.getElem?_eq_some_iff.mp h
  rw [← List.take_concat_get hi, e, List.concat_eq_append]
  unfold uniq
  rw [List.foldl_append]
  rfl
theorem addW_mem {ds : List (List Str)} {w u : List Str} : u ∈ addW ds w ↔ u ∈ ds ∨ u = w := by
  unfold addW
  split
  · rename_i h
    exact ⟨.inl, fun z => z.elim id fun e => e ▸ h⟩
  · rw [List.mem_append, List.mem_singleton]
theorem uniq_mem {ws : List (List Str)} {u : List Str} : u ∈ uniq ws ↔ u ∈ ws := by
  have key : ∀ (ws ds : List (List Str)), u ∈ ws.foldl addW ds ↔ u ∈ ds ∨ u ∈ ws := fun ws => by
    induction ws with
    | nil => intro ds; simp
    | cons w ws ih =>
      intro ds
      rw [List.foldl_cons, ih, addW_mem, List.mem_cons, or_assoc]
  unfold uniq
  rw [key]
  simp
theorem addW_nodup {ds : List (List Str)} {w : List Str} (h : ds.Nodup) : (addW ds w).Nodup := by
  unfold addW
  split
  · exact h
  · rename_i n
    rw [List.nodup_append]
    refine ⟨h, by simp, fun a ha b hb e => n ?_⟩
    rw [← List.mem_singleton.mp hb, ← e]
    exact ha
theorem uniq_nodup (ws : List (List Str)) : (uniq ws).Nodup := by
  have key : ∀ (ws ds : List (List Str)), ds.Nodup → (ws.foldl addW ds).Nodup := fun ws => by
    induction ws with
    | nil => intro ds h; exact h
    | cons w ws ih => intro ds h; exact ih _ (addW_nodup h)
  exact key ws [] List.nodup_nil
theorem uniq_len (ws : List (List Str)) : (uniq ws).length ≤ ws.length := by
  have key : ∀ (ws ds : List (List Str)), (ws.foldl addW ds).length ≤ ds.length + ws.length := fun ws => by
    induction ws with
    | nil => intro ds; exact Nat.le_refl _
    | cons w ws ih =>
      intro ds
      have h1 := ih (addW ds w)
      have h2 : (addW ds w).length ≤ ds.length + 1 := by
        unfold addW
        split
        · omega
        · rw [List.length_append]
          exact Nat.le_refl _
      rw [List.foldl_cons, List.length_cons]
      omega
  have z := key ws []
  rw [List.length_nil, Nat.zero_add] at z
  exact z
section
variable {K : PySem.W.Frag} {σ : L2.St} {H : Hp} {te : TE} {ws : List (List Str)}
theorem paired_at {α β : Type} {S : α → β → Prop} : ∀ {xs : List α} {ys : List β} {i : Nat} {x : α}, Paired S xs ys → xs[i]? = some x → ∃ y, ys[i]? = some y ∧ S x y
  | _, _, 0, _, .cons r _, e => ⟨_, rfl, by cases e; exact r⟩
  | _, _, i + 1, _, .cons _ t, e => paired_at (i := i) t e
/-- the dict of the different words of a list or a tuple -/
theorem dcWords {j : Nat} (h : EvSW K te σ H ws) (hz : ws.length ≤ 100000) (hw : ∀ x, wipe ((wipe σ [j]).set j (some x)) [j] = wipe σ [j]) (hj : ∀ x, ((wipe σ [j]).set j (some x))[j]? = some (some x)) {Q : VK}
    (q : ∀ D H2, H D = none → Ex H H2 → H2 D = some (.dT (dk (uniq ws))) → Q (.ref D) H2) : tDcT (iSeqS K te) (gName j) (tVar j) (tC (.bl true)) [j] σ H Q := h H (Ex.refl H) _ fun l H1 e1 hl => by
  -- over a walk of the words' places
  have go : ∀ (us : List V) (J : It) (G : Hp → Prop), Paired (Wd K H1) us ws → Walk J us.length G (YAt us) → (∀ H2, Ex H1 H2 → G H2) → ∀ D, H1 D = none → ∃ W : Nat → Nat → Hp → Prop, (∃ m, W 0 m (upd H1 D (.dT []))) ∧ ∀ i m H, W i m H →
      (J.stop i H ∧ Q (.ref D) H) ∨ (J.go i H ∧ ∃ N : Hp → Prop, (∀ H2, N H2 → ∃ l, l < m ∧ W (i + 1) l H2) ∧ ∀ x H2, J.yld i H x H2 → gName j x (wipe σ [j]) H2 fun τ H3 => wipe τ [j] = wipe σ [j] ∧
        tVar j τ H3 fun y H4 => tC (.bl true) τ H4 fun z H5 => ∃ kvs k b, y = .ref b ∧ H5 b = some (.tup (k.map kV)) ∧ H5 D = some (.dT kvs) ∧ kvs.length < sizeLine ∧ N (upd H5 D (.dT (putK kvs k z)))) := fun us J G hp wk hG D hD => by
    have len := Paired.length hp
    refine dc_it wk (fun i H2 => Ex H1 H2 ∧ H2 D = some (.dT (dk (uniq (ws.take i))))) ⟨Ex.new hD, upd_same⟩ (fun i H2 _ p => hG H2 p.1) (fun i x H2 H3 hi p y => ?_) fun H2 p => ?_
    · obtain ⟨rfl, hx⟩ := y
      obtain ⟨w, hw2, a, rfl, ha⟩ := paired_at hp hx
      refine ⟨hw _, _, hj _, dk (uniq (ws.take i)), kw w, a, rfl, by rw [kw_val]; exact p.1 _ _ ha, p.2, ?_, Ex.mut p.1 hD, ?_⟩
      · have h1 := uniq_len (ws.take i)
        rw [List.length_take] at h1
        unfold dk
        rw [List.length_map]
        exact sz_lt (by omega)
      · rw [put_dk, uniq_succ hw2]
        exact upd_same
    · obtain ⟨p1, p2⟩ := p
      rw [len, List.take_length] at p2
      exact q D H2 (fresh_back e1 hD) (e1.trans p1) p2
  rcases hl with ⟨us, h1, h2⟩ | ⟨us, h1, h2⟩
  · exact ⟨l, rfl, .inl ⟨us, SqL.of h1, go us _ _ h2 walk_list fun H2 e => ex_l e (SqL.of h1)⟩⟩
  · exact ⟨l, rfl, .inr ⟨us, SqT.of h1, go us _ _ h2 walk_tup fun H2 e => ex_t e (SqT.of h1)⟩⟩
theorem q_asgDc {i j : Nat} {tz : TS} {D : Ends} (h : EvSW K te σ H ws) (hz : ws.length ≤ 100000) (hw : ∀ x, wipe ((wipe σ [j]).set j (some x)) [j] = wipe σ [j]) (hj : ∀ x, ((wipe σ [j]).set j (some x))[j]? = some (some x))
    (k : ∀ a H2, H a = none → Ex H H2 → H2 a = some (.dT (dk (uniq ws))) → tz D (σ.set i (some (.ref a))) H2) : tSeq (tAsg (tDcT (iSeqS K te) (gName j) (tVar j) (tC (.bl true)) [j]) (gName i)) tz D σ H := dcWords (Q := fun v H2 => tz D (σ.set i (some v)) H2) h hz hw hj k
end
end Lw
namespace Lw
open PySem PySem.Spec PyProof.Rows L2
/-! ### len(o), o of an own class with its own __len__ -/
section
variable {prog : Program} {w : World} {A : Around} {E : Value → Shared → Prop} {s : Shared} {K : PySem.W.Frag} {a C f : Addr} {ox : Obj} {od : Option Obj} {n : Str}
theorem special_def {args : List Value} {Q : Option Value → Shared → Prop} (X : K.In s.heap) (J : PySem.W.InstAt s.heap a ox C od) (hf : PySem.W.findIn K (.ref C) n = some (some (.ref f))) (tf : PySem.W.typeIn K (.ref f) = some (.type "function"))
    (hc : wpAny (model prog w) A (call (.ref f) (.ref a :: args)) (fun v s2 => Q (some v) s2) E s) : wpAny (model prog w) A (callSpecial? (.ref a) n args) Q E s := by
  have L1 := J.type (M := model prog w)
  have L2 := PySem.W.looks_findIn (M := model prog w) X hf
  have L3 := PySem.W.bind_fn (M := model prog w) X (.ref a) tf
  have sp : wpAny (model prog w) A (specialOf (.ref a) n) (fun r s2 => r = some (.ref f) ∧ s2 = s) E s := by
    unfold specialOf
    repeat (first
      | with_reducible refine L1.at ?_
      | with_reducible refine L2.at ?_
      | wp_step)
    exact ⟨rfl, rfl⟩
  unfold callSpecial?
  refine wpAny_bind (wpAny_mono sp (fun r s2 h => ?_) fun _ _ z => z)
  obtain ⟨rfl, rfl⟩ := h
  refine wpAny_holding (wpAny_bind (L3.at ?_))
  first
    | exact wpAny_bind (wpAny_mono hc (fun v s' h' => wpAny_pure h') fun _ _ h' => h')
    | exact wpAny_pure (wpAny_bind (wpAny_mono hc (fun v s' h' => wpAny_pure h') fun _ _ h' => h'))
end
/-- the call of a def from within a built-in that holds a frame's place -/
theorem run_in1 {X : Cx} {CX : CXT} {k : Nat} {f : Addr} {fd : FuncData} {ps : List Str} {sp : Sp} {E : XK} {pins : List (Addr × Obj)} {σ : L2.St} {H : Hp} {s : Shared} {us : List Value} {vs : List V} {Q : VK} (F : FnOk X.prog X.w X.K X.mg X.base CX k f fd ps sp) (hb : Binds X.K fd ps []) (hr : Room k X.A.in1) (hx : Passes CX X E)
    (I : Inv X pins σ H s) (r : Vals vs us) (h : sp vs H Q E) : wpAny (model X.prog X.w) X.A.in1 (call (.ref f) us) (EP X pins σ Q) X.xe s := by
  have hl := F.len _ _ _ _ h
  refine wpAny_call (codeAny_mono (F.run X.A.in1 X.stack s H ⟨us, []⟩ us vs _ E hr I.env0.in1 (by
    have z := hb s us I.kIn (by rw [List.append_nil, ← hl]; exact r.length.symm)
    rw [List.append_nil] at z
    exact z) r h) fun r2 s2 hq => ?_)
  cases r2 with
  | error er => exact hx pins σ H s er s2 I hq
  | ok fl =>
    cases fl with
    | ret u => exact I.after hq
    | next => exact hq.elim
    | brk => exact hq.elim
    | cont => exact hq.elim
/-- len(o) -/
def rLenO (C : Addr) (sp : Sp) (E : XK) : List V → Hp → VK → Prop := fun xs H Q => ∃ (a dx : Addr) (fs : List (Str × V)), xs = [.ref a] ∧ H a = some (.ins C dx fs) ∧ sp [.ref a] H (fun v H2 => ∃ n : Int, v = .int n ∧ 0 ≤ n ∧ n < 2 ^ 63 ∧ Q (.int n) H2) E
theorem call_lenO {X : Cx} {CX : CXT} {k : Nat} {C f : Addr} {fd : FuncData} {ps : List Str} {sp : Sp} {E : XK} (hf : PySem.W.findIn X.K (.ref C) "__len__" = some (some (.ref f))) (tf : PySem.W.typeIn X.K (.ref f) = some (.type "function"))
    (F : FnOk X.prog X.w X.K X.mg X.base CX k f fd ps sp) (hb : Binds X.K fd ps []) (hr : Room k X.A.in1) (hx : Passes CX X E) : CallR X (.builtin "len") (rLenO C sp E) := by
  intro pins s σ H xs us Q I r h
  obtain ⟨a, dx, fs, rfl, ha, q⟩ := h
  cases r with
  | cons r1 rr =>
    cases rr
    cases r1
    obtain ⟨mA, J, _⟩ := ins_get I.hok ha
    obtain ⟨od, J, _⟩ := J.look
    refine Calls.call_function_entry kind_len plain_len entry_len (args_len1 _) ?_; unfold Builtin.«len»; refine wpAny_bind (m := oneArg "len" _) (wpAny_pure ?_)
    refine wpAny_bind (m := callSpecial? (.ref a) (Str.ofString "__len__")) (special_def I.kIn J hf tf (wpAny_mono (run_in1 (us := [.ref a]) (vs := [.ref a]) F hb hr hx I (.cons rfl .nil) q) (fun v s2 hh => ?_) fun _ _ z => z))
    obtain ⟨x, H2, I2, rx, n, rfl, n0, n1, q2⟩ := hh
    obtain ⟨t, rfl⟩ := (show ∃ t, v = Value.int n t from rx)
    have m0 : ¬ n < 0 := by omega
    have m1 : ¬ n ≥ 2 ^ 63 := by omega
    refine wpAny_bind (wpAny_holding (wpAny_pure (wpAny_bind (wpAny_letGo ?_))))
    dsimp only
    rw [if_neg m0, if_neg m1]
    exact wpAny_bind (wpAny_mkInt (wpAny_pure ⟨_, rfl, ⟨.int n, H2, I2.tok _, ⟨_, rfl⟩, q2⟩⟩))
/-! ### x in o, by o's own __contains__ -/
section
variable {prog : Program} {w : World} {A : Around} {E : Value → Shared → Prop} {s : Shared} {K : PySem.W.Frag} {a C f : Addr} {ox : Obj} {od : Option Obj} {n : Str}
theorem spec_at (X : K.In s.heap) (J : PySem.W.InstAt s.heap a ox C od) (hf : PySem.W.findIn K (.ref C) n = some (some (.ref f))) {Q : Option Value → Shared → Prop} (q : Q (some (.ref f)) s) : wpAny (model prog w) A (specialOf (.ref a) n) Q E s := by
  have L1 := J.type (M := model prog w)
  have L2 := PySem.W.looks_findIn (M := model prog w) X hf
  unfold specialOf
  repeat (first
    | with_reducible refine L1.at ?_
    | with_reducible refine L2.at ?_
    | wp_step)
  exact q
theorem in_own {x : Value} {Q : Value → Shared → Prop} (X : K.In s.heap) (J : PySem.W.InstAt s.heap a ox C od) (hf : PySem.W.findIn K (.ref C) "__contains__" = some (some (.ref f))) (tf : PySem.W.typeIn K (.ref f) = some (.type "function"))
    (hc : wpAny (model prog w) A (call (.ref f) [.ref a, x]) (fun v s2 => ∃ b, v = .bool b ∧ Q (.bool b) s2) E s) : wpAny (model prog w) A (compareOp .In x (.ref a)) Q E s := by
  have L3 := PySem.W.bind_fn (M := model prog w) X (.ref a) tf
  unfold compareOp contains
  refine wpAny_bind (wpAny_holding ?_)
  have e : stdlibNamesSay? (.ref a) x = none := by cases x <;> rfl
  rw [e]
  refine wpAny_bind (spec_at X J hf ?_)
  rw [if_neg (by simp)]
  refine wpAny_bind ?_
  unfold callSpecialUnlessNone?
  refine wpAny_bind (spec_at X J hf ?_)
  refine wpAny_holding (wpAny_bind (L3.at ?_))
  dsimp only
  rw [if_neg (by simp)]
  refine wpAny_bind (wpAny_mono hc (fun v s2 h => ?_) fun _ _ z => z)
  obtain ⟨b, rfl, q⟩ := h
  refine wpAny_pure ?_
  dsimp only
  have t : truthy (Value.bool b) = pure b := by unfold truthy; rfl
  rw [t]
  exact wpAny_pure (wpAny_pure q)
end
section
variable {X : Cx} {CX : CXT} {k : Nat} {C f : Addr} {fd : FuncData} {ps : List Str} {sp : Sp} {E : XK}
/-- x in o -/
def rInO (C : Addr) (sp : Sp) (E : XK) : R2 := fun x y H Q => ∃ (a dx : Addr) (fs : List (Str × V)), y = .ref a ∧ H a = some (.ins C dx fs) ∧ sp [.ref a, x] H (fun v H2 => ∃ b : Bool, v = .bl b ∧ Q (.bl b) H2) E
theorem op_inO (hf : PySem.W.findIn X.K (.ref C) "__contains__" = some (some (.ref f))) (tf : PySem.W.typeIn X.K (.ref f) = some (.type "function")) (F : FnOk X.prog X.w X.K X.mg X.base CX k f fd ps sp) (hb : Binds X.K fd ps []) (hr : Room k X.A) (hx : Passes CX X E) :
    OpR X (compareOp .In) (rInO C sp E) := by
  intro pins s σ H x y v u Q I rx ry h
  obtain ⟨a, dx, fs, rfl, ha, q⟩ := h
  cases ry
  obtain ⟨mA, J, _⟩ := ins_get I.hok ha
  obtain ⟨od, J, _⟩ := J.look
  refine in_own I.kIn J hf tf (wpAny_mono (run_fn (us := [.ref a, v]) (vs := [.ref a, x]) (dvs := []) (ds := []) F hr hb .nil hx I (.cons rfl (.cons rx .nil)) q) (fun w2 s2 hh => ?_) fun _ _ z => z)
  obtain ⟨z, H2, I2, rz, b, rfl, q2⟩ := hh
  obtain rfl : w2 = Value.bool b := rz
  exact ⟨b, rfl, .bl b, H2, I2, rfl, q2⟩
end
/-! ### repr(o), by o's own __repr__ -/
section
variable {prog : Program} {w : World} {A : Around} {E : Value → Shared → Prop} {s : Shared} {K : PySem.W.Frag} {a C f : Addr} {ox : Obj} {od : Option Obj} {n : Str}
theorem bound_own {args : List Value} {Q : Option Value → Shared → Prop} (X : K.In s.heap) (J : PySem.W.InstAt s.heap a ox C od) (hf : PySem.W.findIn K (.ref C) n = some (some (.ref f))) (tf : PySem.W.typeIn K (.ref f) = some (.type "function"))
    (hc : wpAny (model prog w) A (call (.ref f) (.ref a :: args)) (fun v s2 => Q (some v) s2) E s) : wpAny (model prog w) A (callSpecialIfBound? (.ref a) n args) Q E s := by
  have L3 := PySem.W.bind_fn (M := model prog w) X (.ref a) tf
  simp only [callSpecialIfBound?, bindSpecialIfBound?]
  refine wpAny_holding (wpAny_bind (wpAny_bind (spec_at X J hf ?_)))
  refine wpAny_bind (wpAny_askSetting (wpAny_ite ?_))
  have fin : wpAny (model prog w) A (call (.ref f) ([.ref a] ++ args) >>= fun v => pure (some v)) Q E s := wpAny_bind (wpAny_mono hc (fun v s' h' => wpAny_pure h') fun _ _ h' => h')
  split
  · exact wpAny_bind (L3.at (wpAny_pure (by exact fin)))
  · exact wpAny_tryCatch (wpAny_bind (L3.at (wpAny_pure (by exact fin))))
theorem repr_ownW {Q : Value → Shared → Prop} (X : K.In s.heap) (J : PySem.W.InstAt s.heap a ox C od) (hf : PySem.W.findIn K (.ref C) "__repr__" = some (some (.ref f))) (tf : PySem.W.typeIn K (.ref f) = some (.type "function")) (hu : A.in1.units < cLine)
    (hc : wpAny (model prog w) A.in1 (call (.ref f) [.ref a]) (fun r s' => ∃ m tk, r = .str m tk ∧ Q (.str m tk) s') E s) : wpAny (model prog w) A (call (.builtin "repr") [.ref a]) Q E s := by
  have some_ : ¬ (some (Value.ref f)).isNone = true := by simp
  refine Calls.call_function_entry F.kind_repr F.plain_repr F.entry_repr (F.args_repr1 _) ?_; unfold Builtin.«repr»; refine wpAny_bind (m := oneArg "repr" _) (wpAny_pure (wpAny_bind (wpAny_cRoomFor hu (wpAny_bind (spec_at X J hf ?_)))))
  dsimp only
  rw [if_neg some_]
  refine wpAny_bind (m := callSpecialIfBound? (.ref a) (Str.ofString "__repr__") _) (bound_own X J hf tf (wpAny_mono hc (fun r s' hr => ?_) fun _ _ y => y))
  obtain ⟨m, tk, rfl, told⟩ := hr
  refine wpAny_bind (wpAny_isInstance (typeIs_str _ _ _) isSubtype_str_str (by try rw [if_pos rfl]
                                                                               exact wpAny_pure ⟨_, rfl, told⟩))
end
section
variable {X : Cx} {CX : CXT} {k : Nat} {C f : Addr} {fd : FuncData} {ps : List Str} {sp : Sp} {E : XK}
def rReprO (C : Addr) (sp : Sp) (E : XK) : List V → Hp → VK → Prop := fun xs H Q => ∃ (a dx : Addr) (fs : List (Str × V)), xs = [.ref a] ∧ H a = some (.ins C dx fs) ∧ sp [.ref a] H (fun v H2 => ∃ m : Str, v = .str m ∧ Q (.str m) H2) E
theorem call_reprO (hf : PySem.W.findIn X.K (.ref C) "__repr__" = some (some (.ref f))) (tf : PySem.W.typeIn X.K (.ref f) = some (.type "function")) (F : FnOk X.prog X.w X.K X.mg X.base CX k f fd ps sp) (hb : Binds X.K fd ps []) (hr : Room k X.A.in1) (hx : Passes CX X E) : CallR X (.builtin "repr") (rReprO C sp E) := by
  intro pins s σ H xs us Q I r h
  obtain ⟨a, dx, fs, rfl, ha, q⟩ := h
  cases r with
  | cons r1 rr =>
    cases rr
    cases r1
    obtain ⟨mA, J, _⟩ := ins_get I.hok ha
    obtain ⟨od, J, _⟩ := J.look
    refine repr_ownW I.kIn J hf tf hr.units0 (wpAny_mono (run_in1 (us := [.ref a]) (vs := [.ref a]) F hb hr hx I (.cons rfl .nil) q) (fun v s2 hh => ?_) fun _ _ z => z)
    obtain ⟨x, H2, I2, rx, m, rfl, q2⟩ := hh
    obtain ⟨t, rfl⟩ := (show ∃ t, v = Value.str m t from rx)
    exact ⟨m, t, rfl, .str m, H2, I2, ⟨t, rfl⟩, q2⟩
end
/-! ### o == y, by o's own __eq__ -/
section
variable {X : Cx} {CX : CXT} {k : Nat} {C f : Addr} {fd : FuncData} {ps : List Str} {sp : Sp} {E : XK}
def rEqO (K : PySem.W.Frag) (C : Addr) (sp : Sp) (E : XK) : R2 := fun x y H Q => ∃ (a dx : Addr) (fs : List (Str × V)), x = .ref a ∧ H a = some (.ins C dx fs) ∧
  ((∃ t : String, TyX K H y (.type t) ∧ PySem.W.notFirst K C (.type t) = true) ∨ ∃ (b dy : Addr) (gs : List (Str × V)), y = .ref b ∧ H b = some (.ins C dy gs)) ∧ sp [.ref a, y] H (fun v H2 => ∃ b : Bool, v = .bl b ∧ Q (.bl b) H2) E
theorem op_eqO (hf : PySem.W.findIn X.K (.ref C) "__eq__" = some (some (.ref f))) (tf : PySem.W.isFn X.K (.ref f) = true) (F : FnOk X.prog X.w X.K X.mg X.base CX k f fd ps sp) (hb : Binds X.K fd ps []) (hr : Room k X.A) (hx : Passes CX X E) :
    OpR X (compareOp .Eq) (rEqO X.K C sp E) := by
  intro pins s σ H x y v u Q I rx ry h
  obtain ⟨a, dx, fs, rfl, ha, hy, q⟩ := h
  cases rx
  obtain ⟨mA, J, _⟩ := ins_get I.hok ha
  obtain ⟨od, J, _⟩ := J.look
  obtain ⟨m, fr⟩ := I.fr
  obtain ⟨tb, lk, nf⟩ : ∃ tb, PySem.W.Looks (model X.prog X.w) s.heap (typeOf u) tb ∧ PySem.W.notFirst X.K C tb = true := by
    rcases hy with ⟨t, ty, nf⟩ | ⟨b, dy, gs, rfl, hb2⟩
    · obtain ⟨P, kx, hp, _⟩ := kit_of I ry ty
      exact ⟨_, kx.ty _ _ I.kIn hp, nf⟩
    · cases ry
      obtain ⟨mB, J2, _⟩ := ins_get I.hok hb2
      obtain ⟨od2, J2, _⟩ := J2.look
      exact ⟨_, J2.type, by simp [PySem.W.notFirst]⟩
  refine PySem.W.cmp_K (op := .Eq) hr.units0 fr I.ok.mod.kin J lk nf hf tf (wpAny_mono (run_fn (us := [.ref a, u]) (vs := [.ref a, y]) (dvs := []) (ds := []) F hr hb .nil hx I (.cons rfl (.cons ry .nil)) q) (fun w2 s2 hh => ?_) fun _ _ z => z)
  obtain ⟨z, H2, I2, rz, b, rfl, q2⟩ := hh
  obtain rfl : w2 = Value.bool b := rz
  exact ⟨.bl b, H2, I2, rfl, q2⟩
end
end Lw
namespace Lw
open PySem PySem.Spec PyProof.Rows L2 Evl
/-! ### own classes: made, their methods called -/
/-- C(..): the class x of the top, at C; ps: the parameters behind the first -/
def MkO (P : Program) (w : World) (K : PySem.W.Frag) (mg : Str → Option Value) (base : Heap) (CX : CXT) (k : Nat) (x : Str) (C : Addr) (ps : List Str) (sp : Sp) : Prop :=
  ∃ f fd, mg x = some (.ref C) ∧ Mk K C f ∧ Binds K fd ("self" :: ps) [] ∧ (∀ (v : Value) (ws : List Value) (s : Shared), ws.length = ps.length → BindsTo s fd ⟨[v], ps.reverse.zip ws⟩ ((("self" : Str) :: ps).zip (v :: ws.reverse))) ∧ FnOk P w K mg base CX k f fd ("self" :: ps) sp
/-- o.m(..) -/
def MeO (P : Program) (w : World) (K : PySem.W.Frag) (mg : Str → Option Value) (base : Heap) (CX : CXT) (k : Nat) (C : Addr) (m : Str) (ps : List Str) (sp : Sp) : Prop :=
  ∃ f fd, Meth K C m f ∧ Binds K fd ("self" :: ps) [] ∧ (∀ (v : Value) (ws : List Value) (s : Shared), ws.length = ps.length → BindsTo s fd ⟨[v], ps.reverse.zip ws⟩ ((("self" : Str) :: ps).zip (v :: ws.reverse))) ∧ FnOk P w K mg base CX k f fd ("self" :: ps) sp
def tMethR (C : Addr) (m : Str) (sp : Sp) (E : XK) (ta : TE) (tk : TA) : TE := fun σ H Q => ta σ H fun x H1 => ∃ a dx fs, x = .ref a ∧ H1 a = some (.ins C dx fs) ∧ fs.lookup m = none ∧
  tk σ H1 fun vs H2 => sp (x :: vs.reverse) H2 Q E
section
variable {X : Cx} {CX : CXT} {k : Nat} {C : Addr} {x m : Str} {ps : List Str} {sp : Sp} {p pos apos : Pos} {o e : Expr} {es : List Expr} {kws : List Keyword} {ta : TE} {t tk : TA} {E : XK} {pl : Sem Bool}
theorem pe_mkO (M : MkO X.prog X.w X.K X.mg X.base CX k x C ps sp) {j : Nat} (hr : Room j X.A) (hx : Passes CX X E) (ha : PA X (e :: es) t) (hj : k + 1 ≤ j := by decide) (hg : Gl X x := by rfl) (hdb : (x == ("__debug__" : Str)) = false := by decide)
    (he : starEach (e :: es) X.env = (false, eval e X.env) :: starEach es X.env := by rfl) (hpl : (backTo pos (starEach es X.env)).any (·.1) = false := by rfl) : PE X (.Call (.Name x p) (e :: es) [] pos) (tMake C sp [] E t) := by
  obtain ⟨f, fd, hm, mk, hb, _, F⟩ := M
  exact pe_make mk F (hr.mono hj) hg hm hb .nil hx ha hdb he hpl
theorem pe_mkOR (M : MkO X.prog X.w X.K X.mg X.base CX k x C ps sp) {j : Nat} (hr : Room j X.A) (hx : Passes CX X E) (hkw : PK X kws tk) (hj : k + 1 ≤ j := by decide) (hg : Gl X x := by rfl) (hdb : (x == ("__debug__" : Str)) = false := by decide)
    (hall : (backToKw pos (keywordEach kws X.env)).all (·.1.isSome) = true := by rfl) (hks : (backToKw pos (keywordEach kws X.env)).filterMap (·.1) = ps.reverse := by rfl)
    (hpl : ((backTo pos (starEach [] X.env)).any (·.1) || (backToKw pos (keywordEach kws X.env)).any (·.1.isNone)) = false := by rfl) :
    PE X (.Call (.Name x p) [] kws pos) (tMakeK C 0 ps.reverse.length sp (fun vs zs => vs ++ zs.reverse) E tNil tk) := by
  obtain ⟨f, fd, hm, mk, _, hb, F⟩ := M
  exact pe_makeK0 (ks := ps.reverse) (g := fun us ws => us ++ ws.reverse) mk F (hr.mono hj) hg hm ⟨fun s us ws _ l1 l2 => by
    match us, l1 with
    | [v], _ => exact hb v ws s (by rw [l2, List.length_reverse]), fun r1 r2 => r1.append (Vals.reverse r2)⟩ hx hkw hall hks hdb hpl
theorem pe_meO (c : Cls X.K C) (M : MeO X.prog X.w X.K X.mg X.base CX k C m ps sp) {j : Nat} (ho : PE X o ta) (hr : Room j X.A) (hx : Passes CX X E) (ha : PA X (e :: es) t) (hj : k ≤ j := by decide)
    (hst : starEach (e :: es) X.env = (false, eval e X.env) :: starEach es X.env := by rfl) (hpl : (backTo pos (starEach es X.env)).any (·.1) = false := by rfl)
    (ht : eval (.Call (.Attribute o m apos) (e :: es) [] pos) X.env = (do
      let ov ← eval o X.env
      standAt apos.atName
      let (f, first) ← holding [ov] (getMethod ov m pl)
      callWith pos f first (backTo pos (starEach (e :: es) X.env)) (backToKw pos (keywordEach [] X.env))) := by rfl) :
    PE X (.Call (.Attribute o m apos) (e :: es) [] pos) (tMeth C m sp [] E ta t) := by
  obtain ⟨f, fd, hm, hb, _, F⟩ := M
  exact pe_meth ho c hm F (hr.mono hj) hb .nil hx ha hst hpl ht
theorem pe_meO0 (c : Cls X.K C) (M : MeO X.prog X.w X.K X.mg X.base CX k C m ps sp) {j : Nat} (ho : PE X o ta) (hr : Room j X.A) (hx : Passes CX X E) (hj : k ≤ j := by decide)
    (ht : eval (.Call (.Attribute o m apos) [] [] pos) X.env = (do
      let ov ← eval o X.env
      standAt apos.atName
      let (f, first) ← holding [ov] (getMethod ov m pl)
      callWith pos f first (backTo pos (starEach [] X.env)) (backToKw pos (keywordEach [] X.env))) := by rfl) :
    PE X (.Call (.Attribute o m apos) [] [] pos) (tMeth C m sp [] E ta tNil) := by
  obtain ⟨f, fd, hm, hb, _, F⟩ := M
  exact pe_meth0 ho c hm F (hr.mono hj) hb .nil hx ht
/-- o.m(k = v, ..): all by name, the last parameter first -/
theorem pe_meOR (c : Cls X.K C) (M : MeO X.prog X.w X.K X.mg X.base CX k C m ps sp) {j : Nat} (ho : PE X o ta) (hr : Room j X.A) (hx : Passes CX X E) (hkw : PK X kws tk) (hj : k ≤ j := by decide)
    (hall : (backToKw pos (keywordEach kws X.env)).all (·.1.isSome) = true := by rfl) (hks : (backToKw pos (keywordEach kws X.env)).filterMap (·.1) = ps.reverse := by rfl)
    (hpl : ((backTo pos (starEach [] X.env)).any (·.1) || (backToKw pos (keywordEach kws X.env)).any (·.1.isNone)) = false := by rfl)
    (ht : eval (.Call (.Attribute o m apos) [] kws pos) X.env = (do
      let ov ← eval o X.env
      standAt apos.atName
      let (f, first) ← holding [ov] (getMethod ov m pl)
      callWith pos f first (backTo pos (starEach [] X.env)) (backToKw pos (keywordEach kws X.env))) := by rfl) :
    PE X (.Call (.Attribute o m apos) [] kws pos) (tMethR C m sp E ta tk) := by
  obtain ⟨f, fd, hm, _, hb, F⟩ := M
  constructor
  intro pins s σ H Q I h
  refine PySem.W.methodCall_KW (pl := pl) (thn (ho.run pins s σ H _ I h) fun u s1 hh => ?_) ht
  obtain ⟨y, H1, I1, rx, a, dx, fs, rfl, ea, l, q⟩ := hh
  obtain rfl : u = Value.ref a := rx
  refine getmeth_ok I1 ea c hm l ?_
  refine PySem.W.callWith_KW0 (h₀ := X.base) (first := [.ref a]) I.ok.mod.kin hm.kp hall ?_ hpl
  refine thn (hkw.run pos pins s1 σ H1 _ I1 q) fun ws s2 hh => ?_
  obtain ⟨zs, H2, I2, rz, q2⟩ := hh
  refine ⟨I2.kIn, ?_⟩
  rw [hks]
  have hl : zs.length = ps.length := by
    have z := F.len _ _ _ _ q2
    rw [List.length_cons, List.length_cons, List.length_reverse] at z
    omega
  refine wpAny_call (codeAny_mono (F.run _ _ _ _ _ (Value.ref a :: ws.reverse) (V.ref a :: zs.reverse) _ _ (hr.mono hj) I2.env0 (hb (.ref a) ws s2 (rz.length.symm.trans hl)) (.cons rfl (Vals.reverse rz)) q2) fun r s3 hq => ?_)
  cases r with
  | error er => exact hx pins σ _ s2 er s3 I2 hq
  | ok fl =>
    cases fl with
    | ret u => exact I2.after hq
    | next => exact hq.elim
    | brk => exact hq.elim
    | cont => exact hq.elim
end
/-! ### what the top tells of an own class -/
/-- a class of the top whose instances have a dict: attributes are read and stored plainly, isinstance tells it -/
structure OwnC (K : PySem.W.Frag) (mg : Str → Option Value) (x : Str) (C : Addr) : Prop where
  g : mg x = some (.ref C)
  cl : Cls K C
  ha : PySem.W.findIn K (.ref C) "__class__" = some (some (.builtin "object.__class__"))
  hn : PySem.W.specialIn K (.builtin "object.__class__") "__get__" = some (some (.builtin "getset_descriptor.__get__"))
  htk : PySem.W.takesIn K (.builtin "object.__class__") = some true
  hm : PySem.W.mroIn K C (.type "object") = some true
  self_ : PySem.W.kitOne K (.ref C) (.ref C) = some true
  isc : PySem.W.isClsIn K C = true
theorem OwnC.ty {K : PySem.W.Frag} {mg : Str → Option Value} {x : Str} {C a dx : Addr} {H : Hp} {fs : List (Str × V)} (c : OwnC K mg x C) (e : H a = some (.ins C dx fs)) : TyX K H (.ref a) (.ref C) := .base (.ins e c.cl c.ha c.hn c.htk c.hm)
def ownB (K : PySem.W.Frag) (x : Str) : Bool := (He.Fa.glo x).ok K && ((He.Fa.cls x).ok K && (He.eqO (PySem.W.findIn K (.ref (He.ga K x)) "__class__") (some (some (.builtin "object.__class__"))) &&
  (He.eqO (PySem.W.specialIn K (.builtin "object.__class__") "__get__") (some (some (.builtin "getset_descriptor.__get__"))) && (decide (PySem.W.takesIn K (.builtin "object.__class__") = some true) &&
  (decide (PySem.W.mroIn K (He.ga K x) (.type "object") = some true) && (decide (PySem.W.kitOne K (.ref (He.ga K x)) (.ref (He.ga K x)) = some true) && PySem.W.isClsIn K (He.ga K x)))))))
theorem own_ok {K : PySem.W.Frag} {mg : Str → Option Value} {h : Heap} {x : Str} (X : K.In h) (G : h.Ns mainGlobals mg) (e : ownB K x = true) : OwnC K mg x (He.ga K x) := by
  obtain ⟨e1, e⟩ := He.ba e
  obtain ⟨e2, e⟩ := He.ba e
  obtain ⟨e3, e⟩ := He.ba e
  obtain ⟨e4, e⟩ := He.ba e
  obtain ⟨e5, e⟩ := He.ba e
  obtain ⟨e6, e⟩ := He.ba e
  obtain ⟨e7, e8⟩ := He.ba e
  exact ⟨He.glo_ok X G e1, He.cls_ok e2, He.eqO_ok e3, He.eqO_ok e4, of_decide_eq_true e5, of_decide_eq_true e6, of_decide_eq_true e7, e8⟩
/-- a constant of a class, an int, read off the class -/
structure CInt (K : PySem.W.Frag) (C : Addr) (f : Str) (i : Int) : Prop where
  rd : ClX.CRead K C (.type "type")
  cv : ∃ u, ClX.CVal K C (.type "type") f (.int i) u
def cintB (K : PySem.W.Frag) (x f : Str) (i : Int) : Bool := PySem.W.readsIn K (He.ga K x) (.type "type") && (He.eqO (PySem.W.specialIn K (.ref (He.ga K x)) "__getattribute__") (some (some (.builtin "type.__getattribute__"))) &&
  (match PySem.W.findCls K (.ref (He.ga K x)) (.type "type") f with
    | some (.val (.int j _)) => decide (j = i)
    | _ => false))
theorem cint_ok {K : PySem.W.Frag} {x f : Str} {i : Int} (e : cintB K x f i = true) : CInt K (He.ga K x) f i := by
  obtain ⟨e1, e⟩ := He.ba e
  obtain ⟨e2, e3⟩ := He.ba e
  refine ⟨⟨e1, He.eqO_ok e2⟩, ?_⟩
  split at e3
  · rename_i j t h
    have z := of_decide_eq_true e3
    subst z
    exact ⟨_, h, ⟨t, rfl⟩⟩
  · exact absurd e3 (by decide)
/-! ### readings -/
section
variable {K : PySem.W.Frag} {σ : L2.St} {H : Hp} {te : TE} {v : V} {C : Addr} {f : Str} {i : Int} {mg : Str → Option Value} {x : Str}
theorem ev_cint (c : CInt K C f i) (h : Ev te σ H (.ref C)) : Ev (ClX.tCVal K te f) σ H (.int i) := fun H1 e Q q => h H1 e _ fun H2 e2 => by
  obtain ⟨u, cv⟩ := c.cv
  exact ⟨C, _, _, u, rfl, c.rd, cv, q H2 e2⟩
theorem ev_fld {a dx : Addr} {fs : List (Str × V)} (c : OwnC K mg x C) (n : NoAttr K C f) (h : Ev te σ H (.ref a)) (e : H a = some (.ins C dx fs)) (l : fs.lookup f = some v) : Ev (tFld K te f) σ H v := fun H1 e1 Q q => h H1 e1 _ fun H2 e2 =>
  ⟨a, C, dx, fs, v, rfl, (e1.trans e2) _ _ e, c.cl, n, l, q H2 e2⟩
theorem pe_fldK {X : Cx} {K : PySem.W.Frag} {e : Expr} {te : TE} {f : Str} {pos : Pos} (he : PE X e te) (h : X.K = K := by rfl) (hb : attributeBase e f X.env (eval e X.env) = eval e X.env := by rfl) : PE X (.Attribute e f pos) (tFld K te f) := h ▸ pe_fld he hb
theorem pe_cvalK {X : Cx} {K : PySem.W.Frag} {e : Expr} {te : TE} {f : Str} {pos : Pos} (he : PE X e te) (h : X.K = K := by rfl) (hb : attributeBase e f X.env (eval e X.env) = eval e X.env := by rfl) : PE X (.Attribute e f pos) (ClX.tCVal K te f) := h ▸ ClX.pe_cval he hb
theorem ps_fldK {X : Cx} {K : PySem.W.Frag} {o value : Expr} {f : Str} {pos pos' : Pos} {ta tv : TE} (ha : PE X o ta) (hv : PE X value tv) (h : X.K = K := by rfl) (hs : swapsWith value (some (.Attribute o f pos')) pos.line X.env = pure false := by rfl) : PS X (.Assign [.Attribute o f pos'] value pos) (sFld K ta tv f) := h ▸ ps_fld ha hv hs
end
theorem call_v {sp : Sp} {E : XK} {k : Nat} {σ : L2.St} {H : Hp} {Q : VK} {v : V} (hk : σ[k]? = some (some v)) (h : sp [v] H Q E) : tCall sp [] E (tCons (tVar k) tNil) σ H Q := ⟨v, hk, h⟩
theorem call_vv {sp : Sp} {E : XK} {j k : Nat} {σ : L2.St} {H : Hp} {Q : VK} {u v : V} (hj : σ[j]? = some (some u)) (hk : σ[k]? = some (some v)) (h : sp [u, v] H Q E) : tCall sp [] E (tCons (tVar j) (tCons (tVar k) tNil)) σ H Q := ⟨u, hj, v, hk, h⟩
theorem s_fld {K : PySem.W.Frag} {tv ta : TE} {f : Str} {D : Ends} {σ : L2.St} {H : Hp} (h : tv σ H fun y H1 => ta σ H1 fun x H2 => ∃ a C dx fs, x = .ref a ∧ H2 a = some (.ins C dx fs) ∧ Cls K C ∧ NoAttr K C f ∧ fs.length < 1000 ∧ D.nx σ (upd H2 a (.ins C dx (putF f y fs)))) : sFld K ta tv f D σ H := h
end Lw
namespace Tk
open PySem PySem.Spec PyProof.Rows L2 Lw Evl LamX TL
open Rm (R Ok Z0 Zp Fr fr_none fr_ne nt_lst nt_tup nt_dK NT Zn)
open LwX (XC XF)
theorem keysW {K : PySem.W.Frag} {H : Hp} : ∀ {ds : List (List Str)} {bs : List Addr}, IsKeys H (dk ds) bs → Paired (Wd K H) (bs.map V.ref) ds
  | [], _, .nil => .nil
  | d :: ds, _, .cons r t => .cons ⟨_, rfl, by rw [← kw_val]; exact r⟩ (keysW t)
theorem esw_either {K : PySem.W.Frag} {te : TE} {σ : L2.St} {H : Hp} {l : Addr} {ws : List (List Str)} (h : Ev te σ H (.ref l)) (hl : LW K H l ws ∨ TW K H l ws) : EvSW K te σ H ws := fun H1 e Q q => h H1 e _ fun H2 e2 => q l H2 e2 (hl.imp (lw_mono (e.trans e2)) fun ⟨us, h1, h2⟩ => ⟨us, (e.trans e2) _ _ h1, paired_mono (fun _ _ r => wd_mono (e.trans e2) r) h2⟩)
theorem rz_ex {C : Addr} {f : Str} {v : V} {H H1 : Hp} {E : XK} (e : Ex H H1) (h : Rz C f v H E) : Rz C f v H1 E := fun d H' e' hd => h d H' (e.trans e') hd
theorem call_isiTK {X : Cx} {K : PySem.W.Frag} (h : X.K = K := by rfl) : CallR X (.builtin "isinstance") (rIsiT K) := h ▸ call_isiT
section
variable {P : Program} {w : World} {K : PySem.W.Frag}
theorem wbv_mono {H H1 : Hp} {v : V} {b : Bool} (e : Ex H H1) (h : WB K H v b) : WB K H1 v b := by
  cases h with
  | tup h ht hl hb => exact .tup (ex_t e h) (tyx_mono e ht) hl (paired_mono (fun _ _ r => lb_mono e r) hb)
  | oth ht hn => exact .oth (tyx_mono e ht) hn
theorem wb_any {H : Hp} {v : V} {ys : List Str} (h : Wd K H v ys) (hn : ys.length ≤ 1000) (hl : ∀ y ∈ ys, y.length ≤ 1000) : WB K H v (isW ys) := by
  obtain ⟨a, rfl, e⟩ := h
  have z : WB K H (.ref a) (decide ((ys.map V.str).length ≤ 3) && (ys.map isL).all id) := .tup (SqT.of e) (tyx_tup (SqT.of e)) (by rw [List.length_map]; omega) (by
    clear e hn
    induction ys with
    | nil => exact .nil
    | cons y ys ih => exact .cons (.str y (by have := hl y (List.mem_cons_self ..); omega)) (ih fun x hx => hl x (List.mem_cons_of_mem _ hx)))
  have e2 : (decide ((ys.map V.str).length ≤ 3) && (ys.map isL).all id) = isW ys := by
    unfold isW
    rw [List.length_map, List.all_map]
    rfl
  rw [e2] at z
  exact z
end
/-! ### values that are no words, no texts: what they show, whatever is made later -/
def Sok (d : PyData) : Prop := d.shown.length ≤ 2500 ∧ d.depth ≤ 10
/-- what holds wherever some new objects stand -/
def Ft (H0 H : Hp) (G : Hp → Prop) : Prop := ∃ S : List (Addr × HO), (∀ q ∈ S, H0 q.1 = none ∧ NT q.2 ∧ H q.1 = some q.2) ∧ ∀ H2 : Hp, (∀ q ∈ S, H2 q.1 = some q.2) → G H2
section
variable {P : Program} {w : World} {K : PySem.W.Frag} {σ : L2.St} {H H0 H1 H2 : Hp} {te ta tb tr : TE} {tA tR : TA} {v : V} {G G2 : Hp → Prop} {d : PyData} {n m i : Nat}
theorem ft_now (h : Ft H0 H G) : G H := by
  obtain ⟨S, h1, h2⟩ := h
  exact h2 H fun q hq => (h1 q hq).2.2
theorem ft_pure (h : ∀ H2, G H2) : Ft H0 H G := ⟨[], fun _ z => absurd z List.not_mem_nil, fun H2 _ => h H2⟩
theorem ft_up (e : Ex H H1) (h : Ft H0 H G) : Ft H0 H1 G := by
  obtain ⟨S, h1, h2⟩ := h
  exact ⟨S, fun q hq => ⟨(h1 q hq).1, (h1 q hq).2.1, e _ _ (h1 q hq).2.2⟩, h2⟩
theorem ft_dn (e : Ex H0 H1) (h : Ft H1 H G) : Ft H0 H G := by
  obtain ⟨S, h1, h2⟩ := h
  exact ⟨S, fun q hq => ⟨fresh_back e (h1 q hq).1, (h1 q hq).2⟩, h2⟩
theorem ft_and (h : Ft H0 H G) (k : Ft H0 H G2) : Ft H0 H fun H2 => G H2 ∧ G2 H2 := by
  obtain ⟨S, h1, h2⟩ := h
  obtain ⟨U, k1, k2⟩ := k
  exact ⟨S ++ U, fun q hq => (List.mem_append.mp hq).elim (h1 q) (k1 q), fun H2 z => ⟨h2 H2 fun q hq => z q (List.mem_append_left _ hq), k2 H2 fun q hq => z q (List.mem_append_right _ hq)⟩⟩
theorem ft_imp (h : Ft H0 H G) (k : ∀ H2, G H2 → G2 H2) : Ft H0 H G2 := by
  obtain ⟨S, h1, h2⟩ := h
  exact ⟨S, h1, fun H2 z => k H2 (h2 H2 z)⟩
/-- one object more -/
theorem ft_new {a : Addr} {o : HO} (h : Ft H0 H G) (e : Ex H0 H) (na : H a = none) (nt : NT o) : Ft H0 (upd H a o) fun H2 => H2 a = some o ∧ G H2 := by
  obtain ⟨S, h1, h2⟩ := h
  refine ⟨(a, o) :: S, fun q hq => ?_, fun H2 z => ⟨z _ (List.mem_cons_self ..), h2 H2 fun q hq => z q (List.mem_cons_of_mem _ hq)⟩⟩
  rcases List.mem_cons.mp hq with y | y
  · rw [y]
    exact ⟨fresh_back e na, nt, upd_same⟩
  · obtain ⟨z1, z2, z3⟩ := h1 q y
    refine ⟨z1, z2, ?_⟩
    rw [upd_ne (ne_of_none z3 na)]
    exact z3
/-- a part of a tuple; a value in the place of a word -/
def GB (P : Program) (w : World) (K : PySem.W.Frag) (d : PyData) (b : Bool) (v : V) (H : Hp) : Prop := Sw P w H v d ∧ LB K H v b
def GA (P : Program) (w : World) (K : PySem.W.Frag) (d : PyData) (v : V) (H : Hp) : Prop := Sw P w H v d ∧ WB K H v false
def EO (te : TE) (σ : L2.St) (H0 : Hp) (G : V → Hp → Prop) : Prop := ∀ H1, Ex H0 H1 → ∀ Q : VK, (∀ v H2, Ex H1 H2 → Ft H1 H2 (G v) → Q v H2) → te σ H1 Q
abbrev PG (P : Program) (w : World) (K : PySem.W.Frag) (dbs : List (PyData × Bool)) (vs : List V) (H : Hp) : Prop := Paired (fun v (p : PyData × Bool) => GB P w K p.1 p.2 v H) vs dbs
def EB (P : Program) (w : World) (K : PySem.W.Frag) (ta : TA) (σ : L2.St) (H0 : Hp) (dbs : List (PyData × Bool)) : Prop := ∀ H1, Ex H0 H1 → ∀ Q : List V → Hp → Prop, (∀ vs H2, Ex H1 H2 → Ft H1 H2 (PG P w K dbs vs) → Q vs H2) → ta σ H1 Q
theorem eb_nil' : EB P w K tNil σ H [] := fun H1 e Q q => q [] H1 (Ex.refl H1) (ft_pure fun _ => .nil)
theorem eb_cons' {b : Bool} {dbs : List (PyData × Bool)} (h : EO te σ H (GB P w K d b)) (hr : EB P w K tR σ H dbs) : EB P w K (tCons te tR) σ H ((d, b) :: dbs) := fun H1 e Q q =>
  h H1 e _ fun v H2 e2 f2 => hr H2 (e.trans e2) _ fun vs H3 e3 f3 => q (v :: vs) H3 (e2.trans e3) (ft_imp (ft_and (ft_up e3 f2) (ft_dn e2 f3)) fun _ z => .cons z.1 z.2)
theorem sw_tup {a : Addr} {vs : List V} {ds : List PyData} (e : H a = some (.tup vs)) (hp : Paired (Sw P w H) vs ds) : Sw P w H (.ref a) (.tuple ds) := fun h hok u q => by
  cases (show u = Value.ref a from q)
  obtain ⟨_, its, rv, o, ho, hc, n, hd⟩ : vs.length ≤ sizeLine ∧ ∃ its : List Value, Vals vs its ∧ IsTup h a its.toArray := hok a _ e
  obtain ⟨⟨as, ra⟩, bs, hb, hk⟩ := sw_all hok hp rv
  have rd : Reads h (.ref a) (.tuple ds) _ := .tuple ho hc hd (by simpa using ra)
  refine ⟨⟨_, rd⟩, a :: bs, ?_, ?_⟩
  · exact ReadAtMost.cons rd (by simp only [PyData.depth]; omega) hb
  · have na : a ∉ bs := not_mem_of_deeper rd (by simp only [PyData.depth]; omega) hb
    simp only [PyData.depth, PyData.shown]
    exact ReprK.tuple ho hc hd na (by simpa using hk)
theorem pg_sw {dbs : List (PyData × Bool)} : ∀ {vs : List V}, PG P w K dbs vs H → Paired (Sw P w H) vs (dbs.map (·.1)) := fun {vs} h => by
  induction h with
  | nil => exact .nil
  | cons r t ih => exact .cons r.1 ih
theorem pg_lb {dbs : List (PyData × Bool)} : ∀ {vs : List V}, PG P w K dbs vs H → Paired (LB K H) vs (dbs.map (·.2)) := fun {vs} h => by
  induction h with
  | nil => exact .nil
  | cons r t ih => exact .cons r.2 ih
variable {dbs : List (PyData × Bool)}
theorem ga_tup {a : Addr} {vs : List V} (e : H a = some (.tup vs)) (h : PG P w K dbs vs H) (hn : dbs.length ≤ 40000) (hb : (decide (dbs.length ≤ 3) && dbs.all (·.2)) = false) : GA P w K (.tuple (dbs.map (·.1))) (.ref a) H := by
  refine ⟨sw_tup e (pg_sw h), ?_⟩
  have l := Paired.length h
  have z : WB K H (.ref a) (decide (vs.length ≤ 3) && (dbs.map (·.2)).all id) := .tup (SqT.of e) (tyx_tup (SqT.of e)) (by omega) (pg_lb h)
  rw [l, List.all_map, show (dbs.all ((id : Bool → Bool) ∘ fun x => x.2)) = dbs.all (·.2) from rfl, hb] at z
  exact z
theorem eo_tup (h : EB P w K tA σ H dbs) (hn : dbs.length ≤ 40000) (hb : (decide (dbs.length ≤ 3) && dbs.all (·.2)) = false) : EO (tTup tA) σ H (GA P w K (.tuple (dbs.map (·.1)))) := fun H1 e Q q =>
  h H1 e _ fun vs H2 e2 f2 => ⟨sz_of (by rw [Paired.length (ft_now f2)]; omega), fun a na => q _ _ (e2.trans (Ex.new na)) (ft_imp (ft_new f2 e2 na nt_tup) fun H3 z => ga_tup z.1 z.2 hn hb)⟩
theorem eo_lst (h : EB P w K tA σ H dbs) (hn : dbs.length ≤ 40000) : EO (tLst tA) σ H (GA P w K (.list (dbs.map (·.1)))) := fun H1 e Q q =>
  h H1 e _ fun vs H2 e2 f2 => ⟨sz_of (by rw [Paired.length (ft_now f2)]; omega), fun a na => q _ _ (e2.trans (Ex.new na)) (ft_imp (ft_new f2 e2 na nt_lst) fun H3 z => ⟨sw_lst z.1 (pg_sw z.2), .oth (t := "list") (.base (.lst z.1)) rfl⟩)⟩
theorem ei_tup (h : EB P w K tA σ H dbs) (hn : dbs.length ≤ 40000) : EO (tTup tA) σ H (GB P w K (.tuple (dbs.map (·.1))) false) := fun H1 e Q q =>
  h H1 e _ fun vs H2 e2 f2 => ⟨sz_of (by rw [Paired.length (ft_now f2)]; omega), fun a na => q _ _ (e2.trans (Ex.new na)) (ft_imp (ft_new f2 e2 na nt_tup) fun H3 z => ⟨sw_tup z.1 (pg_sw z.2), .oth (t := "tuple") (.base (.tup z.1)) rfl⟩)⟩
theorem ei_lst (h : EB P w K tA σ H dbs) (hn : dbs.length ≤ 40000) : EO (tLst tA) σ H (GB P w K (.list (dbs.map (·.1))) false) := fun H1 e Q q =>
  h H1 e _ fun vs H2 e2 f2 => ⟨sz_of (by rw [Paired.length (ft_now f2)]; omega), fun a na => q _ _ (e2.trans (Ex.new na)) (ft_imp (ft_new f2 e2 na nt_lst) fun H3 z => ⟨sw_lst z.1 (pg_sw z.2), .oth (t := "list") (.base (.lst z.1)) rfl⟩)⟩
theorem eo_dnew : EO tDNewK σ H (GA P w K (.dict [])) := fun H1 e Q q => fun p hp => q _ _ (Ex.new hp) (ft_imp (ft_new (G := fun _ => True) (ft_pure fun _ => trivial) (Ex.refl H1) hp nt_dK) fun H3 z => ⟨sw_of (rw_dk (ds := []) z.1 rfl) rfl (by show (2 : Nat) ≤ sizeLine; decide), .oth (t := "dict") (.base (.dK z.1)) rfl⟩)
theorem eo_ev {G : V → Hp → Prop} (h : Ev te σ H v) (hg : ∀ H2, G v H2) : EO te σ H G := fun H1 e Q q => h H1 e _ fun H2 e2 => q v H2 e2 (ft_pure hg)
/-! scalars -/
theorem ga_non (H : Hp) : GA P w K .none .non H := ⟨sw_of rw_non rfl (by show (4 : Nat) ≤ sizeLine; decide), .oth (t := "NoneType") (.base .non) rfl⟩
theorem ga_bl (b : Bool) (H : Hp) : GA P w K (.bool b) (.bl b) H := ⟨sw_of (rw_bl b) rfl (by cases b <;> decide +kernel), .oth (t := "bool") (.base (.bl b)) rfl⟩
theorem ga_int (i : Int) (H : Hp) (h : 0 ≤ i ∧ i ≤ 9) : GA P w K (.int i) (.int i) H := ⟨sw_of (rw_int i) (by
    obtain ⟨m, rfl⟩ := Int.eq_ofNat_of_zero_le h.1
    have : m ≤ 9 := by omega
    simp only [PyData.showable, decide_eq_true_eq]
    exact Nat.lt_of_le_of_lt (Nat.log2_le_self _) (by simp; omega)) (by
    obtain ⟨m, rfl⟩ := Int.eq_ofNat_of_zero_le h.1
    have : m ≤ 9 := by omega
    rcases (by omega : m = 0 ∨ m = 1 ∨ m = 2 ∨ m = 3 ∨ m = 4 ∨ m = 5 ∨ m = 6 ∨ m = 7 ∨ m = 8 ∨ m = 9) with rfl | rfl | rfl | rfl | rfl | rfl | rfl | rfl | rfl | rfl <;> decide +kernel), .oth (t := "int") (.base (.int i)) rfl⟩
/-- a text whose signs are all of the first plane -/
structure Tok' (s : Str) (n : Nat) : Prop where
  len : s.length ≤ n
  cps : ∀ c ∈ s.cps.toList, c < 65536
theorem tok_shown {s : Str} (h : Tok' s n) : (PyData.str s).shown.length ≤ 10 * n + 2 := by
  have z := PySem.StrLaws.reprText_len s fun c hc => Nat.lt_trans (h.cps c hc) (by decide)
  have := h.len
  simp only [PyData.shown]
  omega
theorem sw_str {s : Str} (h : Tok' s 100) (H : Hp) : Sw P w H (.str s) (.str s) := sw_of (rw_str s) rfl (Nat.le_trans (tok_shown h) (by decide))
theorem ga_str {s : Str} (h : Tok' s 100) (H : Hp) : GA P w K (.str s) (.str s) H := ⟨sw_str h H, .oth (t := "str") (.base (.str s)) rfl⟩
theorem gb_str {s : Str} {b : Bool} (h : Tok' s 100) (hb : isL s = b) (H : Hp) : GB P w K (.str s) b (.str s) H := by
  subst hb
  exact ⟨sw_str h H, .str s (by have := h.len; omega)⟩
theorem gb_of {v : V} (h : ∀ H, GA P w K d v H) (t : String) (ht : ∀ H, TyX K H v (.type t)) (hk : kitB t "str" = some false) (H : Hp) : GB P w K d false v H := ⟨(h H).1, .oth (ht H) hk⟩
end
/-! ### texts made of a letter -/
def rMulX : R2 := fun x y H Q => ∃ (z : Str) (k : Int), x = .str z ∧ y = .int k ∧ 1 ≤ k ∧ k ≤ 9 ∧ z.length ≤ 8 ∧ Q (.str (Txt.mul z k)) H
theorem op_mulX {X : Cx} : OpR X (binaryOp .Mult) rMulX := by
  intro pins s σ H x y v u Q I rx ry h
  obtain ⟨z, k, rfl, rfl, k1, k9, hz, q⟩ := h
  obtain ⟨t, rfl⟩ := rx
  obtain ⟨t', rfl⟩ := ry
  refine SB.mul ⟨?_, fun _ _ => ?_, fun _ _ => ?_⟩ fun t' tk => ⟨.str (Txt.mul z k), H, I.tok _, ⟨_, rfl⟩, q⟩
  · rw [decide_eq_false (by omega), decide_eq_false (by omega)]
    rfl
  · have h8 : (8 : Int) ≤ (2 ^ 63 - 1) / k := Int.le_ediv_of_mul_le (by omega) (by omega)
    omega
  · refine short24 ?_
    have h2 : k.toNat ≤ 9 := by omega
    have h3 := Nat.mul_le_mul hz h2
    omega
/-- the first sign, nine times -/
def nine (c : Nat) : Str := ⟨#[c, c, c, c, c, c, c, c, c]⟩
theorem mul_nine (c : Nat) : Txt.mul ⟨#[c]⟩ 9 = nine c := rfl
theorem cut_one {s : Str} {c : Nat} {r : List Nat} (h : s.cps.toList = c :: r) : cutS s none (some 1) = ⟨#[c]⟩ := by
  have l : s.length = r.length + 1 := by
    show s.cps.size = _
    rw [← Array.length_toList, h]
    rfl
  unfold cutS
  have e1 : HT.sIx s.length 0 none = 0 := rfl
  have e2 : HT.sIx s.length s.length (some 1) = 1 := by
    unfold HT.sIx
    rw [l]
    simp
    try omega
  rw [e1, e2, h]
  rfl
/-- what is known of a letter -/
structure Let (s : Str) (c : Nat) (r : List Nat) : Prop where
  cps : s.cps.toList = c :: r
  len : r.length ≤ 7
  az : ∀ x ∈ c :: r, 97 ≤ x ∧ x ≤ 122
theorem let_of {s : Str} (h : isL s = true) : ∃ c r, Let s c r := by
  obtain ⟨⟨h1, h2⟩, h3⟩ := isL_iff.mp h
  cases e : s.cps.toList with
  | nil =>
    rw [e] at h1
    exact absurd h1 (by decide)
  | cons c r =>
    rw [e] at h2 h3
    exact ⟨c, r, e, by rw [List.length_cons] at h2; omega, h3⟩
theorem cps_app (a b : Str) : (a ++ b).cps.toList = a.cps.toList ++ b.cps.toList := by
  show (a.cps ++ b.cps).toList = _
  simp
section
variable {s : Str} {c : Nat} {r : List Nat}
theorem Let.lenS (h : Let s c r) : s.length ≤ 8 := by
  show s.cps.size ≤ 8
  rw [← Array.length_toList, h.cps, List.length_cons]
  have := h.len
  omega
theorem Let.tok (h : Let s c r) : Tok' s 8 := ⟨h.lenS, fun x hx => by
  rw [h.cps] at hx
  have := h.az x hx
  omega⟩
theorem tok_mono {n m : Nat} (h : Tok' s n) (hm : n ≤ m) : Tok' s m := ⟨Nat.le_trans h.len hm, h.cps⟩
theorem tok_app {a b : Str} {n m : Nat} (h : Tok' a n) (k : Tok' b m) : Tok' (a ++ b) (n + m) := ⟨by
  have := h.len
  have := k.len
  rw [len_app]
  omega, fun x hx => by
  rw [cps_app] at hx
  exact (List.mem_append.mp hx).elim (h.cps x) (k.cps x)⟩
theorem tok_c {s : Str} {n : Nat} (h : (decide (s.length ≤ n) && s.cps.toList.all fun c => decide (c < 65536)) = true) : Tok' s n := by
  obtain ⟨h1, h2⟩ := Bool.and_eq_true_iff.mp h
  exact ⟨of_decide_eq_true h1, fun c hc => of_decide_eq_true (List.all_eq_true.mp h2 c hc)⟩
theorem Let.nine (h : Let s c r) : Tok' (nine c) 9 := ⟨by show (9 : Nat) ≤ 9; decide, fun x hx => by
  have := h.az c (List.mem_cons_self ..)
  have e : x = c := by simpa [Tk.nine] using hx
  omega⟩
theorem nine_not (c : Nat) : isL (nine c) = false := by
  unfold isL
  rfl
theorem up_toList (h : Let s c r) : (Txt.upper s).cps.toList = (c - 32) :: r.map up1 := by
  rw [upper_ascii fun x hx => by
    rw [h.cps] at hx
    have := h.az x hx
    omega]
  show (s.cps.map up1).toList = _
  rw [Array.toList_map, h.cps, List.map_cons]
  have := h.az c (List.mem_cons_self ..)
  rw [show up1 c = c - 32 from if_pos this]
theorem Let.upTok (h : Let s c r) : Tok' (Txt.upper s) 24 := ⟨Nat.le_trans (len_upper s) (by have := h.lenS; omega), fun x hx => by
  rw [up_toList h] at hx
  have a := h.az c (List.mem_cons_self ..)
  rcases List.mem_cons.mp hx with rfl | hx
  · omega
  · obtain ⟨y, hy, rfl⟩ := List.mem_map.mp hx
    have b := h.az y (List.mem_cons_of_mem _ hy)
    unfold up1
    split <;> omega⟩
theorem not_letter {s : Str} {x : Nat} (hx : x ∈ s.cps.toList) (h : ¬ (97 ≤ x ∧ x ≤ 122)) : isL s = false := by
  cases e : isL s with
  | false => rfl
  | true => exact absurd ((isL_iff.mp e).2 x hx) h
theorem Let.upNot (h : Let s c r) : isL (Txt.upper s) = false := not_letter (x := c - 32) (by rw [up_toList h]; exact List.mem_cons_self ..) (by
  have a := h.az c (List.mem_cons_self ..)
  omega)
theorem app_not {a b : Str} {x : Nat} (hx : x ∈ b.cps.toList) (h : ¬ (97 ≤ x ∧ x ≤ 122)) : isL (a ++ b) = false := not_letter (x := x) (by rw [cps_app]; exact List.mem_append_right _ hx) h
theorem app_not' {a b : Str} {x : Nat} (hx : x ∈ a.cps.toList) (h : ¬ (97 ≤ x ∧ x ≤ 122)) : isL (a ++ b) = false := not_letter (x := x) (by rw [cps_app]; exact List.mem_append_left _ hx) h
end
section
variable {Z : Zn} {σ : L2.St} {H H0 : Hp} {te ta tb : TE} {vs us : List V} {v : V} {K : PySem.W.Frag}
def El (Z : Zn) (te : TE) (σ : L2.St) (H : Hp) (vs : List V) : Prop := ∀ H1, R Z H H1 → ∀ Q : VK, (∀ l H2, Fr H1 l → R Z H1 H2 → H2 l = some (.lst vs) → Q (.ref l) H2) → te σ H1 Q
theorem el_of (h : ∀ H1, R Z H H1 → EvL te σ H1 vs) : El Z te σ H vs := fun H1 r Q q => h H1 r H1 (Ex.refl H1) Q fun l H2 n e hl => q l H2 (fr_none n) (.of r.b e) hl
theorem El.mono {H1 : Hp} (h : El Z te σ H vs) (r : R Z H H1) : El Z te σ H1 vs := fun H2 r2 => h H2 (r.trans r2)
/-- [..] -/
theorem one_lst (h : El Z te σ H vs) (o : Ok Z H) {Q : VK} (k : ∀ r l H1, Fr H r → Fr H l → r ≠ l → R Z H H1 → H1 r = some (.lst vs) → H1 l = some (.lst [.ref r]) → Q (.ref l) H1) : tLst (tCons te tNil) σ H Q :=
  h H (.refl o) _ fun r H1 fr r1 hr => ⟨(by show 1 ≤ sizeLine; decide), fun l hl => by
    have n : r ≠ l := ne_of_none hr hl
    exact k r l _ fr (r1.fr (fr_none hl)) n (r1.new hl) (by rw [upd_ne n]; exact hr) upd_same⟩
/-- l.append(..) -/
theorem q_appR {tj : TE} {D : Ends} {tz : TS} {l : Addr} (hj : ∀ H1 (Q : VK), Q (.ref l) H1 → tj σ H1 Q) (r0 : R Z H0 H) (fl : Fr H0 l) (hu : H l = some (.lst us)) (h : El Z te σ H vs) (hz : us.length < 100000)
    (k : ∀ r H1, Fr H0 r → r ≠ l → R Z H0 H1 → (∀ x o, x ≠ l → H x = some o → NT o → ¬ Z.M x → H1 x = some o) → H1 r = some (.lst vs) → H1 l = some (.lst (us ++ [.ref r])) → tz D σ H1) : tSeq (tDrop (tBM K "list" rAppend tj (tCons te tNil))) tz D σ H := by
  refine hj H _ ⟨.inl ⟨rfl, _, SqL.of hu⟩, h H (.refl r0.b) _ fun r H1 fr r1 hr => ?_⟩
  have n : r ≠ l := (fr_ne fr hu nt_lst).symm
  have hu1 := r1.lst hu (r0.a.fresh fl)
  refine ⟨l, us, .ref r, rfl, rfl, hu1, sz_lt hz, ?_⟩
  exact k r _ (r0.fr fr) n (.mut (r0.trans r1) fl hu1 trivial) (fun x o nx ex nt nm => by rw [upd_ne nx]; exact r1.st x o ex nt nm) (by rw [upd_ne n]; exact hr) upd_same
end
/-- a kind of value that stands while heaps grow -/
structure Up (B : Hp → Hp → V → Prop) : Prop where
  up : ∀ {H0 H H1 : Hp} {v : V}, Ex H H1 → B H0 H v → B H0 H1 v
  dn : ∀ {H0 H H1 : Hp} {v : V}, Ex H0 H1 → B H1 H v → B H0 H v
section
variable {P : Program} {w : World} {K : PySem.W.Frag} {B : Hp → Hp → V → Prop} {σ : L2.St} {H H0 H1 : Hp} {te ta tb : TE} {tA tR : TA} {v : V} {n m i : Nat}
def EA (B : Hp → Hp → V → Prop) (ta : TA) (σ : L2.St) (H0 : Hp) (n : Nat) : Prop := ∀ H1, Ex H0 H1 → ∀ Q : List V → Hp → Prop, (∀ vs H2, Ex H1 H2 → vs.length = n → (∀ v ∈ vs, B H1 H2 v) → Q vs H2) → ta σ H1 Q
theorem ea0 : EA B tNil σ H 0 := fun H1 e Q q => q [] H1 (Ex.refl H1) rfl fun _ z => absurd z List.not_mem_nil
theorem ea1 (U : Up B) (h : ∀ H1, Ex H H1 → ∀ Q : VK, (∀ v H2, Ex H1 H2 → B H1 H2 v → Q v H2) → te σ H1 Q) (hr : EA B tR σ H n) : EA B (tCons te tR) σ H (n + 1) := fun H1 e Q q =>
  h H1 e _ fun v H2 e2 f2 => hr H2 (e.trans e2) _ fun vs H3 e3 hl f3 => q (v :: vs) H3 (e2.trans e3) (by rw [List.length_cons, hl]) fun u hu => by
    rcases List.mem_cons.mp hu with rfl | hu
    · exact U.up e3 f2
    · exact U.dn e2 (f3 u hu)
/-- a list of n of them, new since H0 -/
def OL (B : Hp → Hp → V → Prop) (H0 H : Hp) (r : Addr) (n : Nat) : Prop := ∃ vs, H r = some (.lst vs) ∧ vs.length = n ∧ ∀ v ∈ vs, B H0 H v
theorem ol_up (U : Up B) {r : Addr} (e : Ex H H1) (h : OL B H0 H r n) : OL B H0 H1 r n := by
  obtain ⟨vs, h1, h2, h3⟩ := h
  exact ⟨vs, e _ _ h1, h2, fun v hv => U.up e (h3 v hv)⟩
def EL (B : Hp → Hp → V → Prop) (te : TE) (σ : L2.St) (H0 H : Hp) (n : Nat) : Prop := ∀ H1, Ex H H1 → ∀ Q : VK, (∀ r H2, H1 r = none → Ex H1 H2 → OL B H0 H2 r n → Q (.ref r) H2) → te σ H1 Q
theorem el_lst' (U : Up B) (h : EA B tA σ H n) (e0 : Ex H0 H) (hn : n ≤ 1000) : EL B (tLst tA) σ H0 H n := fun H1 e Q q =>
  h H1 e _ fun vs H2 e2 hl f => ⟨sz_of (by omega), fun p hp => q p _ (fresh_back e2 hp) (e2.trans (Ex.new hp)) ⟨vs, upd_same, hl, fun v hv => U.up (Ex.new hp) (U.dn (e0.trans e) (f v hv))⟩⟩
theorem el_cat' (U : Up B) {a : Addr} (ha : Ev ta σ H (.ref a)) (hl : OL B H0 H a n) (hb : EL B tb σ H0 H m) (hz : n + m ≤ 1000) : EL B (tOp rCat ta tb) σ H0 H (n + m) := fun H1 e Q q => ha H1 e _ fun H2 e2 => hb H2 (e.trans e2) _ fun r H3 hr e3 hR => by
  obtain ⟨vs, v1, v2, v3⟩ := ol_up U ((e.trans e2).trans e3) hl
  obtain ⟨us, u1, u2, u3⟩ := hR
  refine ⟨a, r, vs, us, rfl, rfl, v1, u1, sz_of (by omega), fun t ht => q t _ (fresh_back (e2.trans e3) ht) ((e2.trans e3).trans (Ex.new ht)) ⟨vs ++ us, upd_same, by rw [List.length_append, v2, u2], fun v hv => ?_⟩⟩
  rcases List.mem_append.mp hv with hv | hv
  · exact U.up (Ex.new ht) (v3 v hv)
  · exact U.up (Ex.new ht) (u3 v hv)
theorem q_asgEL {tz : TS} {D : Ends} (h : EL B te σ H0 H n) (k : ∀ r H1, H r = none → Ex H H1 → OL B H0 H1 r n → tz D (σ.set i (some (.ref r))) H1) : tSeq (tAsg te (gName i)) tz D σ H := h H (Ex.refl H) _ k
/-- what is no word: it shows as d -/
def OW (P : Program) (w : World) (K : PySem.W.Frag) (H0 H : Hp) (v : V) : Prop := ∃ d, Sok d ∧ Ft H0 H (GA P w K d v)
theorem up_ow : Up (OW P w K) := ⟨fun e ⟨d, h1, h2⟩ => ⟨d, h1, ft_up e h2⟩, fun e ⟨d, h1, h2⟩ => ⟨d, h1, ft_dn e h2⟩⟩
theorem ow_of {d : PyData} (h : EO te σ H (GA P w K d)) (hd : Sok d) : ∀ H1, Ex H H1 → ∀ Q : VK, (∀ v H2, Ex H1 H2 → OW P w K H1 H2 v → Q v H2) → te σ H1 Q := fun H1 e Q q => h H1 e Q fun v H2 e2 f => q v H2 e2 ⟨d, hd, f⟩
/-- what is no word's text -/
def BT (K : PySem.W.Frag) (v : V) (H : Hp) : Prop := (∃ t : String, TyX K H v (.type t) ∧ kitB t "str" = some false) ∨
  ∃ (s : Str) (ys : List Str), v = .str s ∧ s ≠ "-" ∧ s.length ≤ 1000 ∧ Txt.split s "." = ys ∧ ys.length ≤ 1000 ∧ (∀ y ∈ ys, y.length ≤ 1000) ∧ isW ys = false
def OT (K : PySem.W.Frag) (H0 H : Hp) (v : V) : Prop := Ft H0 H (BT K v)
theorem up_ot : Up (OT K) := ⟨fun e h => ft_up e h, fun e h => ft_dn e h⟩
theorem dict_len {s : Str} (h : Tok' s 8) : (PyData.dict [(.str s, .int 1)]).shown.length ≤ 100 := by
  have a := tok_shown h
  have z := dictText_len_le (PyData.shownKv [(.str s, .int 1)])
  have e : (PyData.int 1).shown.length ≤ 1 := by decide +kernel
  simp only [PyData.shown, PyData.shownKv, List.map_cons, List.map_nil, List.sum_cons, List.sum_nil, List.length_cons, List.length_nil] at z a e ⊢
  rw [len_app, len_app, show Str.length ": " = 2 from rfl] at z
  omega
/-! sizes of what is shown -/
def Sz (n k : Nat) (d : PyData) : Prop := d.shown.length ≤ n ∧ d.depth ≤ k
theorem sz_up {n k n' k' : Nat} {d : PyData} (h : Sz n k d) (a : n ≤ n') (b : k ≤ k') : Sz n' k' d := ⟨Nat.le_trans h.1 a, Nat.le_trans h.2 b⟩
theorem sz_sum {n k : Nat} : ∀ {ds : List PyData}, (∀ d ∈ ds, Sz n k d) → ((PyData.shownAll ds).map (·.length)).sum ≤ n * ds.length ∧ (PyData.shownAll ds).length = ds.length ∧ PyData.depthAll ds ≤ k
  | [], _ => ⟨by simp [PyData.shownAll], by simp [PyData.shownAll], by simp [PyData.depthAll]⟩
  | d :: ds, h => by
    obtain ⟨a, b, c⟩ := sz_sum fun x hx => h x (List.mem_cons_of_mem _ hx)
    obtain ⟨h1, h2⟩ := h d (List.mem_cons_self ..)
    refine ⟨?_, by simp [PyData.shownAll, b], by simp only [PyData.depthAll]; omega⟩
    simp only [PyData.shownAll, List.map_cons, List.sum_cons, List.length_cons, Nat.mul_succ]
    omega
theorem sz_lst {n k m : Nat} {ds : List PyData} (h : ∀ d ∈ ds, Sz n k d) (hm : n * ds.length + 2 * ds.length + 3 ≤ m) : Sz m (k + 1) (.list ds) := by
  obtain ⟨a, b, c⟩ := sz_sum h
  have z := listText_len_le (PyData.shownAll ds)
  exact ⟨by simp only [PyData.shown]; omega, by simp only [PyData.depth]; omega⟩
theorem sz_tup {n k m : Nat} {ds : List PyData} (h : ∀ d ∈ ds, Sz n k d) (hm : n * ds.length + 2 * ds.length + 3 ≤ m) : Sz m (k + 1) (.tuple ds) := by
  obtain ⟨a, b, c⟩ := sz_sum h
  have z := tupleText_len_le (PyData.shownAll ds)
  exact ⟨by simp only [PyData.shown]; omega, by simp only [PyData.depth]; omega⟩
theorem sz_str {s : Str} {n : Nat} (h : Tok' s n) (hn : n ≤ 30) : Sz 302 0 (.str s) := ⟨Nat.le_trans (tok_shown h) (by omega), by simp [PyData.depth]⟩
theorem sz_non : Sz 302 0 .none := ⟨by decide +kernel, by simp [PyData.depth]⟩
theorem sz_bl (b : Bool) : Sz 302 0 (.bool b) := ⟨by cases b <;> decide +kernel, by simp [PyData.depth]⟩
theorem sz_int (i : Int) (h : 0 ≤ i ∧ i ≤ 9) : Sz 302 0 (.int i) := ⟨by
    obtain ⟨m, rfl⟩ := Int.eq_ofNat_of_zero_le h.1
    have : m ≤ 9 := by omega
    rcases (by omega : m = 0 ∨ m = 1 ∨ m = 2 ∨ m = 3 ∨ m = 4 ∨ m = 5 ∨ m = 6 ∨ m = 7 ∨ m = 8 ∨ m = 9) with rfl | rfl | rfl | rfl | rfl | rfl | rfl | rfl | rfl | rfl <;> decide +kernel, by simp [PyData.depth]⟩
theorem sok_of {n k : Nat} {d : PyData} (h : Sz n k d) (a : n ≤ 2500) (b : k ≤ 10) : Sok d := ⟨Nat.le_trans h.1 a, Nat.le_trans h.2 b⟩
theorem eo_dict1 {s : Str} (ht : Tok' s 8) (hk : Ev ta σ H (.str s)) (hv : Ev tb σ H (.int 1)) : EO (tDisp [(ta, tb)]) σ H (GA P w K (.dict [(.str s, .int 1)])) := fun H1 e Q q => fun p hp => hk _ (e.trans (Ex.new hp)) _ fun H2 e2 => hv _ ((e.trans (Ex.new hp)).trans e2) _ fun H3 e3 => by
  have e13 : Ex H1 (upd H3 p (.dK [(.inr s, .int 1)])) := Ex.mut (((Ex.new hp).trans e2).trans e3) hp
  refine ⟨e3 _ _ (e2 _ _ upd_same), [(.inr s, .int 1)], rfl, (by show 1 ≤ 15; decide), q _ _ e13 ⟨[(p, .dK [(.inr s, .int 1)])], fun q hq => ?_, fun H4 z => ?_⟩⟩
  · rw [List.mem_singleton.mp hq]
    exact ⟨hp, nt_dK, upd_same⟩
  · have z := z _ (List.mem_singleton.mpr rfl)
    refine ⟨sw_of (rw_dk (ds := [.int 1]) z rfl) (by rw [PyData.showable]; simp only [List.zipWith, PyData.showableKv, kD, PyData.showable, Bool.and_true, Bool.true_and, decide_eq_true_eq]; decide +kernel) ?_, .oth (t := "dict") (.base (.dK z)) rfl⟩
    exact Nat.le_trans (dict_len ht) (by decide)
theorem ev_addX {a b : Str} (ha : Ev ta σ H (.str a)) (hb : Ev tb σ H (.str b)) (hz : a.length + b.length ≤ 1000) : Ev (tOp (fun x y H Q => ∃ i j, x = V.str i ∧ y = V.str j ∧ i.length + j.length ≤ sizeLine ∧ Q (.str (i ++ j)) H) ta tb) σ H (.str (a ++ b)) := fun H1 e Q q =>
  ha H1 e _ fun H2 e2 => hb H2 (e.trans e2) _ fun H3 e3 => ⟨a, b, rfl, rfl, sz_of (by omega), q H3 (e2.trans e3)⟩
theorem ev_nine {s : Str} {c : Nat} {r : List Nat} (h : Let s c r) {to th : TO} (ha : Ev ta σ H (.str s)) (h1 : EvO to σ H none) (h2 : EvO th σ H (some 1)) : Ev (tOp rMulX (tSl rSlS ta to th) (tC (.int 9))) σ H (.str (nine c)) := fun H1 e Q q =>
  ha H1 e _ fun H2 e2 => h1 H2 (e.trans e2) _ fun H3 e3 => h2 H3 ((e.trans e2).trans e3) _ fun H4 e4 => by
    refine ⟨s, rfl, sz_of (by have := h.lenS; omega), ?_⟩
    rw [cut_one h.cps]
    exact ⟨⟨#[c]⟩, 9, rfl, rfl, by decide, by decide, by show (1 : Nat) ≤ 8; decide, by rw [mul_nine]; exact q H4 ((e2.trans e3).trans e4)⟩
theorem ev_up {s : Str} (ha : Ev ta σ H (.str s)) (hz : s.length ≤ 1000) : Ev (tM0 (fun x xs H Q => ∃ a, x = V.str a ∧ xs = [] ∧ a.length ≤ 5592405 ∧ Q (.str (Txt.upper a)) H) ta) σ H (.str (Txt.upper s)) := fun H1 e Q q =>
  ha H1 e _ fun H2 e2 => ⟨⟨s, rfl⟩, s, rfl, rfl, by omega, q H2 e2⟩
end
/-! ### what cases tell -/
section
variable {P : Program} {w : World} {K : PySem.W.Frag} {Z : Zn} {σ : L2.St} {H H0 H1 : Hp} {te ta tb : TE} {tt : TT} {tri : List V} {v : V} {l : Addr} {n j : Nat} {ds : List PyData} {d : PyData} {nm : Str}
theorem th_of (o : Ok Z H0) (h : OW P w K H0 H v) : ∃ d, Sok d ∧ ∀ H2, R Z H H2 → GA P w K d v H2 := by
  obtain ⟨d, hd, S, h1, h2⟩ := h
  exact ⟨d, hd, fun H2 r => h2 H2 fun q hq => r.st _ _ (h1 q hq).2.2 (h1 q hq).2.1 (o.fresh (fr_none (h1 q hq).1))⟩
def Cs (H0 H : Hp) (l : Addr) (n : Nat) (tri : List V) : Prop := Fr H0 l ∧ ∃ rs, H l = some (.lst rs) ∧ rs.length = n ∧ ∀ r ∈ rs, ∃ a, r = .ref a ∧ a ≠ l ∧ Fr H0 a ∧ H a = some (.lst tri)
theorem cs_R (o : Ok Z H0) (r : R Z H H1) (h : Cs H0 H l n tri) : Cs H0 H1 l n tri := by
  obtain ⟨f, rs, h1, h2, h3⟩ := h
  exact ⟨f, rs, r.lst h1 (o.fresh f), h2, fun x hx => by
    obtain ⟨a, e, ne, fa, ha⟩ := h3 x hx
    exact ⟨a, e, ne, fa, r.lst ha (o.fresh fa)⟩⟩
theorem q_cs1 {tz : TS} {D : Ends} {i : Nat} (h : El Z te σ H tri) (r0 : R Z H0 H) (k : ∀ l H1, R Z H0 H1 → Cs H0 H1 l 1 tri → tz D (σ.set i (some (.ref l))) H1) : tSeq (tAsg (tLst (tCons te tNil)) (gName i)) tz D σ H := by
  unfold tSeq tAsg
  exact one_lst h r0.b fun r l H1 fr fl ne r1 hr hl => k l H1 (r0.trans r1) ⟨r0.fr fl, [.ref r], hl, rfl, fun x hx => ⟨r, List.mem_singleton.mp hx, ne, r0.fr fr, hr⟩⟩
theorem q_csA {tj : TE} {tz : TS} {D : Ends} (hj : ∀ H1 (Q : VK), Q (.ref l) H1 → tj σ H1 Q) (h : El Z te σ H tri) (r0 : R Z H0 H) (c : Cs H0 H l n tri) (hn : n ≤ 1000) (k : ∀ H1, R Z H0 H1 → Cs H0 H1 l (n + 1) tri → tz D σ H1) : tSeq (tDrop (tBM K "list" rAppend tj (tCons te tNil))) tz D σ H := by
  obtain ⟨fl, rs, hu, hl, hr⟩ := c
  refine q_appR hj r0 fl hu h (by omega) fun r H1 fr ne r1 keep hr1 hl1 => k H1 r1 ⟨fl, rs ++ [.ref r], hl1, by rw [List.length_append, hl]; rfl, fun x hx => ?_⟩
  rcases List.mem_append.mp hx with z | z
  · obtain ⟨a, e, na, fa, ha⟩ := hr x z
    exact ⟨a, e, na, fa, keep _ _ na ha nt_lst (r0.a.fresh fa)⟩
  · exact ⟨r, List.mem_singleton.mp z, ne, fr, hr1⟩
/-- a list that shows ds -/
def Shl (P : Program) (w : World) (H : Hp) (l : Addr) (ds : List PyData) : Prop := ∃ rs, H l = some (.lst rs) ∧ Paired (Sw P w H) rs ds
def Els (P : Program) (w : World) (Z : Zn) (te : TE) (σ : L2.St) (H : Hp) (ds : List PyData) : Prop := ∀ H1, R Z H H1 → ∀ Q : VK, (∀ l H2, R Z H1 H2 → Shl P w H2 l ds → Q (.ref l) H2) → te σ H1 Q
theorem ew_repr (h : Els P w Z te σ H ds) (hz : (listText (PyData.shownAll ds)).length ≤ sizeLine) (hd : PyData.depthAll ds ≤ 40) : Rm.Ew Z (tCB (rReprS P w) (tCons te tNil)) σ H (.str (listText (PyData.shownAll ds))) := fun H1 r Q q => h H1 r _ fun l H2 r2 s => by
  obtain ⟨rs, h1, h2⟩ := s
  exact ⟨l, rs, ds, rfl, h1, h2, hz, hd, q H2 r2⟩
theorem els_var (h : ∀ H1, R Z H H1 → Shl P w H1 l ds) (hj : σ[j]? = some (some (.ref l))) : Els P w Z (tVar j) σ H ds := fun H1 r Q q => ⟨_, hj, q l H1 (.refl r.b) (h H1 r)⟩
def D3 (nm : Str) (d : PyData) : PyData := .list [.str nm, d, .bool true]
theorem sw_D3 {a : Addr} (e : H a = some (.lst [.str nm, v, .bl true])) (hn : Tok' nm 100) (hv : Sw P w H v d) : Sw P w H (.ref a) (D3 nm d) := sw_lst e (.cons (sw_str hn H) (.cons hv (.cons (sw_of (rw_bl true) rfl (by decide +kernel)) .nil)))
theorem sz_D3 (hn : Tok' nm 30) (hd : Sok d) : Sz 7600 11 (D3 nm d) := sz_lst (n := 2500) (k := 10) (fun x hx => by
    rcases List.mem_cons.mp hx with e | hx
    · rw [e]
      exact sz_up (sz_str hn (Nat.le_refl _)) (by decide) (by decide)
    · rcases List.mem_cons.mp hx with e | hx
      · rw [e]
        exact hd
      · rw [List.mem_singleton.mp hx]
        exact sz_up (sz_bl true) (by decide) (by decide)) (Nat.le_of_ble_eq_true rfl)
/-- n of them are short enough -/
theorem shown_ok {ds : List PyData} (h : ∀ d ∈ ds, Sz 7600 11 d) (hn : ds.length ≤ 100) : (listText (PyData.shownAll ds)).length ≤ sizeLine ∧ PyData.depthAll ds ≤ 40 := by
  obtain ⟨a, b, c⟩ := sz_sum h
  have z := listText_len_le (PyData.shownAll ds)
  have m : 7600 * ds.length ≤ 7600 * 100 := Nat.mul_le_mul_left _ hn
  rw [sizeLine_eq]
  exact ⟨by omega, by omega⟩
theorem paired_rep {α β : Type} {Rel : α → β → Prop} {b : β} : ∀ {xs : List α}, (∀ x ∈ xs, Rel x b) → Paired Rel xs (List.replicate xs.length b)
  | [], _ => .nil
  | x :: xs, h => by
    rw [List.length_cons, List.replicate_succ]
    exact .cons (h x (List.mem_cons_self ..)) (paired_rep fun y hy => h y (List.mem_cons_of_mem _ hy))
theorem cs_shl (c : Cs H0 H l n [.str nm, v, .bl true]) (hn : Tok' nm 100) (hv : Sw P w H v d) : Shl P w H l (List.replicate n (D3 nm d)) := by
  obtain ⟨_, rs, h1, h2, h3⟩ := c
  refine ⟨rs, h1, ?_⟩
  rw [← h2]
  exact paired_rep fun x hx => by
    obtain ⟨a, e, _, _, ha⟩ := h3 x hx
    rw [e]
    exact sw_D3 ha hn hv
/-- [due] * n -/
theorem els_rep {a : Addr} {m : Nat} (hj : Rm.Ew Z te σ H (.ref a)) (h : ∀ H1, R Z H H1 → Sw P w H1 (.ref a) d) (hm : m ≤ 100) : Els P w Z (tOp rRep (tLst (tCons te tNil)) (tC (.int (m : Int)))) σ H (List.replicate m d) := fun H1 r Q q =>
  hj H1 r _ fun H2 r2 => ⟨(by show 1 ≤ sizeLine; decide), fun p hp => ⟨p, (m : Int), [.ref a], rfl, rfl, upd_same, by omega, by omega, by
    show 1 * (m : Int).toNat ≤ sizeLine
    rw [Nat.one_mul, Int.toNat_natCast]
    exact sz_of (by omega), fun t ht => by
    rw [Int.toNat_natCast, flatten_rep1]
    have r3 := (r2.new (o := .lst [.ref a]) hp).new (o := .lst (List.replicate m (.ref a))) ht
    refine q t _ r3 ⟨_, upd_same, ?_⟩
    have z := paired_rep (Rel := Sw P w (upd (upd H2 p (.lst [.ref a])) t (.lst (List.replicate m (.ref a))))) (b := d) (xs := List.replicate m (V.ref a)) fun x hx => by
      rw [List.eq_of_mem_replicate hx]
      exact h _ (r.trans r3)
    rw [List.length_replicate] at z
    exact z⟩⟩
theorem et_neS {x y : Str} (ha : Rm.Ew Z ta σ H (.str x)) (hb : Rm.Ew Z tb σ H (.str y)) (e : x = y) : Rm.Et Z (tTest (tOp rNe ta tb)) σ H false := by
  subst e
  have z : Rm.Ew Z (tOp rNe ta tb) σ H (.bl (!decide (V.str x = V.str x))) := Rm.ew_op ha hb fun _ _ => rv_ne rfl
  rw [decide_eq_true rfl] at z
  exact Rm.et_test z
theorem s_whenR {b : Bool} {tu : TS} {D : Ends} (o : Ok Z H) (h : Rm.Et Z tt σ H b) (h1 : b = true → ∀ H1, R Z H H1 → tu D σ H1) (h2 : b = false → ∀ H1, R Z H H1 → D.nx σ H1) : tIfS tt tu tNext D σ H := h H (.refl o) _ fun H1 r => by
  cases b with
  | true => exact h1 rfl H1 r
  | false => exact h2 rfl H1 r
end
section
variable {P : Program} {w : World} {K : PySem.W.Frag} {Z : Zn} {σ : L2.St} {H H0 H1 : Hp} {te ta tb : TE} {tt : TT} {tri : List V} {v : V} {l : Addr} {n j : Nat} {ds : List PyData} {d : PyData} {nm f : Str} {CW CS CT C : Addr} {t : XK → TE}
theorem els_if {b : Bool} (h : Rm.Et Z tt σ H b) (h1 : b = true → Els P w Z ta σ H ds) (h2 : b = false → Els P w Z tb σ H ds) : Els P w Z (tIf tt ta tb) σ H ds := fun H1 r Q q => h H1 r _ fun H2 r2 => by
  cases b with
  | true => exact h1 rfl H2 (r.trans r2) Q fun l H3 r3 s => q l H3 (r2.trans r3) s
  | false => exact h2 rfl H2 (r.trans r2) Q fun l H3 r3 s => q l H3 (r2.trans r3) s
/-- what a word shows, of any length -/
theorem wd_sw {v : V} {zs : List Str} (h : Wd K H v zs) (ht : ∀ z ∈ zs, Tok' z 8) : Sw P w H v (wD zs) := by
  obtain ⟨a, rfl, e⟩ := h
  refine sw_tup e ?_
  clear e
  induction zs with
  | nil => exact .nil
  | cons z zs ih => exact .cons (sw_str (tok_mono (ht z (List.mem_cons_self ..)) (by decide)) H) (ih fun y hy => ht y (List.mem_cons_of_mem _ hy))
theorem wd_sok {zs : List Str} (ht : ∀ z ∈ zs, Tok' z 8) (hn : zs.length ≤ 6) : Sok (wD zs) := by
  refine sok_of (sz_tup (n := 302) (k := 0) (m := 2000) (fun d hd => ?_) (by rw [List.length_map]; omega)) (by decide) (by decide)
  obtain ⟨z, hz, rfl⟩ := List.mem_map.mp hd
  exact sz_str (ht z hz) (by decide)
theorem tok_letter {s : Str} (h : isL s = true) : Tok' s 8 := by
  obtain ⟨c, r, k⟩ := let_of h
  exact k.tok
theorem sz_tri (hn : Tok' nm 30) (hd : Sok d) : ∀ x ∈ [PyData.str nm, d, .bool true], Sz 7600 11 x := fun x hx => by
  rcases List.mem_cons.mp hx with e | hx
  · rw [e]
    exact sz_up (sz_str hn (Nat.le_refl _)) (by decide) (by decide)
  · rcases List.mem_cons.mp hx with e | hx
    · rw [e]
      exact sz_up (n := 2500) (k := 10) hd (by decide) (by decide)
    · rw [List.mem_singleton.mp hx]
      exact sz_up (sz_bl true) (by decide) (by decide)
theorem tri_sw (hn : Tok' nm 100) (hv : Sw P w H v d) : Paired (Sw P w H) [.str nm, v, .bl true] [.str nm, d, .bool true] := .cons (sw_str hn H) (.cons hv (.cons (sw_of (rw_bl true) rfl (by decide +kernel)) .nil))
theorem els_told : Els P w Z (tLst (tCons (tC (.str "told")) tNil)) σ H [.str "told"] := fun H1 r Q q => ⟨(by show 1 ≤ sizeLine; decide), fun p hp => by
  have r3 : R Z H1 (upd H1 p (.lst [.str "told"])) := .of r.b (Ex.new hp)
  exact q p _ r3 ⟨_, upd_same, .cons (sw_str (tok_c (by decide +kernel)) _) .nil⟩⟩
theorem els_tri {te : TE} (hn : Tok' nm 100) (h : Rm.Ew Z te σ H v) (hv : ∀ H1, R Z H H1 → Sw P w H1 v d) : Els P w Z (tLst (tCons (tC (.str nm)) (tCons te (tCons (tC (.bl true)) tNil)))) σ H [.str nm, d, .bool true] := fun H1 r Q q =>
  h H1 r _ fun H2 r2 => ⟨(by show 3 ≤ sizeLine; decide), fun p hp => by
    have r3 : R Z H1 (upd H2 p (.lst [.str nm, v, .bl true])) := r2.new hp
    exact q p _ r3 ⟨_, upd_same, tri_sw hn (hv _ (r.trans r3))⟩⟩
theorem ew_eqS {x : Str} (ha : Rm.Ew Z ta σ H (.str x)) (hb : Rm.Ew Z tb σ H (.str x)) : Rm.Ew Z (tOp rEq ta tb) σ H (.bl true) :=
  Rm.ew_is (Rm.ew_op ha hb fun _ _ => rv_eq rfl) (by simp)
end
section
variable {P : Program} {w : World} {K : PySem.W.Frag} {Z : Zn} {σ : L2.St} {H H0 H1 : Hp} {te ta tb : TE} {tt : TT} {tri : List V} {v : V} {l : Addr} {n j : Nat} {ds : List PyData} {d : PyData} {nm f : Str} {CW CS CT C : Addr} {t : XK → TE}
theorem els_repL {m : Nat} (h : El Z te σ H tri) (hs : ∀ H1 a, R Z H H1 → H1 a = some (.lst tri) → Sw P w H1 (.ref a) d) (hm : m ≤ 100) : Els P w Z (tOp rRep (tLst (tCons te tNil)) (tC (.int (m : Int)))) σ H (List.replicate m d) := fun H1 r Q q =>
  h H1 r _ fun a H2 fa r2 ha => ⟨(by show 1 ≤ sizeLine; decide), fun p hp => ⟨p, (m : Int), [.ref a], rfl, rfl, upd_same, by omega, by omega, by
    show 1 * (m : Int).toNat ≤ sizeLine
    rw [Nat.one_mul, Int.toNat_natCast]
    exact sz_of (by omega), fun t ht => by
    rw [Int.toNat_natCast, flatten_rep1]
    have r3 := (r2.new (o := .lst [.ref a]) hp).new (o := .lst (List.replicate m (.ref a))) ht
    have ra : R Z H2 (upd (upd H2 p (.lst [.ref a])) t (.lst (List.replicate m (.ref a)))) := ((R.refl r2.b).new hp).new ht
    refine q t _ r3 ⟨_, upd_same, ?_⟩
    have z := paired_rep (Rel := Sw P w (upd (upd H2 p (.lst [.ref a])) t (.lst (List.replicate m (.ref a))))) (b := d) (xs := List.replicate m (V.ref a)) fun x hx => by
      rw [List.eq_of_mem_replicate hx]
      exact hs _ a (r.trans r3) (ra.lst ha (r.b.fresh fa))
    rw [List.length_replicate] at z
    exact z⟩⟩
theorem ev_joinL {ys : List Str} (h : EvL te σ H (ys.map V.str)) (hz : (ys.map (·.length)).sum + ys.length ≤ 1000) : Ev (tM1 (rJoin K) (tC (.str ".")) te) σ H (.str (Str.join "." ys)) := fun H1 e Q q => ⟨⟨_, rfl⟩, h H1 e _ fun l H2 hl e2 hv => ⟨".", l, ys, rfl, rfl, .inl (SqL.of hv), by show _ + ys.length * 1 ≤ _; omega, by rw [TL.join_eq]; exact q H2 e2⟩⟩
end
/-- {k: v}, k a tuple -/
def tDisp1T (tk tv : TE) : TE := fun σ H Q => ∀ D, H D = none → tPairs [(tk, tv)] σ (upd H D (.dT [])) fun ps H2 => ∃ (b : Addr) (k : List L2.Key) (v : V), ps = [(.ref b, v)] ∧ H2 D = some (.dT []) ∧ H2 b = some (.tup (k.map kV)) ∧ Q (.ref D) (upd H2 D (.dT (putK [] k v)))
theorem pe_disp1T {X : Cx} {pos : Pos} {ke ve : Expr} {tk tv : TE} (hu : X.A.units < cLine) (h : PPs X pos [some ke] [ve] [(tk, tv)]) : PE X (.Dict [some ke] [ve] pos) (tDisp1T tk tv) := by
  constructor
  intro pins s σ H Q I q
  have hn := I.hok.fresh (Nat.le_refl s.heap.objs.size)
  have I1 := I.laid (a := s.heap.objs.size) (o := .dT []) (h' := s.heap.push { cls := .type "dict", data := .dict #[] }) (t' := s.toks) (fun _ _ q => Heap.get?_push_of_some _ q) (Nat.le_refl _) (dt_empty s.heap I.big)
  refine wpAny_Dict_any rfl rfl (fun z => nomatch z) (by show 1 ≤ 15; decide) (thn (h.run pins _ σ _ _ I1 (q _ hn)) fun ws s2 hh => ?_)
  obtain ⟨ps, H2, I2, rel, b, k, v, rfl, hD, hb, q2⟩ := hh
  cases rel with
  | @cons x y xs ys r t =>
    cases t
    obtain ⟨u1, u2⟩ := y
    obtain ⟨r1, r2⟩ := r
    obtain rfl : u1 = Value.ref b := r1
    unfold storeAll
    rw [List.forIn_cons]
    refine wpAny_bind (wpAny_bind (putT I2 hu hD hb (by show 0 < sizeLine; decide) r2 fun t I3 => wpAny_pure ?_))
    show wpAny _ _ (forIn [] _ _) _ _ _
    rw [List.forIn_nil]
    exact wpAny_pure ⟨.ref _, _, I3, rfl, q2⟩
def rTupleK (K : PySem.W.Frag) : List V → Hp → VK → Prop := fun xs H Q => ∃ p ys, xs = [V.ref p] ∧ ((SqL K H p ys ∧ ∀ l, H l = none → Q (V.ref l) (upd H l (.tup ys))) ∨ (SqT K H p ys ∧ Q (V.ref p) H))
theorem call_tupleK {X : Cx} {K : PySem.W.Frag} (h : X.K = K := by rfl) : CallR X (.type "tuple") (rTupleK K) := by
  subst h
  exact call_tuple_of
section
variable {P : Program} {w : World} {K : PySem.W.Frag} {Z : Zn} {σ : L2.St} {H H0 H1 : Hp} {te ta tb : TE} {tt : TT} {tri us : List V} {u v : V} {l b : Addr} {n j m : Nat} {ds : List PyData} {d : PyData} {nm f : Str} {CW CS CT C : Addr} {t : XK → TE} {TT : List (Addr × Str)} {E : XK} {Q : VK}
theorem rep_first {rest : List Bool} {i : Nat} (h : (List.replicate m true ++ false :: rest)[i]? = some false) (pr : ∀ j, j < i → (List.replicate m true ++ false :: rest)[j]? = some true) : i = m := by
  rcases Nat.lt_trichotomy i m with z | z | z
  · rw [List.getElem?_append_left (by rw [List.length_replicate]; exact z), List.getElem?_replicate, if_pos z] at h
    cases h
  · exact z
  · have y := pr m z
    rw [List.getElem?_append_right (by rw [List.length_replicate]; omega), List.length_replicate, Nat.sub_self] at y
    cases y
/-- what is no list, no tuple -/
def NL (K : PySem.W.Frag) (v : V) (H : Hp) : Prop := ∃ ty : String, TyX K H v (.type ty) ∧ PySem.W.kitAny K (.type ty) [.type "list", .type "tuple"] = some false
def ON (K : PySem.W.Frag) (H0 H : Hp) (v : V) : Prop := Ft H0 H (NL K v)
theorem up_on : Up (ON K) := ⟨fun e h => ft_up e h, fun e h => ft_dn e h⟩
theorem nl_of (o : Ok Z H0) (h : ON K H0 H v) : ∀ H2, R Z H H2 → NL K v H2 := by
  obtain ⟨S, h1, h2⟩ := h
  exact fun H2 r => h2 H2 fun q hq => r.st _ _ (h1 q hq).2.2 (h1 q hq).2.1 (o.fresh (fr_none (h1 q hq).1))
theorem on_ev (h : Ev te σ H v) (k : ∀ H, NL K v H) : ∀ H1, Ex H H1 → ∀ Q : VK, (∀ v H2, Ex H1 H2 → ON K H1 H2 v → Q v H2) → te σ H1 Q := fun H1 e Q q => h H1 e Q fun H2 e2 => q v H2 e2 (ft_pure k)
theorem on_dnew : ∀ H1, Ex H H1 → ∀ Q : VK, (∀ v H2, Ex H1 H2 → ON K H1 H2 v → Q v H2) → tDNewK σ H1 Q := fun H1 e Q q => fun p hp => q _ _ (Ex.new hp) (ft_imp (ft_new (G := fun _ => True) (ft_pure fun _ => trivial) (Ex.refl H1) hp nt_dK) fun H3 z => ⟨"dict", .base (.dK z.1), rfl⟩)
theorem on_dT : ∀ H1, Ex H H1 → ∀ Q : VK, (∀ v H2, Ex H1 H2 → ON K H1 H2 v → Q v H2) → tDisp1T (tTup tNil) (tC (.int 1)) σ H1 Q := fun H1 e Q q => fun D hD => ⟨Nat.zero_le _, fun b hb => by
  have e2 : Ex H1 (upd (upd (upd H1 D (.dT [])) b (.tup [])) D (.dT (putK [] ([] : List L2.Key) (.int 1)))) := Ex.mut ((Ex.new hD).trans (Ex.new hb)) hD
  have ne : D ≠ b := ne_of_none upd_same hb
  exact ⟨b, [], .int 1, rfl, by rw [upd_ne ne]; exact upd_same, upd_same, q _ _ e2 ⟨[(D, .dT (putK [] ([] : List L2.Key) (.int 1)))], fun q hq => by
    rw [List.mem_singleton.mp hq]
    exact ⟨hD, Rm.nt_dT, upd_same⟩, fun H4 z => ⟨"dict", .base (.dT (z _ (List.mem_singleton.mpr rfl))), rfl⟩⟩⟩⟩
theorem on_dK {s : Str} (hk : Ev ta σ H (.str s)) : ∀ H1, Ex H H1 → ∀ Q : VK, (∀ v H2, Ex H1 H2 → ON K H1 H2 v → Q v H2) → tDisp [(ta, tTup tNil)] σ H1 Q := fun H1 e Q q => fun p hp => hk _ (e.trans (Ex.new hp)) _ fun H2 e2 => ⟨Nat.zero_le _, fun b hb => by
  have e13 : Ex H1 (upd (upd H2 b (.tup [])) p (.dK [(.inr s, .ref b)])) := Ex.mut (((Ex.new hp).trans e2).trans (Ex.new hb)) hp
  refine ⟨(Ex.new hb) _ _ (e2 _ _ upd_same), [(.inr s, .ref b)], rfl, (by show 1 ≤ 15; decide), q _ _ e13 ⟨[(p, .dK [(.inr s, .ref b)])], fun q hq => ?_, fun H4 z => ?_⟩⟩
  · rw [List.mem_singleton.mp hq]
    exact ⟨hp, nt_dK, upd_same⟩
  · exact ⟨"dict", .base (.dK (z _ (List.mem_singleton.mpr rfl))), rfl⟩⟩
/-! ### what the draws give -/
theorem ev_lenL {p : Addr} {xs : List V} (ha : Ev te σ H (.ref p)) (h : SqL K H p xs) : Ev (tCB (rLenS K) (tCons te tNil)) σ H (.int (xs.length : Int)) := fun H1 e Q q =>
  ha H1 e _ fun H2 e2 => ⟨p, xs, rfl, .inl (ex_l (e.trans e2) h), q H2 e2⟩
theorem el_take {to th : TO} (ha : Ev ta σ H (.ref b)) (hl : H b = some (.lst us)) (h1 : EvO to σ H none) (h2 : EvO th σ H (some (n : Int))) (hn : n ≤ us.length) : EvL (tSl (rSlL K) ta to th) σ H (us.take n) := fun H1 e Q q => by
  refine el_sl (K := K) (H := H1) (ha.mono e) (fun H2 e2 => h1 H2 (e.trans e2)) (fun H2 e2 => h2 H2 (e.trans e2)) (SqL.of (e _ _ hl)) H1 (Ex.refl H1) _ fun p H2 hp e2 h => ?_
  rw [cut_to us n hn] at h
  exact q p H2 hp e2 h
theorem el_drop {to th : TO} (ha : Ev ta σ H (.ref b)) (hl : H b = some (.lst us)) (h1 : EvO to σ H (some (n : Int))) (h2 : EvO th σ H none) (hn : n ≤ us.length) : EvL (tSl (rSlL K) ta to th) σ H (us.drop n) := fun H1 e Q q => by
  refine el_sl (K := K) (H := H1) (ha.mono e) (fun H2 e2 => h1 H2 (e.trans e2)) (fun H2 e2 => h2 H2 (e.trans e2)) (SqL.of (e _ _ hl)) H1 (Ex.refl H1) _ fun p H2 hp e2 h => ?_
  rw [cut_from us n hn] at h
  exact q p H2 hp e2 h
/-- pick(pot, [[], [None], [thing]]) -/
theorem pick3 {p : Addr} (o : Ok (Zp TT p) H) (hp : ∀ H1 (Q : VK), Q (.ref p) H1 → ta σ H1 Q) (hu : ∀ H1 (Q : VK), Q u H1 → tb σ H1 Q) {Q : VK} (k : ∀ a H' ts, R (Zp TT p) H H' → H' a = some (.lst ts) → (ts = [] ∨ ts = [.non] ∨ ts = [u]) → Q (.ref a) H') :
    tCall (spPick K) [] E0 (tCons ta (tCons (tLst (tCons (tLst tNil) (tCons (tLst (tCons (tC .non) tNil)) (tCons (tLst (tCons tb tNil)) tNil)))) tNil)) σ H Q := by
  refine hp H _ ⟨Nat.zero_le _, fun a1 h1 => ⟨(by show 1 ≤ sizeLine; decide), fun a2 h2 => hu _ _ ⟨(by show 1 ≤ sizeLine; decide), fun a3 h3 => ⟨(by show 3 ≤ sizeLine; decide), fun lo h4 => ?_⟩⟩⟩⟩
  have r1 : R (Zp TT p) H (upd H a1 (.lst [])) := (R.refl o).new h1
  have r2 := r1.new (o := .lst [.non]) h2
  have r3 := r2.new (o := .lst [u]) h3
  have r4 := r3.new (o := .lst [.ref a1, .ref a2, .ref a3]) h4
  have po := r4.b.2 p rfl
  have e1 : (upd H a1 (.lst [])) a1 = some (.lst []) := upd_same
  have n2 : a1 ≠ a2 := ne_of_none e1 h2
  have e2 : (upd (upd H a1 (.lst [])) a2 (.lst [.non])) a1 = some (.lst []) := by rw [upd_ne n2]; exact e1
  have n3 : a1 ≠ a3 := ne_of_none e2 h3
  have f2 : (upd (upd H a1 (.lst [])) a2 (.lst [.non])) a2 = some (.lst [.non]) := upd_same
  have m3 : a2 ≠ a3 := ne_of_none f2 h3
  have g1 : (upd (upd (upd H a1 (.lst [])) a2 (.lst [.non])) a3 (.lst [u])) a1 = some (.lst []) := by rw [upd_ne n3]; exact e2
  have g2 : (upd (upd (upd H a1 (.lst [])) a2 (.lst [.non])) a3 (.lst [u])) a2 = some (.lst [.non]) := by rw [upd_ne m3]; exact f2
  have g3 : (upd (upd (upd H a1 (.lst [])) a2 (.lst [.non])) a3 (.lst [u])) a3 = some (.lst [u]) := upd_same
  have np : ∀ {a : Addr} {o : HO}, (upd (upd (upd H a1 (.lst [])) a2 (.lst [.non])) a3 (.lst [u])) a = some o → ∀ {G : Hp}, G a = none → R (Zp TT p) G (upd (upd (upd H a1 (.lst [])) a2 (.lst [.non])) a3 (.lst [u])) → a ≠ p := fun {a o} _ {G} g r z => (r.a.fresh (fr_none g)) z
  have p1 : a1 ≠ p := np g1 h1 r3
  have p2 : a2 ≠ p := fun z => by
    rw [z] at h2
    exact (r1.b.fresh (fr_none h2)) rfl
  have p3 : a3 ≠ p := fun z => by
    rw [z] at h3
    exact (r2.b.fresh (fr_none h3)) rfl
  have p4 : lo ≠ p := fun z => by
    rw [z] at h4
    exact (r3.b.fresh (fr_none h4)) rfl
  refine ⟨p, lo, [.ref a1, .ref a2, .ref a3], rfl, po, upd_same, p4, (Nat.le_of_ble_eq_true rfl), (Nat.le_of_ble_eq_true rfl), fun v H' hv x => ?_⟩
  have r5 : R (Zp TT p) H H' := r4.trans (Rm.R.xp r4.b.1 po x)
  have at_ : ∀ {a : Addr} {ts : List V}, (upd (upd (upd H a1 (.lst [])) a2 (.lst [.non])) a3 (.lst [u])) a = some (.lst ts) → a ≠ p → H' a = some (.lst ts) := fun {a ts} e n => x.1 a _ n (by rw [upd_ne (ne_of_none e h4)]; exact e)
  rcases List.mem_cons.mp hv with e | hv
  · rw [e]
    exact k a1 H' _ r5 (at_ g1 p1) (.inl rfl)
  · rcases List.mem_cons.mp hv with e | hv
    · rw [e]
      exact k a2 H' _ r5 (at_ g2 p2) (.inr (.inl rfl))
    · rw [List.mem_singleton.mp hv]
      exact k a3 H' _ r5 (at_ g3 p3) (.inr (.inr rfl))
theorem pw_sw {ws : List (List Str)} (h : Paired (Wd K H) us ws) (hw : ∀ x ∈ ws, isW x = true) : Paired (Sw P w H) us (ws.map wD) := by
  induction h with
  | nil => exact .nil
  | cons r t ih => exact .cons (wd_sw r fun z hz => tok_letter ((isW_iff.mp (hw _ (List.mem_cons_self ..))).2 z hz)) (ih fun x hx => hw x (List.mem_cons_of_mem _ hx))
theorem pw_wb {ws : List (List Str)} (h : Paired (Wd K H) us ws) (hw : ∀ x ∈ ws, isW x = true) : Paired (WB K H) us (List.replicate us.length true) := by
  induction h with
  | nil => exact .nil
  | cons r t ih => exact .cons (wb_word r (hw _ (List.mem_cons_self ..))) (ih fun x hx => hw x (List.mem_cons_of_mem _ hx))
theorem pw_sz {ws : List (List Str)} (hw : ∀ x ∈ ws, isW x = true) : ∀ d ∈ ws.map wD, Sz 7600 11 d := fun d hd => by
  obtain ⟨x, hx, rfl⟩ := List.mem_map.mp hd
  obtain ⟨h3, hl⟩ := isW_iff.mp (hw x hx)
  exact sz_up (n := 2500) (k := 10) (wd_sok (fun z hz => tok_letter (hl z hz)) (by omega)) (by decide) (by decide)
/-- a told list, shown -/
theorem els_el {vs : List V} (h : El Z te σ H vs) (hs : ∀ H1, R Z H H1 → Paired (Sw P w H1) vs ds) : Els P w Z te σ H ds := fun H1 r Q q => h H1 r Q fun l H2 _ r2 hl => q l H2 r2 ⟨vs, hl, hs _ (r.trans r2)⟩
end
end Tk
namespace Tk
open PySem PySem.Spec PyProof.Rows L2 Lw Evl LamX TL
open Rm (R Ok Z0 Zp Fr fr_none fr_ne nt_lst nt_tup nt_dK NT Zn)
/-! ### either of two rules -/
section
variable {X : Cx}
theorem callR_or {f : Value} {r r' : List V → Hp → VK → Prop} (h : CallR X f r) (h' : CallR X f r') : CallR X f (fun xs H Q => r xs H Q ∨ r' xs H Q) := fun pins s σ H xs us Q I rv q => q.elim (h pins s σ H xs us Q I rv) (h' pins s σ H xs us Q I rv)
theorem opR_or {f : Value → Value → Sem Value} {r r' : R2} (h : OpR X f r) (h' : OpR X f r') : OpR X f (fun x y H Q => r x y H Q ∨ r' x y H Q) := fun pins s σ H x y u v Q I rx ry q => q.elim (h pins s σ H x y u v Q I rx ry) (h' pins s σ H x y u v Q I rx ry)
end
/-! ### a list or a tuple -/
def Sq (H : Hp) (l : Addr) (us : List V) : Prop := H l = some (.lst us) ∨ H l = some (.tup us)
section
variable {K : PySem.W.Frag} {Z : Zn} {σ : L2.St} {H H1 : Hp} {ta tb te : TE} {l : Addr} {us : List V} {n : Nat} {v : V} {w : List Str} {ws : List (List Str)}
theorem sq_ex (e : Ex H H1) (h : Sq H l us) : Sq H1 l us := h.imp (e _ _) (e _ _)
theorem sq_R (r : R Z H H1) (n : ¬ Z.M l) (h : Sq H l us) : Sq H1 l us := h.imp (fun h => r.lst h n) r.tup
theorem sq_ty (h : Sq H l us) : ∃ t, TyX K H (.ref l) (.type t) ∧ PySem.W.kitAny K (.type t) [.type "list", .type "tuple"] = some true := by
  rcases h with h1 | h1
  · exact ⟨"list", .base (.lst h1), rfl⟩
  · exact ⟨"tuple", tyx_tup (SqT.of h1), rfl⟩
theorem ev_lenQ (ha : Ev te σ H (.ref l)) (h : Sq H l us) : Ev (tCB (rLenS K) (tCons te tNil)) σ H (.int (us.length : Int)) := fun H1 e Q q =>
  ha H1 e _ fun H2 e2 => ⟨l, us, rfl, (sq_ex (e.trans e2) h).imp SqL.of SqT.of, q H2 e2⟩
def EvQ (te : TE) (σ : L2.St) (H : Hp) (us : List V) : Prop := ∀ H1, Ex H H1 → ∀ Q : VK, (∀ l H2, Ex H1 H2 → Sq H2 l us → Q (.ref l) H2) → te σ H1 Q
theorem eq_var (h : Ev te σ H (.ref l)) (hl : Sq H l us) : EvQ te σ H us := fun H1 e Q q => h H1 e _ fun H2 e2 => q l H2 e2 (sq_ex (e.trans e2) hl)
def rSlQ (K : PySem.W.Frag) : V → Option Int → Option Int → Hp → VK → Prop := fun x lo hi H Q => rSlL K x lo hi H Q ∨ rSlA K x lo hi H Q
theorem sl_seqK {X : Cx} (h : X.K = K := by rfl) : SlR X (rSlQ K) := by
  subst h
  exact SlR.or sl_list sl_tupA
theorem eq_take {to th : TO} (ha : EvQ ta σ H us) (h1 : EvO to σ H none) (h2 : EvO th σ H (some (n : Int))) (hn : n ≤ us.length) : EvQ (tSl (rSlQ K) ta to th) σ H (us.take n) := fun H1 e Q q =>
  ha H1 e _ fun l H2 e2 hl => h1 H2 (e.trans e2) _ fun H3 e3 => h2 H3 ((e.trans e2).trans e3) _ fun H4 e4 => by
    have e14 := (e2.trans e3).trans e4
    rcases sq_ex (e3.trans e4) hl with hx | hx
    · refine .inl ⟨l, us, rfl, SqL.of hx, fun p hp => ?_⟩
      rw [cut_to us n hn]
      exact q p _ (e14.trans (Ex.new hp)) (.inl upd_same)
    · refine .inr ⟨l, us, rfl, SqT.of hx, fun z => ?_, fun z p hp => ?_⟩
      · have z2 : HT.sIx us.length us.length (some (n : Int)) = us.length := z.2
        rw [HT.sIx_nat, Nat.min_eq_left hn] at z2
        rw [z2, List.take_length] at q
        exact q l H4 e14 (.inr hx)
      · rw [cut_to us n hn]
        exact q p _ (e14.trans (Ex.new hp)) (.inr upd_same)
/-- x in a list or a tuple -/
def rInQ (K : PySem.W.Frag) : R2 := fun x y H Q => ∃ d ds, Dp K H x d ∧ (Dp K H y (.list ds) ∨ Dp K H y (.tuple ds)) ∧ SeqAt.shaped d = true ∧ SeqAt.shaped (.list ds) = true ∧ Q (.bl (ds.any fun z => PyData.eqv z d)) H
theorem op_inQ {X : Cx} (hu : X.A.units + 65 < cLine) (h : X.K = K := by rfl) : OpR X (compareOp .In) (rInQ K) := by
  subst h
  intro pins s σ H x y v u Q I rx ry h
  obtain ⟨d, ds, hd, he, sd, se, q⟩ := h
  obtain ⟨as, r1⟩ := Dp.reads I d x v hd rx
  rcases he with he | he
  · obtain ⟨bs, r2⟩ := Dp.reads I (.list ds) y u he ry
    exact SeqAt.in_list_reads r2 r1 (SeqAt.canLay_of_shaped se) (SeqAt.canLay_of_shaped sd) (room_in_shaped sd hu) ⟨.bl _, H, I, rfl, q⟩
  · obtain ⟨bs, r2⟩ := Dp.reads I (.tuple ds) y u he ry
    exact SeqAt.in_tuple_reads r2 r1 (SeqAt.canLay_of_shaped se) (SeqAt.canLay_of_shaped sd) (room_in_shaped sd hu) ⟨.bl _, H, I, rfl, q⟩
theorem dp_sq (h : Sq H l us) (hp : Paired (Wd K H) us ws) : Dp K H (.ref l) (.list (ws.map wD)) ∨ Dp K H (.ref l) (.tuple (ws.map wD)) := h.imp (fun h => .lst (SqL.of h) (dpa_words hp)) fun h => .tup (SqT.of h) (dpa_words hp)
theorem ev_inQ (ha : Ev ta σ H v) (hb : EvQ tb σ H us) (hv : Wd K H v w) (hp : Paired (Wd K H) us ws) (hw : isW w = true) (hws : ∀ u ∈ ws, isW u = true) : Ev (tOp (rInQ K) ta tb) σ H (.bl (decide (w ∈ ws))) := fun H1 e Q q =>
  ha H1 e _ fun H2 e2 => hb H2 (e.trans e2) _ fun l H3 e3 hl => by
    have e13 := e2.trans e3
    refine ⟨wD w, ws.map wD, dp_word (wd_mono (e.trans e13) hv), dp_sq hl (paired_mono (fun _ _ r => wd_mono (e.trans e13) r) hp), shaped_wD hw, shaped_wDs hws, ?_⟩
    rw [any_wD]
    exact q H3 e13
/-! ### sorted(texts, key=str) -/
def rSortStr (K : PySem.W.Frag) : List V → List V → Hp → VK → Prop := fun vs zs H Q => ∃ (a : Addr) (xs : List Str), vs = [.ref a] ∧ zs = [.ty "str"] ∧ SqL K H a (xs.map V.str) ∧ xs.length ≤ 100000 ∧
  ∀ p, H p = none → Q (.ref p) (upd H p (.lst ((xs.mergeSort (PySem.W.dataLe false PyData.str)).map V.str)))
def SR (v : Value) (x : Str) : Prop := ∃ t, v = Value.str x t
theorem sr_of : ∀ {xs : List Str} {vs : List Value}, Vals (xs.map V.str) vs → PySem.W.EachIs SR vs xs
  | [], _, .nil => .nil
  | _ :: _, _, .cons r t => .cons r (sr_of t)
theorem sr_back : ∀ {xs : List Str} {vs : List Value}, PySem.W.EachIs SR vs xs → Vals (xs.map V.str) vs
  | _, _, .nil => .nil
  | _, _, .cons r t => .cons r (sr_back t)
theorem ksk_ty (a : Addr) : Builtin.«list.sort» ⟨[.ref a], [(Str.ofString "key", .type "str")]⟩ = PyProof.Rows.ksk_tree a (.type "str") false := rfl
theorem cr_sortStr {X : Cx} (hu : X.A.units + 64 < cLine) (h : X.K = K := by rfl) : CallRK X (.builtin "sorted") [Str.ofString "key"] (rSortStr K) := by
  subst h
  intro pins s σ H vs zs us ws Q I r rz h
  obtain ⟨a, xs, rfl, rfl, hs, hz, q⟩ := h
  obtain rfl := Vals.ref1 r
  obtain ⟨w1, rfl, e1⟩ := vals1 rz
  obtain rfl : w1 = Value.type "str" := e1
  obtain ⟨its, rv, hl, hz2⟩ := I.list hs
  refine PySem.W.sorted_key_data (R := SR) (b := false) PyData.str hl.isList (sr_of rv) (fun d hd e he => ?_) (.inr fun d hd => ?_) (sz_of hz) (fun x _ => by simp only [PyData.depth]; omega) (PyProof.Rows.ksk_s1 _ _) (fun _ => PyProof.Rows.ksk_l1 _ _) (fun a => ksk_ty a)
    (fun v x r _ h3 tk kp => ?_) (fun out cnt h3 tk kp fr hD len eo => ?_)
  · obtain ⟨x, _, rfl⟩ := List.mem_map.mp hd
    obtain ⟨y, _, rfl⟩ := List.mem_map.mp he
    rfl
  · obtain ⟨x, _, rfl⟩ := List.mem_map.mp hd
    exact ⟨(fun z => nomatch z), (fun xs z => nomatch z)⟩
  · obtain ⟨t, rfl⟩ := r
    refine PySem.P.str_of_str (h := ?_)
    exact ⟨h3, tk, rfl, fun _ _ e => e, .str x t⟩
  · have v2 := sr_back eo
    have hn : H (s.heap.objs.size + 1) = none := I.hok.fresh (Nat.le_succ _)
    have l2 : ((xs.mergeSort (PySem.W.dataLe false PyData.str)).map V.str).length ≤ sizeLine := by
      rw [List.length_map, List.length_mergeSort]
      exact sz_of hz
    exact ⟨.ref _, upd H (s.heap.objs.size + 1) (.lst _), I.laid (t' := tk) kp (Nat.le_succ _) ⟨l2, out, cnt, v2, hD⟩, rfl, q _ hn⟩
/-! ### repr of None -/
theorem call_repr_non {X : Cx} : CallR X (.builtin "repr") (fun xs H Q => xs = [.non] ∧ Q (.str "None") H) := by
  intro pins s σ H xs us Q I r h
  obtain ⟨rfl, q⟩ := h
  obtain ⟨u, rfl, e⟩ := vals1 r
  obtain rfl : u = Value.none := e
  exact PySem.P.repr_of_none ⟨.str _, H, I.tok _, ⟨_, rfl⟩, q⟩
end
end Tk
namespace Tk
open PySem PySem.Spec PyProof.Rows L2 Lw Evl LamX TL
open Rm (R Ok Z0 Zp Fr fr_none fr_ne nt_lst nt_tup nt_dK NT Zn)
/-! ### the package's words: what their defs promise -/
def spLetter (K : PySem.W.Frag) : Sp := fun vs H Q _ => ∃ (v : V) (b : Bool), vs = [v] ∧ LB K H v b ∧ ∀ H', Ex H H' → Q (.bl b) H'
def spWord (K : PySem.W.Frag) : Sp := fun vs H Q _ => ∃ (v : V) (b : Bool), vs = [v] ∧ WB K H v b ∧ ∀ H', Ex H H' → Q (.bl b) H'
/-- is_list of any value -/
def spIsList (K : PySem.W.Frag) : Sp := fun vs H Q _ => ∃ (v : V) (t : String) (b : Bool), vs = [v] ∧ TyX K H v (.type t) ∧ PySem.W.kitAny K (.type t) [.type "list", .type "tuple"] = some b ∧ ∀ H', Ex H H' → Q (.bl b) H'
/-- in_order of any value -/
def spOrder (K : PySem.W.Frag) (T : List (Addr × Str)) (CS : Addr) : Sp := fun vs H Q E => ∃ v : V, vs = [v] ∧ Tabs T H ∧
  ((∃ t : String, TyX K H v (.type t) ∧ PySem.W.kitAny K (.type t) [.type "list", .type "tuple"] = some false ∧ Rz CS "position" .non H E) ∨
   (∃ (l : Addr) (us : List V) (bs : List Bool), v = .ref l ∧ (H l = some (.lst us) ∨ H l = some (.tup us)) ∧ us.length ≤ 1000 ∧ Paired (WB K H) us bs ∧
     (∀ i : Nat, bs[i]? = some false → (∀ j, j < i → bs[j]? = some true) → Rz CS "position" (.int (i : Int)) H E) ∧
     ((∀ b ∈ bs, b = true) → ∃ ws, Paired (Wd K H) us ws ∧ ∀ r H', Fr H r → R (Z0 T) H H' → LW K H' r (srtW ws) → Q (.ref r) H')))
section
variable {K : PySem.W.Frag} {Z : Zn} {σ : L2.St} {H H1 : Hp} {te : TE} {v u : V} {b : Bool} {l : Addr} {us : List V} {ws : List (List Str)} {TT : List (Addr × Str)} {CS : Addr} {E : XK} {Q : VK} {m : Nat}
theorem ev_letter (h : Ev te σ H v) (hb : LB K H v b) : Ev (tCall (spLetter K) [] E0 (tCons te tNil)) σ H (.bl b) := ev_call (ea_cons h ea_nil) fun H1 e Q q E => ⟨v, b, rfl, lb_mono e hb, q⟩
theorem ev_word (h : Ev te σ H v) (hb : WB K H v b) : Ev (tCall (spWord K) [] E0 (tCons te tNil)) σ H (.bl b) := ev_call (ea_cons h ea_nil) fun H1 e Q q E => ⟨v, b, rfl, wbv_mono e hb, q⟩
theorem ev_isList {t : String} (h : Ev te σ H v) (ht : TyX K H v (.type t)) (hc : PySem.W.kitAny K (.type t) [.type "list", .type "tuple"] = some b) : Ev (tCall (spIsList K) [] E0 (tCons te tNil)) σ H (.bl b) := ev_call (ea_cons h ea_nil) fun H1 e Q q E => ⟨v, t, b, rfl, tyx_mono e ht, hc, q⟩
theorem ord_bad {rest : List Bool} (hu : Sq H l us) (ht : Tabs TT H) (hl : us.length ≤ 1000) (hp : Paired (WB K H) us (List.replicate m true ++ false :: rest)) (x : Rz CS "position" (.int (m : Int)) H E) : spOrder K TT CS [.ref l] H Q E :=
  ⟨_, rfl, ht, .inr ⟨l, us, _, rfl, hu, hl, hp, fun i hi pr => by rw [rep_first hi pr]; exact x, fun all => by
    have z := all false (List.mem_append_right _ (List.mem_cons_self ..))
    cases z⟩⟩
theorem ord_good (hu : Sq H l us) (ht : Tabs TT H) (hl : us.length ≤ 1000) (hp : Paired (Wd K H) us ws) (hw : ∀ x ∈ ws, isW x = true) (k : ∀ r H', Fr H r → R (Z0 TT) H H' → LW K H' r (srtW ws) → Q (.ref r) H') : spOrder K TT CS [.ref l] H Q E := by
  have all : Paired (WB K H) us (List.replicate us.length true) := by
    refine paired_rep fun v hv => ?_
    obtain ⟨i, hi, rfl⟩ := List.getElem_of_mem hv
    obtain ⟨y, hy, r⟩ := paired_at hp (List.getElem?_eq_getElem hi)
    exact wb_word r (hw y (List.mem_of_getElem? hy))
  have no : ∀ i : Nat, (List.replicate us.length true)[i]? = some false → False := fun i hi => by
    rw [List.getElem?_replicate] at hi
    split at hi <;> cases hi
  exact ⟨_, rfl, ht, .inr ⟨l, us, _, rfl, hu, hl, all, (fun i hi _ => (no i hi).elim), fun _ => ⟨ws, hp, k⟩⟩⟩
theorem ord_odd {ty : String} (h : TyX K H v (.type ty)) (hk : PySem.W.kitAny K (.type ty) [.type "list", .type "tuple"] = some false) (ht : Tabs TT H) (x : Rz CS "position" .non H E) : spOrder K TT CS [v] H Q E := ⟨_, rfl, ht, .inl ⟨ty, h, hk, x⟩⟩
theorem wb_of_word (h : WB K H v b) {y : List Str} (hv : Wd K H v y) (hw : isW y = true) : Wd K H v y := hv
/-- a list of words is no pot -/
theorem lw_nm (o : Ok Z H) (h : LW K H l ws) : ¬ Z.M l := fun m => by
  obtain ⟨i, j, q, _⟩ := o.2 l m
  obtain ⟨us, h1, h2⟩ := h
  rw [q] at h1
  cases h1
  cases h2 with
  | cons r _ =>
    obtain ⟨a, e, _⟩ := r
    cases e
theorem lw_RO (r : R Z H H1) (h : LW K H l ws) : LW K H1 l ws := Rm.lw_R r (lw_nm r.a h) h
/-! ### the words put in order -/
theorem srtW_nodup (ws : List (List Str)) : (srtW ws).Nodup := by
  refine List.Pairwise.imp (fun {a b} h => ?_) (srtW_sd ws)
  intro e
  rw [e, ahead_irr] at h
  cases h
theorem srtW_isW (h : ∀ w ∈ ws, isW w = true) : ∀ w ∈ srtW ws, isW w = true := fun w hw => h w (srtW_mem.mp hw)
theorem srtW_pos (h : 1 ≤ ws.length) : 1 ≤ (srtW ws).length := by
  cases ws with
  | nil => cases h
  | cons w ws =>
    have z : w ∈ srtW (w :: ws) := srtW_mem.mpr (List.mem_cons_self ..)
    exact List.length_pos_of_mem z
end
end Tk
namespace K20
open PySem PySem.Spec PyProof.Rows L2 Lw Evl LamX Tk
open Rm (R Ok Z0 Zp Fr)
open LwX (XC XF)
def topS (i : Nat) : Stmt := PySem.Challenge.pw_wakesayings_k20_sayings_refused.main.body.getD i (.Pass ⟨0, 0, 0, 0⟩)
structure Tx (P : Program) (w : World) (K : PySem.W.Frag) (mg : Str → Option Value) (base : Heap) : Prop where
  m_len : mg "len" = none
  m_range : mg "range" = none
  m_abs : mg "abs" = none
  m_max : mg "max" = none
  m_min : mg "min" = none
  m_int : mg "int" = none
  m_divmod : mg "divmod" = none
  m_all : mg "all" = none
  m_isinstance : mg "isinstance" = none
  m_enumerate : mg "enumerate" = none
  m_repr : mg "repr" = none
  m_list : mg "list" = none
  m_tuple : mg "tuple" = none
  m_sorted : mg "sorted" = none
  m_str : mg "str" = none
  m_dict : mg "dict" = none
  g_MOST_SIGNS : ∃ t, mg "MOST_SIGNS" = some (.int 8 t)
  g_MOST_IN_WORD : ∃ t, mg "MOST_IN_WORD" = some (.int 3 t)
section
variable {P : Program} {w : World} {K : PySem.W.Frag} {mg : Str → Option Value} {base : Heap}
abbrev s_draw : Stmt := topS 22
theorem sc_draw : FnScope ["_law_pot_here", "_law_sides", "_law_digit"] ["_law_pot_here", "_law_sides"] (defScope s_draw) := ⟨rfl, rfl, rfl, by decide +kernel, rfl, by decide +kernel, by decide +kernel⟩
theorem ok_draw {f : Addr} {fd : FuncData} (F : FunD K "_law_draw" "_law_draw" (defArgs s_draw) (defBody s_draw) (defScope s_draw) [] [] f fd) (T : Tx P w K mg base)  : FnG P w K mg base CX0 1 f fd ["_law_pot_here", "_law_sides"] spDraw := by
  refine fnG F sc_draw (fun vs H Q E h => ?_) (fun cdv A outer s H vs Q E gd hr h => ?_)
  · obtain ⟨p, n, rfl, _⟩ := h
    rfl
  · skip
    refine ⟨_, PSs.nox ((pss_cons (ps_if (pt_cmpR op_gt (pe_ix (ix_listK (K := K)) (pv 0) pe_int (fun _ _ => rfl)) pe_int (nomark _)) (pss_cons (ps_asg (pe_callB call_divmod (by rfl) T.m_divmod (by decide +kernel) (pa_cons (pe_ix (ix_listK (K := K)) (pv 0) pe_int (fun _ _ => rfl)) (pa_cons (pv 1) pa_nil))) (pg_tup (n := 2) rfl (pgs_cons (pg_sub (pv 0) pe_int set_list) (pgs_cons (pg_name (i := 2) sc_draw.nd rfl (by first | exact Or.inl rfl | exact Or.inr rfl)) pgs_nil))))
      (pss_one (ps_ret (pv 2)))) pss_nil)
      (pss_cons (ps_asg (pe_op op_mod (pe_callTy call_int1 (by rfl) T.m_int (by decide +kernel) (pa_cons (pe_op op_add (pe_op op_mul (pe_ix (ix_listK (K := K)) (pv 0) pe_int (fun _ _ => rfl)) pe_int) pe_int) pa_nil)) pe_int) (pg_sub (pv 0) pe_int set_list))
      (pss_one (ps_ret (pe_op op_mod (pe_callTy call_int1 (by rfl) T.m_int (by decide +kernel) (pa_cons (pe_op op_fdiv (pe_op op_mod (pe_callTy call_int1 (by rfl) T.m_int (by decide +kernel) (pa_cons (pe_op op_mul (pe_ix (ix_listK (K := K)) (pv 0) pe_int (fun _ _ => rfl)) (pe_ix (ix_listK (K := K)) (pv 0) pe_int (fun _ _ => rfl))) pa_nil)) pe_int) pe_int) pa_nil)) (pv 1))))))), ?_⟩
    obtain ⟨p, n, rfl, ⟨i, j, e, i0, j0, j1⟩, hn, hn2, q⟩ := h
    refine ⟨_, rfl, p, _, _, _, rfl, rfl, SqL.of e, rfl, _, _, rfl, rfl, _, rfl, ite2 (fun hc => ?_) (fun hc => ?_)⟩
    · have ci : 0 < i := of_decide_eq_true hc
      refine ⟨_, rfl, p, _, _, _, rfl, rfl, SqL.of e, rfl, _, rfl, _, _, rfl, ⟨hn, hn2⟩, fun t ht => ?_⟩
      have e1 : (upd H t (.tup [.int (i / n), .int (i % n)])) p = some (.lst [.int i, .int j]) := by
        rw [upd_ne (ne_of_none e ht)]
        exact e
      refine ⟨t, _, rfl, SqT.of upd_same, rfl, _, _, rfl, _, rfl, p, _, 0, 0, rfl, rfl, e1, rfl, _, _, rfl, rfl, _, rfl, ?_⟩
      refine q _ _ (Int.emod_nonneg _ (by omega)) (Int.emod_lt_of_pos _ hn) ⟨fun a o na ea => ?_, i / n, j, upd_same, Int.ediv_nonneg i0 (by omega), j0, j1⟩
      rw [upd_ne na, upd_ne (ne_of_none ea ht)]
      exact ea
    · refine ⟨_, rfl, p, _, _, _, rfl, rfl, SqL.of e, rfl, _, _, rfl, rfl, .inr ⟨by decide, by decide⟩, _, _, rfl, rfl, .inl ⟨_, rfl, _, _, rfl, rfl, (by show (0 : Int) < 2147483579; decide), _, rfl, p, _, 1, 1, rfl, rfl, e, rfl, ?_⟩⟩
      have e1 : ∀ k : Int, (upd H p (.lst [.int i, .int k])) p = some (.lst [.int i, .int k]) := fun k => upd_same
      have b0 : 0 ≤ (j * 48731 + 12007) % 2147483579 := Int.emod_nonneg _ (by decide)
      have b1 : (j * 48731 + 12007) % 2147483579 < 2147483579 := Int.emod_lt_of_pos _ (by decide)
      refine ⟨_, rfl, p, _, _, _, rfl, rfl, SqL.of (e1 _), rfl, _, rfl, p, _, _, _, rfl, rfl, SqL.of (e1 _), rfl, _, _, rfl, rfl, .inl ⟨by omega, by omega⟩, .inl ⟨_, rfl, _, _, rfl, rfl, (by show (0 : Int) < 2147483549; decide), _, _, rfl, rfl, ⟨by decide, by decide⟩, .inl ⟨_, rfl, _, rfl, _, _, rfl, rfl, hn, ?_⟩⟩⟩
      refine q _ _ (Int.emod_nonneg _ (by omega)) (Int.emod_lt_of_pos _ hn) ⟨fun a o na ea => ?_, i, _, upd_same, i0, b0, by omega⟩
      rw [upd_ne na]
      exact ea

abbrev s_pot : Stmt := topS 21
theorem sc_pot : FnScope ["_law_script", "_law_at", "_law_cell"] ["_law_script", "_law_at"] (defScope s_pot) := ⟨rfl, rfl, rfl, by decide +kernel, rfl, by decide +kernel, by decide +kernel⟩
theorem ok_pot {f : Addr} {fd : FuncData} (F : FunD K "_law_pot" "_law_pot" (defArgs s_pot) (defBody s_pot) (defScope s_pot) [] [] f fd) (T : Tx P w K mg base)  : FnG P w K mg base CX0 1 f fd ["_law_script", "_law_at"] (spPot K) := by
  refine fnG F sc_pot (fun vs H Q E h => ?_) (fun cdv A outer s H vs Q E gd hr h => ?_)
  · obtain ⟨a, ns, k, rfl, _⟩ := h
    rfl
  · skip
    refine ⟨_, PSs.nox ((pss_cons (ps_set (i := 2) sc_pot.nd rfl (by first | exact Or.inl rfl | exact Or.inr rfl) (pe_op op_add (pe_op op_mul pe_int (pv 1)) pe_int))
      (Evl.pss_cut (ps_if (pt_cmpR op_lt (pv 1) (pe_callB (call_lenK (K := K)) (by rfl) T.m_len (by decide +kernel) (pa_cons (pv 0) pa_nil)) (nomark _)) (pss_one (ps_set (i := 2) sc_pot.nd rfl (by first | exact Or.inl rfl | exact Or.inr rfl) (pe_callB call_abs (by rfl) T.m_abs (by decide +kernel) (pa_cons (pe_ix (ix_listK (K := K)) (pv 0) (pv 1) (fun _ _ => rfl)) pa_nil)))) pss_nil)
      (pss_one (ps_ret (pe_lst (pa_cons (pe_callB (call_max2 rfl) (by rfl) T.m_max (by decide +kernel) (pa_cons pe_int (pa_cons (pe_op op_sub (pv 2) (pe_op op_pow pe_int pe_int)) pa_nil))) (pa_cons (pe_op op_add (pe_op op_mod (pe_op op_mul (pe_callTy call_int1 (by rfl) T.m_int (by decide +kernel) (pa_cons (pe_op op_add (pe_op op_mod (pe_callTy call_int1 (by rfl) T.m_int (by decide +kernel) (pa_cons (pv 2) pa_nil)) pe_int) pe_int) pa_nil)) (pe_op op_pow (pe_op op_add (pe_op op_mul pe_int (pv 1)) pe_int) pe_int)) pe_int) pe_int) pa_nil)))))))), ?_⟩
    obtain ⟨a, ns, k, rfl, hS, hn, k0, k1, q⟩ := h
    refine ⟨_, rfl, _, _, rfl, rfl, .inr ⟨by omega, by omega⟩, _, _, rfl, rfl, ?_⟩
    refine ⟨fun σ' H' => ∃ c : Int, 0 ≤ c ∧ σ' = [some (.ref a), some (.int k), some (.int c)] ∧ H' = H, ?_, ?_⟩
    · refine ⟨_, rfl, _, rfl, a, _, rfl, .inl hS, _, _, rfl, rfl, _, rfl, ite2 (fun hc => ?_) (fun _ => ⟨43 * k + 17, by omega, rfl, rfl⟩)⟩
      have hk : k < ((ns.map V.int).length : Int) := of_decide_eq_true hc
      obtain ⟨m, rfl⟩ := Int.eq_ofNat_of_zero_le k0
      have hm : m < (ns.map V.int).length := by omega
      have hm' : m < ns.length := by rw [List.length_map] at hm; exact hm
      have g : atI (ns.map V.int) (m : Int) = some (.int ns[m]) := by
        refine atI_nat ?_
        rw [List.getElem?_map, List.getElem?_eq_getElem hm']
        rfl
      refine ⟨_, rfl, _, rfl, a, _, _, _, rfl, rfl, hS, g, _, rfl, _, ?_, rfl, rfl⟩
      split <;> omega
    · rintro σ' H' ⟨c, c0, rfl, rfl⟩
      have b1 : 0 ≤ (c % 2147483543 + 11) * (2 * k + 5) ^ (3 : Int).toNat % 2147483477 := Int.emod_nonneg _ (by decide)
      have b2 : (c % 2147483543 + 11) * (2 * k + 5) ^ (3 : Int).toNat % 2147483477 < 2147483477 := Int.emod_lt_of_pos _ (by decide)
      have b3 := Int.emod_lt_of_pos c (b := 2147483543) (by decide)
      have b4 := Int.emod_nonneg c (b := 2147483543) (by decide)
      refine ⟨_, rfl, _, _, rfl, rfl, ⟨by decide, by decide, by decide⟩, _, _, rfl, rfl, _, _, rfl, ?_⟩
      refine ⟨_, rfl, .inl ⟨_, rfl, _, _, rfl, rfl, (by show (0 : Int) < 2147483543; decide), _, _, rfl, rfl, .inl ⟨_, rfl, _, rfl, _, _, rfl, rfl, .inr ⟨by omega, by omega⟩, _, _, rfl, rfl, ?_⟩⟩⟩
      refine ⟨_, _, rfl, rfl, ⟨by decide, by decide, by omega⟩, _, _, rfl, rfl, .inl ⟨by omega, by omega⟩, _, _, rfl, rfl, (by show (0 : Int) < 2147483477; decide), _, _, rfl, rfl, (by show 2 ≤ sizeLine; decide), fun p hp => ?_⟩
      refine q _ _ hp (fun b o e => by rw [upd_ne (ne_of_none e hp)]; exact e) ⟨_, _, upd_same, ?_, by omega, by omega⟩
      split <;> omega

end
end K20
namespace K20
open PySem PySem.Spec PyProof.Rows L2 Lw Evl LamX Tk
open Rm (R Ok Z0 Zp Fr fr_none)
open LwX (XC XF)
section
variable {P : Program} {w : World} {K : PySem.W.Frag} {mg : Str → Option Value} {base : Heap}
abbrev s_is_letter : Stmt := topS 12
theorem sc_is_letter : FnScope ["value", "sign"] ["value"] (defScope s_is_letter) := ⟨rfl, rfl, rfl, by decide +kernel, rfl, by decide +kernel, by decide +kernel⟩
theorem ok_is_letter {f : Addr} {fd : FuncData} (F : FunD K "is_letter" "is_letter" (defArgs s_is_letter) (defBody s_is_letter) (defScope s_is_letter) [] [] f fd) (T : Tx P w K mg base)  : FnOk P w K mg base CX0 1 f fd ["value"] (spLetter K) := by
  refine fnO F sc_is_letter (fun vs H Q E h => ?_) (fun cdv A outer s H vs Q E hr h => ?_)
  · obtain ⟨v, b, rfl, _⟩ := h
    rfl
  · skip
    refine ⟨_, PSs.nox ((pss_cons (ps_if (PW.pt (pw_or (pt_not (pt_val (pe_callB (call_isiK1 (K := K)) (by rfl) T.m_isinstance (by decide +kernel) (pa_cons (pv 0) (pa_cons (pe_bltn (v := .ty "str") (by rfl) T.m_str (by decide +kernel) rfl) pa_nil))))) (pw_or1 (pt_not (pt_chain op_le op_le pe_int (pe_callB call_len_str (by rfl) T.m_len (by decide +kernel) (pa_cons (pv 0) pa_nil)) (pe_glob (v := .int 8) (by rfl) T.g_MOST_SIGNS.choose_spec ⟨_, rfl⟩)))))) (pss_one (ps_ret pe_bl)) pss_nil)
      (pss_one (ps_ret (pe_callB (cr_allK (K := K)) (by rfl) T.m_all (by decide +kernel) (pa_cons (pe_lc (own := [("sign", 1)]) (g := gName 1) (tt := tYes) rfl sc_is_letter.nd (pi_str (pv 0)) (blkOk_by (own := [("sign", 1)]) (N := ["value", "sign"]) (sc := defScope s_is_letter) (by decide +kernel)) (fun _ _ _ _ _ => pg_name (i := 1) sc_is_letter.nd rfl (by first | exact Or.inl rfl | exact Or.inr rfl)) (fun _ _ _ _ _ => pts_nil) (fun _ _ _ _ _ => (pe_chain op_le_str op_le_str pe_str (pv 1) pe_str))) pa_nil)))))), ?_⟩
    obtain ⟨v, b, rfl, hb, q⟩ := h
    cases hb with
    | str s hs =>
      have e1 : isL s = ((decide ((1 : Int) ≤ (s.length : Int)) && decide ((s.length : Int) ≤ 8)) && s.cps.toList.all fun c => decide (97 ≤ c) && decide (c ≤ 122)) := by
        rw [isL_app0]
        congr 1
        congr 1
        · exact decide_eq_decide.mpr (by omega)
        · exact decide_eq_decide.mpr (by omega)
      refine q_when (b := !true || !(decide ((1 : Int) ≤ (s.length : Int)) && decide ((s.length : Int) ≤ 8))) (et_or (et_not (et_B (ev_isi (ev_var rfl) (fun _ _ => .base (.str s)) rfl))) (fun _ => et_not (et_chainI ev_c (ev_lenS (ev_var rfl) hs) ev_c))) (fun z H1 e => ?_) (fun z H1 e => ?_)
      · refine s_ret ev_c fun H2 e2 => ?_
        have : isL s = false := by
          rw [e1]
          cases q : (decide ((1 : Int) ≤ (s.length : Int)) && decide ((s.length : Int) ≤ 8)) with
          | false => rfl
          | true =>
            rw [q] at z
            cases z
        rw [← this]
        exact q H2 (e.trans e2)
      · have hc : (decide ((1 : Int) ≤ (s.length : Int)) && decide ((s.length : Int) ≤ 8)) = true := by
          cases q : (decide ((1 : Int) ≤ (s.length : Int)) && decide ((s.length : Int) ≤ 8)) with
          | true => rfl
          | false =>
            rw [q] at z
            cases z
        have e2 : isL s = (s.cps.toList.map fun c => decide (97 ≤ c) && decide (c ≤ 122)).all id := by
          rw [e1, hc, List.all_map]
          rfl
        refine s_ret (ev_all (bs := s.cps.toList.map fun c => decide (97 ≤ c) && decide (c ≤ 122)) (el_lcS (fun i => .bl ((fun c => decide (97 ≤ c) && decide (c ≤ 122)) (s.cps.toList.getD i 0))) (ev_var rfl) (by have := len_cps s; have h8 := of_decide_eq_true (Bool.and_eq_true_iff.mp hc).2; simp only [Array.length_toList] at this; omega) (fun _ => rfl) (fun i c H2 e2 hc2 => ?_)) ?_) fun H2 e3 => ?_
        · have z := ev_chainS (σ := (wipe (L2.start [Str.ofString "value", Str.ofString "sign"] [V.str s]) (List.map (fun x => x.snd) [(Str.ofString "sign", 1)])).set 1 (some (.str ⟨#[c]⟩))) (H := H2) (ta := tC (.str "a")) (tb := tVar 1) (tc := tC (.str "z")) (a := sgn 97) (b := sgn c) (c := sgn 122) ev_c (ev_var rfl) ev_c
          rw [leS_sgn, leS_sgn] at z
          have hg : s.cps.toList.getD i 0 = c := by
            rw [List.getD_eq_getElem?_getD, Array.getElem?_toList, hc2]
            rfl
          show Ev _ _ _ (V.bl (decide (97 ≤ s.cps.toList.getD i 0) && decide (s.cps.toList.getD i 0 ≤ 122)))
          rw [hg]
          exact z
        · have z := range_get s.cps.toList 0 (fun c => V.bl (decide (97 ≤ c) && decide (c ≤ 122)))
          rw [Array.length_toList] at z
          rw [List.map_map]
          exact z
        · rw [← e2]
          exact q H2 (e.trans e3)
    | oth ht hn =>
      refine q_when (b := !false || false) (et_or (et_not (et_B (ev_isi (ev_var rfl) (fun _ e => tyx_mono e ht) hn))) (fun z => by cases z)) (fun _ H1 e => ?_) (fun z => by cases z)
      exact s_ret ev_c fun H2 e2 => q H2 (e.trans e2)

abbrev s_is_word : Stmt := topS 13
theorem sc_is_word : FnScope ["value", "part"] ["value"] (defScope s_is_word) := ⟨rfl, rfl, rfl, by decide +kernel, rfl, by decide +kernel, by decide +kernel⟩
theorem ok_is_word {f : Addr} {fd : FuncData} (F : FunD K "is_word" "is_word" (defArgs s_is_word) (defBody s_is_word) (defScope s_is_word) [] [] f fd) (T : Tx P w K mg base) (dis_letter : CalO P w K mg base CX0 1 "is_letter" ["value"] (spLetter K)) : FnOk P w K mg base CX0 2 f fd ["value"] (spWord K) := by
  refine fnO F sc_is_word (fun vs H Q E h => ?_) (fun cdv A outer s H vs Q E hr h => ?_)
  · obtain ⟨v, b, rfl, _⟩ := h
    rfl
  · skip
    refine ⟨_, PSs.nox ((pss_cons (ps_if (PW.pt (pw_or (pt_not (pt_val (pe_callB (call_isiK1 (K := K)) (by rfl) T.m_isinstance (by decide +kernel) (pa_cons (pv 0) (pa_cons (pe_bltn (v := .ty "tuple") (by rfl) T.m_tuple (by decide +kernel) rfl) pa_nil))))) (pw_or1 (pt_cmpR op_gt (pe_callB (call_lenK (K := K)) (by rfl) T.m_len (by decide +kernel) (pa_cons (pv 0) pa_nil)) (pe_glob (v := .int 3) (by rfl) T.g_MOST_IN_WORD.choose_spec ⟨_, rfl⟩) (nomark _))))) (pss_one (ps_ret pe_bl)) pss_nil)
      (pss_one (ps_ret (pe_callB (cr_allK (K := K)) (by rfl) T.m_all (by decide +kernel) (pa_cons (pe_lc (own := [("part", 1)]) (g := gName 1) (tt := tYes) rfl sc_is_word.nd (pi_tupK (K := K) (pv 0)) (blkOk_by (own := [("part", 1)]) (N := ["value", "part"]) (sc := defScope s_is_word) (by decide +kernel)) (fun _ _ _ _ _ => pg_name (i := 1) sc_is_word.nd rfl (by first | exact Or.inl rfl | exact Or.inr rfl)) (fun _ _ _ _ _ => pts_nil) (fun _ _ _ _ _ => (pe_calO dis_letter hr pass0 (pa_cons (pv 1) pa_nil)))) pa_nil)))))), ?_⟩
    obtain ⟨v, b, rfl, hb, q⟩ := h
    cases hb with
    | @tup a vs bs h ht hl hb =>
      refine q_when (b := !true || decide ((vs.length : Int) > 3)) (et_or (et_not (et_B (ev_isi (ev_var rfl) (fun _ e => tyx_mono e ht) rfl))) (fun _ => et_test (ev_op (ev_lenT (ev_var rfl) h) ev_c rv_I0))) (fun z H1 e => ?_) (fun z H1 e => ?_)
      · refine s_ret ev_c fun H2 e2 => ?_
        have h3 : ¬ vs.length ≤ 3 := by
          have z2 : decide ((vs.length : Int) > 3) = true := z
          have := of_decide_eq_true z2
          omega
        have z := q H2 (e.trans e2)
        rw [decide_eq_false h3] at z
        exact z
      · have h3 : vs.length ≤ 3 := by
          have z2 : decide ((vs.length : Int) > 3) = false := z
          have := of_decide_eq_false z2
          omega
        refine s_ret (ev_all (bs := bs) (el_lcT (fun i => .bl (bs.getD i false)) (ev_var rfl) (ex_t e h) hl (fun _ => rfl) (fun i x H2 e2 hx => ?_)) ?_) fun H2 e3 => ?_
        · obtain ⟨y, hy, r⟩ := paired_get hb hx
          have hg : bs.getD i false = y := by
            rw [List.getD_eq_getElem?_getD, hy]
            rfl
          show Ev _ _ _ (V.bl (bs.getD i false))
          rw [hg]
          exact ev_letter (ev_var rfl) (lb_mono (e.trans e2) r)
        · rw [Paired.length hb]
          exact range_get bs false V.bl
        · have z := q H2 (e.trans e3)
          rw [decide_eq_true h3] at z
          exact z
    | oth ht hn =>
      refine q_when (b := !false || false) (et_or (et_not (et_B (ev_isi (ev_var rfl) (fun _ e => tyx_mono e ht) hn))) (fun z => by cases z)) (fun _ H1 e => ?_) (fun z => by cases z)
      exact s_ret ev_c fun H2 e2 => q H2 (e.trans e2)

abbrev s_is_list : Stmt := topS 2
theorem sc_is_list : FnScope ["value"] ["value"] (defScope s_is_list) := ⟨rfl, rfl, rfl, by decide +kernel, rfl, by decide +kernel, by decide +kernel⟩
theorem ok_is_list {f : Addr} {fd : FuncData} (F : FunD K "is_list" "is_list" (defArgs s_is_list) (defBody s_is_list) (defScope s_is_list) [] [] f fd) (T : Tx P w K mg base)  : FnOk P w K mg base CX0 1 f fd ["value"] (spIsList K) := by
  refine fnO F sc_is_list (fun vs H Q E h => ?_) (fun cdv A outer s H vs Q E hr h => ?_)
  · obtain ⟨v, t, b, rfl, _⟩ := h
    rfl
  · skip
    refine ⟨_, PSs.nox ((pss_one (ps_ret (pe_callB (call_isiTK (K := K)) (by rfl) T.m_isinstance (by decide +kernel) (pa_cons (pv 0) (pa_cons (pe_tup (pa_cons (pe_bltn (v := .ty "list") (by rfl) T.m_list (by decide +kernel) rfl) (pa_cons (pe_bltn (v := .ty "tuple") (by rfl) T.m_tuple (by decide +kernel) rfl) pa_nil))) pa_nil)))))), ?_⟩
    obtain ⟨v, t, b, rfl, ht, hc, q⟩ := h
    refine ⟨_, rfl, (by show 2 ≤ sizeLine; decide), fun p hp => ?_⟩
    exact ⟨v, p, [.ty "list", .ty "tuple"], .type t, [.type "list", .type "tuple"], b, rfl, upd_same, .cons (.ty _) (.cons (.ty _) .nil), tyx_mono (Ex.new hp) ht, hc, q _ (Ex.new hp)⟩

variable {TT : List (Addr × Str)} {c0 P0 CS : Addr}
abbrev s_in_order : Stmt := topS 14
theorem sc_in_order : FnScope ["words", "position", "word", "different"] ["words"] (defScope s_in_order) := ⟨rfl, rfl, rfl, by decide +kernel, rfl, by decide +kernel, by decide +kernel⟩
theorem ok_in_order {f : Addr} {fd : FuncData} (F : FunD K "in_order" "in_order" (defArgs s_in_order) (defBody s_in_order) (defScope s_in_order) [] [] f fd) (T : Tx P w K mg base) (hC : CodeAt K f c0) (TB : TabB base mg c0 P0) (hmT : (P0, ("in_order.<locals>.<lambda>" : Str)) ∈ TT) (huT : ∀ z ∈ TT, z.1 = P0 → z.2 = ("in_order.<locals>.<lambda>" : Str)) (xInvalidWords : XRz P w K mg base 1 "InvalidWords" CS "position") (dis_list : CalO P w K mg base CX0 1 "is_list" ["value"] (spIsList K)) (dis_word : CalO P w K mg base CX0 2 "is_word" ["value"] (spWord K)) : FnOk P w K mg base (L2.CX P w) 3 f fd ["words"] (spOrder K TT CS) := by
  refine fnOc hC F sc_in_order (fun vs H Q E h => ?_) (fun A outer s H vs Q E hr h => ?_)
  · obtain ⟨v, rfl, _⟩ := h
    rfl
  · skip
    refine ⟨_, (pss_cons (ps_if (pt_not (pt_val (pe_calO dis_list hr pass0 (pa_cons (pv 0) pa_nil)))) (pss_one (ps_rz xInvalidWords hr rfl (takes_of rfl rfl rfl rfl) pe_non)) pss_nil)
      (pss_cons (ps_for (passes_of rfl) rfl (pi_enumSK (K := K) (by rfl) T.m_enumerate (pa_cons (pv 0) pa_nil)) (pg_tup (n := 2) rfl (pgs_cons (pg_name (i := 1) sc_in_order.nd rfl (by first | exact Or.inl rfl | exact Or.inr rfl)) (pgs_cons (pg_name (i := 2) sc_in_order.nd rfl (by first | exact Or.inl rfl | exact Or.inr rfl)) pgs_nil))) (pss_one (ps_if (pt_not (pt_val (pe_calO dis_word hr pass0 (pa_cons (pv 2) pa_nil)))) (pss_one (ps_rz xInvalidWords hr rfl (takes_of rfl rfl rfl rfl) (pv 1))) pss_nil)))
      (pss_cons (ps_setDcT (i := 3) (own := [("word", 2)]) (g := gName 2) (Nat.lt_of_le_of_lt (Nat.le_add_right _ 64) hr.units) rfl sc_in_order.nd rfl rfl (swD rfl rfl rfl (by decide +kernel)) (pi_seqS (K := K) (pv 0)) (blkOk_by (own := [("word", 2)]) (N := ["words", "position", "word", "different"]) (sc := defScope s_in_order) (by decide +kernel)) (fun _ _ _ _ _ => pg_name (i := 2) sc_in_order.nd rfl (Or.inl rfl)) (fun _ _ _ _ _ => (pv 2)) (fun _ _ _ _ _ => pe_bl))
      (pss_one (ps_ret (pe_sortRow (T := TT) (c := c0) (P := P0) (K := K) (by rfl) T.m_sorted T.m_len (pe_callTy (call_list_dT rfl) (by rfl) T.m_list (by decide +kernel) (pa_cons (pv 3) pa_nil)) TB rfl hmT huT hr.depth hr.units ⟨rfl, rfl, rfl, by decide +kernel, by decide +kernel, rfl, rfl⟩ rfl (by decide) (fun _ _ _ _ _ _ => rfl))))))), ?_⟩
    obtain ⟨v, rfl, ht, h⟩ := h
    rcases h with ⟨t, hty, hk, x⟩ | ⟨l, us, bs, rfl, hl, hz, hp, x, q⟩
    · exact q_when (b := !false) (et_not (et_B (ev_isList (ev_var rfl) hty hk))) (fun _ H1 e1 => rz_ex e1 x) (fun z => by cases z)
    obtain ⟨t, hty, hk⟩ : ∃ t, TyX K H (.ref l) (.type t) ∧ PySem.W.kitAny K (.type t) [.type "list", .type "tuple"] = some true := by
      rcases hl with h1 | h1
      · exact ⟨"list", .base (.lst h1), rfl⟩
      · exact ⟨"tuple", tyx_tup (SqT.of h1), rfl⟩
    refine q_when (b := !true) (et_not (et_B (ev_isList (ev_var rfl) hty hk))) (fun z => by cases z) fun _ H1 e1 => ?_
    have done : (∀ j, j < us.length → bs[j]? = some true) → ∀ b ∈ bs, b = true := fun h b hb => by
      obtain ⟨i, hi, rfl⟩ := List.getElem_of_mem hb
      have z := h i (by rw [Paired.length hp]; exact hi)
      rw [List.getElem?_eq_getElem hi] at z
      exact Option.some.inj z
    have fin : ∀ a b H2, Ex H H2 → (∀ b ∈ bs, b = true) → tSeq (tAsg (tDcT (iSeqS K (tVar 0)) (gName 2) (tVar 2) (tC (V.bl true)) [2]) (gName 3)) (tRet (tSortRow K TT P0 (tCB (fun xs H Q => ∃ d kvs, xs = [V.ref d] ∧ Rd H d (HO.dT kvs) ∧ ∀ (p : Addr) (bs : List Addr), H p = none → IsKeys H kvs bs → Q (V.ref p) (upd H p (HO.lst (List.map V.ref bs)))) (tCons (tVar 3) tNil)))) { nx := fun _ H' => Q .non H', rt := Q } [some (.ref l), a, b, none] H2 := fun a b H2 e2 all => by
      obtain ⟨ws, hws, q⟩ := q all
      have lz := Paired.length hws
      have sw : LW K H2 l ws ∨ TW K H2 l ws := hl.imp (fun h => ⟨us, e2 _ _ h, paired_mono (fun _ _ r => wd_mono e2 r) hws⟩) fun h => ⟨us, e2 _ _ h, paired_mono (fun _ _ r => wd_mono e2 r) hws⟩
      exact q_asgDc (K := K) (ws := ws) (i := 3) (j := 2) (σ := [some (.ref l), a, b, none]) (esw_either (ev_var rfl) sw) (by omega) (fun _ => rfl) (fun _ => rfl) fun D H3 hD e3 hd => ⟨_, rfl, D, dk (uniq ws), rfl, .inl hd, fun p bs hp hk => by
        have e4 : Ex H (upd H3 p (.lst (bs.map V.ref))) := (e2.trans e3).trans (Ex.new hp)
        have le := uniq_len ws
        refine ⟨ht.ext e4, p, uniq ws, rfl, ⟨_, upd_same, paired_mono (fun _ _ r => wd_mono (Ex.new hp) r) (keysW hk)⟩, by omega, fun r H5 x5 t5 hr hL => ?_⟩
        have o4 : Ok (Z0 TT) (upd H3 p (.lst (bs.map V.ref))) := ⟨ht.ext e4, fun _ z => z.elim⟩
        have r4 := R.of (Z := Z0 TT) ⟨ht, fun _ z => z.elim⟩ e4
        rw [sort_words (uniq_nodup ws) fun u => uniq_mem] at hL
        exact q _ H5 (r4.fr (fr_none hr)) (r4.trans (Rm.R.lamP o4 hmT x5 t5)) hL⟩
    rcases hl with h1 | h1
    · refine ⟨_, rfl, l, rfl, .inl ⟨us, SqL.of (e1 _ _ h1), for_it walk_enum (fun i σ H2 => ∃ a b, σ = [some (.ref l), a, b, none] ∧ Ex H1 H2 ∧ ∀ j, j < i → bs[j]? = some true) ⟨_, _, rfl, Ex.refl H1, fun j z => absurd z (Nat.not_lt_zero _)⟩ (fun _ _ H2 _ p => ex_l p.choose_spec.choose_spec.2.1 (SqL.of (e1 _ _ h1))) (fun i x2 σ H2 H3 hi p y => ?_) fun σ H2 p => ?_⟩⟩
      · obtain ⟨a, b, rfl, e2, pr⟩ := p
        obtain ⟨T, xi, xv, rfl, hT, rfl, hi1, hv1⟩ := y
        obtain ⟨c, hc, hb⟩ := paired_at hp hv1
        have e3 : Ex H1 (upd H2 T (.tup [xi, xv])) := e2.trans (Ex.new hT)
        obtain rfl : xi = .int (i : Int) := (Option.some.inj hi1).symm
        refine ⟨T, _, rfl, SqT.of upd_same, rfl, _, _, rfl, _, _, rfl, rfl, ?_⟩
        refine s_when (b := !c) (et_not (et_B (ev_word (ev_var rfl) (wbv_mono (e1.trans e3) hb)))) (fun z H5 e5 => ⟨_, rfl, rz_ex ((e1.trans e3).trans e5) (x i (by cases c <;> simp_all) pr)⟩) fun z H5 e5 => ⟨_, _, rfl, e3.trans e5, fun j hj => ?_⟩
        by_cases q : j < i
        · exact pr j q
        · obtain rfl : j = i := by omega
          cases c <;> simp_all
      · obtain ⟨a, b, rfl, e2, pr⟩ := p
        exact fin a b H2 (e1.trans e2) (done pr)
    · refine ⟨_, rfl, l, rfl, .inr ⟨us, SqT.of (e1 _ _ h1), for_it walkEnumT (fun i σ H2 => ∃ a b, σ = [some (.ref l), a, b, none] ∧ Ex H1 H2 ∧ ∀ j, j < i → bs[j]? = some true) ⟨_, _, rfl, Ex.refl H1, fun j z => absurd z (Nat.not_lt_zero _)⟩ (fun _ _ H2 _ p => ex_t p.choose_spec.choose_spec.2.1 (SqT.of (e1 _ _ h1))) (fun i x2 σ H2 H3 hi p y => ?_) fun σ H2 p => ?_⟩⟩
      · obtain ⟨a, b, rfl, e2, pr⟩ := p
        obtain ⟨T, xi, xv, rfl, hT, rfl, hi1, hv1⟩ := y
        obtain ⟨c, hc, hb⟩ := paired_at hp hv1
        have e3 : Ex H1 (upd H2 T (.tup [xi, xv])) := e2.trans (Ex.new hT)
        obtain rfl : xi = .int (i : Int) := (Option.some.inj hi1).symm
        refine ⟨T, _, rfl, SqT.of upd_same, rfl, _, _, rfl, _, _, rfl, rfl, ?_⟩
        refine s_when (b := !c) (et_not (et_B (ev_word (ev_var rfl) (wbv_mono (e1.trans e3) hb)))) (fun z H5 e5 => ⟨_, rfl, rz_ex ((e1.trans e3).trans e5) (x i (by cases c <;> simp_all) pr)⟩) fun z H5 e5 => ⟨_, _, rfl, e3.trans e5, fun j hj => ?_⟩
        by_cases q : j < i
        · exact pr j q
        · obtain rfl : j = i := by omega
          cases c <;> simp_all
      · obtain ⟨a, b, rfl, e2, pr⟩ := p
        exact fin a b H2 (e1.trans e2) (done pr)

end
end K20
namespace Tk
open PySem PySem.Spec PyProof.Rows L2 Lw Evl LamX TL
open Rm (R Ok Z0 Zp Fr fr_none fr_ne nt_lst nt_tup nt_dK NT Zn)
/-! ### comprehensions whose parts draw -/
/-- all stands but lists and tables -/
def Nl (H H1 : Hp) : Prop := ∀ a o, NT o → (∀ xs, o ≠ .lst xs) → H a = some o → H1 a = some o
/-- what lists and tables don't matter for -/
def St (B : Hp → V → Prop) : Prop := ∀ (H H1 : Hp) (x : V), Nl H H1 → B H x → B H1 x
section
variable {Z : Zn} {K : PySem.W.Frag} {σ : L2.St} {H H1 H2 : Hp} {te : TE} {tt : TT} {B : Hp → V → Prop} {n j : Nat} {vs : List Nat} {D : Addr} {Qd : Hp → Prop} {v : V} {l : Addr}
theorem nl_trans (h : Nl H H1) (k : Nl H1 H2) : Nl H H2 := fun a o t n e => k a o t n (h a o t n e)
theorem nl_R (r : R Z H H1) : Nl H H1 := fun a o t n e => r.st a o e t (r.a.nm e n)
theorem nl_ex (e : Ex H H1) : Nl H H1 := fun a o _ _ h => e a o h
theorem nl_upd {xs : List V} {o : HO} (h : H D = some (.lst xs)) : Nl H (upd H D o) := fun a u _ n e => by
  rw [upd_ne fun z => by
    rw [z, h] at e
    exact n _ (Option.some.inj e).symm]
  exact e
theorem st_wd {ys : V → List Str → Prop} : St fun H v => ∃ w, ys v w ∧ Wd K H v w := fun H H1 v h b => by
  obtain ⟨w, hy, a, rfl, e⟩ := b
  exact ⟨w, hy, a, rfl, h a _ nt_tup (fun _ z => nomatch z) e⟩
theorem wd_nl {ys : List Str} (h : Nl H H1) (b : Wd K H v ys) : Wd K H1 v ys := by
  obtain ⟨a, rfl, e⟩ := b
  exact ⟨a, rfl, h a _ nt_tup (fun _ z => nomatch z) e⟩
theorem st_pure {p : V → Prop} : St fun _ v => p v := fun _ _ _ _ b => b
/-- one turn's end: the made value is put into the list -/
theorem turn_end {us : List V} {v : V} (fD : Fr H D) (r : R Z H H1) (hu : H1 D = some (.lst us)) (sB : St B) (r2 : R Z H1 H2) (hb : ∀ x ∈ us, B H1 x) (b : B H2 v) (hn : us.length < 100000) :
    ∃ acc, H2 D = some (.lst acc) ∧ acc.length < sizeLine ∧ (R Z H (upd H2 D (.lst (acc ++ [v]))) ∧ ∃ us', (upd H2 D (.lst (acc ++ [v]))) D = some (.lst us') ∧ us'.length = us.length + 1 ∧ ∀ u ∈ us', B (upd H2 D (.lst (acc ++ [v]))) u) := by
  have nD : ¬ Z.M D := r.a.fresh fD
  have hu2 := r2.lst hu nD
  refine ⟨us, hu2, sz_lt hn, (r.trans r2).mut fD hu2 trivial, us ++ [v], upd_same, by rw [List.length_append]; rfl, fun u m => ?_⟩
  rcases List.mem_append.mp m with m | m
  · exact sB _ _ _ (nl_upd hu2) (sB _ _ _ (nl_R r2) (hb u m))
  · rw [List.mem_singleton.mp m]
    exact sB _ _ _ (nl_upd hu2) b
/-- [.. for x in range(n)] -/
theorem lcD_R1 (o : Ok Z H) (hD : H D = none) (hn : n ≤ 40000) (sB : St B) (hw : ∀ x, wipe ((wipe σ vs).set j (some x)) vs = wipe σ vs)
    (body : ∀ (i : Nat) H1, i < n → R Z H H1 → ∀ Q : VK, (∀ v H2, R Z H1 H2 → B H2 v → Q v H2) → te ((wipe σ vs).set j (some (.int (i : Int)))) H1 Q)
    (fin : ∀ us H2, R Z H H2 → H2 D = some (.lst us) → us.length = n → (∀ v ∈ us, B H2 v) → Qd H2) :
    ∃ W : Nat → Nat → Hp → Prop, (∃ m, W 0 m (upd H D (.lst []))) ∧ ∀ i m H, W i m H →
      ((Itr 0 n).stop i H ∧ Qd H) ∨ ((Itr 0 n).go i H ∧ ∃ Nx : Hp → Prop, (∀ H', Nx H' → ∃ m', m' < m ∧ W (i + 1) m' H') ∧ ∀ x H', (Itr 0 n).yld i H x H' → gName j x (wipe σ vs) H' fun σ2 H2 => wipe σ2 vs = wipe σ vs ∧ tYes σ2 H2 fun b H3 =>
        if b = true then te σ2 H3 fun y H4 => ∃ acc, H4 D = some (.lst acc) ∧ acc.length < sizeLine ∧ Nx (upd H4 D (.lst (acc ++ [y]))) else Nx H3) := by
  refine lc_range (lo := 0) (n := n) (fun i H' => R Z H H' ∧ ∃ us, H' D = some (.lst us) ∧ us.length = i ∧ ∀ v ∈ us, B H' v) ⟨(R.refl o).new hD, [], upd_same, rfl, fun _ z => absurd z List.not_mem_nil⟩ (fun i H' hi p => ?_) fun H' p => ?_
  · obtain ⟨r, us, hu, hl, hb⟩ := p
    have e0 : (0 : Int) + (i : Int) = (i : Int) := Int.zero_add _
    unfold gName tYes
    dsimp only
    rw [e0, if_pos rfl]
    refine ⟨hw _, body i H' hi r _ fun v H2 r2 b => ?_⟩
    have z := turn_end (fr_none hD) r hu sB r2 hb b (by omega)
    rw [hl] at z
    exact z
  · obtain ⟨r, us, hu, hl, hb⟩ := p
    exact fin us H' r hu hl hb
/-- [.. for x in xs], a list that stands -/
theorem lcD_RL {a : Addr} {xs : List V} (o : Ok Z H) (hD : H D = none) (ha : SqL K H a xs) (na : ¬ Z.M a) (keep : ∀ H1, R Z H H1 → SqL K H1 a xs) (hn : xs.length ≤ 40000) (sB : St B) (hw : ∀ x, wipe ((wipe σ vs).set j (some x)) vs = wipe σ vs)
    (body : ∀ (i : Nat) (x : V) H1, xs[i]? = some x → R Z H H1 → ∀ Q : VK, (∀ v H2, R Z H1 H2 → B H2 v → Q v H2) → te ((wipe σ vs).set j (some x)) H1 Q)
    (fin : ∀ us H2, R Z H H2 → H2 D = some (.lst us) → us.length = xs.length → (∀ v ∈ us, B H2 v) → Qd H2) :
    ∃ W : Nat → Nat → Hp → Prop, (∃ m, W 0 m (upd H D (.lst []))) ∧ ∀ i m H, W i m H →
      ((Itl K a).stop i H ∧ Qd H) ∨ ((Itl K a).go i H ∧ ∃ Nx : Hp → Prop, (∀ H', Nx H' → ∃ m', m' < m ∧ W (i + 1) m' H') ∧ ∀ x H', (Itl K a).yld i H x H' → gName j x (wipe σ vs) H' fun σ2 H2 => wipe σ2 vs = wipe σ vs ∧ tYes σ2 H2 fun b H3 =>
        if b = true then te σ2 H3 fun y H4 => ∃ acc, H4 D = some (.lst acc) ∧ acc.length < sizeLine ∧ Nx (upd H4 D (.lst (acc ++ [y]))) else Nx H3) := by
  refine lc_list (xs := xs) (fun i H' => i ≤ xs.length ∧ R Z H H' ∧ ∃ us, H' D = some (.lst us) ∧ us.length = i ∧ ∀ v ∈ us, B H' v) ⟨Nat.zero_le _, (R.refl o).new hD, [], upd_same, rfl, fun _ z => absurd z List.not_mem_nil⟩ (fun i H' _ p => keep H' p.2.1) (fun i x H' hi p => ?_) fun H' p => ?_
  · obtain ⟨_, r, us, hu, hl, hb⟩ := p
    have hi2 := (List.getElem?_eq_some_iff.mp hi).1
    unfold gName tYes
    dsimp only
    rw [if_pos rfl]
    refine ⟨hw _, body i x H' hi r _ fun v H2 r2 b => ?_⟩
    have z := turn_end (fr_none hD) r hu sB r2 hb b (by omega)
    obtain ⟨acc, z1, z2, z3, z4, z5, z6, z7⟩ := z
    exact ⟨acc, z1, z2, hi2, z3, z4, z5, by rw [z6, hl], z7⟩
  · obtain ⟨_, r, us, hu, hl, hb⟩ := p
    exact fin us H' r hu hl hb
end
/-! ### texts cut, lists filtered -/
theorem cutS_take (s : Str) (n : Nat) : (cutS s none (some (n : Int))).cps.toList = s.cps.toList.take n := by
  unfold cutS
  have e1 : HT.sIx s.length 0 none = 0 := rfl
  rw [e1, HT.sIx_nat, List.drop_zero, Nat.sub_zero]
  show s.cps.toList.take (min n s.length) = _
  rw [len_cps, ← List.take_take, List.take_length]
section
variable {K : PySem.W.Frag} {σ : L2.St} {H : Hp} {ta tb te : TE} {xs : List Str} {s : Str} {j : Nat} {vs : List Nat}
theorem ev_cutS {to th : TO} {lo hi : Option Int} (ha : Ev ta σ H (.str s)) (h1 : EvO to σ H lo) (h2 : EvO th σ H hi) (hz : s.length ≤ 100000) : Ev (tSl rSlS ta to th) σ H (.str (cutS s lo hi)) := fun H1 e Q q =>
  ha H1 e _ fun H2 e2 => h1 H2 (e.trans e2) _ fun H3 e3 => h2 H3 ((e.trans e2).trans e3) _ fun H4 e4 => ⟨s, rfl, sz_of hz, q H4 ((e2.trans e3).trans e4)⟩
theorem given_filter {β : Type} (l : List β) (d : β) (g : β → Bool) (v : β → V) : given l.length (fun i => g (l.getD i d)) (fun i => v (l.getD i d)) = (l.filter g).map v := by
  unfold given
  have e : l = (List.range l.length).map (fun i => l.getD i d) := by
    have z := range_get l d (fun x => x)
    rw [List.map_id''] at z
    · exact z.symm
    · intro x
      rfl
  conv => rhs; rw [e]
  rw [List.filter_map, List.map_map]
  rfl
/-- [x for x in l if x not in m], texts -/
theorem el_notin {a b : Addr} {ys : List Str} (ha : Ev ta σ H (.ref a)) (hb : ∀ (x : V) H1, Ex H H1 → Ev tb ((wipe σ vs).set j (some x)) H1 (.ref b)) (h1 : SqL K H a (xs.map V.str)) (h2 : SqL K H b (ys.map V.str)) (hz : xs.length ≤ 40000) (hj : ∀ x, ((wipe σ vs).set j (some x))[j]? = some (some x))
    (hw : ∀ x, wipe ((wipe σ vs).set j (some x)) vs = wipe σ vs) : EvL (tLc (iList K ta) (gName j) (tTest (tOp (rIn K true) (tVar j) tb)) (tVar j) vs) σ H ((xs.filter fun x => !decide (x ∈ ys)).map V.str) := by
  have z := given_filter xs "" (fun x => !decide (x ∈ ys)) V.str
  rw [← z]
  have l : xs.length = (xs.map V.str).length := (List.length_map ..).symm
  rw [l]
  have at_ : ∀ {i : Nat} {x : V}, (xs.map V.str)[i]? = some x → x = .str (xs.getD i "") := fun {i x} h => by
    rw [List.getElem?_map] at h
    cases e : xs[i]? with
    | none =>
      rw [e] at h
      cases h
    | some y =>
      rw [e] at h
      rw [List.getD_eq_getElem?_getD, e]
      exact (Option.some.inj h).symm
  refine el_lcL (fun i => !decide (xs.getD i "" ∈ ys)) (fun i => V.str (xs.getD i "")) ha h1 (by rw [List.length_map]; exact hz) hw (fun i x H1 e hx => ?_) (fun i x H1 e hx _ => ?_)
  · have ex := at_ hx
    subst ex
    refine et_test (ev_is (ev_op (ev_var (hj _)) (hb _ H1 e) (rv_niL (ex_l e h2) rfl (flat_str ys))) ?_)
    rw [inV_str]
  · have ex := at_ hx
    subst ex
    exact ev_var (hj _)
end
/-- what the drawn signs are -/
theorem sgns_of {us : List V} (h : ∀ v ∈ us, ∃ c, v = .str (sgn c) ∧ 97 ≤ c ∧ c ≤ 122) : ∃ cs : List Nat, us = (cs.map sgn).map V.str ∧ cs.length = us.length ∧ ∀ c ∈ cs, 97 ≤ c ∧ c ≤ 122 := by
  induction us with
  | nil => exact ⟨[], rfl, rfl, fun _ z => absurd z List.not_mem_nil⟩
  | cons u us ih =>
    obtain ⟨c, rfl, hc⟩ := h u (List.mem_cons_self ..)
    obtain ⟨cs, rfl, hl, hcs⟩ := ih fun v hv => h v (List.mem_cons_of_mem _ hv)
    exact ⟨c :: cs, rfl, by rw [List.length_cons, List.length_cons, hl], fun x hx => by
      rcases List.mem_cons.mp hx with rfl | hx
      · exact hc
      · exact hcs x hx⟩
/-- a letter, shortened to seven signs, with one more -/
def near (s : Str) : List Str := (List.range 26).map fun i => cutS s none (some 7) ++ sgn (97 + i)
theorem near_isL {s : Str} (h : isL s = true) {y : Str} (hy : y ∈ near s) : isL y = true := by
  obtain ⟨i, hi, rfl⟩ := List.mem_map.mp hy
  have hi := List.mem_range.mp hi
  obtain ⟨⟨h1, h2⟩, h3⟩ := isL_iff.mp h
  have e : (cutS s none (some 7)).cps.toList = s.cps.toList.take 7 := cutS_take s 7
  refine isL_iff.mpr ⟨?_, fun c hc => ?_⟩
  · rw [tl_app, e, List.length_append, List.length_take, tl_sgn]
    show 1 ≤ min 7 _ + 1 ∧ min 7 _ + 1 ≤ 8
    omega
  · rw [tl_app, e, tl_sgn] at hc
    rcases List.mem_append.mp hc with hc | hc
    · exact h3 c (List.mem_of_mem_take hc)
    · rw [List.mem_singleton.mp hc]
      omega
theorem near_nodup (s : Str) : (near s).Nodup := by
  unfold near
  refine List.pairwise_map.mpr (List.Pairwise.imp (fun {a b} h => ?_) List.nodup_range)
  intro e
  have z : (cutS s none (some 7) ++ sgn (97 + a)).cps.toList = (cutS s none (some 7) ++ sgn (97 + b)).cps.toList := congrArg (fun x : Str => x.cps.toList) e
  rw [tl_app, tl_app, tl_sgn, tl_sgn] at z
  have z2 := List.append_cancel_left z
  have z3 : 97 + a = 97 + b := by simpa using z2
  exact h (by omega)
/-- among more different ones than there are, one is new -/
theorem fresh_one {α : Type} [DecidableEq α] {l m : List α} (hl : l.Nodup) (h : m.length < l.length) : ∃ x ∈ l, x ∉ m := by
  by_cases z : ∃ x ∈ l, x ∉ m
  · exact z
  · have all : ∀ x ∈ l, x ∈ m := fun x hx => by
      by_cases y : x ∈ m
      · exact y
      · exact absurd ⟨x, hx, y⟩ z
    have := nodup_le hl all
    omega
/-! ### lists of words by comprehensions over lists -/
theorem range_filter {β γ : Type} (l : List β) (d : β) (g : β → Bool) (v : β → γ) : ((List.range l.length).filter fun i => g (l.getD i d)).map (fun i => v (l.getD i d)) = (l.filter g).map v := by
  have e : l = (List.range l.length).map (fun i => l.getD i d) := by
    have z := range_get l d (fun x => x)
    rw [List.map_id''] at z
    · exact z.symm
    · intro x
      rfl
  conv => rhs; rw [e]
  rw [List.filter_map, List.map_map]
  rfl
section
variable {K : PySem.W.Frag} {σ : L2.St} {H : Hp} {ta tb te : TE} {tt : TT} {j : Nat} {vs : List Nat} {a : Addr} {us : List V} {ws : List (List Str)}
theorem filt_yes {b : Nat → Bool} {f : Nat → List Str} {n : Nat} (h : b n = true) : ((List.range (n + 1)).filter b).map f = ((List.range n).filter b).map f ++ [f n] := by
  rw [List.range_succ, List.filter_append, List.map_append]
  simp [h]
theorem filt_no {b : Nat → Bool} {f : Nat → List Str} {n : Nat} (h : b n = false) : ((List.range (n + 1)).filter b).map f = ((List.range n).filter b).map f := by
  rw [List.range_succ, List.filter_append, List.map_append]
  simp [h]
theorem elw_G (b : Nat → Bool) (f : Nat → List Str) (h : Ev ta σ H (.ref a)) (hx : SqL K H a us) (hz : us.length ≤ 40000) (hw : ∀ x, wipe ((wipe σ vs).set j (some x)) vs = wipe σ vs)
    (ht : ∀ (i : Nat) (x : V) H1, Ex H H1 → us[i]? = some x → EvT tt ((wipe σ vs).set j (some x)) H1 (b i)) (he : ∀ (i : Nat) (x : V) H1, Ex H H1 → us[i]? = some x → b i = true → EvW K te ((wipe σ vs).set j (some x)) H1 (f i)) :
    EvLW K (tLc (iList K ta) (gName j) tt te vs) σ H (((List.range us.length).filter b).map f) := fun H0 e Q q => h H0 e _ fun H1 e1 => ⟨a, rfl, ⟨us, ex_l (e.trans e1) hx⟩, fun Dl hD =>
  lc_list (xs := us) (fun i H' => Ex H1 H' ∧ LW K H' Dl (((List.range i).filter b).map f)) ⟨Ex.new hD, [], upd_same, .nil⟩ (fun i H' _ p => ex_l ((e.trans e1).trans p.1) hx) (fun i x H' hi p => by
    obtain ⟨p1, acc, p2, p3⟩ := p
    have hi2 := (List.getElem?_eq_some_iff.mp hi).1
    unfold gName
    dsimp only
    refine ⟨hw _, ht i x H' ((e.trans e1).trans p1) hi H' (Ex.refl H') _ fun H3 e3 => ?_⟩
    cases hb : b i with
    | false =>
      rw [if_neg (by decide), filt_no hb]
      exact ⟨p1.trans e3, acc, e3 _ _ p2, paired_mono (fun _ _ r => wd_mono e3 r) p3⟩
    | true =>
      rw [if_pos rfl, filt_yes hb]
      refine he i x H3 (((e.trans e1).trans p1).trans e3) hi hb H3 (Ex.refl H3) _ fun y H4 e4 hy => ?_
      have hl := Paired.length p3
      have hle := List.length_filter_le b (List.range i)
      rw [List.length_map] at hl
      rw [List.length_range] at hle
      have e34 := e3.trans e4
      exact ⟨acc, e34 _ _ p2, sz_lt (by omega), Ex.mut ((p1.trans e3).trans e4) hD, acc ++ [y], upd_same, paired_app (paired_mono (fun _ _ r => wd_upd (e34 _ _ p2) (wd_mono e34 r)) p3) (.cons (wd_upd (e34 _ _ p2) hy) .nil)⟩) (fun H' p => q Dl H' (fresh_back e1 hD) (e1.trans p.1) p.2)⟩
/-- [f(w) for w in ws if g(w)], words -/
theorem elw_LF (g : List Str → Bool) (f : List Str → List Str) (h : Ev ta σ H (.ref a)) (hx : H a = some (.lst us)) (hp : Paired (Wd K H) us ws) (hz : us.length ≤ 40000) (hw : ∀ x, wipe ((wipe σ vs).set j (some x)) vs = wipe σ vs)
    (ht : ∀ (x : V) (w : List Str) H1, Ex H H1 → Wd K H1 x w → w ∈ ws → EvT tt ((wipe σ vs).set j (some x)) H1 (g w)) (he : ∀ (x : V) (w : List Str) H1, Ex H H1 → Wd K H1 x w → w ∈ ws → g w = true → EvW K te ((wipe σ vs).set j (some x)) H1 (f w)) :
    EvLW K (tLc (iList K ta) (gName j) tt te vs) σ H ((ws.filter g).map f) := by
  have z := range_filter ws [] g f
  rw [← z, ← Paired.length hp]
  refine elw_G (fun i => g (ws.getD i [])) (fun i => f (ws.getD i [])) h (SqL.of hx) hz hw (fun i x H1 e hi => ?_) (fun i x H1 e hi hb => ?_)
  · obtain ⟨w, hw2, r⟩ := paired_at hp hi
    rw [show ws.getD i [] = w by rw [List.getD_eq_getElem?_getD, hw2]; rfl]
    exact ht x w H1 e (wd_mono e r) (List.mem_of_getElem? hw2)
  · obtain ⟨w, hw2, r⟩ := paired_at hp hi
    rw [show ws.getD i [] = w by rw [List.getD_eq_getElem?_getD, hw2]; rfl] at hb ⊢
    exact he x w H1 e (wd_mono e r) (List.mem_of_getElem? hw2) hb
/-- [f(x) for x in xs], words from texts -/
theorem elw_LS {xs : List Str} (f : Str → List Str) (h : Ev ta σ H (.ref a)) (hx : SqL K H a (xs.map V.str)) (hz : xs.length ≤ 40000) (hw : ∀ x, wipe ((wipe σ vs).set j (some x)) vs = wipe σ vs)
    (he : ∀ (x : Str) H1, Ex H H1 → x ∈ xs → EvW K te ((wipe σ vs).set j (some (.str x))) H1 (f x)) : EvLW K (tLc (iList K ta) (gName j) tYes te vs) σ H (xs.map f) := by
  have z := range_filter xs "" (fun _ => true) f
  have z2 : xs.filter (fun _ => true) = xs := List.filter_eq_self.mpr fun _ _ => rfl
  rw [z2] at z
  rw [← z]
  have l : xs.length = (xs.map V.str).length := (List.length_map ..).symm
  rw [l]
  refine elw_G (fun _ => true) (fun i => f (xs.getD i "")) h hx (by rw [List.length_map]; exact hz) hw (fun i x H1 e hi => et_yes) (fun i x H1 e hi _ => ?_)
  rw [List.getElem?_map] at hi
  cases q : xs[i]? with
  | none =>
    rw [q] at hi
    cases hi
  | some y =>
    rw [q] at hi
    rw [show xs.getD i "" = y by rw [List.getD_eq_getElem?_getD, q]; rfl]
    cases hi
    exact he y H1 e (List.mem_of_getElem? q)
end
/-- all words over some letters: of n letters, of at most n -/
def lvW (xs : List Str) : Nat → List (List Str)
  | 0 => [[]]
  | n + 1 => (lvW xs n).flatMap fun w => xs.map fun x => w ++ [x]
def allW (xs : List Str) : Nat → List (List Str)
  | 0 => [[]]
  | n + 1 => allW xs n ++ lvW xs (n + 1)
theorem lvW_len (xs : List Str) : ∀ n, (lvW xs n).length = xs.length ^ n
  | 0 => rfl
  | n + 1 => by
    have ih := lvW_len xs n
    have key : ∀ ws : List (List Str), (ws.flatMap fun w => xs.map fun x => w ++ [x]).length = ws.length * xs.length := fun ws => by
      induction ws with
      | nil => simp
      | cons w ws ih => rw [List.flatMap_cons, List.length_append, ih, List.length_map, List.length_cons, Nat.succ_mul, Nat.add_comm]
    rw [lvW, key, ih, Nat.pow_succ]
theorem mem_lvW {xs : List Str} : ∀ {n : Nat} {w : List Str}, w ∈ lvW xs n ↔ w.length = n ∧ ∀ x ∈ w, x ∈ xs
  | 0, w => by
    rw [lvW, List.mem_singleton]
    constructor
    · rintro rfl
      exact ⟨rfl, fun x z => absurd z List.not_mem_nil⟩
    · rintro ⟨h, _⟩
      exact List.length_eq_zero_iff.mp h
  | n + 1, w => by
    rw [lvW, List.mem_flatMap]
    constructor
    · rintro ⟨u, hu, hw⟩
      obtain ⟨x, hx, rfl⟩ := List.mem_map.mp hw
      obtain ⟨h1, h2⟩ := mem_lvW.mp hu
      refine ⟨by rw [List.length_append, h1]; rfl, fun y hy => ?_⟩
      rcases List.mem_append.mp hy with hy | hy
      · exact h2 y hy
      · rw [List.mem_singleton.mp hy]
        exact hx
    · rintro ⟨h1, h2⟩
      have ne : w ≠ [] := fun z => by
        rw [z] at h1
        cases h1
      refine ⟨w.dropLast, mem_lvW.mpr ⟨by rw [List.length_dropLast, h1]; rfl, fun x hx => h2 x (List.dropLast_subset w hx)⟩, List.mem_map.mpr ⟨w.getLast ne, h2 _ (List.getLast_mem ne), List.dropLast_concat_getLast ne⟩⟩
theorem mem_allW {xs : List Str} : ∀ {n : Nat} {w : List Str}, w ∈ allW xs n ↔ w.length ≤ n ∧ ∀ x ∈ w, x ∈ xs
  | 0, w => by
    rw [allW, show ([[]] : List (List Str)) = lvW xs 0 from rfl, mem_lvW, Nat.le_zero]
  | n + 1, w => by
    rw [allW, List.mem_append, mem_allW, mem_lvW]
    constructor
    · rintro (⟨h1, h2⟩ | ⟨h1, h2⟩)
      · exact ⟨by omega, h2⟩
      · exact ⟨by omega, h2⟩
    · rintro ⟨h1, h2⟩
      by_cases h : w.length ≤ n
      · exact .inl ⟨h, h2⟩
      · exact .inr ⟨by omega, h2⟩
/-- .. all but the empty one -/
def wdsW (xs : List Str) (n : Nat) : List (List Str) := (allW xs n).drop 1
theorem allW_cons (xs : List Str) : ∀ n, allW xs n = [] :: wdsW xs n
  | 0 => rfl
  | n + 1 => by
    have ih := allW_cons xs n
    unfold wdsW
    rw [allW, ih]
    rfl
theorem lvW_nodup {xs : List Str} (h : xs.Nodup) : ∀ n, (lvW xs n).Nodup
  | 0 => List.pairwise_singleton _ _
  | n + 1 => by
    have ih := lvW_nodup h n
    have key : ∀ ws : List (List Str), ws.Nodup → (∀ w ∈ ws, w.length = n) → (ws.flatMap fun w => xs.map fun x => w ++ [x]).Nodup := fun ws => by
      induction ws with
      | nil => intro _ _; exact List.nodup_nil
      | cons w ws ih =>
        intro hn hl
        rw [List.flatMap_cons]
        obtain ⟨h1, h2⟩ := List.nodup_cons.mp hn
        refine List.nodup_append.mpr ⟨?_, ih h2 fun u hu => hl u (List.mem_cons_of_mem _ hu), fun u hu v hv e => ?_⟩
        · exact List.pairwise_map.mpr (List.Pairwise.imp (fun {a b} hab e => hab (by simpa using e)) h)
        · obtain ⟨x, _, rfl⟩ := List.mem_map.mp hu
          obtain ⟨w2, hw2, hv2⟩ := List.mem_flatMap.mp hv
          obtain ⟨y, _, rfl⟩ := List.mem_map.mp hv2
          have z := (List.append_inj e (by rw [hl w (List.mem_cons_self ..), hl w2 (List.mem_cons_of_mem _ hw2)])).1
          rw [z] at h1
          exact h1 hw2
    exact key _ ih fun w hw => (mem_lvW.mp hw).1
theorem allW_nodup {xs : List Str} (h : xs.Nodup) : ∀ n, (allW xs n).Nodup
  | 0 => List.pairwise_singleton _ _
  | n + 1 => by
    rw [allW]
    refine List.nodup_append.mpr ⟨allW_nodup h n, lvW_nodup h (n + 1), fun u hu v hv e => ?_⟩
    have h1 := (mem_allW.mp hu).1
    have h2 := (mem_lvW.mp hv).1
    rw [e] at h1
    omega
theorem mem_wdsW {xs : List Str} {n : Nat} (h : xs.Nodup) {w : List Str} : w ∈ wdsW xs n ↔ w ≠ [] ∧ w.length ≤ n ∧ ∀ x ∈ w, x ∈ xs := by
  have nd := allW_nodup h n
  have ma : w ∈ allW xs n ↔ _ := mem_allW
  rw [allW_cons] at nd ma
  obtain ⟨n1, _⟩ := List.nodup_cons.mp nd
  constructor
  · intro hw
    exact ⟨fun e => n1 (by rw [← e]; exact hw), ma.mp (List.mem_cons_of_mem _ hw)⟩
  · rintro ⟨h1, h2⟩
    rcases List.mem_cons.mp (ma.mpr h2) with z | z
    · exact absurd z h1
    · exact z
theorem wdsW_nodup {xs : List Str} (h : xs.Nodup) (n : Nat) : (wdsW xs n).Nodup := by
  have nd := allW_nodup h n
  rw [allW_cons] at nd
  exact (List.nodup_cons.mp nd).2
theorem q_par {i j : Nat} {ta tb : TE} {tz : TS} {D : Ends} {σ : L2.St} {H : Hp} (h : ta σ H fun v H1 => tb σ H1 fun w H2 => tz D ((σ.set i (some v)).set j (some w)) H2) : tSeq (tPar i j (tCons ta (tCons tb tNil))) tz D σ H := by
  unfold tSeq tPar
  refine (congrArg (fun z => ta σ H z) (funext fun v => funext fun H1 => ?_)).mp h
  refine congrArg (fun z => tb σ H1 z) (funext fun w => funext fun H2 => propext ⟨fun q => ⟨v, w, rfl, q⟩, fun q => ?_⟩)
  obtain ⟨v2, w2, e, q⟩ := q
  cases e
  exact q
/-! ### rows of triggers, of makes -/
def okWs (ws : List (List Str)) : Prop := (∀ w ∈ ws, isW w = true ∧ w ≠ []) ∧ ws.Nodup
theorem okWs_take {ws : List (List Str)} (h : okWs ws) (n : Nat) : okWs (ws.take n) := ⟨fun w hw => h.1 w (List.mem_of_mem_take hw), h.2.sublist (List.take_sublist n ws)⟩
theorem okWs_isW {ws : List (List Str)} (h : okWs ws) : ∀ w ∈ ws, isW w = true := fun w hw => (h.1 w hw).1
section
variable {Z : Rm.Zn} {K : PySem.W.Frag} {σ : L2.St} {H H1 : Hp} {ta te : TE} {w : List Str} {ws : List (List Str)} {l : Addr} {us : List V} {D : Ends} {xs : List Str}
theorem ew_at0 (h : EvLW K te σ H (w :: ws)) : EvW K (tOp (rIxL K) te (tC (.int 0))) σ H w := fun H1 e Q q => h H1 e _ fun l H2 _ e2 hl => by
  obtain ⟨us, h1, h2⟩ := hl
  cases h2 with
  | cons r t => exact ⟨l, _, 0, _, rfl, rfl, SqL.of h1, (show atI _ ((0 : Nat) : Int) = some _ from atI_nat rfl), q _ H2 e2 r⟩
theorem s_appW (hl : H l = some (.lst us)) (ha : Ev ta σ H (.ref l)) (h : EvW K te σ H w) (hz : us.length < 100000) (k : ∀ v H1, Ex H H1 → Wd K H1 v w → D.nx σ (upd H1 l (.lst (us ++ [v])))) : tDrop (tBM K "list" rAppend ta (tCons te tNil)) D σ H := ha H (Ex.refl H) _ fun H1 e1 =>
  ⟨Or.inl ⟨rfl, us, sq_of (e1 l _ hl)⟩, h H1 e1 _ fun v H2 e2 hv => ⟨l, us, v, rfl, rfl, e2 l _ (e1 l _ hl), sz_lt hz, k v H2 (e1.trans e2) hv⟩⟩
/-- a list of texts is no pot -/
theorem ls_nm (o : Ok Z H) (h : H l = some (.lst (xs.map V.str))) : ¬ Z.M l := fun m => by
  obtain ⟨i, j, q, _⟩ := o.2 l m
  rw [q] at h
  cases xs with
  | nil => cases h
  | cons x xs => cases h
theorem lw_app (h : LW K H l ws) : ∃ us, H l = some (.lst us) ∧ ∀ (v : V) (H1 : Hp), Ex H H1 → Wd K H1 v w → LW K (upd H1 l (.lst (us ++ [v]))) l (ws ++ [w]) := by
  obtain ⟨us, h1, h2⟩ := h
  exact ⟨us, h1, fun v H1 e hv => ⟨us ++ [v], upd_same, paired_app (paired_mono (fun _ _ r => wd_upd (e _ _ h1) (wd_mono e r)) h2) (.cons (wd_upd (e _ _ h1) hv) .nil)⟩⟩
end
theorem isW_of {xs w : List Str} (h : ∀ x ∈ xs, isL x = true) (h1 : w.length ≤ 3) (h2 : ∀ x ∈ w, x ∈ xs) : isW w = true := isW_iff.mpr ⟨h1, fun y hy => h y (h2 y hy)⟩
/-- over one letter at least there are three words -/
theorem three_le {xs : List Str} (h : 1 ≤ xs.length) (hn : xs.Nodup) : 3 ≤ (wdsW xs 3).length := by
  obtain ⟨x, hx⟩ : ∃ x, x ∈ xs := by
    cases xs with
    | nil => cases h
    | cons x xs => exact ⟨x, List.mem_cons_self ..⟩
  have nd : ([[x], [x, x], [x, x, x]] : List (List Str)).Nodup := by simp
  refine nodup_le nd fun w hw => (mem_wdsW hn).mpr ?_
  simp only [List.mem_cons, List.not_mem_nil, or_false] at hw
  rcases hw with rfl | rfl | rfl <;> refine ⟨by simp, by simp, fun y hy => ?_⟩ <;> · simp at hy; rw [hy]; exact hx
end Tk
namespace K20
open PySem PySem.Spec PyProof.Rows L2 Lw Evl LamX Tk
open Rm (R Ok Z0 Zp Fr fr_none fr_ne nt_lst nt_tup)
open LwX (XC XF)
theorem ix_seqK {X : Cx} {K : PySem.W.Frag} (h : X.K = K := by rfl) : IxR X (rIx K) := h ▸ ix_seq
section
variable {P : Program} {w : World} {K : PySem.W.Frag} {mg : Str → Option Value} {base : Heap}
/-- one of a list, or a sign of a text -/
def spPickX (K : PySem.W.Frag) : Sp := fun vs H Q _ => (∃ (p l : Addr) (xs : List V), vs = [.ref p, .ref l] ∧ Po p H ∧ H l = some (.lst xs) ∧ l ≠ p ∧ 0 < xs.length ∧ xs.length < 100000 ∧ ∀ (v : V) (H' : Hp), v ∈ xs → Xp p H H' → Q v H') ∨
  ∃ (p : Addr) (z : Str), vs = [.ref p, .str z] ∧ Po p H ∧ 0 < z.length ∧ z.length ≤ 1000 ∧ ∀ (c : Nat) (H' : Hp), c ∈ z.cps.toList → Xp p H H' → Q (.str (sgn c)) H'
abbrev s_pick : Stmt := topS 23
theorem sc_pick : FnScope ["_law_pot_here", "_law_some"] ["_law_pot_here", "_law_some"] (defScope s_pick) := ⟨rfl, rfl, rfl, by decide +kernel, rfl, by decide +kernel, by decide +kernel⟩
theorem ok_pick {f : Addr} {fd : FuncData} (F : FunD K "_law_pick" "_law_pick" (defArgs s_pick) (defBody s_pick) (defScope s_pick) [] [] f fd) (T : Tx P w K mg base) (d_law_draw : Cal P w K mg base CX0 1 "_law_draw" ["_law_pot_here", "_law_sides"] spDraw) : FnG P w K mg base CX0 2 f fd ["_law_pot_here", "_law_some"] (spPickX K) := by
  refine fnG F sc_pick (fun vs H Q E h => ?_) (fun cdv A outer s H vs Q E gd hr h => ?_)
  · exact h.elim (fun ⟨_, _, _, e, _⟩ => e ▸ rfl) (fun ⟨_, _, e, _⟩ => e ▸ rfl)
  · skip
    refine ⟨_, PSs.nox ((pss_one (ps_ret (pe_ix (ix_seqK (K := K)) (pv 1) (pe_cal d_law_draw gd hr (pa_cons (pv 0) (pa_cons (pe_callB (callR_or (call_lenK (K := K)) call_len_str) (by rfl) T.m_len (by decide +kernel) (pa_cons (pv 1) pa_nil)) pa_nil))) (fun _ _ => rfl))))), ?_⟩
    rcases h with ⟨p, l, xs, rfl, hp, hl, hne, h0, h1, q⟩ | ⟨p, z, rfl, hp, h0, h1, q⟩
    · refine ⟨_, rfl, _, rfl, _, rfl, .inl ⟨l, _, rfl, .inl (SqL.of hl), p, _, rfl, hp, by omega, by omega, fun d H' d0 d1 x => ?_⟩⟩
      obtain ⟨v, a1, a2⟩ := atI_mem d0 d1
      exact .inl ⟨l, _, _, v, rfl, rfl, SqL.of (x.1 _ _ hne hl), a1, q v H' a2 x⟩
    · refine ⟨_, rfl, _, rfl, _, rfl, .inr ⟨z, rfl, sz_of (by omega), p, _, rfl, hp, by omega, by omega, fun d H' d0 d1 x => ?_⟩⟩
      obtain ⟨n, rfl⟩ := Int.eq_ofNat_of_zero_le d0
      have hn : n < z.cps.toList.length := by
        have := len_cps z
        omega
      exact .inr (.inr ⟨z, _, z.cps.toList[n], rfl, rfl, sz_of (by omega), atI_nat (List.getElem?_eq_getElem hn), q _ H' (List.getElem_mem hn) x⟩)

def ABC : Str := Str.ofString "abcdefghijklmnopqrstuvwxyz"
theorem abc_mem {c : Nat} (h : c ∈ ABC.cps.toList) : 97 ≤ c ∧ c ≤ 122 := by
  have e : ABC.cps.toList = (List.range 26).map (97 + ·) := by decide +kernel
  rw [e] at h
  obtain ⟨k, hk, rfl⟩ := List.mem_map.mp h
  have := List.mem_range.mp hk
  omega
/-- some different letters -/
def spTags : Sp := fun vs H Q _ => ∃ (T : List (Addr × Str)) (p : Addr) (n : Nat), vs = [.ref p, .int (n : Int)] ∧ Ok (Zp T p) H ∧ 1 ≤ n ∧ n ≤ 3 ∧
  ∀ (l : Addr) (xs : List Str) (H' : Hp), Fr H l → R (Zp T p) H H' → H' l = some (.lst (xs.map V.str)) → xs.length = n → (∀ x ∈ xs, isL x = true) → xs.Nodup → Q (.ref l) H'
abbrev s_tags : Stmt := topS 24
theorem sc_tags : FnScope ["_law_pot_here", "_law_amount", "_law_found", "_law_signs", "_law_turn", "_law_tag", "_law_at", "_law_near", "_law_sign", "_law_new"] ["_law_pot_here", "_law_amount"] (defScope s_tags) := ⟨rfl, rfl, rfl, by decide +kernel, rfl, by decide +kernel, by decide +kernel⟩
theorem ok_tags {f : Addr} {fd : FuncData} (F : FunD K "_law_tags" "_law_tags" (defArgs s_tags) (defBody s_tags) (defScope s_tags) [] [] f fd) (T : Tx P w K mg base) (d_law_draw : Cal P w K mg base CX0 1 "_law_draw" ["_law_pot_here", "_law_sides"] spDraw) (d_law_pick : Cal P w K mg base CX0 2 "_law_pick" ["_law_pot_here", "_law_some"] (spPickX K)) : FnG P w K mg base CX0 3 f fd ["_law_pot_here", "_law_amount"] spTags := by
  refine fnG F sc_tags (fun vs H Q E h => ?_) (fun cdv A outer s H vs Q E gd hr h => ?_)
  · obtain ⟨T, p, n, rfl, _⟩ := h
    rfl
  · skip
    refine ⟨_, PSs.nox ((pss_cons (ps_asg (pe_tup (pa_cons (pe_lst pa_nil) (pa_cons pe_str pa_nil))) (pg_tup (n := 2) rfl (pgs_cons (pg_name (i := 2) sc_tags.nd rfl (by first | exact Or.inl rfl | exact Or.inr rfl)) (pgs_cons (pg_name (i := 3) sc_tags.nd rfl (by first | exact Or.inl rfl | exact Or.inr rfl)) pgs_nil))))
      (pss_cons (ps_for PassesOwn.never rfl (pi_range1 (by rfl) T.m_range (pa_cons (pv 1) pa_nil)) (pg_name (i := 4) sc_tags.nd rfl (by first | exact Or.inl rfl | exact Or.inr rfl)) (Evl.pss_cut (ps_set (i := 5) sc_tags.nd rfl (by first | exact Or.inl rfl | exact Or.inr rfl) (pe_joinK (K := K) pe_str (pe_lc (own := [("_law_at", 6)]) (g := gName 6) (tt := tYes) rfl sc_tags.nd (pi_range1 (by rfl) T.m_range (pa_cons (pe_op op_add pe_int (pe_op op_mul (pe_cal d_law_draw gd hr (pa_cons (pv 0) (pa_cons pe_int pa_nil))) (pe_cal d_law_draw gd hr (pa_cons (pv 0) (pa_cons pe_int pa_nil))))) pa_nil)) (blkOk_by (own := [("_law_at", 6)]) (N := ["_law_pot_here", "_law_amount", "_law_found", "_law_signs", "_law_turn", "_law_tag", "_law_at", "_law_near", "_law_sign", "_law_new"]) (sc := defScope s_tags) (by decide +kernel)) (fun _ _ _ _ _ => pg_name (i := 6) sc_tags.nd rfl (by first | exact Or.inl rfl | exact Or.inr rfl)) (fun _ _ _ _ _ => pts_nil) (fun _ _ _ _ _ => (pe_cal d_law_pick gd hr (pa_cons (pv 0) (pa_cons (pv 3) pa_nil)))))))
      (pss_cons (ps_set (i := 7) sc_tags.nd rfl (by first | exact Or.inl rfl | exact Or.inr rfl) (pe_op op_cat (pe_lst (pa_cons (pv 5) pa_nil)) (pe_lc (own := [("_law_sign", 8)]) (g := gName 8) (tt := tYes) rfl sc_tags.nd (pi_str (pv 3)) (blkOk_by (own := [("_law_sign", 8)]) (N := ["_law_pot_here", "_law_amount", "_law_found", "_law_signs", "_law_turn", "_law_tag", "_law_at", "_law_near", "_law_sign", "_law_new"]) (sc := defScope s_tags) (by decide +kernel)) (fun _ _ _ _ _ => pg_name (i := 8) sc_tags.nd rfl (by first | exact Or.inl rfl | exact Or.inr rfl)) (fun _ _ _ _ _ => pts_nil) (fun _ _ _ _ _ => (pe_op op_add_str (pe_slice sl_str (pv 5) po_none (po_some pe_int)) (pv 8))))))
      (pss_one (ps_expr (pe_bm PySem.F.plainAttrs_list PySem.F.slot_list_append PySem.F.type_list_append mt_append (pv 2) (pa_cons (pe_ix (ix_listK (K := K)) (pe_lc (own := [("_law_new", 9)]) (g := gName 9) rfl sc_tags.nd (pi_listK (K := K) (pv 7)) (blkOk_by (own := [("_law_new", 9)]) (N := ["_law_pot_here", "_law_amount", "_law_found", "_law_signs", "_law_turn", "_law_tag", "_law_at", "_law_near", "_law_sign", "_law_new"]) (sc := defScope s_tags) (by decide +kernel)) (fun _ _ _ _ _ => pg_name (i := 9) sc_tags.nd rfl (by first | exact Or.inl rfl | exact Or.inr rfl)) (fun _ _ _ _ _ => (pts_one (pt_cmpR (op_notInK (K := K)) (pv 9) (pv 2) (by rfl)))) (fun _ _ _ _ _ => (pv 9))) pe_int (fun _ _ => rfl)) pa_nil)))))))
      (pss_one (ps_ret (pe_callBK (cr_sortStr (K := K) hr.units) (by rfl) T.m_sorted (by decide +kernel) (pa_cons (pv 2) pa_nil) (pk_cons (pe_bltn (v := .ty "str") (by rfl) T.m_str (by decide +kernel) rfl) pk_nil))))))), ?_⟩
    obtain ⟨T, p, n, rfl, o, n1, n3, q⟩ := h
    have po := o.2 p rfl
    refine ⟨Nat.zero_le _, fun l hl => ⟨(by show 2 ≤ sizeLine; decide), fun t ht => ⟨t, _, rfl, SqT.of upd_same, rfl, _, _, rfl, _, _, rfl, rfl, ?_⟩⟩⟩
    have fl : Fr H l := fr_none hl
    have nl : ¬ (Zp T p).M l := o.fresh fl
    have r1 : R (Zp T p) H (upd (upd H l (.lst [])) t (.tup [.ref l, .str ABC])) := ((R.refl o).new hl).new ht
    have hl1 : (upd (upd H l (.lst [])) t (.tup [.ref l, .str ABC])) l = some (.lst []) := by
      rw [upd_ne (ne_of_none upd_same ht)]
      exact upd_same
    refine ⟨_, rfl, _, rfl, by omega, by omega, for_range (lo := 0) (n := ((n : Int)).toNat) (fun i σ H' => ∃ a b c d e f, σ = [some (.ref p), some (.int (n : Int)), some (.ref l), some (.str ABC), a, b, c, d, e, f] ∧ R (Zp T p) H H' ∧ ∃ xs : List Str, H' l = some (.lst (xs.map V.str)) ∧ xs.length = i ∧ (∀ x ∈ xs, isL x = true) ∧ xs.Nodup) ⟨_, _, _, _, _, _, rfl, r1, [], hl1, rfl, fun _ z => absurd z List.not_mem_nil, List.nodup_nil⟩ (fun i σ H1 hi hP => ?_) (fun σ H1 hP => ?_)⟩
    · obtain ⟨a, b, c, d, e, f, rfl, r, xs, hx, hn, hL, hN⟩ := hP
      refine ⟨fun σ' H2 => ∃ (sg : Str) (a b c d e : Option V), σ' = [some (.ref p), some (.int (n : Int)), some (.ref l), some (.str ABC), a, some (.str sg), b, c, d, e] ∧ isL sg = true ∧ R (Zp T p) H H2 ∧ H2 l = some (.lst (xs.map V.str)), ?_, ?_⟩
      · refine ⟨⟨_, rfl⟩, _, rfl, p, 3, rfl, r.b.2 p rfl, by decide, by decide, fun d1 H2 a0 a1 x2 => ⟨_, rfl, p, 3, rfl, x2.2, by decide, by decide, fun d2 H3 b0 b1 x3 => ?_⟩⟩
        have hm : 0 ≤ d1 * d2 ∧ d1 * d2 ≤ 4 := by
          rcases (by omega : d1 = 0 ∨ d1 = 1 ∨ d1 = 2) with rfl | rfl | rfl <;> omega
        refine ⟨_, _, rfl, rfl, .inl ⟨by omega, by omega⟩, _, _, rfl, rfl, _, rfl, by omega, by omega, fun D hD => ?_⟩
        have r2 := r.trans (Rm.R.xp r.b.1 (r.b.2 p rfl) x2)
        have r3 := r2.trans (Rm.R.xp r2.b.1 (r2.b.2 p rfl) x3)
        have hx3 := (Rm.R.xp r2.b.1 (r2.b.2 p rfl) x3).lst ((Rm.R.xp r.b.1 (r.b.2 p rfl) x2).lst hx nl) nl
        refine lcD_R1 (Z := Zp T p) (B := fun _ v => ∃ c, v = .str (sgn c) ∧ 97 ≤ c ∧ c ≤ 122) r3.b hD (by omega) (fun _ _ _ _ b => b) (fun _ => rfl) (fun i H4 hi r4 Q q => ?_) (fun us H4 r4 hu hlen hb => ?_)
        · exact ⟨_, rfl, _, rfl, .inr ⟨p, ABC, rfl, r4.b.2 p rfl, by decide, by decide, fun c H5 hc x5 => q _ H5 (Rm.R.xp r4.b.1 (r4.b.2 p rfl) x5) ⟨c, rfl, abc_mem hc⟩⟩⟩
        · obtain ⟨cs, rfl, hcl, hcs⟩ := sgns_of hb
          have hsum : ((cs.map sgn).map (·.length)).sum + (cs.map sgn).length * (Str.ofString "").length ≤ 16777216 := by
            rw [sum_sgn, List.length_map, show (Str.ofString "").length = 0 from rfl]
            omega
          refine ⟨_, D, cs.map sgn, rfl, rfl, .inl (SqL.of hu), hsum, ?_⟩
          rw [TL.join_eq]
          exact ⟨_, _, _, _, _, _, rfl, isL_join hcs (by omega) (by omega), r3.trans r4, r4.lst hx3 nl⟩
      · rintro σ' H2 ⟨sg, a, b, c, d, e, rfl, hsg, r2, hx2⟩
        have eN : EvL (tOp rCat (tLst (tCons (tVar 5) tNil)) (tLc (iStr (tVar 3)) (gName 8) tYes (tOp (fun x y H Q => ∃ i j, x = V.str i ∧ y = V.str j ∧ i.length + j.length ≤ sizeLine ∧ Q (V.str (i ++ j)) H) (tSl rSlS (tVar 5) tNoPart (tPart (tC (V.int 7)))) (tVar 8)) [8])) [some (.ref p), some (.int (n : Int)), some (.ref l), some (.str ABC), a, some (.str sg), b, c, d, e] H2 ((sg :: near sg).map V.str) := by
          have z := el_cat (el_lst (ea_cons (σ := [some (.ref p), some (.int (n : Int)), some (.ref l), some (.str ABC), a, some (.str sg), b, c, d, e]) (H := H2) (ev_var (i := 5) rfl) ea_nil) (by show 1 ≤ 100000; decide)) (el_lcS (z := ABC) (j := 8) (vs := [8]) (te := tOp (fun x y H Q => ∃ i j, x = V.str i ∧ y = V.str j ∧ i.length + j.length ≤ sizeLine ∧ Q (V.str (i ++ j)) H) (tSl rSlS (tVar 5) tNoPart (tPart (tC (V.int 7)))) (tVar 8)) (fun i => .str (cutS sg none (some 7) ++ sgn (97 + i))) (ev_var (i := 3) rfl) (by decide +kernel) (fun _ => rfl) (fun i c H3 e3 hc => ?_)) (by
            rw [List.length_map, List.length_range]
            show 1 + ABC.cps.size ≤ 100000
            decide +kernel)
          · exact z
          · have hc2 : c = 97 + i := by
              have e : ABC.cps.toList = (List.range 26).map (97 + ·) := by decide +kernel
              have z : ABC.cps.toList[i]? = some c := by rw [Array.getElem?_toList]; exact hc
              rw [e, List.getElem?_map] at z
              cases q : (List.range 26)[i]? with
              | none =>
                rw [q] at z
                cases z
              | some k =>
                rw [q] at z
                have := (List.getElem?_eq_some_iff.mp q).2
                rw [List.getElem_range] at this
                have z : 97 + k = c := Option.some.inj z
                omega
            subst hc2
            have hl8 := isL_len hsg
            exact ev_addX (ev_cutS (ev_var rfl) eo_none (eo_some ev_c) (by omega)) (ev_var rfl) (by
              have l7 : (cutS sg none (some 7)).length ≤ 8 := by
                rw [len_cps, show (cutS sg none (some 7)).cps.toList = _ from cutS_take sg 7, List.length_take, ← len_cps]
                omega
              have l1 : (⟨#[97 + i]⟩ : Str).length = 1 := rfl
              show (cutS sg none (some 7)).length + (⟨#[97 + i]⟩ : Str).length ≤ 1000
              omega)
        have hi3 : xs.length ≤ 2 := by omega
        obtain ⟨y, hy, hny⟩ := fresh_one (m := xs) (near_nodup sg) (by
          have : (near sg).length = 26 := by
            unfold near
            rw [List.length_map, List.length_range]
          omega)
        have hF : y ∈ (sg :: near sg).filter fun x => !decide (x ∈ xs) := List.mem_filter.mpr ⟨List.mem_cons_of_mem _ hy, by simp [hny]⟩
        have hall : ∀ z ∈ (sg :: near sg).filter (fun x => !decide (x ∈ xs)), isL z = true ∧ z ∉ xs := fun z hz => by
          obtain ⟨z1, z2⟩ := List.mem_filter.mp hz
          refine ⟨?_, by simpa using z2⟩
          rcases List.mem_cons.mp z1 with rfl | z1
          · exact hsg
          · exact near_isL hsg z1
        refine q_asgL eN fun m H3 hm e3 hN3 => ?_
        have r3 : R (Zp T p) H H3 := r2.ex e3
        have hx3 := e3 _ _ hx2
        have hzN : (sg :: near sg).length ≤ 40000 := by
          show (near sg).length + 1 ≤ 40000
          unfold near
          rw [List.length_map, List.length_range]
          decide
        have eF := el_notin (K := K) (σ := [some (.ref p), some (.int (n : Int)), some (.ref l), some (.str ABC), a, some (.str sg), b, some (.ref m), d, e]) (H := H3) (ta := tVar 7) (tb := tVar 2) (j := 9) (vs := [9]) (xs := sg :: near sg) (ys := xs) (ev_var rfl) (fun x H4 e4 => ev_var rfl) (SqL.of hN3) (SqL.of hx3) hzN (fun _ => rfl) (fun _ => rfl)
        generalize hG : ((sg :: near sg).filter fun x => !decide (x ∈ xs)) = G at hF hall eF
        cases G with
        | nil => cases hF
        | cons y0 rest =>
          obtain ⟨z1, z2⟩ := hall y0 (List.mem_cons_self ..)
          refine s_app (K := K) hx3 (ev_var rfl) (ev_opL1 eF (fun _ _ => ev_c) (fun q H4 hq e4 => rv_ixL (sq_of hq) (show atI ((y0 :: rest).map V.str) ((0 : Nat) : Int) = some (V.str y0) from atI_nat rfl))) (by rw [List.length_map]; omega) fun H4 e4 => ⟨_, _, _, _, _, _, rfl, (r3.ex e4).mut fl (e4 _ _ hx3) trivial, xs ++ [y0], ?_, by rw [List.length_append, hn]; rfl, fun z hz => ?_, ?_⟩
          · rw [upd_same, List.map_append]
            rfl
          · rcases List.mem_append.mp hz with hz | hz
            · exact hL z hz
            · rw [List.mem_singleton.mp hz]
              exact z1
          · exact List.nodup_append.mpr ⟨hN, List.pairwise_singleton _ _, fun u hu v hv e => z2 (by rw [← List.mem_singleton.mp hv, ← e]; exact hu)⟩
    · obtain ⟨a, b, c, d, e, f, rfl, r, xs, hx, hn, hL, hN⟩ := hP
      have hn2 : ((n : Int)).toNat = n := by omega
      refine ⟨_, rfl, l, xs, rfl, rfl, SqL.of hx, by omega, fun r0 h0 => ?_⟩
      have pm := List.mergeSort_perm xs (PySem.W.dataLe false PyData.str)
      exact q r0 _ _ (r.fr (fr_none h0)) (r.new h0) upd_same (by rw [pm.length_eq]; omega) (fun x hx => hL x (pm.mem_iff.mp hx)) (pm.nodup_iff.mpr hN)

end
end K20
namespace K20
open PySem PySem.Spec PyProof.Rows L2 Lw Evl LamX Tk
open Rm (R Ok Z0 Zp Fr fr_none fr_ne nt_lst nt_tup)
open LwX (XC XF)
section
variable {P : Program} {w : World} {K : PySem.W.Frag} {mg : Str → Option Value} {base : Heap}
/-- all words over some letters, the shorter ones first -/
def spAll (K : PySem.W.Frag) : Sp := fun vs H Q _ => ∃ (l : Addr) (xs : List Str) (n : Nat), vs = [.ref l, .int (n : Int)] ∧ H l = some (.lst (xs.map V.str)) ∧ xs.length ≤ 3 ∧ n ≤ 3 ∧
  ∀ r H', H r = none → Ex H H' → LW K H' r (allW xs n) → Q (.ref r) H'
abbrev s_all : Stmt := topS 25
theorem sc_all : FnScope ["_law_tags_here", "_law_most", "_law_found", "_law_last", "_law_turn", "_law_longer", "_law_verse", "_law_tag"] ["_law_tags_here", "_law_most"] (defScope s_all) := ⟨rfl, rfl, rfl, by decide +kernel, rfl, by decide +kernel, by decide +kernel⟩
theorem ok_all {f : Addr} {fd : FuncData} (F : FunD K "_law_all" "_law_all" (defArgs s_all) (defBody s_all) (defScope s_all) [] [] f fd) (T : Tx P w K mg base)  : FnG P w K mg base CX0 1 f fd ["_law_tags_here", "_law_most"] (spAll K) := by
  refine fnG F sc_all (fun vs H Q E h => ?_) (fun cdv A outer s H vs Q E gd hr h => ?_)
  · obtain ⟨l, xs, n, rfl, _⟩ := h
    rfl
  · skip
    refine ⟨_, PSs.nox ((pss_cons (ps_par (i := 2) (j := 3) (by rfl) sc_all.nd rfl rfl (by decide) rfl rfl (pa_cons (pe_lst (pa_cons (pe_tup pa_nil) pa_nil)) (pa_cons (pe_lst (pa_cons (pe_tup pa_nil) pa_nil)) pa_nil)) (by rfl))
      (pss_cons (ps_for PassesOwn.never rfl (pi_range1 (by rfl) T.m_range (pa_cons (pv 1) pa_nil)) (pg_name (i := 4) sc_all.nd rfl (by first | exact Or.inl rfl | exact Or.inr rfl)) (pss_cons (ps_set (i := 5) sc_all.nd rfl (by first | exact Or.inl rfl | exact Or.inr rfl) (pe_lst pa_nil))
      (pss_cons (ps_for PassesOwn.never rfl (pi_listK (K := K) (pv 3)) (pg_name (i := 6) sc_all.nd rfl (by first | exact Or.inl rfl | exact Or.inr rfl)) (pss_one (ps_expr (pe_bm PySem.F.plainAttrs_list PySem.F.slot_list_extend PySem.F.type_list_extend mt_extend (pv 5) (pa_cons (pe_lc (own := [("_law_tag", 7)]) (g := gName 7) (tt := tYes) rfl sc_all.nd (pi_listK (K := K) (pv 0)) (blkOk_by (own := [("_law_tag", 7)]) (N := ["_law_tags_here", "_law_most", "_law_found", "_law_last", "_law_turn", "_law_longer", "_law_verse", "_law_tag"]) (sc := defScope s_all) (by decide +kernel)) (fun _ _ _ _ _ => pg_name (i := 7) sc_all.nd rfl (by first | exact Or.inl rfl | exact Or.inr rfl)) (fun _ _ _ _ _ => pts_nil) (fun _ _ _ _ _ => (pe_op (op_catAK (K := K)) (pv 6) (pe_tup (pa_cons (pv 7) pa_nil))))) pa_nil)))))
      (pss_cons (ps_set (i := 3) sc_all.nd rfl (by first | exact Or.inl rfl | exact Or.inr rfl) (pv 5))
      (pss_one (ps_set (i := 2) sc_all.nd rfl (by first | exact Or.inl rfl | exact Or.inr rfl) (pe_op op_cat (pv 2) (pv 3))))))))
      (pss_one (ps_ret (pv 2)))))), ?_⟩
    obtain ⟨l, xs, n, rfl, hl, hx3, hn3, q⟩ := h
    have e0 : ∀ {σ : L2.St} {H : Hp}, EvLW K (tLst (tCons (tTup tNil) tNil)) σ H [[]] := elw_lst (eaw_cons (ew_tup (ys := []) ea_nil (Nat.zero_le _)) eaw_nil) (by show 1 ≤ 100000; decide)
    refine q_par (e0 H (Ex.refl H) _ fun f0 H1 hf0 e1 hF0 => e0 H1 (Ex.refl H1) _ fun g0 H2 hg0 e2 hG0 => ?_)
    have pw : ∀ k, k ≤ 3 → (lvW xs k).length ≤ 27 := fun k hk => by
      rw [lvW_len]
      have h1 : xs.length ^ k ≤ 3 ^ k := Nat.pow_le_pow_left hx3 k
      have h2 : 3 ^ k ≤ 3 ^ 3 := Nat.pow_le_pow_right (by decide) hk
      omega
    have aw : ∀ k, k ≤ 3 → (allW xs k).length ≤ 1 + 27 * k := fun k => by
      induction k with
      | zero => intro _; exact Nat.le_refl 1
      | succ k ih =>
        intro hk
        have h1 := ih (by omega)
        have h2 := pw (k + 1) hk
        rw [allW, List.length_append]
        omega
    refine ⟨_, rfl, _, rfl, by omega, by omega, for_range (lo := 0) (n := ((n : Int)).toNat) (fun i σ H' => ∃ f g a b c d, σ = [some (.ref l), some (.int (n : Int)), some (.ref f), some (.ref g), a, b, c, d] ∧ Ex H H' ∧ H f = none ∧ LW K H' f (allW xs i) ∧ LW K H' g (lvW xs i)) ⟨f0, g0, _, _, _, _, rfl, e1.trans e2, hf0, lw_mono e2 hF0, hG0⟩ (fun i σ H3 hi hP => ?_) (fun σ H3 hP => ?_)⟩
    · obtain ⟨f, g, a, b, c, d, rfl, e3, hf, hF, us, hu, hp⟩ := hP
      refine q_asgL (el_lst (vs := []) ea_nil (Nat.zero_le _)) fun lo H4 hlo e4 hL => ?_
      have hu4 := e4 _ _ hu
      have hp4 := paired_mono (fun _ _ r => wd_mono e4 r) hp
      have li := pw i (by omega)
      have lu : us.length = (lvW xs i).length := Paired.length hp
      refine q_forL (K := K) (ev_var rfl) (SqL.of hu4) (fun j σ' H' => ∃ b c, σ' = [some (.ref l), some (.int (n : Int)), some (.ref f), some (.ref g), some (.int ((0 : Int) + (i : Int))), some (.ref lo), b, c] ∧ Ex H3 H' ∧ Ex H3 H' ∧ ∃ vs, H' lo = some (.lst vs) ∧ Paired (Wd K H') vs (((lvW xs i).take j).flatMap fun w => xs.map fun x => w ++ [x])) (fun H5 e5 => ⟨_, _, rfl, e4.trans e5, e4.trans e5, [], e5 _ _ hL, by rw [List.take_zero]; exact .nil⟩) (fun j σ' H' _ p => ?_) (fun j x σ' H' hj p => ?_) (fun σ' H' p => ?_)
      · obtain ⟨_, _, _, e5, _⟩ := p
        exact SqL.of (e5 _ _ hu)
      · obtain ⟨b, c, rfl, e5, _, vs, hv, hpv⟩ := p
        obtain ⟨w, hw, rw_⟩ := paired_at hp hj
        have rw5 := wd_mono e5 rw_
        have hl5 := e5 _ _ (e3 _ _ hl)
        have hj2 := (List.getElem?_eq_some_iff.mp hw).1
        have fl : (((lvW xs i).take j).flatMap fun w => xs.map fun x => w ++ [x]).length ≤ 81 := by
          have key : ∀ ws : List (List Str), (ws.flatMap fun w => xs.map fun x => w ++ [x]).length ≤ 3 * ws.length := fun ws => by
            induction ws with
            | nil => exact Nat.le_refl 0
            | cons w ws ih =>
              rw [List.flatMap_cons, List.length_append, List.length_map, List.length_cons]
              omega
          have z := key ((lvW xs i).take j)
          rw [List.length_take] at z
          omega
        refine ⟨_, rfl, .inl ⟨rfl, _, SqL.of hv⟩, elw_LS (fun x => w ++ [x]) (ev_var rfl) (SqL.of hl5) (by omega) (fun _ => rfl) (fun x H6 e6 hx => ew_cat (ew_of (ev_var rfl) (wd_mono e6 rw5)) (ew_tup (ys := [x]) (ea_cons (ev_var rfl) ea_nil) (by show 1 ≤ 100000; decide)) (by
            have := mem_lvW.mp (List.mem_of_getElem? hw)
            show w.length + 1 ≤ _
            omega)) H' (Ex.refl H') _ fun m H6 hm e6 hM => ?_⟩
        obtain ⟨cs, hcs, hpc⟩ := hM
        have lv := Paired.length hpv
        have lc := Paired.length hpc
        rw [List.length_map] at lc
        have hv6 := e6 _ _ hv
        refine ⟨lo, m, vs, cs, rfl, rfl, hv6, hcs, sz_of (by omega), _, _, rfl, Ex.mut (e5.trans e6) hlo, Ex.mut (e5.trans e6) hlo, vs ++ cs, upd_same, ?_⟩
        have ts : (lvW xs i).take (j + 1) = (lvW xs i).take j ++ [w] := by
          rw [List.take_add_one, hw]
          rfl
        rw [ts, List.flatMap_append]
        refine paired_app (paired_mono (fun _ _ r => wd_upd hv6 (wd_mono e6 r)) hpv) ?_
        rw [List.flatMap_cons, List.flatMap_nil, List.append_nil]
        exact paired_mono (fun _ _ r => wd_upd hv6 r) hpc
      · obtain ⟨b, c, rfl, e5, _, vs, hv, hpv⟩ := p
        rw [lu, List.take_length] at hpv
        refine q_asg (v := .ref lo) (ev_var rfl) fun H6 e6 => ?_
        obtain ⟨fs, hfs, hpf⟩ := lw_mono (e5.trans e6) hF
        have lf := Paired.length hpf
        have lv := Paired.length hpv
        have al := aw i (by omega)
        have pl := pw (i + 1) (by omega)
        have hpv2 : Paired (Wd K H') vs (lvW xs (i + 1)) := hpv
        have lv2 := Paired.length hpv2
        refine ⟨_, rfl, _, rfl, f, lo, fs, vs, rfl, rfl, hfs, e6 _ _ hv, sz_of (by omega), fun t ht => ⟨t, lo, _, _, _, _, rfl, ((e3.trans e5).trans e6).trans (Ex.new ht), fresh_back ((e3.trans e5).trans e6) ht, ⟨fs ++ vs, upd_same, ?_⟩, ⟨vs, ?_, ?_⟩⟩⟩
        · rw [allW]
          exact paired_app (paired_mono (fun _ _ r => wd_mono (Ex.new ht) r) hpf) (paired_mono (fun _ _ r => wd_mono (e6.trans (Ex.new ht)) r) hpv2)
        · exact (e6.trans (Ex.new ht)) _ _ hv
        · exact paired_mono (fun _ _ r => wd_mono (e6.trans (Ex.new ht)) r) hpv2
    · obtain ⟨f, g, a, b, c, d, rfl, e3, hf, hF, _⟩ := hP
      have hn2 : ((n : Int)).toNat = n := by omega
      rw [hn2] at hF
      exact s_ret (ev_var rfl) fun H4 e4 => q f H4 hf (e3.trans e4) (lw_mono e4 hF)

/-- a row of one to three different words -/
def spVerses (K : PySem.W.Frag) : Sp := fun vs H Q _ => ∃ (T : List (Addr × Str)) (p l : Addr) (xs : List Str), vs = [.ref p, .ref l] ∧ Ok (Zp T p) H ∧ H l = some (.lst (xs.map V.str)) ∧ 1 ≤ xs.length ∧ xs.length ≤ 3 ∧ (∀ x ∈ xs, isL x = true) ∧ xs.Nodup ∧
  ∀ r ws H', Fr H r → R (Zp T p) H H' → LW K H' r ws → okWs ws → 1 ≤ ws.length → ws.length ≤ 3 → Q (.ref r) H'
abbrev s_verses : Stmt := topS 27
theorem sc_verses : FnScope ["_law_pot_here", "_law_tags_here", "_law_found", "_law_menu", "_law_turn", "_law_at", "_law_turned", "_law_verse"] ["_law_pot_here", "_law_tags_here"] (defScope s_verses) := ⟨rfl, rfl, rfl, by decide +kernel, rfl, by decide +kernel, by decide +kernel⟩
theorem ok_verses {f : Addr} {fd : FuncData} (F : FunD K "_law_verses" "_law_verses" (defArgs s_verses) (defBody s_verses) (defScope s_verses) [] [] f fd) (T : Tx P w K mg base) (d_law_draw : Cal P w K mg base CX0 1 "_law_draw" ["_law_pot_here", "_law_sides"] spDraw) (d_law_all : Cal P w K mg base CX0 1 "_law_all" ["_law_tags_here", "_law_most"] (spAll K)) : FnG P w K mg base CX0 3 f fd ["_law_pot_here", "_law_tags_here"] (spVerses K) := by
  refine fnG F sc_verses (fun vs H Q E h => ?_) (fun cdv A outer s H vs Q E gd hr h => ?_)
  · obtain ⟨T, p, l, xs, rfl, _⟩ := h
    rfl
  · skip
    refine ⟨_, PSs.nox ((pss_cons (ps_asg (pe_tup (pa_cons (pe_lst pa_nil) (pa_cons (pe_slice (sl_listK (K := K)) (pe_cal d_law_all gd hr (pa_cons (pv 1) (pa_cons pe_int pa_nil))) (po_some pe_int) po_none) pa_nil))) (pg_tup (n := 2) rfl (pgs_cons (pg_name (i := 2) sc_verses.nd rfl (by first | exact Or.inl rfl | exact Or.inr rfl)) (pgs_cons (pg_name (i := 3) sc_verses.nd rfl (by first | exact Or.inl rfl | exact Or.inr rfl)) pgs_nil))))
      (pss_cons (ps_for PassesOwn.never rfl (pi_range1 (by rfl) T.m_range (pa_cons (pe_op op_add pe_int (pe_cal d_law_draw gd hr (pa_cons (pv 0) (pa_cons pe_int pa_nil)))) pa_nil)) (pg_name (i := 4) sc_verses.nd rfl (by first | exact Or.inl rfl | exact Or.inr rfl)) (pss_cons (ps_set (i := 5) sc_verses.nd rfl (by first | exact Or.inl rfl | exact Or.inr rfl) (pe_cal d_law_draw gd hr (pa_cons (pv 0) (pa_cons (pe_callB (call_lenK (K := K)) (by rfl) T.m_len (by decide +kernel) (pa_cons (pv 3) pa_nil)) pa_nil))))
      (pss_cons (ps_set (i := 6) sc_verses.nd rfl (by first | exact Or.inl rfl | exact Or.inr rfl) (pe_op op_cat (pe_slice (sl_listK (K := K)) (pv 3) (po_some (pv 5)) po_none) (pe_slice (sl_listK (K := K)) (pv 3) po_none (po_some (pv 5)))))
      (pss_one (ps_expr (pe_bm PySem.F.plainAttrs_list PySem.F.slot_list_append PySem.F.type_list_append mt_append (pv 2) (pa_cons (pe_ix (ix_listK (K := K)) (pe_lc (own := [("_law_verse", 7)]) (g := gName 7) rfl sc_verses.nd (pi_listK (K := K) (pv 6)) (blkOk_by (own := [("_law_verse", 7)]) (N := ["_law_pot_here", "_law_tags_here", "_law_found", "_law_menu", "_law_turn", "_law_at", "_law_turned", "_law_verse"]) (sc := defScope s_verses) (by decide +kernel)) (fun _ _ _ _ _ => pg_name (i := 7) sc_verses.nd rfl (by first | exact Or.inl rfl | exact Or.inr rfl)) (fun _ _ _ _ _ => (pts_one (pt_cmpR (op_notInDK (K := K) hr.u65) (pv 7) (pv 2) (by rfl)))) (fun _ _ _ _ _ => (pv 7))) pe_int (fun _ _ => rfl)) pa_nil)))))))
      (pss_one (ps_ret (pv 2)))))), ?_⟩
    obtain ⟨T, p, l, xs, rfl, o, hl, x1, x3, hx, hn, q⟩ := h
    have nl := ls_nm o hl
    refine ⟨Nat.zero_le _, fun f hf => ⟨_, rfl, l, xs, 3, rfl, (Ex.new hf) _ _ hl, x3, by decide, fun a H1 ha e1 hA => ?_⟩⟩
    obtain ⟨us, hu, hp⟩ := hA
    refine ⟨1, rfl, a, us, rfl, SqL.of hu, fun m hm => ⟨(by show 2 ≤ sizeLine; decide), fun t ht => ⟨t, _, rfl, SqT.of upd_same, rfl, _, _, rfl, _, _, rfl, rfl, ?_⟩⟩⟩
    have cu : cutV us (some (1 : Int)) none = us.drop 1 := cut_from us 1 (by
      rw [Paired.length hp, allW_cons]
      exact Nat.succ_le_succ (Nat.zero_le _))
    rw [cu] at ht ⊢
    have ff : Fr H f := fr_none hf
    have nf : ¬ (Zp T p).M f := o.fresh ff
    have r0 : R (Zp T p) H (upd H f (.lst [])) := (R.refl o).new hf
    have r1 := ((r0.ex e1).new (o := .lst (us.drop 1)) hm).new (o := .tup [.ref f, .ref m]) ht
    have e2 : Ex H1 (upd (upd H1 m (.lst (us.drop 1))) t (.tup [.ref f, .ref m])) := (Ex.new hm).trans (Ex.new ht)
    have hf2 : (upd (upd H1 m (.lst (us.drop 1))) t (.tup [.ref f, .ref m])) f = some (.lst []) := e2 _ _ (e1 _ _ upd_same)
    have hm2 : LW K (upd (upd H1 m (.lst (us.drop 1))) t (.tup [.ref f, .ref m])) m (wdsW xs 3) := ⟨us.drop 1, by rw [upd_ne (ne_of_none upd_same ht)]; exact upd_same, paired_mono (fun _ _ r => wd_mono e2 r) (paired_drop 1 hp)⟩
    generalize upd (upd H1 m (.lst (us.drop 1))) t (.tup [.ref f, .ref m]) = H2 at r1 hf2 hm2
    have po := r1.b.2 p rfl
    refine ⟨_, rfl, p, 3, rfl, po, by decide, by decide, fun d H3 d0 d1 x3' => ?_⟩
    have r3 := r1.trans (Rm.R.xp r1.b.1 po x3')
    have hf3 := (Rm.R.xp r1.b.1 po x3').lst hf2 nf
    have hm3 := lw_RO (Rm.R.xp r1.b.1 po x3') hm2
    refine ⟨_, _, rfl, rfl, _, rfl, by omega, by omega, for_range (lo := 0) (n := ((1 : Int) + d).toNat) (fun i σ H' => ∃ a b c e, σ = [some (.ref p), some (.ref l), some (.ref f), some (.ref m), a, b, c, e] ∧ R (Zp T p) H H' ∧ LW K H' m (wdsW xs 3) ∧ ∃ ws, LW K H' f ws ∧ ws.length = i ∧ okWs ws) ⟨_, _, _, _, rfl, r3, hm3, [], ⟨[], hf3, .nil⟩, rfl, fun _ z => absurd z List.not_mem_nil, List.nodup_nil⟩ (fun i σ H4 hi hP => ?_) (fun σ H4 hP => ?_)⟩
    · obtain ⟨a, b, c, e, rfl, r4, hm4, ws, hw4, hwl, hok⟩ := hP
      have tl := three_le x1 hn
      have ml : (wdsW xs 3).length ≤ 1000 := by
        have h1 : (allW xs 3).length = 1 + (wdsW xs 3).length := by
          rw [allW_cons, List.length_cons]
          omega
        have h2 : (allW xs 3).length = 1 + xs.length ^ 1 + xs.length ^ 2 + xs.length ^ 3 := by
          simp only [allW, List.length_append, lvW_len]
          rfl
        have p1 : xs.length ^ 1 ≤ 3 ^ 1 := Nat.pow_le_pow_left x3 1
        have p2 : xs.length ^ 2 ≤ 3 ^ 2 := Nat.pow_le_pow_left x3 2
        have p3 : xs.length ^ 3 ≤ 3 ^ 3 := Nat.pow_le_pow_left x3 3
        omega
      obtain ⟨ms, hms, hmp⟩ := hm4
      have mln := Paired.length hmp
      refine ⟨_, rfl, _, rfl, m, ms, rfl, .inl (SqL.of hms), p, _, rfl, r4.b.2 p rfl, by omega, by omega, fun at_ H5 a0 a1 x5 => ?_⟩
      have r45 := Rm.R.xp r4.b.1 (r4.b.2 p rfl) x5
      have r5 := r4.trans r45
      have hm5 := lw_RO r45 ⟨ms, hms, hmp⟩
      have hw5 := lw_RO r45 hw4
      obtain ⟨k, rfl⟩ := Int.eq_ofNat_of_zero_le a0
      have hk : k ≤ (wdsW xs 3).length := by omega
      refine q_asgLW (elw_cat (elw_drop (ev_var rfl) hm5 (eo_some (ev_var rfl)) eo_none hk) (elw_take (ev_var rfl) hm5 eo_none (eo_some (ev_var rfl)) hk) (by rw [List.length_drop, List.length_take]; omega)) fun tu H6 htu e6 hT => ?_
      have hw6 := lw_mono e6 hw5
      obtain ⟨y, hy, hny⟩ := fresh_one (m := ws) (wdsW_nodup hn 3) (by omega)
      have mem_t : ∀ z, z ∈ (wdsW xs 3).drop k ++ (wdsW xs 3).take k ↔ z ∈ wdsW xs 3 := fun z => by
        rw [List.mem_append, or_comm, ← List.mem_append, List.take_append_drop]
      have hF : y ∈ ((wdsW xs 3).drop k ++ (wdsW xs 3).take k).filter fun z => !decide (z ∈ ws) := List.mem_filter.mpr ⟨(mem_t y).mpr hy, by simp [hny]⟩
      have hall : ∀ z ∈ ((wdsW xs 3).drop k ++ (wdsW xs 3).take k).filter (fun z => !decide (z ∈ ws)), isW z = true ∧ z ≠ [] ∧ z ∉ ws := fun z hz => by
        obtain ⟨z1, z2⟩ := List.mem_filter.mp hz
        obtain ⟨z3, z4, z5⟩ := (mem_wdsW hn).mp ((mem_t z).mp z1)
        exact ⟨isW_of hx z4 z5, z3, by simpa using z2⟩
      obtain ⟨ts, hts, htp⟩ := hT
      have tln := Paired.length htp
      rw [List.length_append, List.length_drop, List.length_take] at tln
      have eF := elw_LF (K := K) (σ := [some (.ref p), some (.ref l), some (.ref f), some (.ref m), some (.int ((0 : Int) + (i : Int))), some (.int (k : Int)), some (.ref tu), e]) (H := H6) (ta := tVar 6) (j := 7) (vs := [7]) (te := tVar 7) (tt := tTest (tOp (rNotInD K) (tVar 7) (tVar 2))) (fun z => !decide (z ∈ ws)) (fun z => z) (ev_var rfl) hts htp (by omega) (fun _ => rfl) (fun x z H7 e7 hz zm => by
          obtain ⟨fs, hfs, hfp⟩ := lw_mono e7 hw6
          obtain ⟨_, z4, z5⟩ := (mem_wdsW hn).mp ((mem_t z).mp zm)
          exact et_test (ev_niW (ev_var rfl) (ev_var rfl) hz hfs hfp (isW_of hx z4 z5) (okWs_isW hok))) (fun x z H7 e7 hz _ _ => ew_of (ev_var rfl) hz)
      rw [List.map_id'] at eF
      generalize hG : (((wdsW xs 3).drop k ++ (wdsW xs 3).take k).filter fun z => !decide (z ∈ ws)) = G at hF hall eF
      cases G with
      | nil => cases hF
      | cons y0 rest =>
        obtain ⟨z1, z2, z3⟩ := hall y0 (List.mem_cons_self ..)
        obtain ⟨fs, hfs, hap⟩ := lw_app (w := y0) hw6
        have fln : fs.length = ws.length := by
          obtain ⟨us2, q1, q2⟩ := hw6
          rw [hfs] at q1
          cases q1
          exact Paired.length q2
        refine s_appW (K := K) hfs (ev_var rfl) (ew_at0 eF) (by omega) fun v H7 e7 hv => ⟨_, _, _, _, rfl, ((r5.ex e6).ex e7).mut ff (e7 _ _ hfs) trivial, ?_, ws ++ [y0], hap v H7 e7 hv, by rw [List.length_append, hwl]; rfl, fun z hz => ?_, ?_⟩
        · refine lw_upd (e7 _ _ hfs) (fun z => ?_) (lw_mono (e6.trans e7) hm5)
          obtain ⟨ms5, q1, q2⟩ := hm5
          rw [z] at q1
          rw [(e6 _ _ q1)] at hfs
          cases hfs
          have := Paired.length q2
          omega
        · rcases List.mem_append.mp hz with hz | hz
          · exact hok.1 z hz
          · rw [List.mem_singleton.mp hz]
            exact ⟨z1, z2⟩
        · exact List.nodup_append.mpr ⟨hok.2, List.pairwise_singleton _ _, fun u hu v hv e => z3 (by rw [← List.mem_singleton.mp hv, ← e]; exact hu)⟩
    · obtain ⟨a, b, c, e, rfl, r4, hm4, ws, hw4, hwl, hok⟩ := hP
      exact s_ret (ev_var rfl) fun H5 e5 => q f ws H5 ff (r4.ex e5) (lw_mono e5 hw4) hok (by omega) (by omega)

def spSaw (K : PySem.W.Frag) : Sp := fun vs H Q _ => ∃ (T : List (Addr × Str)) (p l : Addr) (xs : List Str), vs = [.ref p, .ref l] ∧ Ok (Zp T p) H ∧ H l = some (.lst (xs.map V.str)) ∧ 1 ≤ xs.length ∧ xs.length ≤ 3 ∧ (∀ x ∈ xs, isL x = true) ∧ xs.Nodup ∧
  ∀ g r s ws ms H', R (Zp T p) H H' → H' g = some (.tup [.ref r, .ref s]) → LW K H' r ws → okWs ws → 1 ≤ ws.length → ws.length ≤ 3 → LW K H' s ms → okWs ms → 1 ≤ ms.length → ms.length ≤ 3 → Q (.ref g) H'
abbrev s_saw : Stmt := topS 28
theorem sc_saw : FnScope ["_law_pot_here", "_law_tags_here"] ["_law_pot_here", "_law_tags_here"] (defScope s_saw) := ⟨rfl, rfl, rfl, by decide +kernel, rfl, by decide +kernel, by decide +kernel⟩
theorem ok_saw {f : Addr} {fd : FuncData} (F : FunD K "_law_saw" "_law_saw" (defArgs s_saw) (defBody s_saw) (defScope s_saw) [] [] f fd) (T : Tx P w K mg base) (d_law_verses : Cal P w K mg base CX0 3 "_law_verses" ["_law_pot_here", "_law_tags_here"] (spVerses K)) : FnG P w K mg base CX0 4 f fd ["_law_pot_here", "_law_tags_here"] (spSaw K) := by
  refine fnG F sc_saw (fun vs H Q E h => ?_) (fun cdv A outer s H vs Q E gd hr h => ?_)
  · obtain ⟨T, p, l, xs, rfl, _⟩ := h
    rfl
  · skip
    refine ⟨_, PSs.nox ((pss_one (ps_ret (pe_tup (pa_cons (pe_cal d_law_verses gd hr (pa_cons (pv 0) (pa_cons (pv 1) pa_nil))) (pa_cons (pe_cal d_law_verses gd hr (pa_cons (pv 0) (pa_cons (pv 1) pa_nil))) pa_nil)))))), ?_⟩
    obtain ⟨T, p, l, xs, rfl, o, hl, x1, x3, hx, hn, q⟩ := h
    have nl := ls_nm o hl
    refine ⟨_, rfl, _, rfl, T, p, l, xs, rfl, o, hl, x1, x3, hx, hn, fun r ws H1 fr r1 hL ok1 w1 w3 => ?_⟩
    refine ⟨_, rfl, _, rfl, T, p, l, xs, rfl, r1.b, r1.lst hl nl, x1, x3, hx, hn, fun s ms H2 fs r2 hM ok2 m1 m3 => ?_⟩
    refine ⟨(by show 2 ≤ sizeLine; decide), fun t ht => ?_⟩
    exact q t r s ws ms _ ((r1.trans r2).new ht) upd_same (lw_mono (Ex.new ht) (lw_RO r2 hL)) ok1 w1 w3 (lw_mono (Ex.new ht) hM) ok2 m1 m3

end
end K20
namespace Tk
open PySem PySem.Spec PyProof.Rows L2 Lw Evl LamX TL
open Rm (R Ok Z0 Zp Fr fr_none fr_ne nt_lst nt_tup nt_dK NT Zn)
/-! ### rows, as they are passed -/
/-- what can't stand behind the rows ws -/
def Wr (K : PySem.W.Frag) (H : Hp) (x : V) (ws : List (List Str)) : Prop := WB K H x false ∨ ∃ y, Wd K H x y ∧ isW y = true ∧ (y = [] ∨ y ∈ ws)
/-- an instance with no list's kind -/
def NoSeq (K : PySem.W.Frag) (H : Hp) (v : V) : Prop := ∃ t : String, TyX K H v (.type t) ∧ PySem.W.kitAny K (.type t) [.type "list", .type "tuple"] = some false
def BadEls (K : PySem.W.Frag) (H : Hp) (us : List V) (m : Nat) : Prop := ∃ ws x, ws.length = m ∧ us.length ≤ 3 ∧ Paired (Wd K H) (us.take m) ws ∧ okWs ws ∧ us[m]? = some x ∧ Wr K H x ws
def BadRow (K : PySem.W.Frag) (H : Hp) (v p : V) : Prop := (NoSeq K H v ∧ p = .non) ∨ (∃ l us, v = .ref l ∧ Sq H l us ∧ us.length ≤ 1000 ∧ ¬ (1 ≤ us.length ∧ us.length ≤ 3) ∧ p = .non) ∨
  ∃ l us m, v = .ref l ∧ Sq H l us ∧ BadEls K H us m ∧ p = .int (m : Int)
def GoodRow (K : PySem.W.Frag) (H : Hp) (v : V) (ws : List (List Str)) : Prop := ∃ l us, v = .ref l ∧ Sq H l us ∧ Paired (Wd K H) us ws ∧ okWs ws ∧ 1 ≤ ws.length ∧ ws.length ≤ 3
section
variable {K : PySem.W.Frag} {Z : Zn} {H H1 : Hp} {v p x : V} {us : List V} {m : Nat} {ws : List (List Str)} {l : Addr}
theorem wr_ex (e : Ex H H1) (h : Wr K H x ws) : Wr K H1 x ws := h.imp (wbv_mono e) fun ⟨y, a, b⟩ => ⟨y, wd_mono e a, b⟩
theorem bel_ex (e : Ex H H1) (h : BadEls K H us m) : BadEls K H1 us m := by
  obtain ⟨ws, x, a, b, c, d, f, g⟩ := h
  exact ⟨ws, x, a, b, paired_mono (fun _ _ r => wd_mono e r) c, d, f, wr_ex e g⟩
theorem bad_ex (e : Ex H H1) (h : BadRow K H v p) : BadRow K H1 v p := by
  rcases h with ⟨⟨t, a, b⟩, c⟩ | ⟨l, us, a, b, c⟩ | ⟨l, us, m, a, b, c, d⟩
  · exact .inl ⟨⟨t, tyx_mono e a, b⟩, c⟩
  · exact .inr (.inl ⟨l, us, a, sq_ex e b, c⟩)
  · exact .inr (.inr ⟨l, us, m, a, sq_ex e b, bel_ex e c, d⟩)
theorem good_ex (e : Ex H H1) (h : GoodRow K H v ws) : GoodRow K H1 v ws := by
  obtain ⟨l, us, a, b, c, d⟩ := h
  exact ⟨l, us, a, sq_ex e b, paired_mono (fun _ _ r => wd_mono e r) c, d⟩
theorem good_lw (h : LW K H l ws) (o : okWs ws) (h1 : 1 ≤ ws.length) (h3 : ws.length ≤ 3) : GoodRow K H (.ref l) ws := by
  obtain ⟨us, a, b⟩ := h
  exact ⟨l, us, rfl, .inl a, b, o, h1, h3⟩
theorem good_R (r : R Z H H1) (h : GoodRow K H v ws) : GoodRow K H1 v ws := by
  obtain ⟨l, us, a, b, c, d, e, f⟩ := h
  refine ⟨l, us, a, ?_, paired_mono (fun _ _ q => Rm.wd_R r q) c, d, e, f⟩
  rcases b with b | b
  · exact .inl (r.lst b (lw_nm r.a ⟨us, b, c⟩))
  · exact .inr (r.tup b)
theorem okWs_srt (o : okWs ws) : okWs (srtW ws) := ⟨fun w hw => o.1 w (srtW_mem.mp hw), srtW_nodup ws⟩
end
/-! ### is_row, first_wrong -/
def spIsRow (K : PySem.W.Frag) : Sp := fun vs H Q _ => ∃ (v : V) (b : Bool), vs = [v] ∧ ((NoSeq K H v ∧ b = false) ∨ ∃ l us, v = .ref l ∧ Sq H l us ∧ us.length ≤ 1000 ∧ b = (decide ((1 : Int) ≤ (us.length : Int)) && decide ((us.length : Int) ≤ 3))) ∧ ∀ H', Ex H H' → Q (.bl b) H'
def spFW (K : PySem.W.Frag) : Sp := fun vs H Q _ => ∃ (l : Addr) (us : List V) (ws : List (List Str)), vs = [.ref l] ∧ Sq H l us ∧ us.length ≤ 1000 ∧ Paired (Wd K H) (us.take ws.length) ws ∧ okWs ws ∧
  ((us.length = ws.length ∧ ∀ H', Ex H H' → Q .non H') ∨ ∃ x, us[ws.length]? = some x ∧ Wr K H x ws ∧ ∀ H', Ex H H' → Q (.int (ws.length : Int)) H')
section
variable {K : PySem.W.Frag} {σ : L2.St} {H : Hp} {te : TE} {v : V} {l : Addr} {us : List V} {ws : List (List Str)} {tb : TS} {g : TG} {D : Ends} {j : Nat} {x : V}
theorem ev_rowN (h : Ev te σ H v) (hv : NoSeq K H v) : Ev (tCall (spIsRow K) [] E0 (tCons te tNil)) σ H (.bl false) := ev_call (ea_cons h ea_nil) fun H1 e Q q E => ⟨v, false, rfl, .inl ⟨by
  obtain ⟨t, a, b⟩ := hv
  exact ⟨t, tyx_mono e a, b⟩, rfl⟩, q⟩
theorem ev_rowQ (h : Ev te σ H (.ref l)) (hv : Sq H l us) (hz : us.length ≤ 1000) : Ev (tCall (spIsRow K) [] E0 (tCons te tNil)) σ H (.bl (decide ((1 : Int) ≤ (us.length : Int)) && decide ((us.length : Int) ≤ 3))) :=
  ev_call (ea_cons h ea_nil) fun H1 e Q q E => ⟨_, _, rfl, .inr ⟨l, us, rfl, sq_ex e hv, hz, rfl⟩, q⟩
theorem ev_fwN (h : Ev te σ H (.ref l)) (hv : Sq H l us) (hp : Paired (Wd K H) us ws) (o : okWs ws) (hz : us.length ≤ 1000) : Ev (tCall (spFW K) [] E0 (tCons te tNil)) σ H .non :=
  ev_call (ea_cons h ea_nil) fun H1 e Q q E => ⟨l, us, ws, rfl, sq_ex e hv, hz, by
    rw [← Paired.length hp, List.take_length]
    exact paired_mono (fun _ _ r => wd_mono e r) hp, o, .inl ⟨Paired.length hp, q⟩⟩
theorem ev_fwI {m : Nat} (h : Ev te σ H (.ref l)) (hv : Sq H l us) (hb : BadEls K H us m) : Ev (tCall (spFW K) [] E0 (tCons te tNil)) σ H (.int (m : Int)) :=
  ev_call (ea_cons h ea_nil) fun H1 e Q q E => by
    obtain ⟨ws, x, rfl, b, c, d, f, g⟩ := bel_ex e hb
    exact ⟨l, us, ws, rfl, sq_ex e hv, by omega, c, d, .inr ⟨x, f, g, q⟩⟩
theorem ev_notN (h : Ev te σ H v) : Ev (tOp (fun x y H Q => y = .non ∧ Q (.bl (!decide (x = .non))) H) te (tC .non)) σ H (.bl (!decide (v = .non))) := ev_op h ev_c (rv_val fun H1 e Q q => ⟨rfl, q⟩)
/-- for position, x in enumerate(l), l a list or a tuple -/
theorem for_enumQ {k : Nat} (hk : σ[k]? = some (some (.ref l))) (hl : Sq H l us) (Pv : Nat → L2.St → Hp → Prop) (h0 : Pv 0 σ H) (he : ∀ i σ' H', Pv i σ' H' → Ex H H')
    (hs : ∀ i x σ' H' T, us[i]? = some x → Pv i σ' H' → H' T = none → g (.ref T) σ' (upd H' T (.tup [.int (i : Int), x])) fun σ2 H2 => tb { D with nx := Pv (i + 1), ct := Pv (i + 1), bk := D.nx } σ2 H2) (hd : ∀ σ' H', Pv us.length σ' H' → D.nx σ' H') :
    tFor (iEnumS K (tCons (tVar k) tNil)) g tb D σ H := by
  refine ⟨_, hk, l, rfl, ?_⟩
  rcases hl with h1 | h1
  · exact .inl ⟨us, SqL.of h1, for_it walk_enum Pv h0 (fun i _ H2 _ p => ex_l (he _ _ _ p) (SqL.of h1)) (fun i x2 σ H2 H3 hi p y => by
      obtain ⟨T, xi, xv, rfl, hT, rfl, hi1, hv1⟩ := y
      obtain rfl : xi = .int (i : Int) := (Option.some.inj hi1).symm
      exact hs i xv σ H2 T hv1 p hT) hd⟩
  · exact .inr ⟨us, SqT.of h1, for_it walkEnumT Pv h0 (fun i _ H2 _ p => ex_t (he _ _ _ p) (SqT.of h1)) (fun i x2 σ H2 H3 hi p y => by
      obtain ⟨T, xi, xv, rfl, hT, rfl, hi1, hv1⟩ := y
      obtain rfl : xi = .int (i : Int) := (Option.some.inj hi1).symm
      exact hs i xv σ H2 T hv1 p hT) hd⟩
end
/-! ### sayings -/
def SyAt (K : PySem.W.Frag) (CY : Addr) (H : Hp) (a : Addr) (ts ms : List (List Str)) : Prop := ∃ dx lt lm, H a = some (.ins CY dx [("_triggers", .ref lt), ("_makes", .ref lm)]) ∧ LW K H lt ts ∧ LW K H lm ms
/-- Saying(triggers, makes) -/
def spSay (K : PySem.W.Frag) (T : List (Addr × Str)) (CT CM CY : Addr) : Sp := fun vs H Q E => ∃ (a dx : Addr) (t m : V) (H0 : Hp), vs = [.ref a, t, m] ∧ H = upd (upd H0 dx (.own a)) a (.ins CY dx []) ∧ H0 a = none ∧ H0 dx = none ∧ dx ≠ a ∧ Tabs T H0 ∧
  ((∃ p, BadRow K H0 t p ∧ Rz CT "position" p H0 E) ∨ ∃ ts, GoodRow K H0 t ts ∧ ((∃ p, BadRow K H0 m p ∧ Rz CM "position" p H0 E) ∨ ∃ ms, GoodRow K H0 m ms ∧ ∀ H', R (Z0 T) H0 H' → SyAt K CY H' a (srtW ts) (srtW ms) → Q .non H'))
/-- s.with_triggers(triggers), s.with_makes(makes) -/
def spWT (K : PySem.W.Frag) (T : List (Addr × Str)) (CT CY : Addr) : Sp := fun vs H Q E => ∃ (a : Addr) (t : V) (ts ms : List (List Str)), vs = [.ref a, t] ∧ SyAt K CY H a ts ms ∧ okWs ms ∧ 1 ≤ ms.length ∧ ms.length ≤ 3 ∧ Tabs T H ∧
  ((∃ p, BadRow K H t p ∧ Rz CT "position" p H E) ∨ ∃ us, GoodRow K H t us ∧ ∀ b H', Fr H b → R (Z0 T) H H' → SyAt K CY H' b (srtW us) (srtW ms) → Q (.ref b) H')
def spWM (K : PySem.W.Frag) (T : List (Addr × Str)) (CM CY : Addr) : Sp := fun vs H Q E => ∃ (a : Addr) (m : V) (ts ms : List (List Str)), vs = [.ref a, m] ∧ SyAt K CY H a ts ms ∧ okWs ts ∧ 1 ≤ ts.length ∧ ts.length ≤ 3 ∧ Tabs T H ∧
  ((∃ p, BadRow K H m p ∧ Rz CM "position" p H E) ∨ ∃ us, GoodRow K H m us ∧ ∀ b H', Fr H b → R (Z0 T) H H' → SyAt K CY H' b (srtW ts) (srtW us) → Q (.ref b) H')
/-- s == other -/
def spSyEq (K : PySem.W.Frag) (CY : Addr) : Sp := fun vs H Q _ => ∃ (a : Addr) (v : V) (ts ms : List (List Str)), vs = [.ref a, v] ∧ SyAt K CY H a ts ms ∧ (∀ w ∈ ts, isW w = true) ∧ (∀ w ∈ ms, isW w = true) ∧
  ((∃ t : Value, TyX K H v t ∧ PySem.W.kitOne K t (.ref CY) = some false ∧ ∀ H', Ex H H' → Q (.bl false) H') ∨
   ∃ (b : Addr) (us ns : List (List Str)), v = .ref b ∧ SyAt K CY H b us ns ∧ (∀ w ∈ us, isW w = true) ∧ (∀ w ∈ ns, isW w = true) ∧ ∀ H', Ex H H' → Q (.bl (decide (ts = us) && decide (ms = ns))) H')
section
variable {K : PySem.W.Frag} {Z : Zn} {σ : L2.St} {H H1 : Hp} {ta tb te : TE} {a CY l : Addr} {ts ms ws us : List (List Str)} {o u : HO}
theorem sy_ex (e : Ex H H1) (h : SyAt K CY H a ts ms) : SyAt K CY H1 a ts ms := by
  obtain ⟨dx, lt, lm, h1, h2, h3⟩ := h
  exact ⟨dx, lt, lm, e _ _ h1, lw_mono e h2, lw_mono e h3⟩
theorem sy_R (r : R Z H H1) (h : SyAt K CY H a ts ms) : SyAt K CY H1 a ts ms := by
  obtain ⟨dx, lt, lm, h1, h2, h3⟩ := h
  exact ⟨dx, lt, lm, r.st _ _ h1 Rm.nt_ins (r.a.nm h1 fun _ z => nomatch z), lw_RO r h2, lw_RO r h3⟩
theorem lw_updN (h : H a = some u) (n1 : ∀ xs, u ≠ .lst xs) (n2 : ∀ xs, u ≠ .tup xs) (hl : LW K H l ws) : LW K (upd H a o) l ws := by
  obtain ⟨us, h1, h2⟩ := hl
  refine ⟨us, ?_, paired_mono (fun v ys r => ?_) h2⟩
  · rw [upd_ne fun z => by
      rw [z, h] at h1
      exact n1 _ (Option.some.inj h1)]
    exact h1
  · obtain ⟨b, e, q⟩ := r
    refine ⟨b, e, ?_⟩
    rw [upd_ne fun z => by
      rw [z, h] at q
      exact n2 _ (Option.some.inj q)]
    exact q
theorem eqvAll_wDs : ∀ xs ys : List (List Str), PyData.eqvAll (xs.map wD) (ys.map wD) = decide (xs = ys)
  | [], [] => rfl
  | [], _ :: _ => rfl
  | _ :: _, [] => rfl
  | x :: xs, y :: ys => by
    rw [List.map_cons, List.map_cons]
    unfold PyData.eqvAll
    rw [eqvAll_wDs xs ys, eqv_wD]
    by_cases h : x = y
    · subst h
      by_cases h2 : xs = ys
      · subst h2
        simp
      · simp [h2]
    · simp [h]
theorem eqv_wDs (xs ys : List (List Str)) : PyData.eqv (.list (xs.map wD)) (.list (ys.map wD)) = decide (xs = ys) := by
  unfold PyData.eqv
  exact eqvAll_wDs xs ys
theorem ev_eqLW {b : Addr} (ha : Ev ta σ H (.ref a)) (hb : Ev tb σ H (.ref b)) (h1 : LW K H a ws) (h2 : LW K H b us) (hw : ∀ x ∈ ws, isW x = true) (hu : ∀ x ∈ us, isW x = true) : Ev (tOp (rEqD K) ta tb) σ H (.bl (decide (ws = us))) := ev_op ha hb (rv_val fun H1 e Q q => by
  obtain ⟨vs, v1, v2⟩ := lw_mono e h1
  obtain ⟨zs, z1, z2⟩ := lw_mono e h2
  refine ⟨.list (ws.map wD), .list (us.map wD), .lst (SqL.of v1) (dpa_words v2), .lst (SqL.of z1) (dpa_words z2), shaped_wDs hw, shaped_wDs hu, ?_⟩
  rw [eqv_wDs]
  exact q)
end
/-! ### a row is looked through -/
section
variable {K : PySem.W.Frag} {σ : L2.St} {H : Hp} {v p : V} {ws : List (List Str)} {D : Ends} {tz : TS} {C : Addr} {f : Str} {W : WX} {k : Nat}
abbrev tNotRow (K : PySem.W.Frag) (k : Nat) : TT := tNot (tB (tCall (spIsRow K) [] E0 (tCons (tVar k) tNil)))
abbrev tFW (K : PySem.W.Frag) (k : Nat) : TE := tCall (spFW K) [] E0 (tCons (tVar k) tNil)
abbrev tWrong (K : PySem.W.Frag) (k : Nat) : TT := tTest (tOp (fun x y H Q => y = .non ∧ Q (.bl (!decide (x = .non))) H) (tFW K k) (tC .non))
theorem q_badrow (hk : σ[k]? = some (some v)) (hb : BadRow K H v p) (x : ∀ H1, Ex H H1 → Rz C f p H1 fun cls d H' => W cls d σ H') : tSeq (tIfS (tNotRow K k) (tRz C f W (tC .non)) tNext) (tSeq (tIfS (tWrong K k) (tRz C f W (tFW K k)) tNext) tz) D σ H := by
  rcases hb with ⟨a, rfl⟩ | ⟨l, us, rfl, b, hz, c, rfl⟩ | ⟨l, us, m, rfl, b, c, rfl⟩
  · exact q_when (b := !false) (et_not (et_B (ev_rowN (ev_var hk) a))) (fun _ H1 e => x H1 e) (fun z => by cases z)
  · refine q_when (b := !(decide ((1 : Int) ≤ (us.length : Int)) && decide ((us.length : Int) ≤ 3))) (et_not (et_B (ev_rowQ (ev_var hk) b hz))) (fun _ H1 e => x H1 e) (fun z => ?_)
    have z : (decide ((1 : Int) ≤ (us.length : Int)) && decide ((us.length : Int) ≤ 3)) = true := by
      cases q : (decide ((1 : Int) ≤ (us.length : Int)) && decide ((us.length : Int) ≤ 3)) with
      | true => rfl
      | false =>
        rw [q] at z
        cases z
    obtain ⟨z1, z2⟩ := Bool.and_eq_true_iff.mp z
    have := of_decide_eq_true z1
    have := of_decide_eq_true z2
    exact absurd ⟨by omega, by omega⟩ c
  · obtain ⟨ws, y, d1, d2, d3, d4, d5, d6⟩ := c
    have hm := (List.getElem?_eq_some_iff.mp d5).1
    have yes : (!(decide ((1 : Int) ≤ (us.length : Int)) && decide ((us.length : Int) ≤ 3))) = false := by
      rw [decide_eq_true (by omega), decide_eq_true (by omega)]
      rfl
    refine q_when (b := !(decide ((1 : Int) ≤ (us.length : Int)) && decide ((us.length : Int) ≤ 3))) (et_not (et_B (ev_rowQ (ev_var hk) b (by omega)))) (fun z => by rw [yes] at z; cases z) (fun _ H1 e1 => ?_)
    have be : BadEls K H us m := ⟨ws, y, d1, d2, d3, d4, d5, d6⟩
    refine q_when (b := !decide (V.int (m : Int) = .non)) (et_test (ev_notN (ev_fwI (ev_var hk) (sq_ex e1 b) (bel_ex e1 be)))) (fun _ H2 e2 => ?_) (fun z => by simp at z)
    exact ev_fwI (ev_var hk) (sq_ex (e1.trans e2) b) (bel_ex (e1.trans e2) be) H2 (Ex.refl H2) _ fun H3 e3 => x H3 ((e1.trans e2).trans e3)
theorem q_goodrow (hk : σ[k]? = some (some v)) (hg : GoodRow K H v ws) (q : ∀ H1, Ex H H1 → tz D σ H1) : tSeq (tIfS (tNotRow K k) (tRz C f W (tC .non)) tNext) (tSeq (tIfS (tWrong K k) (tRz C f W (tFW K k)) tNext) tz) D σ H := by
  obtain ⟨l, us, rfl, b, c, o, h1, h3⟩ := hg
  have hl := Paired.length c
  have yes : (!(decide ((1 : Int) ≤ (us.length : Int)) && decide ((us.length : Int) ≤ 3))) = false := by
    rw [decide_eq_true (by omega), decide_eq_true (by omega)]
    rfl
  refine q_when (b := !(decide ((1 : Int) ≤ (us.length : Int)) && decide ((us.length : Int) ≤ 3))) (et_not (et_B (ev_rowQ (ev_var hk) b (by omega)))) (fun z => by rw [yes] at z; cases z) (fun _ H1 e1 => ?_)
  refine q_when (b := !decide (V.non = .non)) (et_test (ev_notN (ev_fwN (ev_var hk) (sq_ex e1 b) (paired_mono (fun _ _ r => wd_mono e1 r) c) o (by omega)))) (fun z => by simp at z) (fun _ H2 e2 => q H2 (e1.trans e2))
end
end Tk
namespace K20
open PySem PySem.Spec PyProof.Rows L2 Lw Evl LamX Tk
open Rm (R Ok Z0 Zp Fr fr_none fr_ne nt_lst nt_tup)
open LwX (XC XF)
section
variable {P : Program} {w : World} {K : PySem.W.Frag} {mg : Str → Option Value} {base : Heap} {TT : List (Addr × Str)} {CY CT CM CS : Addr}
abbrev s_is_row : Stmt := topS 17
theorem sc_is_row : FnScope ["value"] ["value"] (defScope s_is_row) := ⟨rfl, rfl, rfl, by decide +kernel, rfl, by decide +kernel, by decide +kernel⟩
theorem ok_is_row {f : Addr} {fd : FuncData} (F : FunD K "is_row" "is_row" (defArgs s_is_row) (defBody s_is_row) (defScope s_is_row) [] [] f fd) (T : Tx P w K mg base) (OSy : OwnC K mg "Saying" CY) (CIM : CInt K CY "MOST" 3) (dis_list : CalO P w K mg base CX0 1 "is_list" ["value"] (spIsList K)) : FnOk P w K mg base CX0 2 f fd ["value"] (spIsRow K) := by
  refine fnO F sc_is_row (fun vs H Q E h => ?_) (fun cdv A outer s H vs Q E hr h => ?_)
  · obtain ⟨v, b, rfl, _⟩ := h
    rfl
  · skip
    refine ⟨_, PSs.nox ((pss_one (ps_ret (pe_and (pe_calO dis_list hr pass0 (pa_cons (pv 0) pa_nil)) (pe_one (pe_chain op_le op_le pe_int (pe_callB (call_lenK (K := K)) (by rfl) T.m_len (by decide +kernel) (pa_cons (pv 0) pa_nil)) (pe_cvalK (K := K) (pe_glob (v := .ref CY) (by rfl) OSy.g rfl)))))))), ?_⟩
    obtain ⟨v, b, rfl, hb, q⟩ := h
    rcases hb with ⟨⟨t, ht, hk⟩, rfl⟩ | ⟨l, us, rfl, hl, hz, rfl⟩
    · exact s_ret (v := .bl (false && false)) (ev_andV (ev_isList (ev_var rfl) ht hk) (fun z => by cases z)) fun H1 e => q H1 e
    · obtain ⟨t, ht, hk⟩ := sq_ty (K := K) hl
      refine s_ret (ev_andV (ev_isList (ev_var rfl) ht hk) (fun _ => ev_chainI ev_c (ev_lenQ (ev_var rfl) hl) (ev_cint CIM ev_c))) fun H1 e => ?_
      rw [Bool.true_and]
      exact q H1 e

abbrev s_first_wrong : Stmt := topS 18
theorem sc_first_wrong : FnScope ["words", "position", "word"] ["words"] (defScope s_first_wrong) := ⟨rfl, rfl, rfl, by decide +kernel, rfl, by decide +kernel, by decide +kernel⟩
theorem ok_first_wrong {f : Addr} {fd : FuncData} (F : FunD K "first_wrong" "first_wrong" (defArgs s_first_wrong) (defBody s_first_wrong) (defScope s_first_wrong) [] [] f fd) (T : Tx P w K mg base) (dis_word : CalO P w K mg base CX0 2 "is_word" ["value"] (spWord K)) : FnOk P w K mg base CX0 3 f fd ["words"] (spFW K) := by
  refine fnO F sc_first_wrong (fun vs H Q E h => ?_) (fun cdv A outer s H vs Q E hr h => ?_)
  · obtain ⟨l, us, ws, rfl, _⟩ := h
    rfl
  · skip
    refine ⟨_, PSs.nox ((pss_cons (ps_for PassesOwn.never rfl (pi_enumSK (K := K) (by rfl) T.m_enumerate (pa_cons (pv 0) pa_nil)) (pg_tup (n := 2) rfl (pgs_cons (pg_name (i := 1) sc_first_wrong.nd rfl (by first | exact Or.inl rfl | exact Or.inr rfl)) (pgs_cons (pg_name (i := 2) sc_first_wrong.nd rfl (by first | exact Or.inl rfl | exact Or.inr rfl)) pgs_nil))) (pss_one (ps_if (PW.pt (pw_or (pt_not (pt_val (pe_calO dis_word hr pass0 (pa_cons (pv 2) pa_nil)))) (pw_or (pt_not (pt_truthK (K := K) (pv 2))) (pw_or1 (pt_cmpR (op_inQ (K := K) hr.u65) (pv 2) (pe_slice (sl_seqK (K := K)) (pv 0) po_none (po_some (pv 1))) (by rfl)))))) (pss_one (ps_ret (pv 1))) pss_nil)))
      (pss_one (ps_ret pe_non)))), ?_⟩
    obtain ⟨l, us, ws, rfl, hl, hz, hp, ok, q⟩ := h
    have wl : ws.length ≤ us.length := by
      have z := Paired.length hp
      rw [List.length_take] at z
      omega
    unfold tSeq
    refine for_enumQ (K := K) rfl hl (fun i σ' H' => ∃ a b, σ' = [some (.ref l), a, b] ∧ Ex H H' ∧ i ≤ ws.length) ⟨_, _, rfl, Ex.refl H, Nat.zero_le _⟩ (fun i σ' H' p => p.choose_spec.choose_spec.2.1) (fun i x σ' H' T hi p hT => ?_) (fun σ' H' p => ?_)
    · obtain ⟨a, b, rfl, e, iw⟩ := p
      refine ⟨T, _, rfl, SqT.of upd_same, rfl, _, _, rfl, _, _, rfl, rfl, ?_⟩
      have e1 : Ex H (upd H' T (.tup [.int (i : Int), x])) := e.trans (Ex.new hT)
      have hl1 := sq_ex e1 hl
      by_cases c : i = ws.length
      · rcases q with ⟨q1, q2⟩ | ⟨y, hy, hw, q⟩
        · have := (List.getElem?_eq_some_iff.mp hi).1
          omega
        · subst c
          rw [hy] at hi
          cases hi
          rcases hw with hw | ⟨z, hz1, hz2, hz3⟩
          · exact s_when (b := !false || false) (et_or (et_not (et_B (ev_word (ev_var rfl) (wbv_mono e1 hw)))) (fun z => by cases z)) (fun _ H2 e2 => s_ret (ev_var rfl) fun H3 e3 => q H3 ((e1.trans e2).trans e3)) (fun z => by cases z)
          · have hp1 := paired_mono (fun _ _ r => wd_mono e1 r) hp
            have ct := eq_take (K := K) (σ := [some (.ref l), some (.int (ws.length : Int)), some x]) (to := tNoPart) (th := tPart (tVar 1)) (n := ws.length) (eq_var (ev_var (i := 0) rfl) hl1) eo_none (eo_some (ev_var rfl)) (by omega)
            have hb : (!true || (!(!z.isEmpty) || decide (z ∈ ws))) = true := by
              rcases hz3 with n | n <;> simp [n]
            refine s_when (b := !true || (!(!z.isEmpty) || decide (z ∈ ws))) (et_or (et_not (et_B (ev_word (ev_var rfl) (wb_word (wd_mono e1 hz1) hz2)))) (fun _ => et_or (et_not (et_truW (ev_var rfl) (wd_mono e1 hz1))) (fun _ => et_test (ev_inQ (ev_var rfl) ct (wd_mono e1 hz1) hp1 hz2 (okWs_isW ok))))) (fun _ H2 e2 => s_ret (ev_var rfl) fun H3 e3 => q H3 ((e1.trans e2).trans e3)) (fun n => by rw [hb] at n; cases n)
      · have il : i < ws.length := by omega
        obtain ⟨w, hw, rw_⟩ := paired_at hp (show (us.take ws.length)[i]? = some x by rw [List.getElem?_take, if_pos il]; exact hi)
        have wm := List.mem_of_getElem? hw
        obtain ⟨o1, o2⟩ := ok.1 w wm
        have hp1 := paired_mono (fun _ _ r => wd_mono e1 r) (paired_take i hp)
        rw [List.take_take, Nat.min_eq_left iw] at hp1
        have ct := eq_take (K := K) (σ := [some (.ref l), some (.int (i : Int)), some x]) (to := tNoPart) (th := tPart (tVar 1)) (n := i) (eq_var (ev_var (i := 0) rfl) hl1) eo_none (eo_some (ev_var rfl)) (by omega)
        have nm : w ∉ ws.take i := fun m => by
          obtain ⟨j, hj, e⟩ := List.getElem_of_mem m
          rw [List.length_take] at hj
          rw [List.getElem_take] at e
          have hji : j < i := by omega
          obtain ⟨hi2, e2⟩ := List.getElem?_eq_some_iff.mp hw
          have z := List.pairwise_iff_getElem.mp ok.2 j i (by omega) hi2 hji
          exact z (by rw [e, e2])
        have ne : (!w.isEmpty) = true := by
          cases w with
          | nil => exact absurd rfl o2
          | cons y ys => rfl
        have hb : (!true || (!(!w.isEmpty) || decide (w ∈ ws.take i))) = false := by simp [ne, nm]
        refine s_when (b := !true || (!(!w.isEmpty) || decide (w ∈ ws.take i))) (et_or (et_not (et_B (ev_word (ev_var rfl) (wb_word (wd_mono e1 rw_) o1)))) (fun _ => et_or (et_not (et_truW (ev_var rfl) (wd_mono e1 rw_))) (fun _ => et_test (ev_inQ (ev_var rfl) ct (wd_mono e1 rw_) hp1 o1 fun u hu => okWs_isW ok u (List.mem_of_mem_take hu))))) (fun n => by rw [hb] at n; cases n) (fun _ H2 e2 => ⟨_, _, rfl, e1.trans e2, il⟩)
    · obtain ⟨a, b, rfl, e, iw⟩ := p
      rcases q with ⟨q1, q2⟩ | ⟨y, hy, _⟩
      · show tRet (tC V.non) { nx := fun _ H' => Q V.non H', rt := Q } [some (.ref l), a, b] H'
        refine s_ret (v := V.non) ev_c fun H2 e2 => ?_
        exact q2 H2 (e.trans e2)
      · have := (List.getElem?_eq_some_iff.mp hy).1
        omega

abbrev s_sy_init : Stmt := inClass (topS 19) 1
theorem sc_sy_init : FnScope ["self", "triggers", "makes"] ["self", "triggers", "makes"] (defScope s_sy_init) := ⟨rfl, rfl, rfl, by decide +kernel, rfl, by decide +kernel, by decide +kernel⟩
theorem ok_sy_init {f : Addr} {fd : FuncData} (F : FunD K "__init__" "Saying.__init__" (defArgs s_sy_init) (defBody s_sy_init) (defScope s_sy_init) [] [] f fd) (T : Tx P w K mg base) (OSy : OwnC K mg "Saying" CY) (nT : NoAttr K CY "_triggers") (nM : NoAttr K CY "_makes") (xInvalidTriggers : XRz P w K mg base 1 "InvalidTriggers" CT "position") (xInvalidMakes : XRz P w K mg base 1 "InvalidMakes" CM "position") (dis_row : CalO P w K mg base CX0 2 "is_row" ["value"] (spIsRow K)) (dfirst_wrong : CalO P w K mg base CX0 3 "first_wrong" ["words"] (spFW K)) (din_order : CalO P w K mg base (L2.CX P w) 3 "in_order" ["words"] (spOrder K TT CS)) : FnOk P w K mg base (L2.CX P w) 4 f fd ["self", "triggers", "makes"] (spSay K TT CT CM CY) := by
  refine fnO F sc_sy_init (fun vs H Q E h => ?_) (fun cdv A outer s H vs Q E hr h => ?_)
  · obtain ⟨a, dx, t, m, H0, rfl, _⟩ := h
    rfl
  · skip
    refine ⟨_, (pss_cons (ps_if (pt_not (pt_val (pe_calO dis_row hr pass0 (pa_cons (pv 1) pa_nil)))) (pss_one (ps_rz xInvalidTriggers hr rfl (takes_of rfl rfl rfl rfl) pe_non)) pss_nil)
      (pss_cons (ps_if (pt_cmpR op_notN (pe_calO dfirst_wrong hr pass0 (pa_cons (pv 1) pa_nil)) pe_non (nomark _)) (pss_one (ps_rz xInvalidTriggers hr rfl (takes_of rfl rfl rfl rfl) (pe_calO dfirst_wrong hr pass0 (pa_cons (pv 1) pa_nil)))) pss_nil)
      (pss_cons (ps_if (pt_not (pt_val (pe_calO dis_row hr pass0 (pa_cons (pv 2) pa_nil)))) (pss_one (ps_rz xInvalidMakes hr rfl (takes_of rfl rfl rfl rfl) pe_non)) pss_nil)
      (pss_cons (ps_if (pt_cmpR op_notN (pe_calO dfirst_wrong hr pass0 (pa_cons (pv 2) pa_nil)) pe_non (nomark _)) (pss_one (ps_rz xInvalidMakes hr rfl (takes_of rfl rfl rfl rfl) (pe_calO dfirst_wrong hr pass0 (pa_cons (pv 2) pa_nil)))) pss_nil)
      (pss_cons (ps_fldK (pv 0) (pe_calO din_order hr (passes_call (takes_of rfl rfl rfl rfl) fun _ _ _ _ h => h) (pa_cons (pv 1) pa_nil)))
      (pss_one (ps_fldK (pv 0) (pe_calO din_order hr (passes_call (takes_of rfl rfl rfl rfl) fun _ _ _ _ h => h) (pa_cons (pv 2) pa_nil))))))))), ?_⟩
    obtain ⟨a, dx, t, m, H0, rfl, rfl, na, nd, ne, ht, h⟩ := h
    have na2 : (upd H0 dx (.own a)) a = none := by
      rw [upd_ne ne.symm]
      exact na
    have e0 : Ex H0 (upd (upd H0 dx (.own a)) a (.ins CY dx [])) := (Ex.new nd).trans (Ex.new na2)
    rcases h with ⟨p, hb, x⟩ | ⟨ts, hg, h⟩
    · exact q_badrow (K := K) rfl (bad_ex e0 hb) fun H1 e1 => rz_ex (e0.trans e1) x
    refine q_goodrow (K := K) rfl (good_ex e0 hg) fun H1 e1 => ?_
    rcases h with ⟨p, hb, x⟩ | ⟨ms, hgm, q⟩
    · exact q_badrow (K := K) rfl (bad_ex (e0.trans e1) hb) fun H2 e2 => rz_ex ((e0.trans e1).trans e2) x
    refine q_goodrow (K := K) rfl (good_ex (e0.trans e1) hgm) fun H2 e2 => ?_
    have e02 := (e0.trans e1).trans e2
    have ha2 : H2 a = some (.ins CY dx []) := (e1.trans e2) _ _ upd_same
    have r2 : R (Z0 TT) H0 H2 := .of ⟨ht, fun _ z => z.elim⟩ e02
    obtain ⟨l, us, rfl, sq, hp, ok, t1, t3⟩ := good_R r2 hg
    have lu := Paired.length hp
    unfold tSeq
    refine s_fld (call_v rfl (ord_good (TT := TT) sq r2.b.1 (by omega) hp (okWs_isW ok) fun lt H3 flt r3 hL3 => ?_))
    refine ⟨_, rfl, a, CY, dx, [], rfl, ?_, OSy.cl, nT, by decide, ?_⟩
    · exact r3.st _ _ ha2 Rm.nt_ins fun z => z
    have ha3 := r3.st _ _ ha2 Rm.nt_ins fun z => z
    have r4 : R (Z0 TT) H0 (upd H3 a (.ins CY dx [("_triggers", .ref lt)])) := (r2.trans r3).mut (fr_none na) ha3 trivial
    have hL4 : LW K (upd H3 a (.ins CY dx [("_triggers", .ref lt)])) lt (srtW ts) := lw_updN ha3 (fun _ z => nomatch z) (fun _ z => nomatch z) hL3
    have ha4 : (upd H3 a (.ins CY dx [("_triggers", .ref lt)])) a = some (.ins CY dx [("_triggers", .ref lt)]) := upd_same
    show sFld K (tVar 0) (tCall (spOrder K TT CS) [] E (tCons (tVar 2) tNil)) "_makes" { nx := fun _ H' => Q .non H', rt := Q } _ (upd H3 a (.ins CY dx [("_triggers", .ref lt)]))
    generalize upd H3 a (.ins CY dx [("_triggers", .ref lt)]) = H4 at r4 hL4 ha4
    obtain ⟨l2, us2, rfl, sq2, hp2, ok2, m1, m3⟩ := good_R r4 hgm
    have lu2 := Paired.length hp2
    refine s_fld (call_v rfl (ord_good (TT := TT) sq2 r4.b.1 (by omega) hp2 (okWs_isW ok2) fun lm H5 flm r5 hL5 => ?_))
    refine ⟨_, rfl, a, CY, dx, [("_triggers", .ref lt)], rfl, ?_, OSy.cl, nM, by show 1 < 1000; decide, ?_⟩
    · exact r5.st _ _ ha4 Rm.nt_ins fun z => z
    have ha5 := r5.st _ _ ha4 Rm.nt_ins fun z => z
    have r6 : R (Z0 TT) H0 (upd H5 a (.ins CY dx [("_triggers", .ref lt), ("_makes", .ref lm)])) := (r4.trans r5).mut (fr_none na) ha5 trivial
    exact q _ r6 ⟨dx, lt, lm, upd_same, lw_updN ha5 (fun _ z => nomatch z) (fun _ z => nomatch z) (lw_RO r5 hL4), lw_updN ha5 (fun _ z => nomatch z) (fun _ z => nomatch z) hL5⟩

abbrev s_sy_wt : Stmt := inClass (topS 19) 8
theorem sc_sy_wt : FnScope ["self", "triggers"] ["self", "triggers"] (defScope s_sy_wt) := ⟨rfl, rfl, rfl, by decide +kernel, rfl, by decide +kernel, by decide +kernel⟩
theorem ok_sy_wt {f : Addr} {fd : FuncData} (F : FunD K "with_triggers" "Saying.with_triggers" (defArgs s_sy_wt) (defBody s_sy_wt) (defScope s_sy_wt) [] [] f fd) (T : Tx P w K mg base) (OSy : OwnC K mg "Saying" CY) (nM : NoAttr K CY "_makes") (MSy : MkO P w K mg base (L2.CX P w) 4 "Saying" CY ["triggers", "makes"] (spSay K TT CT CM CY)) : FnOk P w K mg base (L2.CX P w) 6 f fd ["self", "triggers"] (spWT K TT CT CY) := by
  refine fnO F sc_sy_wt (fun vs H Q E h => ?_) (fun cdv A outer s H vs Q E hr h => ?_)
  · obtain ⟨a, t, ts, ms, rfl, _⟩ := h
    rfl
  · skip
    refine ⟨_, (pss_one (ps_ret (pe_mkO MSy hr (passes_call (takes_of rfl rfl rfl rfl) fun _ _ _ _ h => h) (pa_cons (pv 1) (pa_cons (pe_fldK (pv 0)) pa_nil))))), ?_⟩
    obtain ⟨a, t, ts, ms, rfl, ⟨dx, lt, lm, ha, hT, hM⟩, ok, m1, m3, ht, h⟩ := h
    refine ⟨_, rfl, _, rfl, a, CY, dx, _, .ref lm, rfl, ha, OSy.cl, nM, rfl, fun x dx2 nx nd ne => ⟨x, dx2, t, .ref lm, H, rfl, rfl, nx, nd, ne, ht, ?_⟩⟩
    rcases h with h | ⟨us, hg, q⟩
    · exact .inl h
    · exact .inr ⟨us, hg, .inr ⟨ms, good_lw hM ok m1 m3, fun H' r hs => ⟨rfl, q x H' (fr_none nx) r hs⟩⟩⟩

abbrev s_sy_wm : Stmt := inClass (topS 19) 9
theorem sc_sy_wm : FnScope ["self", "makes"] ["self", "makes"] (defScope s_sy_wm) := ⟨rfl, rfl, rfl, by decide +kernel, rfl, by decide +kernel, by decide +kernel⟩
theorem ok_sy_wm {f : Addr} {fd : FuncData} (F : FunD K "with_makes" "Saying.with_makes" (defArgs s_sy_wm) (defBody s_sy_wm) (defScope s_sy_wm) [] [] f fd) (T : Tx P w K mg base) (OSy : OwnC K mg "Saying" CY) (nT : NoAttr K CY "_triggers") (MSy : MkO P w K mg base (L2.CX P w) 4 "Saying" CY ["triggers", "makes"] (spSay K TT CT CM CY)) : FnOk P w K mg base (L2.CX P w) 6 f fd ["self", "makes"] (spWM K TT CM CY) := by
  refine fnO F sc_sy_wm (fun vs H Q E h => ?_) (fun cdv A outer s H vs Q E hr h => ?_)
  · obtain ⟨a, m, ts, ms, rfl, _⟩ := h
    rfl
  · skip
    refine ⟨_, (pss_one (ps_ret (pe_mkO MSy hr (passes_call (takes_of rfl rfl rfl rfl) fun _ _ _ _ h => h) (pa_cons (pe_fldK (pv 0)) (pa_cons (pv 1) pa_nil))))), ?_⟩
    obtain ⟨a, m, ts, ms, rfl, ⟨dx, lt, lm, ha, hT, hM⟩, ok, t1, t3, ht, h⟩ := h
    refine ⟨_, rfl, a, CY, dx, _, .ref lt, rfl, ha, OSy.cl, nT, rfl, _, rfl, fun x dx2 nx nd ne => ⟨x, dx2, .ref lt, m, H, rfl, rfl, nx, nd, ne, ht, .inr ⟨ts, good_lw hT ok t1 t3, ?_⟩⟩⟩
    rcases h with h | ⟨us, hg, q⟩
    · exact .inl h
    · exact .inr ⟨us, hg, fun H' r hs => ⟨rfl, q x H' (fr_none nx) r hs⟩⟩

abbrev s_sy_eq : Stmt := inClass (topS 19) 10
theorem sc_sy_eq : FnScope ["self", "other"] ["self", "other"] (defScope s_sy_eq) := ⟨rfl, rfl, rfl, by decide +kernel, rfl, by decide +kernel, by decide +kernel⟩
theorem ok_sy_eq {f : Addr} {fd : FuncData} (F : FunD K "__eq__" "Saying.__eq__" (defArgs s_sy_eq) (defBody s_sy_eq) (defScope s_sy_eq) [] [] f fd) (T : Tx P w K mg base) (OSy : OwnC K mg "Saying" CY) (nT : NoAttr K CY "_triggers") (nM : NoAttr K CY "_makes") : FnOk P w K mg base CX0 1 f fd ["self", "other"] (spSyEq K CY) := by
  refine fnO F sc_sy_eq (fun vs H Q E h => ?_) (fun cdv A outer s H vs Q E hr h => ?_)
  · obtain ⟨a, v, ts, ms, rfl, _⟩ := h
    rfl
  · skip
    refine ⟨_, PSs.nox ((pss_one (ps_ret (pe_and (pe_callB (call_isiK1 (K := K)) (by rfl) T.m_isinstance (by decide +kernel) (pa_cons (pv 1) (pa_cons (pe_glob (v := .ref CY) (by rfl) OSy.g rfl) pa_nil))) (pe_and (pe_cmpR (op_eqDK (K := K) hr.units) (pe_fldK (pv 0)) (pe_fldK (pv 1)) (nomark _)) (pe_one (pe_cmpR (op_eqDK (K := K) hr.units) (pe_fldK (pv 0)) (pe_fldK (pv 1)) (nomark _)))))))), ?_⟩
    obtain ⟨a, v, ts, ms, rfl, ⟨dx, lt, lm, ha, hT, hM⟩, h1, h2, h⟩ := h
    rcases h with ⟨t, ht, hk, q⟩ | ⟨b, us, ns, rfl, ⟨dy, ls, ln, hb, hU, hN⟩, h3, h4, q⟩
    · exact ⟨_, rfl, _, _, t, .ref CY, false, rfl, .own CY, ht, hk, _, rfl, q H (Ex.refl H)⟩
    · refine s_ret (ev_andV (a := true) (fun H1 e Q q => ⟨_, rfl, _, .ref CY, _, .ref CY, true, rfl, .own CY, OSy.ty (e _ _ hb), OSy.self_, q H1 (Ex.refl H1)⟩) (fun _ => ev_andV (ev_eqLW (ev_fld OSy nT (ev_var rfl) ha rfl) (ev_fld OSy nT (ev_var rfl) hb rfl) hT hU h1 h3) (fun _ => ev_eqLW (ev_fld OSy nM (ev_var rfl) ha rfl) (ev_fld OSy nM (ev_var rfl) hb rfl) hM hN h2 h4))) fun H1 e1 => ?_
      rw [Bool.true_and]
      exact q H1 e1

end
end K20
namespace K20
open PySem PySem.Spec PyProof.Rows L2 Lw Evl LamX Tk
open Rm (R Ok Z0 Zp Fr fr_none fr_ne nt_lst nt_tup nt_dK NT Zn)
open LwX (XC XF)
/-- what the top tells of the classes that are raised -/
structure Clz (K : PySem.W.Frag) (mg : Str → Option Value) (CT CM CK CE : Addr) : Prop where
  gT : mg "InvalidTriggers" = some (.ref CT)
  gM : mg "InvalidMakes" = some (.ref CM)
  gK : mg "WakeError" = some (.ref CK)
  gE : mg "StateError" = some (.ref CE)
  gV : mg "ValueError" = none
  gR : mg "repr" = none
  fT : XfC K CT
  fM : XfC K CM
  nT : PySem.W.findIn K (.ref CT) "position" = some none
  nM : PySem.W.findIn K (.ref CM) "position" = some none
  xT : XC K CT
  xM : XC K CM
  kT : PySem.W.kitOne K (.ref CT) (.ref CK) = some true
  eT : PySem.W.kitOne K (.ref CT) (.ref CE) = some false
  kM : PySem.W.kitOne K (.ref CM) (.ref CK) = some true
  vM : PySem.W.kitOne K (.ref CM) (.type "ValueError") = some true
  mTT : PySem.W.exmOne K (.ref CT) (.ref CT) = some true
  mMT : PySem.W.exmOne K (.ref CM) (.ref CT) = some false
  mMM : PySem.W.exmOne K (.ref CM) (.ref CM) = some true
theorem takes_len {X : Cx} {W : WX} (t : Takes X W) : Takes X (fun cls d σ H => σ.length = X.N.length → W cls d σ H) := fun u s' x => by
  obtain ⟨a, B, sI, pins, σ, H, cls, d, e, I, nb, up, sky, na, os, ag, w⟩ := x
  exact t u s' ⟨a, B, sI, pins, σ, H, cls, d, e, I, nb, up, sky, na, os, ag, w I.len⟩
/-- a position, as it is shown -/
inductive Pz : V → Str → Prop
  | non : Pz .non "None"
  | int (m : Nat) (h : m ≤ 3) : Pz (.int (m : Int)) (toString (m : Int))
abbrev s_heard : Stmt := topS 29
abbrev Nhd : List Str := ["_law_deed", "_law_told", "e"]
theorem sc_heard : FnScope Nhd ["_law_deed"] (defScope s_heard) := ⟨rfl, rfl, rfl, by decide +kernel, rfl, by decide +kernel, by decide +kernel⟩
/-- what is told of an error that comes out -/
def Err (CT CM : Addr) (Q : VK) : XK := fun cls d H => ∃ (C : Addr) (nm : Str) (v : V) (z : Str) (dd : Addr), ((C = CT ∧ nm = "wakes") ∨ (C = CM ∧ nm = "puts")) ∧ Pz v z ∧
  cls = .ref C ∧ d = some dd ∧ H dd = some (.xd [("position", v)]) ∧ ∀ l, H l = none → Q (.ref l) (upd H l (.lst [.str nm, .str z]))
def TTold (CT CM : Addr) : (XK → Hp → VK → Prop) → Hp → VK → Prop := fun tl H Q => ∀ l, H l = none → tl (Err CT CM Q) (upd H l (.lst [.str "made", .int 0])) fun _ H1 => Q (.ref l) H1
section
variable {X : Cx} {K : PySem.W.Frag} {CT CM CK CE : Addr}
def rRepP : List V → Hp → VK → Prop := fun xs H Q => ∃ (v : V) (z : Str), xs = [v] ∧ Pz v z ∧ Q (.str z) H
theorem call_reprP : CallR X (.builtin "repr") rRepP := by
  intro pins s σ H xs us Q I r h
  obtain ⟨v, z, rfl, hz, q⟩ := h
  cases hz with
  | non => exact call_repr_non pins s σ H _ us Q I r ⟨rfl, q⟩
  | int m hm =>
    refine SkE.call_repr_int pins s σ H _ us Q I r ⟨_, rfl, ?_, q⟩
    have h1 : ((m : Int)).natAbs = m := Int.natAbs_natCast m
    rw [h1]
    exact Nat.lt_of_le_of_lt (Nat.log2_le_self m) (by omega)
theorem told_gives {g : Addr} {cdg : Value} {q : Str} (C : Clz X.K X.mg CT CM CK CE) (mi : X.mg "isinstance" = none) (mr : X.mg "repr" = none) : GivesTo X Nhd "_law_heard" (defScope s_heard) g cdg (defBody s_heard) "_law_deed" q (TTold CT CM) := by
  intro f c1 s H Q tl act hc h
  refine ⟨_, (pss_cons (ps_set (i := 1) sc_heard.nd rfl (by first | exact Or.inl rfl | exact Or.inr rfl) (pe_lst (pa_cons pe_str (pa_cons pe_int pa_nil))))
    (pss_cons (ps_tryA (i := 2) (tb := fun W D σ H => ∃ Ech : XK, (∀ cls d σ' H', Ech cls d H' → σ'.length = 3 → W cls d σ' H') ∧ σ[0]? = some (some (.ref f)) ∧ (∃ v, σ[1]? = some (some v)) ∧ H c1 = some (CodeO c1 q) ∧ tl Ech H fun _ H1 => D.nx σ H1) rfl rfl sc_heard.nd rfl rfl (fun W pn xe tk _ => ⟨fun pins s2 σ H2 D I h2 => ?_⟩)
      (.cons ⟨rfl, by decide, .inl C.gT⟩ (fun a ob cls d pn hz hf => (pss_one (ps_set (i := 1) sc_heard.nd rfl (by first | exact Or.inl rfl | exact Or.inr rfl) (pe_ifExp (PW.pt (pw_and (pt_val (pe_callB (call_isC hz hf) (by rfl) mi (by decide +kernel) (pa_cons (pv 2) (pa_cons (pe_glob (v := .ref CK) (by rfl) C.gK rfl) pa_nil)))) (pw_and1 (pt_not (pt_val (pe_callB (call_isC hz hf) (by rfl) mi (by decide +kernel) (pa_cons (pv 2) (pa_cons (pe_glob (v := .ref CE) (by rfl) C.gE rfl) pa_nil)))))))) (pe_lst (pa_cons pe_str (pa_cons (pe_callB call_reprP (by rfl) mr (by decide +kernel) (pa_cons (pe_xf C.fT C.nT hz hf (pv 2)) pa_nil)) pa_nil))) (pv 1)))))
      (.cons ⟨rfl, by decide, .inl C.gM⟩ (fun a ob cls d pn hz hf => (pss_one (ps_set (i := 1) sc_heard.nd rfl (by first | exact Or.inl rfl | exact Or.inr rfl) (pe_ifExp (PW.pt (pw_and (pt_val (pe_callB (call_isC hz hf) (by rfl) mi (by decide +kernel) (pa_cons (pv 2) (pa_cons (pe_bltn (v := .ty "ValueError") (by rfl) C.gV (by decide +kernel) rfl) pa_nil)))) (pw_and1 (pt_val (pe_callB (call_isC hz hf) (by rfl) mi (by decide +kernel) (pa_cons (pv 2) (pa_cons (pe_glob (v := .ref CK) (by rfl) C.gK rfl) pa_nil))))))) (pe_lst (pa_cons pe_str (pa_cons (pe_callB call_reprP (by rfl) mr (by decide +kernel) (pa_cons (pe_xf C.fM C.nM hz hf (pv 2)) pa_nil)) pa_nil))) (pv 1)))))
      (.rest _))))
    (pss_one (ps_ret (pv 1))))), ?_⟩
  · obtain ⟨Ech, hW, h1, h0, h3, h4⟩ := h2
    exact (pss_one (ps_expr (act _ pn xe Ech _ _ (takes_len tk) fun cls d σ' H' e l => hW cls d σ' H' e l))).run pins s2 σ H2 D I ⟨h1, h3, h4⟩
  · refine ⟨(by show 2 ≤ sizeLine; decide), fun l hl => ⟨Err CT CM Q, fun cls d σ' H' hE hlen => ?_, rfl, ⟨_, rfl⟩, ?_, ?_⟩⟩
    · obtain ⟨x, y, z, rfl⟩ : ∃ x y z, σ' = [x, y, z] := by
        match σ', hlen with
        | [x, y, z], _ => exact ⟨x, y, z, rfl⟩
      obtain ⟨D, nm, v, zz, dd, hc2, hz2, rfl, rfl, hd, q2⟩ := hE
      rcases hc2 with ⟨rfl, rfl⟩ | ⟨rfl, rfl⟩
      · exact ⟨true, C.mTT, fun _ a na => ⟨_, rfl, _, dd, _, _, _, true, rfl, rfl, rfl, hd, C.xT, fun u e => e, C.kT, true, rfl, iteT ⟨_, rfl, _, dd, _, _, _, false, rfl, rfl, rfl, hd, C.xT, fun u e => e, C.eT, false, rfl, iteT ⟨_, rfl, rfl, rfl, dd, _, v, rfl, hd, rfl, v, zz, rfl, hz2, (by show 2 ≤ sizeLine; decide), fun l2 hl2 => ⟨_, rfl, q2 l2 hl2⟩⟩⟩⟩, fun e => by cases e⟩
      · exact ⟨false, C.mMT, fun e => (by cases e), fun _ => ⟨true, C.mMM, fun _ a na => ⟨_, rfl, _, dd, _, _, _, true, rfl, rfl, rfl, hd, C.xM, fun u e => e, C.vM, true, rfl, iteT ⟨_, rfl, _, dd, _, _, _, true, rfl, rfl, rfl, hd, C.xM, fun u e => e, C.kM, true, rfl, iteT ⟨_, rfl, rfl, rfl, dd, _, v, rfl, hd, rfl, v, zz, rfl, hz2, (by show 2 ≤ sizeLine; decide), fun l2 hl2 => ⟨_, rfl, q2 l2 hl2⟩⟩⟩⟩, fun e => by cases e⟩⟩
    · rw [upd_ne (ne_of_none hc hl)]
      exact hc
    · refine (congrArg (fun z => tl (Err CT CM Q) (upd H l (.lst [.str "made", .int 0])) z) (funext fun _ => funext fun H1 => propext ⟨fun y => ?_, fun y => ?_⟩)).mp (h l hl)
      · exact ⟨_, rfl, y⟩
      · obtain ⟨v, e, y⟩ := y
        cases e
        exact y
end
/-! ### _law_heard(lambda: ..) -/
def ToldD (K : PySem.W.Frag) (mg : Str → Option Value) : Prop := ∃ g fd, mg "_law_heard" = some (.ref g) ∧ PySem.W.keepIn K (.ref g) = true ∧ FunD K "_law_heard" "_law_heard" (defArgs s_heard) (defBody s_heard) (defScope s_heard) [] [] g fd ∧ Binds K fd ["_law_deed"] []
theorem pe_told {X : Cx} {CT CM CK CE c P : Addr} {T : List (Addr × Str)} {params : Arguments} {body : Expr} {scope : Scope} {t : XK → TE} {p lpos pos : Pos} {j k : Nat} (D : ToldD X.K X.mg) (C : Clz X.K X.mg CT CM CK CE) (mi : X.mg "isinstance" = none)
    (TB : TabB X.base X.mg c P) (hcode : X.env.code = .ref c) (hmT : (P, X.env.qual ++ "<lambda>") ∈ T) (hu : ∀ p ∈ T, p.1 = P → p.2 = X.env.qual ++ "<lambda>") (hr : Room j X.A) (L : LamS X.env.scope scope) (hdef : defaultsOf params X.env = ([], []))
    (hbind : ∀ (q : Str) (cl : List (Str × Addr)) (pm cv ctv : Value), bindArgs (PySem.W.kla_fn "<lambda>" q params body scope cl pm cv ctv) ⟨[], []⟩ = pure [])
    (hbody : ∀ (A : Around) (outer : List Env) (s : Shared) (H : Hp) (E : XK) (f c' : Addr), Room k (A.deeper (lamEnv X scope s.heap.objs.size f c')) → PE (lamCx X A outer s H E scope f c') body (t E)) (hj : k + 2 ≤ j := by decide) (hg : Gl X "_law_heard" := by rfl) :
    PE X (.Call (.Name "_law_heard" p) [.Lambda params body scope lpos] [] pos) (tLam T (TTold CT CM) t) := by
  obtain ⟨g, fd, hm, hk, F, hb⟩ := D
  obtain ⟨_, _, dV, kV, doc, pm, an, cdv, ct, osl, rfl, lk, hcd, _, _⟩ := F.ex
  exact pe_lamcall hg hm hk lk hcd hb sc_heard rfl (.inl rfl) (told_gives C mi C.gR) TB hcode hmT hu (hr.mono hj) L hdef hbind hbody
section
variable {Z : Zn} {σ : L2.St} {H : Hp} {v : V} {CT CM C : Addr} {nm z : Str} {t : XK → TE}
/-- the call lets an error out -/
theorem el_err (hc : (C = CT ∧ nm = "wakes") ∨ (C = CM ∧ nm = "puts")) (hz : Pz v z) (h : ∀ H1, R Z H H1 → ∀ E Q, Rz C "position" v H1 E → t E σ H1 Q) : El Z (tLam Z.T (TTold CT CM) t) σ H [.str nm, .str z] :=
  fun H1 r Q q => ⟨r.b.1, fun H2 e t2 l hl => by
    have r2 : R Z H1 H2 := .lam r.b e t2
    have r3 : R Z H1 (upd H2 l (.lst [.str "made", .int 0])) := r2.new hl
    refine h _ (r.trans r3) _ _ fun d H3 e3 hd => ⟨C, nm, v, z, d, hc, hz, rfl, rfl, hd, fun l2 hl2 => ?_⟩
    have r4 := r3.ex e3
    exact q l2 _ (r4.fr (fr_none hl2)) (r4.new hl2) upd_same⟩
/-- the call is let -/
theorem el_told (h : ∀ H1, R Z H H1 → ∀ E Q, (∀ v H2, R Z H1 H2 → Q v H2) → t E σ H1 Q) : El Z (tLam Z.T (TTold CT CM) t) σ H [.str "made", .int 0] :=
  fun H1 r Q q => ⟨r.b.1, fun H2 e t2 l hl => by
    have r2 : R Z H1 H2 := .lam r.b e t2
    have r3 : R Z H1 (upd H2 l (.lst [.str "made", .int 0])) := r2.new hl
    have fl : Fr H1 l := r2.fr (fr_none hl)
    exact h _ (r.trans r3) _ _ fun v H3 r4 => q l H3 fl (r3.trans r4) (r4.lst upd_same (r.b.fresh fl))⟩
end
end K20
namespace K20
open PySem PySem.Spec PyProof.Rows L2 Lw Evl LamX Tk TL
open Rm (R Ok Z0 Zp Fr fr_none fr_ne nt_lst nt_tup nt_dK NT Zn)
open LwX (XC XF)
theorem op_repTK {X : Cx} {K : PySem.W.Frag} (h : X.K = K := by rfl) : OpR X (binaryOp .Mult) (rRepT K) := h ▸ op_repT
section
variable {P : Program} {w : World} {K : PySem.W.Frag} {Z : Zn} {Hb H H0 H1 H2 : Hp} {σ : L2.St} {te ta tb : TE} {v : V} {G : Hp → Prop} {s : Str} {ys : List Str} {d : PyData}
theorem ft_R (o : Ok Z H0) (h : Ft H0 H G) (r : R Z H H2) : G H2 := by
  obtain ⟨S, h1, h2⟩ := h
  exact h2 H2 fun q hq => r.st _ _ (h1 q hq).2.2 (h1 q hq).2.1 (o.fresh (fr_none (h1 q hq).1))
/-- no word, or the empty one -/
def Od (K : PySem.W.Frag) (v : V) (H : Hp) : Prop := WB K H v false ∨ Wd K H v []
/-- what is kept by objects that are new since Hb -/
def Kp (Hb : Hp) (G : V → Hp → Prop) : Hp → Hp → V → Prop := fun _ H v => Ft Hb H (G v)
theorem up_kp {G : V → Hp → Prop} : Up (Kp Hb G) := ⟨fun e h => ft_up e h, fun _ h => h⟩
theorem kp_of {G G2 : V → Hp → Prop} (e0 : Ex Hb H) (h : EO te σ H G) (k : ∀ v H, G v H → G2 v H) : ∀ H1, Ex H H1 → ∀ Q : VK, (∀ v H2, Ex H1 H2 → Kp Hb G2 H1 H2 v → Q v H2) → te σ H1 Q := fun H1 e Q q => h H1 e Q fun v H2 e2 f => q v H2 e2 (ft_dn (e0.trans e) (ft_imp f (k v)))
theorem od_of (e0 : Ex Hb H) (h : EO te σ H (GA P w K d)) : ∀ H1, Ex H H1 → ∀ Q : VK, (∀ v H2, Ex H1 H2 → Kp Hb (Od K) H1 H2 v → Q v H2) → te σ H1 Q := kp_of e0 h fun _ _ z => .inl z.2
/-- a tuple of texts, new -/
theorem eo_strs {tA : TA} (h : EvA tA σ H (ys.map V.str)) (hz : ys.length ≤ 1000) : EO (tTup tA) σ H fun v H => Wd K H v ys := fun H1 e Q q => h H1 e _ fun H2 e2 => ⟨by rw [List.length_map]; exact sz_of (by omega), fun a na => q _ _ (e2.trans (Ex.new na)) (ft_imp (ft_new (G := fun _ => True) (ft_pure fun _ => trivial) e2 na nt_tup) fun H3 z => ⟨a, rfl, z.1⟩)⟩
theorem eo_rep4 (h : Ev te σ H (.str s)) : EO (tOp (rRepT K) (tTup (tCons te tNil)) (tC (.int 4))) σ H fun v H => Wd K H v [s, s, s, s] := fun H1 e Q q => h H1 e _ fun H2 e2 => ⟨(by show 1 ≤ sizeLine; decide), fun a na => ⟨a, 4, [.str s], rfl, rfl, SqT.of upd_same, (fun z => nomatch z), by decide, by decide, Nat.le_of_ble_eq_true rfl, fun p np => q _ _ ((e2.trans (Ex.new na)).trans (Ex.new np)) (ft_imp (ft_new (G := fun _ => True) (ft_pure fun _ => trivial) (e2.trans (Ex.new na)) np nt_tup) fun H3 z => ⟨p, rfl, z.1⟩)⟩⟩
theorem od_wd {v : V} {H : Hp} (h : Wd K H v ys) (hn : ys.length ≤ 1000) (hl : ∀ y ∈ ys, y.length ≤ 1000) (hw : isW ys = false) : Od K v H := .inl (by
  have z := wb_any h hn hl
  rw [hw] at z
  exact z)
end
section
variable {P : Program} {w : World} {K : PySem.W.Frag} {mg : Str → Option Value} {base : Heap}
/-- what is no nonempty word -/
def spOdd (K : PySem.W.Frag) : Sp := fun vs H Q _ => ∃ (T : List (Addr × Str)) (p l : Addr) (xs : List Str), vs = [.ref p, .ref l] ∧ Ok (Zp T p) H ∧ H l = some (.lst (xs.map V.str)) ∧ 1 ≤ xs.length ∧ (∀ x ∈ xs, isL x = true) ∧
  ∀ v H', R (Zp T p) H H' → (∀ H2, R (Zp T p) H' H2 → Od K v H2) → Q v H'
abbrev s_odd : Stmt := topS 30
theorem sc_odd : FnScope ["_law_pot_here", "_law_tags_here", "_law_tag", "_law_some"] ["_law_pot_here", "_law_tags_here"] (defScope s_odd) := ⟨rfl, rfl, rfl, by decide +kernel, rfl, by decide +kernel, by decide +kernel⟩
theorem ok_odd {f : Addr} {fd : FuncData} (F : FunD K "_law_odd" "_law_odd" (defArgs s_odd) (defBody s_odd) (defScope s_odd) [] [] f fd) (T : Tx P w K mg base) (d_law_pick : Cal P w K mg base CX0 2 "_law_pick" ["_law_pot_here", "_law_some"] (spPickX K)) : FnG P w K mg base CX0 3 f fd ["_law_pot_here", "_law_tags_here"] (spOdd K) := by
  refine fnG F sc_odd (fun vs H Q E h => ?_) (fun cdv A outer s H vs Q E gd hr h => ?_)
  · obtain ⟨T, p, l, xs, rfl, _⟩ := h
    rfl
  · skip
    refine ⟨_, PSs.nox ((pss_cons (ps_set (i := 2) sc_odd.nd rfl (by first | exact Or.inl rfl | exact Or.inr rfl) (pe_ix (ix_listK (K := K)) (pv 1) pe_int (fun _ _ => rfl)))
      (pss_cons (ps_set (i := 3) sc_odd.nd rfl (by first | exact Or.inl rfl | exact Or.inr rfl) (pe_lst (pa_cons pe_non (pa_cons pe_int (pa_cons pe_bl (pa_cons (pv 2) (pa_cons (pe_lst (pa_cons (pv 2) pa_nil)) (pa_cons (pe_tup pa_nil) (pa_cons (pe_op (op_repTK (K := K)) (pe_tup (pa_cons (pv 2) pa_nil)) pe_int) (pa_cons (pe_tup (pa_cons (pv 2) (pa_cons pe_non pa_nil))) (pa_cons (pe_tup (pa_cons pe_str pa_nil)) (pa_cons (pe_tup (pa_cons pe_str pa_nil)) (pa_cons (pe_tup (pa_cons pe_str pa_nil)) (pa_cons (pe_tup (pa_cons pe_int pa_nil)) (pa_cons pe_dnewK (pa_cons (pe_tup (pa_cons (pv 2) (pa_cons (pe_lst pa_nil) pa_nil))) pa_nil))))))))))))))))
      (pss_one (ps_ret (pe_cal d_law_pick gd hr (pa_cons (pv 0) (pa_cons (pv 3) pa_nil)))))))), ?_⟩
    obtain ⟨T, p, l, xs, rfl, o, hl, hx0, hx, q⟩ := h
    have h0 : xs[0]? = some xs[0] := List.getElem?_eq_getElem hx0
    have hL := hx xs[0] (List.getElem_mem hx0)
    generalize xs[0] = s at h0 hL
    have tk := tok_letter hL
    have sl : s.length ≤ 1000 := Nat.le_trans tk.len (by decide)
    refine q_asg (v := .str s) (ev_op (ev_var rfl) ev_c (rv_ixL (SqL.of hl) (show atI (xs.map V.str) ((0 : Nat) : Int) = some (.str s) from atI_nat (by rw [List.getElem?_map, h0]; rfl)))) fun H1 e1 => ?_
    have one : ∀ {x : Option V} {H' : Hp}, Ev (tVar 2) [some (.ref p), some (.ref l), some (.str s), x] H' (.str s) := ev_var rfl
    have gs : ∀ {x : Option V} {H' : Hp}, EO (tVar 2) [some (.ref p), some (.ref l), some (.str s), x] H' (GB P w K (.str s) true) := eo_ev one (gb_str (tok_mono tk (by decide)) hL)
    refine q_asgEL (B := Kp H (Od K)) (H0 := H) (n := 14) (el_lst' up_kp
      (ea1 up_kp (od_of (P := P) (w := w) e1 (eo_ev ev_c ga_non))
      (ea1 up_kp (od_of (P := P) (w := w) e1 (eo_ev ev_c fun H => ga_int 0 H (by decide)))
      (ea1 up_kp (od_of (P := P) (w := w) e1 (eo_ev ev_c (ga_bl true)))
      (ea1 up_kp (od_of (P := P) (w := w) e1 (eo_ev one (ga_str (tok_mono tk (by decide)))))
      (ea1 up_kp (od_of (P := P) (w := w) e1 (eo_lst (dbs := [(.str s, true)]) (eb_cons' gs eb_nil') (Nat.le_of_ble_eq_true rfl)))
      (ea1 up_kp (kp_of e1 (eo_strs (K := K) (ys := []) ea_nil (Nat.zero_le _)) fun _ _ z => .inr z)
      (ea1 up_kp (kp_of e1 (eo_rep4 (K := K) one) fun _ _ z => od_wd z (Nat.le_of_ble_eq_true rfl) (fun y hy => by
          have e : y = s := by simpa using hy
          rw [e]
          exact sl) rfl)
      (ea1 up_kp (od_of (P := P) (w := w) e1 (eo_tup (dbs := [(.str s, true), (.none, false)]) (eb_cons' gs (eb_cons' (eo_ev ev_c (gb_of ga_non "NoneType" (fun _ => .base .non) rfl)) eb_nil')) (Nat.le_of_ble_eq_true rfl) rfl))
      (ea1 up_kp (od_of (P := P) (w := w) e1 (eo_tup (dbs := [(.str "A", false)]) (eb_cons' (eo_ev ev_c (gb_str (tok_c (by decide +kernel)) (by decide +kernel))) eb_nil') (Nat.le_of_ble_eq_true rfl) rfl))
      (ea1 up_kp (od_of (P := P) (w := w) e1 (eo_tup (dbs := [(.str "abcdefghi", false)]) (eb_cons' (eo_ev ev_c (gb_str (tok_c (by decide +kernel)) (by decide +kernel))) eb_nil') (Nat.le_of_ble_eq_true rfl) rfl))
      (ea1 up_kp (od_of (P := P) (w := w) e1 (eo_tup (dbs := [(.str "", false)]) (eb_cons' (eo_ev ev_c (gb_str (tok_c (by decide +kernel)) (by decide +kernel))) eb_nil') (Nat.le_of_ble_eq_true rfl) rfl))
      (ea1 up_kp (od_of (P := P) (w := w) e1 (eo_tup (dbs := [(.int 1, false)]) (eb_cons' (eo_ev ev_c (gb_of (fun H => ga_int 1 H (by decide)) "int" (fun _ => .base (.int 1)) rfl)) eb_nil') (Nat.le_of_ble_eq_true rfl) rfl))
      (ea1 up_kp (od_of (P := P) (w := w) e1 eo_dnew)
      (ea1 up_kp (od_of (P := P) (w := w) e1 (eo_tup (dbs := [(.str s, true), (.list [], false)]) (eb_cons' gs (eb_cons' (ei_lst (dbs := []) eb_nil' (by decide)) eb_nil')) (Nat.le_of_ble_eq_true rfl) rfl))
      ea0)))))))))))))) e1 (by decide)) fun r H2 hr e2 o2 => ?_
    obtain ⟨vs, hv, hn, hb⟩ := o2
    have r2 : R (Zp T p) H H2 := .of o (e1.trans e2)
    have rp : r ≠ p := fun z => (o.fresh (fr_none (fresh_back e1 hr))) (show r = p from z)
    exact ⟨_, rfl, _, rfl, .inl ⟨p, r, vs, rfl, r2.b.2 p rfl, hv, rp, by omega, by omega, fun v H' hm x => q v H' (r2.trans (Rm.R.xp r2.b.1 (r2.b.2 p rfl) x)) fun H3 r3 => ft_R o (hb v hm) ((Rm.R.xp r2.b.1 (r2.b.2 p rfl) x).trans r3)⟩⟩

/-- what is no row -/
def spNoList (K : PySem.W.Frag) : Sp := fun vs H Q _ => ∃ (T : List (Addr × Str)) (p l : Addr) (xs : List Str), vs = [.ref p, .ref l] ∧ Ok (Zp T p) H ∧ H l = some (.lst (xs.map V.str)) ∧ 1 ≤ xs.length ∧ xs.length ≤ 3 ∧ (∀ x ∈ xs, isL x = true) ∧ xs.Nodup ∧
  ∀ v H', R (Zp T p) H H' → (∀ H2, R (Zp T p) H' H2 → BadRow K H2 v .non) → Q v H'
def Nr (K : PySem.W.Frag) (v : V) (H : Hp) : Prop := BadRow K H v .non
theorem nr_no {K : PySem.W.Frag} {v : V} {H : Hp} (t : String) (h : TyX K H v (.type t)) (hk : PySem.W.kitAny K (.type t) [.type "list", .type "tuple"] = some false) : Nr K v H := .inl ⟨⟨t, h, hk⟩, rfl⟩
theorem nr_sq {K : PySem.W.Frag} {l : Addr} {us : List V} {H : Hp} (h : Sq H l us) (hz : us.length ≤ 1000) (n : ¬ (1 ≤ us.length ∧ us.length ≤ 3)) : Nr K (.ref l) H := .inr (.inl ⟨l, us, rfl, h, hz, n, rfl⟩)
theorem nr_ev {K : PySem.W.Frag} {Hb H : Hp} {σ : L2.St} {te : TE} {v : V} (h : Ev te σ H v) (k : ∀ H, Nr K v H) : ∀ H1, Ex H H1 → ∀ Q : VK, (∀ v H2, Ex H1 H2 → Kp Hb (Nr K) H1 H2 v → Q v H2) → te σ H1 Q := fun H1 e Q q => h H1 e Q fun H2 e2 => q v H2 e2 (ft_pure k)
/-- a new list or tuple of a wrong length -/
theorem nr_newL {K : PySem.W.Frag} {Hb H : Hp} {σ : L2.St} {te : TE} {us : List V} (e0 : Ex Hb H) (h : EvL te σ H us) (hz : us.length ≤ 1000) (n : ¬ (1 ≤ us.length ∧ us.length ≤ 3)) : ∀ H1, Ex H H1 → ∀ Q : VK, (∀ v H2, Ex H1 H2 → Kp Hb (Nr K) H1 H2 v → Q v H2) → te σ H1 Q := fun H1 e Q q =>
  h H1 e _ fun r H2 hr e2 hl => q _ H2 e2 (show Ft Hb H2 _ from ⟨[(r, .lst us)], fun z hz => by
    rw [List.mem_singleton.mp hz]
    exact ⟨fresh_back (e0.trans e) hr, nt_lst, hl⟩, fun H3 z => nr_sq (.inl (z _ (List.mem_singleton.mpr rfl))) hz n⟩)
theorem nr_newU {K : PySem.W.Frag} {Hb H : Hp} {σ : L2.St} {te : TE} {us : List V} (e0 : Ex Hb H) (h : EvU te σ H us) (hz : us.length ≤ 1000) (n : ¬ (1 ≤ us.length ∧ us.length ≤ 3)) : ∀ H1, Ex H H1 → ∀ Q : VK, (∀ v H2, Ex H1 H2 → Kp Hb (Nr K) H1 H2 v → Q v H2) → te σ H1 Q := fun H1 e Q q =>
  h H1 e _ fun r H2 hr e2 hl => q _ H2 e2 (show Ft Hb H2 _ from ⟨[(r, .tup us)], fun z hz => by
    rw [List.mem_singleton.mp hz]
    exact ⟨fresh_back (e0.trans e) hr, nt_tup, hl⟩, fun H3 z => nr_sq (.inr (z _ (List.mem_singleton.mpr rfl))) hz n⟩)
theorem nr_dnew {K : PySem.W.Frag} {Hb H : Hp} {σ : L2.St} (e0 : Ex Hb H) : ∀ H1, Ex H H1 → ∀ Q : VK, (∀ v H2, Ex H1 H2 → Kp Hb (Nr K) H1 H2 v → Q v H2) → tDNewK σ H1 Q := fun H1 e Q q => fun p hp => q _ _ (Ex.new hp) (show Ft Hb _ _ from ⟨[(p, .dK [])], fun z hz => by
    rw [List.mem_singleton.mp hz]
    exact ⟨fresh_back (e0.trans e) hp, nt_dK, upd_same⟩, fun H4 z => nr_no "dict" (.base (.dK (z _ (List.mem_singleton.mpr rfl)))) rfl⟩)
theorem nr_dT {K : PySem.W.Frag} {Hb H : Hp} {σ : L2.St} {te : TE} {s : Str} (e0 : Ex Hb H) (h : Ev te σ H (.str s)) : ∀ H1, Ex H H1 → ∀ Q : VK, (∀ v H2, Ex H1 H2 → Kp Hb (Nr K) H1 H2 v → Q v H2) → tDisp1T (tTup (tCons te tNil)) (tC (.int 1)) σ H1 Q := fun H1 e Q q => fun D hD => h _ (e.trans (Ex.new hD)) _ fun H2 e2 => ⟨(by show 1 ≤ sizeLine; decide), fun b hb => by
  have eD : (upd H2 b (.tup [.str s])) D = some (.dT []) := (Ex.new hb) _ _ (e2 _ _ upd_same)
  have e3 : Ex H1 (upd (upd H2 b (.tup [.str s])) D (.dT (putK [] ([.inr s] : List L2.Key) (.int 1)))) := Ex.mut (((Ex.new hD).trans e2).trans (Ex.new hb)) hD
  exact ⟨b, [.inr s], .int 1, rfl, eD, upd_same, q _ _ e3 (show Ft Hb _ _ from ⟨[(D, .dT (putK [] ([.inr s] : List L2.Key) (.int 1)))], fun z hz => by
    rw [List.mem_singleton.mp hz]
    exact ⟨fresh_back (e0.trans e) hD, Rm.nt_dT, upd_same⟩, fun H4 z => nr_no "dict" (.base (.dT (z _ (List.mem_singleton.mpr rfl)))) rfl⟩)⟩⟩
/-- a list of four, as it stands since Hb -/
theorem nr_old {K : PySem.W.Frag} {Hb H : Hp} {σ : L2.St} {te : TE} {r : Addr} {us : List V} (h : Ev te σ H (.ref r)) (hr : Hb r = none) (hl : H r = some (.lst us)) (hz : us.length ≤ 1000) (n : ¬ (1 ≤ us.length ∧ us.length ≤ 3)) : ∀ H1, Ex H H1 → ∀ Q : VK, (∀ v H2, Ex H1 H2 → Kp Hb (Nr K) H1 H2 v → Q v H2) → te σ H1 Q := fun H1 e Q q =>
  h H1 e _ fun H2 e2 => q _ H2 e2 (show Ft Hb H2 _ from ⟨[(r, .lst us)], fun z hz => by
    rw [List.mem_singleton.mp hz]
    exact ⟨hr, nt_lst, (e.trans e2) _ _ hl⟩, fun H3 z => nr_sq (.inl (z _ (List.mem_singleton.mpr rfl))) hz n⟩)
theorem nr_tuple {K : PySem.W.Frag} {Hb H : Hp} {σ : L2.St} {te : TE} {r : Addr} {us : List V} (e0 : Ex Hb H) (h : Ev te σ H (.ref r)) (hl : H r = some (.lst us)) (hz : us.length ≤ 1000) (n : ¬ (1 ≤ us.length ∧ us.length ≤ 3)) : ∀ H1, Ex H H1 → ∀ Q : VK, (∀ v H2, Ex H1 H2 → Kp Hb (Nr K) H1 H2 v → Q v H2) → tCB (rTupleK K) (tCons te tNil) σ H1 Q := fun H1 e Q q =>
  h H1 e _ fun H2 e2 => ⟨r, us, rfl, .inl ⟨SqL.of ((e.trans e2) _ _ hl), fun t ht => q _ _ (e2.trans (Ex.new ht)) (show Ft Hb _ _ from ⟨[(t, .tup us)], fun z hz => by
    rw [List.mem_singleton.mp hz]
    exact ⟨fresh_back ((e0.trans e).trans e2) ht, nt_tup, upd_same⟩, fun H3 z => nr_sq (.inr (z _ (List.mem_singleton.mpr rfl))) hz n⟩)⟩⟩
/-- [x] * k -/
theorem el_rep {σ : L2.St} {H : Hp} {ta : TE} {us : List V} {k : Int} (h : EvL ta σ H us) (hk : 0 ≤ k ∧ k ≤ 100) (hz : us.length ≤ 500) : EvL (tOp rRep ta (tC (.int k))) σ H (List.replicate k.toNat us).flatten := fun H1 e Q q => h H1 e _ fun l H2 hl e2 hu =>
  ⟨l, k, us, rfl, rfl, hu, by omega, by omega, sz_of (by
    have h1 : k.toNat ≤ 100 := by omega
    have := Nat.mul_le_mul hz h1
    omega), fun r hr => q r _ (fresh_back e2 hr) (e2.trans (Ex.new hr)) upd_same⟩
theorem el_repV {σ : L2.St} {H : Hp} {ta : TE} {us : List V} {k : Int} {l : Addr} (h : Ev ta σ H (.ref l)) (hu : H l = some (.lst us)) (hk : 0 ≤ k ∧ k ≤ 100) (hz : us.length ≤ 500) : EvL (tOp rRep ta (tC (.int k))) σ H (List.replicate k.toNat us).flatten := fun H1 e Q q => h H1 e _ fun H2 e2 =>
  ⟨l, k, us, rfl, rfl, (e.trans e2) _ _ hu, by omega, by omega, sz_of (by
    have h1 : k.toNat ≤ 100 := by omega
    have := Nat.mul_le_mul hz h1
    omega), fun r hr => q r _ (fresh_back e2 hr) (e2.trans (Ex.new hr)) upd_same⟩
theorem el_catV {σ : L2.St} {H : Hp} {ta tb : TE} {us vs : List V} {l : Addr} (h : EvL ta σ H us) (hb : Ev tb σ H (.ref l)) (hv : H l = some (.lst vs)) (hz : us.length + vs.length ≤ 100000) : EvL (tOp rCat ta tb) σ H (us ++ vs) := fun H1 e Q q => h H1 e _ fun a H2 ha e2 hu => hb H2 (e.trans e2) _ fun H3 e3 =>
  ⟨a, l, us, vs, rfl, rfl, e3 _ _ hu, ((e.trans e2).trans e3) _ _ hv, sz_of hz, fun r hr => q r _ (fresh_back (e2.trans e3) hr) ((e2.trans e3).trans (Ex.new hr)) upd_same⟩
theorem tv_rep {K : PySem.W.Frag} {σ : L2.St} {H : Hp} {te : TE} {s : Str} {k : Int} (h2 : 2 ≤ k) (h9 : k ≤ 9) (h : Ev te σ H (.str s)) : ∀ H1, Ex H H1 → ∀ Q : VK, (∀ v H2, Ex H1 H2 → True → Q v H2) → tOp (rRepT K) (tTup (tCons te tNil)) (tC (.int k)) σ H1 Q := fun H1 e Q q => h H1 e _ fun H2 e2 =>
  ⟨(by show 1 ≤ sizeLine; decide), fun a na => ⟨a, k, [.str s], rfl, rfl, SqT.of upd_same, (fun z => nomatch z), h2, by omega, Nat.le_of_ble_eq_true rfl, fun p np => q _ _ ((e2.trans (Ex.new na)).trans (Ex.new np)) trivial⟩⟩
theorem tv_tup {σ : L2.St} {H : Hp} {tA : TA} {us : List V} (h : EvA tA σ H us) (hz : us.length ≤ 1000) : ∀ H1, Ex H H1 → ∀ Q : VK, (∀ v H2, Ex H1 H2 → True → Q v H2) → tTup tA σ H1 Q := fun H1 e Q q => h H1 e _ fun H2 e2 => ⟨sz_of (by omega), fun a na => q _ _ (e2.trans (Ex.new na)) trivial⟩
theorem up_tr : Up (fun _ _ _ => True) := ⟨fun _ _ => trivial, fun _ _ => trivial⟩
/-- all(tags, 3)[1:] -/
theorem elw_menu {K : PySem.W.Frag} {σ : L2.St} {H : Hp} {l : Addr} {xs : List Str} {k : Nat} (hk : σ[k]? = some (some (.ref l))) (hl : H l = some (.lst (xs.map V.str))) (x3 : xs.length ≤ 3) : EvLW K (tSl (rSlL K) (tCall (spAll K) [] E0 (tCons (tVar k) (tCons (tC (.int 3)) tNil))) (tPart (tC (.int 1))) tNoPart) σ H (wdsW xs 3) := fun H1 e Q q =>
  ⟨_, hk, l, xs, 3, rfl, e _ _ hl, x3, by decide, fun a H2 ha e2 hA => by
    obtain ⟨us, hu, hp⟩ := hA
    refine ⟨1, rfl, a, us, rfl, SqL.of hu, fun m hm => ?_⟩
    have cu : cutV us (some (1 : Int)) none = us.drop 1 := cut_from us 1 (by
      rw [Paired.length hp, allW_cons]
      exact Nat.succ_le_succ (Nat.zero_le _))
    rw [cu]
    exact q m _ (fresh_back e2 hm) (e2.trans (Ex.new hm)) ⟨us.drop 1, upd_same, paired_mono (fun _ _ r => wd_mono (Ex.new hm) r) (paired_drop 1 hp)⟩⟩
theorem wds_le {xs : List Str} (x3 : xs.length ≤ 3) : (wdsW xs 3).length ≤ 39 := by
  have h1 : (allW xs 3).length = 1 + (wdsW xs 3).length := by
    rw [allW_cons, List.length_cons]
    omega
  have h2 : (allW xs 3).length = 1 + xs.length ^ 1 + xs.length ^ 2 + xs.length ^ 3 := by
    simp only [allW, List.length_append, lvW_len]
    rfl
  have p1 : xs.length ^ 1 ≤ 3 ^ 1 := Nat.pow_le_pow_left x3 1
  have p2 : xs.length ^ 2 ≤ 3 ^ 2 := Nat.pow_le_pow_left x3 2
  have p3 : xs.length ^ 3 ≤ 3 ^ 3 := Nat.pow_le_pow_left x3 3
  omega
abbrev s_no_list : Stmt := topS 31
theorem sc_no_list : FnScope ["_law_pot_here", "_law_tags_here", "_law_verses_here", "_law_four", "_law_some"] ["_law_pot_here", "_law_tags_here"] (defScope s_no_list) := ⟨rfl, rfl, rfl, by decide +kernel, rfl, by decide +kernel, by decide +kernel⟩
theorem ok_no_list {f : Addr} {fd : FuncData} (F : FunD K "_law_no_list" "_law_no_list" (defArgs s_no_list) (defBody s_no_list) (defScope s_no_list) [] [] f fd) (T : Tx P w K mg base) (d_law_pick : Cal P w K mg base CX0 2 "_law_pick" ["_law_pot_here", "_law_some"] (spPickX K)) (d_law_all : Cal P w K mg base CX0 1 "_law_all" ["_law_tags_here", "_law_most"] (spAll K)) : FnG P w K mg base CX0 3 f fd ["_law_pot_here", "_law_tags_here"] (spNoList K) := by
  refine fnG F sc_no_list (fun vs H Q E h => ?_) (fun cdv A outer s H vs Q E gd hr h => ?_)
  · obtain ⟨T, p, l, xs, rfl, _⟩ := h
    rfl
  · skip
    refine ⟨_, PSs.nox ((pss_cons (ps_set (i := 2) sc_no_list.nd rfl (by first | exact Or.inl rfl | exact Or.inr rfl) (pe_slice (sl_listK (K := K)) (pe_cal d_law_all gd hr (pa_cons (pv 1) (pa_cons pe_int pa_nil))) (po_some pe_int) po_none))
      (pss_cons (ps_set (i := 3) sc_no_list.nd rfl (by first | exact Or.inl rfl | exact Or.inr rfl) (pe_lst (pa_cons (pe_op (op_repTK (K := K)) (pe_tup (pa_cons (pe_ix (ix_listK (K := K)) (pv 1) pe_int (fun _ _ => rfl)) pa_nil)) pe_int) (pa_cons (pe_tup (pa_cons (pe_ix (ix_listK (K := K)) (pv 1) pe_int (fun _ _ => rfl)) pa_nil)) (pa_cons (pe_op (op_repTK (K := K)) (pe_tup (pa_cons (pe_ix (ix_listK (K := K)) (pv 1) pe_int (fun _ _ => rfl)) pa_nil)) pe_int) (pa_cons (pe_tup (pa_cons (pe_ix (ix_listK (K := K)) (pv 1) pe_int (fun _ _ => rfl)) (pa_cons pe_str pa_nil))) pa_nil))))))
      (pss_cons (ps_set (i := 4) sc_no_list.nd rfl (by first | exact Or.inl rfl | exact Or.inr rfl) (pe_lst (pa_cons pe_non (pa_cons pe_int (pa_cons pe_bl (pa_cons pe_str (pa_cons (pe_ix (ix_listK (K := K)) (pv 1) pe_int (fun _ _ => rfl)) (pa_cons pe_dnewK (pa_cons (pe_disp1T (Nat.lt_of_le_of_lt (Nat.le_add_right _ 64) hr.units) (pps_cons (pe_tup (pa_cons (pe_ix (ix_listK (K := K)) (pv 1) pe_int (fun _ _ => rfl)) pa_nil)) pe_int pps_nil)) (pa_cons (pe_lst pa_nil) (pa_cons (pe_tup pa_nil) (pa_cons (pv 3) (pa_cons (pe_callTy (call_tupleK (K := K)) (by rfl) T.m_tuple (by decide +kernel) (pa_cons (pv 3) pa_nil)) (pa_cons (pe_op op_rep (pe_lst (pa_cons pe_non pa_nil)) pe_int) (pa_cons (pe_op op_cat (pe_op op_rep (pv 2) pe_int) (pv 2)) pa_nil)))))))))))))))
      (pss_one (ps_ret (pe_cal d_law_pick gd hr (pa_cons (pv 0) (pa_cons (pv 4) pa_nil))))))))), ?_⟩
    obtain ⟨T, p, l, xs, rfl, o, hl, x1, x3, hx, hn, q⟩ := h
    have h0 : xs[0]? = some xs[0] := List.getElem?_eq_getElem x1
    have hL := hx xs[0] (List.getElem_mem x1)
    generalize xs[0] = s at h0 hL
    have at0 : atI (xs.map V.str) ((0 : Nat) : Int) = some (.str s) := atI_nat (by rw [List.getElem?_map, h0]; rfl)
    refine q_asgLW (elw_menu (K := K) rfl hl x3) fun r0 H1 hr0 e1 hV => ?_
    obtain ⟨us, hu, hp⟩ := hV
    have ln := Paired.length hp
    have l3 := three_le x1 hn
    have l39 := wds_le x3
    have one : ∀ {a b c : Option V} {H' : Hp}, Ex H H' → Ev (tOp (rIxL K) (tVar 1) (tC (.int 0))) [some (.ref p), some (.ref l), a, b, c] H' (.str s) := fun e => ev_op (ev_var rfl) ev_c (rv_ixL (SqL.of (e _ _ hl)) at0)
    refine q_asgEL (B := fun _ _ _ => True) (H0 := H1) (n := 4) (el_lst' up_tr
      (ea1 up_tr (tv_rep (by decide) (by decide) (one e1)) (ea1 up_tr (tv_tup (ea_cons (one e1) ea_nil) (Nat.le_of_ble_eq_true rfl)) (ea1 up_tr (tv_rep (by decide) (by decide) (one e1)) (ea1 up_tr (tv_tup (ea_cons (one e1) (ea_cons ev_c ea_nil)) (Nat.le_of_ble_eq_true rfl)) ea0)))) (Ex.refl _) (by decide)) fun r4 H2 hr4 e2 o4 => ?_
    obtain ⟨us4, h4, l4, _⟩ := o4
    have e02 := e1.trans e2
    have hu2 := e2 _ _ hu
    have four : us4.length ≤ 1000 ∧ ¬ (1 ≤ us4.length ∧ us4.length ≤ 3) := by omega
    refine q_asgEL (B := Kp H (Nr K)) (H0 := H) (n := 13) (el_lst' up_kp
      (ea1 up_kp (nr_ev ev_c fun _ => nr_no "NoneType" (.base .non) rfl)
      (ea1 up_kp (nr_ev ev_c fun _ => nr_no "int" (.base (.int 0)) rfl)
      (ea1 up_kp (nr_ev ev_c fun _ => nr_no "bool" (.base (.bl true)) rfl)
      (ea1 up_kp (nr_ev ev_c fun _ => nr_no "str" (.base (.str _)) rfl)
      (ea1 up_kp (nr_ev (one e02) fun _ => nr_no "str" (.base (.str _)) rfl)
      (ea1 up_kp (nr_dnew e02)
      (ea1 up_kp (nr_dT e02 (one e02))
      (ea1 up_kp (nr_newL e02 (el_lst (vs := []) ea_nil (Nat.zero_le _)) (Nat.zero_le _) (fun z => absurd z.1 (by decide)))
      (ea1 up_kp (nr_newU e02 (eu_tup (vs := []) ea_nil (Nat.zero_le _)) (Nat.zero_le _) (fun z => absurd z.1 (by decide)))
      (ea1 up_kp (nr_old (ev_var rfl) (fresh_back e1 hr4) h4 four.1 four.2)
      (ea1 up_kp (nr_tuple e02 (ev_var rfl) h4 four.1 four.2)
      (ea1 up_kp (nr_newL e02 (el_rep (el_lst (ea_cons ev_c ea_nil) (by show 1 ≤ 100000; decide)) (by decide) (by show 1 ≤ 500; decide)) (by show 4 ≤ 1000; decide) (fun z => absurd z.2 (by show ¬ 4 ≤ 3; decide)))
      (ea1 up_kp (nr_newL e02 (el_catV (el_repV (ev_var rfl) hu2 (by decide) (by omega)) (ev_var rfl) hu2 ?_) ?_ ?_)
      ea0))))))))))))) e02 (by decide)) fun r H3 hr e3 o3 => ?_
    · rw [show (List.replicate (2 : Int).toNat us).flatten.length = us.length + (us.length + 0) by simp]
      omega
    · rw [List.length_append, show (List.replicate (2 : Int).toNat us).flatten.length = us.length + (us.length + 0) by simp]
      omega
    · rw [List.length_append, show (List.replicate (2 : Int).toNat us).flatten.length = us.length + (us.length + 0) by simp]
      omega
    obtain ⟨vs, hv, hn2, hb⟩ := o3
    have r3 : R (Zp T p) H H3 := .of o (e02.trans e3)
    have rp : r ≠ p := fun z => (o.fresh (fr_none (fresh_back e02 hr))) (show r = p from z)
    exact ⟨_, rfl, _, rfl, .inl ⟨p, r, vs, rfl, r3.b.2 p rfl, hv, rp, by omega, by omega, fun v H' hm x => q v H' (r3.trans (Rm.R.xp r3.b.1 (r3.b.2 p rfl) x)) fun H4 r4 => ft_R o (hb v hm) ((Rm.R.xp r3.b.1 (r3.b.2 p rfl) x).trans r4)⟩⟩

theorem q_asgX {te : TE} {i : Nat} {tz : TS} {D : Ends} {σ : L2.St} {H : Hp} (h : te σ H fun v H1 => tz D (σ.set i (some v)) H1) : tSeq (tAsg te (gName i)) tz D σ H := h
theorem s_asgX {te : TE} {i : Nat} {D : Ends} {σ : L2.St} {H : Hp} (h : te σ H fun v H1 => D.nx (σ.set i (some v)) H1) : tAsg te (gName i) D σ H := h
theorem op_of {r : R2} {ta tb : TE} {σ : L2.St} {H : Hp} {Q : VK} (h : ta σ H fun x H1 => tb σ H1 fun y H2 => r x y H2 Q) : tOp r ta tb σ H Q := h
theorem bel_same {K : PySem.W.Frag} {H : Hp} {F G : List V} {k : Nat} (h : BadEls K H F k) (h1 : G.take k = F.take k) (h2 : G[k]? = F[k]?) (h3 : G.length ≤ 3) : BadEls K H G k := by
  obtain ⟨ws, x, a, b, c, d, e, f⟩ := h
  exact ⟨ws, x, a, h3, by rw [h1]; exact c, d, by rw [h2]; exact e, f⟩
/-- a row whose element at m is the first wrong one -/
def spSpoilt (K : PySem.W.Frag) : Sp := fun vs H Q _ => ∃ (T : List (Addr × Str)) (p l : Addr) (xs : List Str), vs = [.ref p, .ref l] ∧ Ok (Zp T p) H ∧ H l = some (.lst (xs.map V.str)) ∧ 1 ≤ xs.length ∧ xs.length ≤ 3 ∧ (∀ x ∈ xs, isL x = true) ∧ xs.Nodup ∧
  ∀ (g r : Addr) (us : List V) (m : Nat) H', R (Zp T p) H H' → H' g = some (.tup [.ref r, .int (m : Int)]) → H' r = some (.lst us) → r ≠ p → m ≤ 3 → (∀ H2, R (Zp T p) H' H2 → BadEls K H2 us m) → Q (.ref g) H'
abbrev s_spoilt : Stmt := topS 32
theorem sc_spoilt : FnScope ["_law_pot_here", "_law_tags_here", "_law_verses_here", "_law_at", "_law_found"] ["_law_pot_here", "_law_tags_here"] (defScope s_spoilt) := ⟨rfl, rfl, rfl, by decide +kernel, rfl, by decide +kernel, by decide +kernel⟩
theorem ok_spoilt {f : Addr} {fd : FuncData} (F : FunD K "_law_spoilt" "_law_spoilt" (defArgs s_spoilt) (defBody s_spoilt) (defScope s_spoilt) [] [] f fd) (T : Tx P w K mg base) (d_law_draw : Cal P w K mg base CX0 1 "_law_draw" ["_law_pot_here", "_law_sides"] spDraw) (d_law_pick : Cal P w K mg base CX0 2 "_law_pick" ["_law_pot_here", "_law_some"] (spPickX K)) (d_law_verses : Cal P w K mg base CX0 3 "_law_verses" ["_law_pot_here", "_law_tags_here"] (spVerses K)) (d_law_odd : Cal P w K mg base CX0 3 "_law_odd" ["_law_pot_here", "_law_tags_here"] (spOdd K)) : FnG P w K mg base CX0 4 f fd ["_law_pot_here", "_law_tags_here"] (spSpoilt K) := by
  refine fnG F sc_spoilt (fun vs H Q E h => ?_) (fun cdv A outer s H vs Q E gd hr h => ?_)
  · obtain ⟨T, p, l, xs, rfl, _⟩ := h
    rfl
  · skip
    refine ⟨_, PSs.nox ((pss_cons (ps_set (i := 2) sc_spoilt.nd rfl (by first | exact Or.inl rfl | exact Or.inr rfl) (pe_slice (sl_listK (K := K)) (pe_cal d_law_verses gd hr (pa_cons (pv 0) (pa_cons (pv 1) pa_nil))) po_none (po_some pe_int)))
      (pss_cons (ps_set (i := 3) sc_spoilt.nd rfl (by first | exact Or.inl rfl | exact Or.inr rfl) (pe_cal d_law_draw gd hr (pa_cons (pv 0) (pa_cons (pe_op op_add (pe_callB (call_lenK (K := K)) (by rfl) T.m_len (by decide +kernel) (pa_cons (pv 2) pa_nil)) pe_int) pa_nil))))
      (pss_cons (ps_if (pt_cmpR op_eq (pe_cal d_law_draw gd hr (pa_cons (pv 0) (pa_cons pe_int pa_nil))) pe_int (nomark _)) (pss_one (ps_ret (pe_tup (pa_cons (pe_op op_cat (pv 2) (pe_lst (pa_cons (pe_cal d_law_pick gd hr (pa_cons (pv 0) (pa_cons (pv 2) pa_nil))) pa_nil))) (pa_cons (pe_callB (call_lenK (K := K)) (by rfl) T.m_len (by decide +kernel) (pa_cons (pv 2) pa_nil)) pa_nil))))) pss_nil)
      (pss_cons (ps_set (i := 4) sc_spoilt.nd rfl (by first | exact Or.inl rfl | exact Or.inr rfl) (pe_op op_cat (pe_op op_cat (pe_slice (sl_listK (K := K)) (pv 2) po_none (po_some (pv 3))) (pe_lst (pa_cons (pe_cal d_law_odd gd hr (pa_cons (pv 0) (pa_cons (pv 1) pa_nil))) pa_nil))) (pe_slice (sl_listK (K := K)) (pv 2) (po_some (pv 3)) po_none)))
      (Evl.pss_cut (ps_if (PW.pt (pw_and (pt_cmpR op_eq (pe_cal d_law_draw gd hr (pa_cons (pv 0) (pa_cons pe_int pa_nil))) pe_int (nomark _)) (pw_and1 (pt_cmpR op_lt (pe_op op_add (pv 3) pe_int) (pe_callB (call_lenK (K := K)) (by rfl) T.m_len (by decide +kernel) (pa_cons (pv 4) pa_nil)) (nomark _))))) (pss_one (ps_set (i := 4) sc_spoilt.nd rfl (by first | exact Or.inl rfl | exact Or.inr rfl) (pe_op op_cat (pe_op op_cat (pe_slice (sl_listK (K := K)) (pv 4) po_none (po_some (pe_op op_add (pv 3) pe_int))) (pe_lst (pa_cons (pe_cal d_law_odd gd hr (pa_cons (pv 0) (pa_cons (pv 1) pa_nil))) pa_nil))) (pe_slice (sl_listK (K := K)) (pv 4) (po_some (pe_op op_add (pv 3) pe_int)) po_none)))) pss_nil)
      (pss_one (ps_ret (pe_tup (pa_cons (pv 4) (pa_cons (pv 3) pa_nil))))))))))), ?_⟩
    obtain ⟨T, p, l, xs, rfl, o, hl, x1, x3, hx, hn, q⟩ := h
    have nl := ls_nm o hl
    refine ⟨_, rfl, _, rfl, T, p, l, xs, rfl, o, hl, x1, x3, hx, hn, fun r0 ws0 H1 fr0 r1 hL0 ok0 w1 w3 => ?_⟩
    obtain ⟨us0, hu0, hp0⟩ := hL0
    refine ⟨2, rfl, r0, us0, rfl, SqL.of hu0, fun v nv => ?_⟩
    have cu : cutV us0 none (some (2 : Int)) = us0.take 2 := cut_to2 us0 2
    rw [cu]
    have rv : R (Zp T p) H (upd H1 v (.lst (us0.take 2))) := r1.new nv
    have vp : v ≠ p := fun z => (r1.b.fresh (fr_none nv)) (show v = p from z)
    have hv : (upd H1 v (.lst (us0.take 2))) v = some (.lst (us0.take 2)) := upd_same
    have hpv : Paired (Wd K (upd H1 v (.lst (us0.take 2)))) (us0.take 2) (ws0.take 2) := paired_mono (fun _ _ r => wd_mono (Ex.new nv) r) (paired_take 2 hp0)
    have okv := okWs_take ok0 2
    have lw : (ws0.take 2).length ≤ 2 := by rw [List.length_take]; omega
    have l1 : 1 ≤ (ws0.take 2).length := by rw [List.length_take]; omega
    have lu := Paired.length hpv
    generalize upd H1 v (.lst (us0.take 2)) = H2 at rv hv hpv
    generalize us0.take 2 = us at hv hpv lu
    generalize ws0.take 2 = ws at hpv okv lw l1 lu
    refine ⟨_, rfl, _, rfl, v, us, rfl, .inl (SqL.of hv), _, _, rfl, rfl, p, _, rfl, rv.b.2 p rfl, by omega, by omega, fun d H3 d0 d1 x3' => ?_⟩
    have r23 := Rm.R.xp rv.b.1 (rv.b.2 p rfl) x3'
    have r3 := rv.trans r23
    have hv3 := r23.lst hv (fun z => vp z)
    obtain ⟨k, rfl⟩ := Int.eq_ofNat_of_zero_le d0
    have hk : k ≤ us.length := by omega
    refine ⟨_, rfl, p, 3, rfl, r3.b.2 p rfl, by decide, by decide, fun d2 H4 _ _ x4 => ⟨rfl, _, rfl, tt_if (fun hb => ?_) (fun _ => ?_)⟩⟩
    all_goals have r34 := Rm.R.xp r3.b.1 (r3.b.2 p rfl) x4
    all_goals have r4 := r3.trans r34
    all_goals have hv4 := r34.lst hv3 (fun z => vp z)
    · refine ⟨_, rfl, _, rfl, _, rfl, .inl ⟨p, v, us, rfl, r4.b.2 p rfl, hv4, vp, by omega, by omega, fun y H5 hm x5 => ⟨(by show 1 ≤ sizeLine; decide), fun b hb2 => ?_⟩⟩⟩
      have r45 := Rm.R.xp r4.b.1 (r4.b.2 p rfl) x5
      have r5 := r4.trans r45
      have hv5 := r45.lst hv4 (fun z => vp z)
      refine ⟨v, b, us, [y], rfl, rfl, (Ex.new hb2) _ _ hv5, upd_same, sz_of (by show us.length + 1 ≤ _; omega), fun c hc => ⟨_, rfl, v, us, rfl, .inl (SqL.of ((Ex.new hc) _ _ ((Ex.new hb2) _ _ hv5))), (by show 2 ≤ sizeLine; decide), fun g hg => ?_⟩⟩
      have r8 := ((r5.new (o := .lst [y]) hb2).new (o := .lst (us ++ [y])) hc).new (o := .tup [.ref c, .int (us.length : Int)]) hg
      have hcp : c ≠ p := fun z => ((r5.new (o := .lst [y]) hb2).b.fresh (fr_none hc)) (show c = p from z)
      refine q g c (us ++ [y]) us.length _ r8 upd_same ((Ex.new hg) _ _ upd_same) hcp (by omega) fun H9 r9 => ?_
      have rz := (((((r23.trans r34).trans r45).new (o := .lst [y]) hb2).new (o := .lst (us ++ [y])) hc).new (o := .tup [.ref c, .int (us.length : Int)]) hg).trans r9
      have hp9 := paired_mono (fun _ _ r => Rm.wd_R rz r) hpv
      obtain ⟨j, hj, rfl⟩ := List.getElem_of_mem hm
      obtain ⟨w, hw, rw_⟩ := paired_at hp9 (List.getElem?_eq_getElem hj)
      have wm := List.mem_of_getElem? hw
      exact ⟨ws, us[j], lu.symm, by rw [List.length_append]; show us.length + 1 ≤ 3; omega, by rw [List.take_left]; exact hp9, okv, by rw [List.getElem?_append_right (Nat.le_refl _), Nat.sub_self]; rfl, .inr ⟨w, rw_, (okv.1 w wm).1, .inr wm⟩⟩
    · have eH : Ex H4 H4 := Ex.refl H4
      refine q_asgX (op_of (op_of (el_take (K := K) (b := v) (us := us) (n := k) (ev_var rfl) hv4 eo_none (eo_some (ev_var rfl)) hk H4 eH _ fun a1 H5 ha1 e5 hA1 => ?_)))
      have r5 := r4.ex e5
      have nA1 : ¬ (Zp T p).M a1 := r4.b.fresh (fr_none ha1)
      refine ⟨_, rfl, _, rfl, T, p, l, xs, rfl, r5.b, r5.lst hl nl, x1, hx, fun y H6 r6 hy => ⟨(by show 1 ≤ sizeLine; decide), fun b hb => ⟨a1, b, us.take k, [y], rfl, rfl, (Ex.new hb) _ _ (r6.lst hA1 nA1), upd_same, sz_of (by rw [List.length_take]; show _ + 1 ≤ _; omega), fun c hc => ?_⟩⟩⟩
      have hv7 := (Ex.new (o := .lst (us.take k ++ [y])) hc) _ _ ((Ex.new (o := .lst [y]) hb) _ _ (r6.lst (e5 _ _ hv4) (fun z => vp z)))
      have hc7 : (upd (upd H6 b (.lst [y])) c (.lst (us.take k ++ [y]))) c = some (.lst (us.take k ++ [y])) := upd_same
      have r67 : R (Zp T p) H6 (upd (upd H6 b (.lst [y])) c (.lst (us.take k ++ [y]))) := ((R.refl r6.b).new (o := .lst [y]) hb).new (o := .lst (us.take k ++ [y])) hc
      have r7 := r6.trans r67
      generalize upd (upd H6 b (.lst [y])) c (.lst (us.take k ++ [y])) = H7 at hv7 hc7 r7 r67
      have eD := el_drop (K := K) (σ := [some (.ref p), some (.ref l), some (.ref v), some (.int (k : Int)), none]) (ta := tVar 2) (to := tPart (tVar 3)) (th := tNoPart) (H := H7) (b := v) (us := us) (n := k) (ev_var rfl) hv7 (eo_some (ev_var rfl)) eo_none hk
      refine eD H7 (Ex.refl H7) _ fun d H8 hd e8 hD => ?_
      have lF : (us.take k ++ [y] ++ us.drop k).length = us.length + 1 := by
        rw [List.length_append, List.length_append, List.length_take, List.length_drop]
        show min k us.length + 1 + _ = _
        omega
      refine ⟨c, d, _, _, rfl, rfl, e8 _ _ hc7, hD, sz_of (by rw [← List.length_append, lF]; omega), fun f hf => ?_⟩
      have r58 := (r7.ex e8).new (o := .lst (us.take k ++ [y] ++ us.drop k)) hf
      have fp : f ≠ p := fun z => ((r7.ex e8).b.fresh (fr_none hf)) (show f = p from z)
      have hf9 : (upd H8 f (.lst (us.take k ++ [y] ++ us.drop k))) f = some (.lst (us.take k ++ [y] ++ us.drop k)) := upd_same
      have r9 := r5.trans r58
      have bel : ∀ H10, R (Zp T p) (upd H8 f (.lst (us.take k ++ [y] ++ us.drop k))) H10 → BadEls K H10 (us.take k ++ [y] ++ us.drop k) k := fun H10 r10 => by
        have rz := ((((r23.trans r34).ex e5).trans r58).trans r10)
        have hp10 := paired_take k (paired_mono (fun _ _ r => Rm.wd_R rz r) hpv)
        have tl : (us.take k).length = k := by rw [List.length_take]; omega
        have t1 : (us.take k ++ [y] ++ us.drop k).take k = us.take k := by
          rw [List.append_assoc, List.take_append_of_le_length (by omega), List.take_of_length_le (by omega)]
        refine ⟨ws.take k, y, by rw [List.length_take]; omega, by omega, by rw [t1]; exact hp10, okWs_take okv k, ?_, ?_⟩
        · rw [List.append_assoc, List.getElem?_append_right (by omega), tl, Nat.sub_self]
          rfl
        · rcases hy H10 (((r67.ex e8).new hf).trans r10) with z | z
          · exact .inl z
          · exact .inr ⟨[], z, rfl, .inl rfl⟩
      generalize us.take k ++ [y] ++ us.drop k = F at r58 r9 hf9 bel lF
      generalize upd H8 f (.lst F) = H9 at r58 r9 hf9 bel
      refine ⟨fun σ' H' => ∃ f' F', σ' = [some (.ref p), some (.ref l), some (.ref v), some (.int (k : Int)), some (.ref f')] ∧ R (Zp T p) H H' ∧ H' f' = some (.lst F') ∧ f' ≠ p ∧ (∀ H2, R (Zp T p) H' H2 → BadEls K H2 F' k), ?_, ?_⟩
      · refine ⟨_, rfl, p, 2, rfl, r9.b.2 p rfl, by decide, by decide, fun d3 H10 _ _ x10 => ⟨rfl, _, rfl, tt_if (fun _ => ?_) (fun _ => ?_)⟩⟩
        all_goals have r910 := Rm.R.xp r9.b.1 (r9.b.2 p rfl) x10
        all_goals have r10 := r9.trans r910
        all_goals have hf10 := r910.lst hf9 (fun z => fp z)
        all_goals have bel10 : ∀ H2, R (Zp T p) H10 H2 → BadEls K H2 F k := fun H2 r2 => bel H2 (r910.trans r2)
        · refine ⟨_, rfl, _, _, rfl, rfl, _, rfl, f, F, rfl, .inl (SqL.of hf10), _, _, rfl, rfl, _, rfl, tt_if (fun hlt => ?_) (fun _ => ?_)⟩
          · have hlt := of_decide_eq_true hlt
            have hk1 : k + 1 < F.length := by omega
            refine s_asgX (op_of (op_of (el_take (K := K) (b := f) (us := F) (n := k + 1) (ev_var rfl) hf10 eo_none (eo_some (ev_op (ev_var rfl) ev_c rv_I0)) (by omega) H10 (Ex.refl _) _ fun a2 H11 ha2 e11 hA2 => ?_)))
            have r11 := r10.ex e11
            have nA2 : ¬ (Zp T p).M a2 := r10.b.fresh (fr_none ha2)
            refine ⟨_, rfl, _, rfl, T, p, l, xs, rfl, r11.b, r11.lst hl nl, x1, hx, fun y2 H12 r12 hy2 => ⟨(by show 1 ≤ sizeLine; decide), fun b2 hb2 => ⟨a2, b2, F.take (k + 1), [y2], rfl, rfl, (Ex.new hb2) _ _ (r12.lst hA2 nA2), upd_same, sz_of (by rw [List.length_take]; show _ + 1 ≤ _; omega), fun c2 hc2 => ?_⟩⟩⟩
            have hf13 := (Ex.new (o := .lst (F.take (k + 1) ++ [y2])) hc2) _ _ ((Ex.new (o := .lst [y2]) hb2) _ _ (r12.lst (e11 _ _ hf10) (fun z => fp z)))
            have hc13 : (upd (upd H12 b2 (.lst [y2])) c2 (.lst (F.take (k + 1) ++ [y2]))) c2 = some (.lst (F.take (k + 1) ++ [y2])) := upd_same
            have r13 := (r12.new (o := .lst [y2]) hb2).new (o := .lst (F.take (k + 1) ++ [y2])) hc2
            generalize upd (upd H12 b2 (.lst [y2])) c2 (.lst (F.take (k + 1) ++ [y2])) = H13 at hf13 hc13 r13
            have eD2 := el_drop (K := K) (σ := [some (.ref p), some (.ref l), some (.ref v), some (.int (k : Int)), some (.ref f)]) (ta := tVar 4) (to := tPart (tOp (rI0 fun i j => .int (i + j)) (tVar 3) (tC (.int 2)))) (th := tNoPart) (H := H13) (b := f) (us := F) (n := k + 2) (ev_var rfl) hf13 (eo_some (ev_op (ev_var rfl) ev_c rv_I0)) eo_none (by omega)
            refine eD2 H13 (Ex.refl H13) _ fun d4 H14 hd4 e14 hD4 => ?_
            have lG : (F.take (k + 1) ++ [y2] ++ F.drop (k + 2)).length = F.length := by
              rw [List.length_append, List.length_append, List.length_take, List.length_drop]
              show min (k + 1) F.length + 1 + _ = _
              omega
            refine ⟨c2, d4, _, _, rfl, rfl, e14 _ _ hc13, hD4, sz_of (by rw [← List.length_append, lG]; omega), fun g hg => ?_⟩
            have rg := (r13.ex e14).new (o := .lst (F.take (k + 1) ++ [y2] ++ F.drop (k + 2))) hg
            refine ⟨g, _, rfl, r11.trans rg, upd_same, fun z => ((r13.ex e14).b.fresh (fr_none hg)) (show g = p from z), fun H2 r2 => ?_⟩
            refine bel_same (bel10 H2 (((R.of r10.b e11).trans rg).trans r2)) ?_ ?_ (by omega)
            · rw [List.append_assoc, List.take_append_of_le_length (by rw [List.length_take]; omega), List.take_take, Nat.min_eq_left (Nat.le_succ k)]
            · rw [List.append_assoc, List.getElem?_append_left (by rw [List.length_take]; omega), List.getElem?_take, if_pos (Nat.lt_succ_self k)]
          · exact ⟨f, F, rfl, r10, hf10, fp, bel10⟩
        · exact ⟨f, F, rfl, r10, hf10, fp, bel10⟩
      · rintro σ' H' ⟨f', F', rfl, r, hf', fp', bel'⟩
        exact ⟨_, rfl, _, rfl, (by show 2 ≤ sizeLine; decide), fun g hg => q g f' F' k _ (r.new hg) upd_same ((Ex.new hg) _ _ hf') fp' (by omega) fun H2 r2 => bel' H2 (((R.refl r.b).new hg).trans r2)⟩

end
end K20
namespace Tk
open PySem PySem.Spec PyProof.Rows L2 Lw Evl LamX TL
open Rm (R Ok Z0 Zp Fr fr_none fr_ne nt_lst nt_tup nt_dK NT Zn)
/-! ### lists of told lists, compared -/
section
variable {K : PySem.W.Frag} {Z : Zn} {σ : L2.St} {H H0 H1 : Hp} {te ta tb : TE} {tri : List V} {ds : List PyData} {l : Addr} {n j : Nat}
theorem dpa_rep {d : PyData} : ∀ {rs : List V}, (∀ r ∈ rs, Dp K H r d) → DpAll K H rs (List.replicate rs.length d)
  | [], _ => .nil
  | r :: rs, h => .cons (h r (List.mem_cons_self ..)) (dpa_rep fun x hx => h x (List.mem_cons_of_mem _ hx))
theorem dp_cs (h : Cs H0 H l n tri) (hd : DpAll K H tri ds) : Dp K H (.ref l) (.list (List.replicate n (.list ds))) := by
  obtain ⟨_, rs, h1, h2, h3⟩ := h
  rw [← h2]
  exact .lst (SqL.of h1) (dpa_rep fun r hr => by
    obtain ⟨a, rfl, _, _, e⟩ := h3 r hr
    exact .lst (SqL.of e) hd)
/-- [..] * n -/
theorem dp_repN {a r : Addr} (h : H a = some (.lst tri)) (hr : H r = some (.lst (List.replicate n (.ref a)))) (hd : DpAll K H tri ds) : Dp K H (.ref r) (.list (List.replicate n (.list ds))) := by
  have z : DpAll K H (List.replicate n (V.ref a)) (List.replicate (List.replicate n (V.ref a)).length (PyData.list ds)) := dpa_rep fun x hx => by
    rw [List.eq_of_mem_replicate hx]
    exact .lst (SqL.of h) hd
  rw [List.length_replicate] at z
  exact .lst (SqL.of hr) z
theorem flat_rep (n : Nat) (v : V) : (List.replicate n [v]).flatten = List.replicate n v := by
  induction n with
  | zero => rfl
  | succ n ih => rw [List.replicate_succ, List.flatten_cons, ih, List.replicate_succ]; rfl
/-- what is told is what is due -/
theorem cs_due {m : Int} (hm : m.toNat = n) (h0 : 0 ≤ m ∧ m ≤ 100) (h : ∀ H1, R Z H H1 → Cs H0 H1 l n tri) (hj : σ[j]? = some (some (.ref l))) (ht : El Z te σ H tri) (hd : ∀ H, DpAll K H tri ds) (sh : SeqAt.shaped (.list (List.replicate n (.list ds))) = true) {Q : V → V → Hp → Prop} {H1 : Hp} (r : R Z H H1)
    (q : ∀ a b H2, R Z H1 H2 → Dp K H2 (.ref a) (.list (List.replicate n (.list ds))) → Dp K H2 (.ref b) (.list (List.replicate n (.list ds))) → Q (.ref a) (.ref b) H2) : tVar j σ H1 fun x H2 => tOp rRep (tLst (tCons te tNil)) (tC (.int m)) σ H2 fun y H3 => Q x y H3 := by
  refine ⟨_, hj, ht H1 r _ fun a H2 fa r2 ha => ⟨(by show 1 ≤ sizeLine; decide), fun b hb => ⟨b, m, [.ref a], rfl, rfl, upd_same, by omega, by omega, sz_of (by show 1 * m.toNat ≤ _; omega), fun c hc => ?_⟩⟩⟩
  rw [hm, flat_rep]
  have ab : a ≠ b := ne_of_none ha hb
  have r3 := (r2.new (o := .lst [.ref a]) hb).new (o := .lst (List.replicate n (V.ref a))) hc
  have ha3 : (upd (upd H2 b (.lst [.ref a])) c (.lst (List.replicate n (V.ref a)))) a = some (.lst tri) := by
    rw [upd_ne (ne_of_none (by rw [upd_ne ab]; exact ha) hc), upd_ne ab]
    exact ha
  exact q l c _ r3 (dp_cs (h _ (r.trans r3)) (hd _)) (dp_repN ha3 upd_same (hd _))
theorem et_neCs {m : Int} (hm : m.toNat = n) (h0 : 0 ≤ m ∧ m ≤ 100) (h : ∀ H1, R Z H H1 → Cs H0 H1 l n tri) (hj : σ[j]? = some (some (.ref l))) (ht : El Z te σ H tri) (hd : ∀ H, DpAll K H tri ds) (sh : SeqAt.shaped (.list (List.replicate n (.list ds))) = true) : Rm.Et Z (tTest (tOp (rNeD K) (tVar j) (tOp rRep (tLst (tCons te tNil)) (tC (.int m))))) σ H false := fun H1 r Q q =>
  cs_due (K := K) (Q := fun x y H2 => rNeD K x y H2 fun z H3 => ∃ b, z = .bl b ∧ Q b H3) hm h0 h hj ht hd sh r fun a b H2 r2 d1 d2 => ⟨_, _, d1, d2, sh, sh, false, by rw [SeqAt.eqv_refl _ (SeqAt.canLay_of_shaped sh)]; rfl, q H2 r2⟩
theorem ew_eqCs {m : Int} (hm : m.toNat = n) (h0 : 0 ≤ m ∧ m ≤ 100) (h : ∀ H1, R Z H H1 → Cs H0 H1 l n tri) (hj : σ[j]? = some (some (.ref l))) (ht : El Z te σ H tri) (hd : ∀ H, DpAll K H tri ds) (sh : SeqAt.shaped (.list (List.replicate n (.list ds))) = true) : Rm.Ew Z (tOp (rEqD K) (tVar j) (tOp rRep (tLst (tCons te tNil)) (tC (.int m)))) σ H (.bl true) := fun H1 r Q q =>
  cs_due (K := K) (Q := fun x y H2 => rEqD K x y H2 Q) hm h0 h hj ht hd sh r fun a b H2 r2 d1 d2 => ⟨_, _, d1, d2, sh, sh, by rw [SeqAt.eqv_refl _ (SeqAt.canLay_of_shaped sh)]; exact q H2 r2⟩
end
/-- no error is wanted -/
theorem passE0 {X : Cx} : Passes (L2.CX X.prog X.w) X E0 := fun _ _ _ _ _ _ _ h => by
  obtain ⟨_, _, _, _, _, _, _, _, _, _, _, _, z⟩ := h
  exact z.elim
end Tk
namespace Lw
open PySem PySem.Spec PyProof.Rows L2 Evl
/-- o == y by the class's own method -/
def EqO (P : Program) (w : World) (K : PySem.W.Frag) (mg : Str → Option Value) (base : Heap) (k : Nat) (C : Addr) (sp : Sp) : Prop :=
  ∃ f fd, PySem.W.findIn K (.ref C) "__eq__" = some (some (.ref f)) ∧ PySem.W.isFn K (.ref f) = true ∧ Binds K fd ["self", "other"] [] ∧ FnOk P w K mg base CX0 k f fd ["self", "other"] sp
theorem op_eqOK {X : Cx} {k : Nat} {C : Addr} {sp : Sp} {K : PySem.W.Frag} (q : EqO X.prog X.w X.K X.mg X.base k C sp) {j : Nat} (hr : Room j X.A) (hj : k ≤ j := by decide) (h : X.K = K := by rfl) : OpR X (compareOp .Eq) (rEqO K C sp E0) := by
  subst h
  obtain ⟨f, fd, h1, h2, hb, F⟩ := q
  exact op_eqO h1 h2 F hb (hr.mono hj) pass0
end Lw
namespace K20
open PySem PySem.Spec PyProof.Rows L2 Lw Evl LamX Tk TL
open Rm (R Ok Z0 Zp Fr fr_none fr_ne nt_lst nt_tup nt_dK NT Zn)
open LwX (XC XF)
theorem pz_ok {v : V} {z : Str} (h : Pz v z) : PyData.strOk z = true := by
  cases h with
  | non => decide +kernel
  | int m hm =>
    rcases (by omega : m = 0 ∨ m = 1 ∨ m = 2 ∨ m = 3) with rfl | rfl | rfl | rfl <;> decide +kernel
theorem shaped2 {a z : Str} (ha : PyData.strOk a = true) (hz : PyData.strOk z = true) : SeqAt.shaped (.list (List.replicate 4 (.list [.str a, .str z]))) = true := by
  simp [SeqAt.shaped, List.replicate, PyData.canLay0, PyData.canLayAll0, PyData.depth, PyData.depthAll, ha, hz]
section
variable {P : Program} {w : World} {K : PySem.W.Frag} {mg : Str → Option Value} {base : Heap} {TT : List (Addr × Str)} {CT CM CK CE CY c0 P0 : Addr}
def spLR (K : PySem.W.Frag) (T : List (Addr × Str)) : Sp := fun vs H Q _ => ∃ (g0 g1 : V) (g : Addr) (bad : V) (z : Str) (lw lp : Addr) (ws ms : List (List Str)) (p : V), vs = [g0, g1, .ref g, bad, .str z] ∧ Tabs T H ∧ H g = some (.tup [.ref lw, .ref lp]) ∧
  LW K H lw ws ∧ okWs ws ∧ 1 ≤ ws.length ∧ ws.length ≤ 3 ∧ LW K H lp ms ∧ okWs ms ∧ 1 ≤ ms.length ∧ ms.length ≤ 3 ∧ Pz p z ∧ (∀ H2, R (Z0 T) H H2 → BadRow K H2 bad p) ∧ ∀ H', R (Z0 T) H H' → Q (.bl true) H'
abbrev s_lists_right : Stmt := topS 33
theorem sc_lists_right : FnScope ["_law_pot_here", "_law_tags_here", "_law_good", "_law_bad", "_law_due", "_law_wakes", "_law_puts", "_law_kept", "_law_told"] ["_law_pot_here", "_law_tags_here", "_law_good", "_law_bad", "_law_due"] (defScope s_lists_right) := ⟨rfl, rfl, rfl, by decide +kernel, rfl, by decide +kernel, by decide +kernel⟩
theorem ok_lists_right {f : Addr} {fd : FuncData} (F : FunD K "_law_lists_right" "_law_lists_right" (defArgs s_lists_right) (defBody s_lists_right) (defScope s_lists_right) [] [] f fd) (T : Tx P w K mg base) (hC : CodeAt K f c0) (TB : TabB base mg c0 P0) (hmT : (P0, ("_law_lists_right.<locals>.<lambda>" : Str)) ∈ TT) (huT : ∀ z ∈ TT, z.1 = P0 → z.2 = ("_law_lists_right.<locals>.<lambda>" : Str)) (DT : ToldD K mg) (CC : Clz K mg CT CM CK CE) (OSy : OwnC K mg "Saying" CY) (MSy : MkO P w K mg base (L2.CX P w) 4 "Saying" CY ["triggers", "makes"] (spSay K TT CT CM CY)) (MWT : MeO P w K mg base (L2.CX P w) 6 CY "with_triggers" ["triggers"] (spWT K TT CT CY)) (MWM : MeO P w K mg base (L2.CX P w) 6 CY "with_makes" ["makes"] (spWM K TT CM CY)) (EQS : EqO P w K mg base 1 CY (spSyEq K CY)) : FnG P w K mg base CX0 9 f fd ["_law_pot_here", "_law_tags_here", "_law_good", "_law_bad", "_law_due"] (spLR K TT) := by
  refine fnGc hC F sc_lists_right (fun vs H Q E h => ?_) (fun A outer s H vs Q E gd hr h => ?_)
  · obtain ⟨g0, g1, g, bad, z, lw, lp, ws, ms, p, rfl, _⟩ := h
    rfl
  · skip
    refine ⟨_, PSs.nox ((pss_cons (ps_asg (pv 2) (pg_tup (n := 2) rfl (pgs_cons (pg_name (i := 5) sc_lists_right.nd rfl (by first | exact Or.inl rfl | exact Or.inr rfl)) (pgs_cons (pg_name (i := 6) sc_lists_right.nd rfl (by first | exact Or.inl rfl | exact Or.inr rfl)) pgs_nil))))
      (pss_cons (ps_set (i := 7) sc_lists_right.nd rfl (by first | exact Or.inl rfl | exact Or.inr rfl) (pe_mkO MSy hr passE0 (pa_cons (pv 5) (pa_cons (pv 6) pa_nil))))
      (pss_cons (ps_set (i := 8) sc_lists_right.nd rfl (by first | exact Or.inl rfl | exact Or.inr rfl) (pe_lst (pa_cons (pe_told (k := 6) DT CC T.m_isinstance TB rfl hmT huT hr (lamS_by (sc := defScope s_lists_right) (by decide +kernel)) rfl (fun _ _ _ _ _ => rfl) (fun A2 outer2 s2 H2 E2 f2 c2 hr => (pe_mkO MSy hr (passes_call (takes_of rfl rfl rfl rfl) fun _ _ _ _ h => h) (pa_cons (pv 3) (pa_cons pe_non pa_nil))))) pa_nil)))
      (pss_cons (ps_expr (pe_bm PySem.F.plainAttrs_list PySem.F.slot_list_append PySem.F.type_list_append mt_append (pv 8) (pa_cons (pe_told (k := 6) DT CC T.m_isinstance TB rfl hmT huT hr (lamS_by (sc := defScope s_lists_right) (by decide +kernel)) rfl (fun _ _ _ _ _ => rfl) (fun A2 outer2 s2 H2 E2 f2 c2 hr => (pe_mkOR MSy hr (passes_call (takes_of rfl rfl rfl rfl) fun _ _ _ _ h => h) (pk_cons (pv 6) (pk_cons (pv 3) pk_nil))))) pa_nil)))
      (pss_cons (ps_expr (pe_bm PySem.F.plainAttrs_list PySem.F.slot_list_append PySem.F.type_list_append mt_append (pv 8) (pa_cons (pe_told (k := 6) DT CC T.m_isinstance TB rfl hmT huT hr (lamS_by (sc := defScope s_lists_right) (by decide +kernel)) rfl (fun _ _ _ _ _ => rfl) (fun A2 outer2 s2 H2 E2 f2 c2 hr => (pe_meO OSy.cl MWT (pv 7) hr (passes_call (takes_of rfl rfl rfl rfl) fun _ _ _ _ h => h) (pa_cons (pv 3) pa_nil)))) pa_nil)))
      (pss_cons (ps_expr (pe_bm PySem.F.plainAttrs_list PySem.F.slot_list_append PySem.F.type_list_append mt_append (pv 8) (pa_cons (pe_told (k := 6) DT CC T.m_isinstance TB rfl hmT huT hr (lamS_by (sc := defScope s_lists_right) (by decide +kernel)) rfl (fun _ _ _ _ _ => rfl) (fun A2 outer2 s2 H2 E2 f2 c2 hr => (pe_meOR OSy.cl MWT (pv 7) hr (passes_call (takes_of rfl rfl rfl rfl) fun _ _ _ _ h => h) (pk_cons (pv 3) pk_nil)))) pa_nil)))
      (pss_cons (ps_if (pt_cmpR (op_neDK (K := K) hr.units) (pv 8) (pe_op op_rep (pe_lst (pa_cons (pe_lst (pa_cons pe_str (pa_cons (pv 4) pa_nil))) pa_nil)) pe_int) (nomark _)) (pss_one (ps_ret pe_bl)) pss_nil)
      (pss_cons (ps_set (i := 8) sc_lists_right.nd rfl (by first | exact Or.inl rfl | exact Or.inr rfl) (pe_lst (pa_cons (pe_told (k := 6) DT CC T.m_isinstance TB rfl hmT huT hr (lamS_by (sc := defScope s_lists_right) (by decide +kernel)) rfl (fun _ _ _ _ _ => rfl) (fun A2 outer2 s2 H2 E2 f2 c2 hr => (pe_mkO MSy hr (passes_call (takes_of rfl rfl rfl rfl) fun _ _ _ _ h => h) (pa_cons (pe_callTy (call_tupleK (K := K)) (by rfl) T.m_tuple (by decide +kernel) (pa_cons (pv 5) pa_nil)) (pa_cons (pv 3) pa_nil))))) pa_nil)))
      (pss_cons (ps_expr (pe_bm PySem.F.plainAttrs_list PySem.F.slot_list_append PySem.F.type_list_append mt_append (pv 8) (pa_cons (pe_told (k := 6) DT CC T.m_isinstance TB rfl hmT huT hr (lamS_by (sc := defScope s_lists_right) (by decide +kernel)) rfl (fun _ _ _ _ _ => rfl) (fun A2 outer2 s2 H2 E2 f2 c2 hr => (pe_mkOR MSy hr (passes_call (takes_of rfl rfl rfl rfl) fun _ _ _ _ h => h) (pk_cons (pv 3) (pk_cons (pv 5) pk_nil))))) pa_nil)))
      (pss_cons (ps_expr (pe_bm PySem.F.plainAttrs_list PySem.F.slot_list_append PySem.F.type_list_append mt_append (pv 8) (pa_cons (pe_told (k := 6) DT CC T.m_isinstance TB rfl hmT huT hr (lamS_by (sc := defScope s_lists_right) (by decide +kernel)) rfl (fun _ _ _ _ _ => rfl) (fun A2 outer2 s2 H2 E2 f2 c2 hr => (pe_meO OSy.cl MWM (pv 7) hr (passes_call (takes_of rfl rfl rfl rfl) fun _ _ _ _ h => h) (pa_cons (pv 3) pa_nil)))) pa_nil)))
      (pss_cons (ps_expr (pe_bm PySem.F.plainAttrs_list PySem.F.slot_list_append PySem.F.type_list_append mt_append (pv 8) (pa_cons (pe_told (k := 6) DT CC T.m_isinstance TB rfl hmT huT hr (lamS_by (sc := defScope s_lists_right) (by decide +kernel)) rfl (fun _ _ _ _ _ => rfl) (fun A2 outer2 s2 H2 E2 f2 c2 hr => (pe_meOR OSy.cl MWM (pv 7) hr (passes_call (takes_of rfl rfl rfl rfl) fun _ _ _ _ h => h) (pk_cons (pv 3) pk_nil)))) pa_nil)))
      (pss_cons (ps_if (pt_cmpR (op_neDK (K := K) hr.units) (pv 8) (pe_op op_rep (pe_lst (pa_cons (pe_lst (pa_cons pe_str (pa_cons (pv 4) pa_nil))) pa_nil)) pe_int) (nomark _)) (pss_one (ps_ret pe_bl)) pss_nil)
      (pss_cons (ps_set (i := 8) sc_lists_right.nd rfl (by first | exact Or.inl rfl | exact Or.inr rfl) (pe_lst (pa_cons (pe_told (k := 6) DT CC T.m_isinstance TB rfl hmT huT hr (lamS_by (sc := defScope s_lists_right) (by decide +kernel)) rfl (fun _ _ _ _ _ => rfl) (fun A2 outer2 s2 H2 E2 f2 c2 hr => (pe_mkO MSy hr (passes_call (takes_of rfl rfl rfl rfl) fun _ _ _ _ h => h) (pa_cons (pv 5) (pa_cons (pv 6) pa_nil))))) pa_nil)))
      (pss_cons (ps_expr (pe_bm PySem.F.plainAttrs_list PySem.F.slot_list_append PySem.F.type_list_append mt_append (pv 8) (pa_cons (pe_told (k := 6) DT CC T.m_isinstance TB rfl hmT huT hr (lamS_by (sc := defScope s_lists_right) (by decide +kernel)) rfl (fun _ _ _ _ _ => rfl) (fun A2 outer2 s2 H2 E2 f2 c2 hr => (pe_meO OSy.cl MWT (pv 7) hr (passes_call (takes_of rfl rfl rfl rfl) fun _ _ _ _ h => h) (pa_cons (pe_callTy (call_tupleK (K := K)) (by rfl) T.m_tuple (by decide +kernel) (pa_cons (pv 6) pa_nil)) pa_nil)))) pa_nil)))
      (pss_cons (ps_expr (pe_bm PySem.F.plainAttrs_list PySem.F.slot_list_append PySem.F.type_list_append mt_append (pv 8) (pa_cons (pe_told (k := 6) DT CC T.m_isinstance TB rfl hmT huT hr (lamS_by (sc := defScope s_lists_right) (by decide +kernel)) rfl (fun _ _ _ _ _ => rfl) (fun A2 outer2 s2 H2 E2 f2 c2 hr => (pe_meOR OSy.cl MWM (pv 7) hr (passes_call (takes_of rfl rfl rfl rfl) fun _ _ _ _ h => h) (pk_cons (pv 5) pk_nil)))) pa_nil)))
      (pss_one (ps_ret (pe_and (pe_cmpR (op_eqDK (K := K) hr.units) (pv 8) (pe_op op_rep (pe_lst (pa_cons (pe_lst (pa_cons pe_str (pa_cons pe_int pa_nil))) pa_nil)) pe_int) (nomark _)) (pe_one (pe_cmpR (op_eqOK (K := K) EQS hr) (pv 7) (pe_mkO MSy hr passE0 (pa_cons (pv 5) (pa_cons (pv 6) pa_nil))) (nomark _)))))))))))))))))))))), ?_⟩
    obtain ⟨g0, g1, g, bad, z, lw, lp, ws, ms, p, rfl, ht, hg, hW, okw, w1, w3, hM, okm, m1, m3, hz, hbad, q⟩ := h
    have o : Ok (Z0 TT) H := ⟨ht, fun _ z => z.elim⟩
    have gw : ∀ H2, R (Z0 TT) H H2 → GoodRow K H2 (.ref lw) ws := fun H2 r => good_lw (lw_RO r hW) okw w1 w3
    have gm : ∀ H2, R (Z0 TT) H H2 → GoodRow K H2 (.ref lp) ms := fun H2 r => good_lw (lw_RO r hM) okm m1 m3
    have gt : ∀ {l : Addr} {us : List (List Str)} {H2 : Hp}, LW K H2 l us → okWs us → 1 ≤ us.length → us.length ≤ 3 → ∃ vs, H2 l = some (.lst vs) ∧ ∀ t, H2 t = none → GoodRow K (upd H2 t (.tup vs)) (.ref t) us := fun {l us H2} hL ok h1 h3 => by
      obtain ⟨vs, a, b⟩ := hL
      exact ⟨vs, a, fun t ht => ⟨t, vs, rfl, .inr upd_same, paired_mono (fun _ _ r => wd_mono (Ex.new ht) r) b, ok, h1, h3⟩⟩
    refine ⟨_, rfl, g, _, rfl, SqT.of hg, rfl, _, _, rfl, _, _, rfl, rfl, ?_⟩
    refine ⟨_, rfl, _, rfl, fun k dk nk nd ne => ⟨k, dk, .ref lw, .ref lp, H, rfl, rfl, nk, nd, ne, ht, .inr ⟨ws, gw H (.refl o), .inr ⟨ms, gm H (.refl o), fun H1 r1 sy1 => ⟨rfl, ?_⟩⟩⟩⟩⟩
    have tw : 1 ≤ (srtW ws).length ∧ (srtW ws).length ≤ 3 := ⟨srtW_pos w1, Nat.le_trans (srtW_len ws) w3⟩
    have tm : 1 ≤ (srtW ms).length ∧ (srtW ms).length ≤ 3 := ⟨srtW_pos m1, Nat.le_trans (srtW_len ms) m3⟩
    have sy : ∀ H2, R (Z0 TT) H1 H2 → SyAt K CY H2 k (srtW ws) (srtW ms) := fun H2 r => sy_R r sy1
    unfold gName
    dsimp only
    have e1 : El (Z0 TT) (tLam TT (TTold CT CM) fun E2 => tMake CY (spSay K TT CT CM CY) [] E2 (tCons (tVar 3) (tCons (tC V.non) tNil))) [some g0, some g1, some (.ref g), some bad, some (.str z), some (.ref lw), some (.ref lp), some (.ref k), none] H1 [.str "wakes", .str z] := el_err (Z := Z0 TT) (.inl ⟨rfl, rfl⟩) hz fun H2 r E Q x =>
      ⟨_, rfl, fun a dx na nd ne => ⟨a, dx, bad, .non, H2, rfl, rfl, na, nd, ne, r.b.1, .inl ⟨p, hbad H2 (r1.trans r), x⟩⟩⟩
    refine q_cs1 e1 (.refl r1.b) fun l H2 r2 c2 => ?_
    have e2 : El (Z0 TT) (tLam TT (TTold CT CM) fun E2 => tMakeK CY 0 ["triggers", "makes"].reverse.length (spSay K TT CT CM CY) (fun vs zs => vs ++ zs.reverse) E2 tNil (tCons (tVar 6) (tCons (tVar 3) tNil))) [some g0, some g1, some (.ref g), some bad, some (.str z), some (.ref lw), some (.ref lp), some (.ref k), some (.ref l)] H1 [.str "wakes", .str z] := el_err (Z := Z0 TT) (.inl ⟨rfl, rfl⟩) hz fun H3 r E Q x =>
      ⟨_, rfl, _, rfl, rfl, rfl, fun a dx na nd ne => ⟨a, dx, bad, .ref lp, H3, rfl, rfl, na, nd, ne, r.b.1, .inl ⟨p, hbad H3 (r1.trans r), x⟩⟩⟩
    refine q_csA (fun H1 Q q => ⟨_, rfl, q⟩) (e2.mono r2) r2 c2 (by decide) fun H3 r3 c3 => ?_
    have e3 : El (Z0 TT) (tLam TT (TTold CT CM) fun E2 => tMeth CY "with_triggers" (spWT K TT CT CY) [] E2 (tVar 7) (tCons (tVar 3) tNil)) [some g0, some g1, some (.ref g), some bad, some (.str z), some (.ref lw), some (.ref lp), some (.ref k), some (.ref l)] H1 [.str "wakes", .str z] := el_err (Z := Z0 TT) (.inl ⟨rfl, rfl⟩) hz fun H4 r E Q x => by
      have s4 := sy H4 r
      obtain ⟨dx, lt, lm, h1, h2, h3⟩ := s4
      exact ⟨_, rfl, k, dx, _, rfl, h1, rfl, _, rfl, k, bad, srtW ws, srtW ms, rfl, sy H4 r, okWs_srt okm, tm.1, tm.2, r.b.1, .inl ⟨p, hbad H4 (r1.trans r), x⟩⟩
    refine q_csA (fun H1 Q q => ⟨_, rfl, q⟩) (e3.mono r3) r3 c3 (by decide) fun H4 r4 c4 => ?_
    have e4 : El (Z0 TT) (tLam TT (TTold CT CM) fun E2 => Lw.tMethR CY "with_triggers" (spWT K TT CT CY) E2 (tVar 7) (tCons (tVar 3) tNil)) [some g0, some g1, some (.ref g), some bad, some (.str z), some (.ref lw), some (.ref lp), some (.ref k), some (.ref l)] H1 [.str "wakes", .str z] := el_err (Z := Z0 TT) (.inl ⟨rfl, rfl⟩) hz fun H5 r E Q x => by
      obtain ⟨dx, lt, lm, h1, h2, h3⟩ := sy H5 r
      exact ⟨_, rfl, k, dx, _, rfl, h1, rfl, _, rfl, k, bad, srtW ws, srtW ms, rfl, sy H5 r, okWs_srt okm, tm.1, tm.2, r.b.1, .inl ⟨p, hbad H5 (r1.trans r), x⟩⟩
    refine q_csA (fun H1 Q q => ⟨_, rfl, q⟩) (e4.mono r4) r4 c4 (by decide) fun H5 r5 c5 => ?_
    have zok := pz_ok hz
    have sh1 : SeqAt.shaped (.list (List.replicate 4 (.list [.str "wakes", .str z]))) = true := shaped2 (by decide +kernel) zok
    have sh2 : SeqAt.shaped (.list (List.replicate 4 (.list [.str "puts", .str z]))) = true := shaped2 (by decide +kernel) zok
    have dd : ∀ {a : Str} (H : Hp), DpAll K H [.str a, .str z] [.str a, .str z] := fun _ => .cons (.str _) (.cons (.str _) .nil)
    refine Rm.q_when (b := false) r5.b (et_neCs (K := K) (n := 4) (ds := [.str "wakes", .str z]) (j := 8) (l := l) rfl (by decide) (fun H6 r => cs_R r1.b r c5) rfl (el_of fun _ _ => el_lst (ea_cons ev_c (ea_cons (ev_var rfl) ea_nil)) (by show 2 ≤ 100000; decide)) dd sh1) (fun z => by cases z) (fun _ H6 r6 => ?_)
    have r16 := r5.trans r6
    have f1 : El (Z0 TT) (tLam TT (TTold CT CM) fun E2 => tMake CY (spSay K TT CT CM CY) [] E2 (tCons (tCB (rTupleK K) (tCons (tVar 5) tNil)) (tCons (tVar 3) tNil))) [some g0, some g1, some (.ref g), some bad, some (.str z), some (.ref lw), some (.ref lp), some (.ref k), some (.ref l)] H6 [.str "puts", .str z] := el_err (Z := Z0 TT) (.inr ⟨rfl, rfl⟩) hz fun H7 r E Q x => by
      have r7 := (r1.trans r16).trans r
      obtain ⟨vs, hv, hgt⟩ := gt (lw_RO r7 hW) okw w1 w3
      exact ⟨_, rfl, lw, vs, rfl, .inl ⟨SqL.of hv, fun t nt => ⟨_, rfl, fun a dx na nd ne => ⟨a, dx, .ref t, bad, _, rfl, rfl, na, nd, ne, (r7.new nt).b.1, .inr ⟨ws, hgt t nt, .inl ⟨p, bad_ex (Ex.new nt) (hbad H7 r7), rz_ex (Ex.new nt) x⟩⟩⟩⟩⟩⟩
    refine q_cs1 f1 (.refl r6.b) fun l2 H7 r7 c7 => ?_
    have f2 : El (Z0 TT) (tLam TT (TTold CT CM) fun E2 => tMakeK CY 0 ["triggers", "makes"].reverse.length (spSay K TT CT CM CY) (fun vs zs => vs ++ zs.reverse) E2 tNil (tCons (tVar 3) (tCons (tVar 5) tNil))) [some g0, some g1, some (.ref g), some bad, some (.str z), some (.ref lw), some (.ref lp), some (.ref k), some (.ref l2)] H6 [.str "puts", .str z] := el_err (Z := Z0 TT) (.inr ⟨rfl, rfl⟩) hz fun H8 r E Q x =>
      ⟨_, rfl, _, rfl, rfl, rfl, fun a dx na nd ne => ⟨a, dx, .ref lw, bad, H8, rfl, rfl, na, nd, ne, r.b.1, .inr ⟨ws, gw H8 ((r1.trans r16).trans r), .inl ⟨p, hbad H8 ((r1.trans r16).trans r), x⟩⟩⟩⟩
    refine q_csA (fun H1 Q q => ⟨_, rfl, q⟩) (f2.mono r7) r7 c7 (by decide) fun H8 r8 c8 => ?_
    have f3 : El (Z0 TT) (tLam TT (TTold CT CM) fun E2 => tMeth CY "with_makes" (spWM K TT CM CY) [] E2 (tVar 7) (tCons (tVar 3) tNil)) [some g0, some g1, some (.ref g), some bad, some (.str z), some (.ref lw), some (.ref lp), some (.ref k), some (.ref l2)] H6 [.str "puts", .str z] := el_err (Z := Z0 TT) (.inr ⟨rfl, rfl⟩) hz fun H9 r E Q x => by
      obtain ⟨dx, lt, lm, h1, h2, h3⟩ := sy H9 (r16.trans r)
      exact ⟨_, rfl, k, dx, _, rfl, h1, rfl, _, rfl, k, bad, srtW ws, srtW ms, rfl, sy H9 (r16.trans r), okWs_srt okw, tw.1, tw.2, r.b.1, .inl ⟨p, hbad H9 ((r1.trans r16).trans r), x⟩⟩
    refine q_csA (fun H1 Q q => ⟨_, rfl, q⟩) (f3.mono r8) r8 c8 (by decide) fun H9 r9 c9 => ?_
    have f4 : El (Z0 TT) (tLam TT (TTold CT CM) fun E2 => Lw.tMethR CY "with_makes" (spWM K TT CM CY) E2 (tVar 7) (tCons (tVar 3) tNil)) [some g0, some g1, some (.ref g), some bad, some (.str z), some (.ref lw), some (.ref lp), some (.ref k), some (.ref l2)] H6 [.str "puts", .str z] := el_err (Z := Z0 TT) (.inr ⟨rfl, rfl⟩) hz fun H10 r E Q x => by
      obtain ⟨dx, lt, lm, h1, h2, h3⟩ := sy H10 (r16.trans r)
      exact ⟨_, rfl, k, dx, _, rfl, h1, rfl, _, rfl, k, bad, srtW ws, srtW ms, rfl, sy H10 (r16.trans r), okWs_srt okw, tw.1, tw.2, r.b.1, .inl ⟨p, hbad H10 ((r1.trans r16).trans r), x⟩⟩
    refine q_csA (fun H1 Q q => ⟨_, rfl, q⟩) (f4.mono r9) r9 c9 (by decide) fun H10 r10 c10 => ?_
    refine Rm.q_when (b := false) r10.b (et_neCs (K := K) (n := 4) (ds := [.str "puts", .str z]) (j := 8) (l := l2) rfl (by decide) (fun H6 r => cs_R r6.b r c10) rfl (el_of fun _ _ => el_lst (ea_cons ev_c (ea_cons (ev_var rfl) ea_nil)) (by show 2 ≤ 100000; decide)) dd sh2) (fun z => by cases z) (fun _ H11 r11 => ?_)
    have r1b := r16.trans (r10.trans r11)
    have h1' : El (Z0 TT) (tLam TT (TTold CT CM) fun E2 => tMake CY (spSay K TT CT CM CY) [] E2 (tCons (tVar 5) (tCons (tVar 6) tNil))) [some g0, some g1, some (.ref g), some bad, some (.str z), some (.ref lw), some (.ref lp), some (.ref k), some (.ref l2)] H11 [.str "made", .int 0] := el_told (Z := Z0 TT) fun H12 r E Q kk =>
      ⟨_, rfl, _, rfl, fun a dx na nd ne => ⟨a, dx, .ref lw, .ref lp, H12, rfl, rfl, na, nd, ne, r.b.1, .inr ⟨ws, gw H12 ((r1.trans r1b).trans r), .inr ⟨ms, gm H12 ((r1.trans r1b).trans r), fun H13 r13 _ => ⟨rfl, kk _ H13 r13⟩⟩⟩⟩⟩
    refine q_cs1 h1' (.refl r11.b) fun l3 H12 r12 c12 => ?_
    have h2' : El (Z0 TT) (tLam TT (TTold CT CM) fun E2 => tMeth CY "with_triggers" (spWT K TT CT CY) [] E2 (tVar 7) (tCons (tCB (rTupleK K) (tCons (tVar 6) tNil)) tNil)) [some g0, some g1, some (.ref g), some bad, some (.str z), some (.ref lw), some (.ref lp), some (.ref k), some (.ref l3)] H11 [.str "made", .int 0] := el_told (Z := Z0 TT) fun H13 r E Q kk => by
      obtain ⟨dx, lt, lm, h1, h2, h3⟩ := sy H13 (r1b.trans r)
      obtain ⟨vs, hv, hgt⟩ := gt (lw_RO ((r1.trans r1b).trans r) hM) okm m1 m3
      exact ⟨_, rfl, k, dx, _, rfl, h1, rfl, _, rfl, lp, vs, rfl, .inl ⟨SqL.of hv, fun t nt => ⟨k, .ref t, srtW ws, srtW ms, rfl, sy_ex (Ex.new nt) (sy H13 (r1b.trans r)), okWs_srt okm, tm.1, tm.2, (r.new nt).b.1, .inr ⟨ms, hgt t nt, fun b H14 fb r14 _ => kk _ H14 (((R.refl r.b).new nt).trans r14)⟩⟩⟩⟩
    refine q_csA (fun H1 Q q => ⟨_, rfl, q⟩) (h2'.mono r12) r12 c12 (by decide) fun H13 r13 c13 => ?_
    have h3' : El (Z0 TT) (tLam TT (TTold CT CM) fun E2 => Lw.tMethR CY "with_makes" (spWM K TT CM CY) E2 (tVar 7) (tCons (tVar 5) tNil)) [some g0, some g1, some (.ref g), some bad, some (.str z), some (.ref lw), some (.ref lp), some (.ref k), some (.ref l3)] H11 [.str "made", .int 0] := el_told (Z := Z0 TT) fun H14 r E Q kk => by
      obtain ⟨dx, lt, lm, h1, h2, h3⟩ := sy H14 (r1b.trans r)
      exact ⟨_, rfl, k, dx, _, rfl, h1, rfl, _, rfl, k, .ref lw, srtW ws, srtW ms, rfl, sy H14 (r1b.trans r), okWs_srt okw, tw.1, tw.2, r.b.1, .inr ⟨ws, gw H14 ((r1.trans r1b).trans r), fun b H15 fb r15 _ => kk _ H15 r15⟩⟩
    refine q_csA (fun H1 Q q => ⟨_, rfl, q⟩) (h3'.mono r13) r13 c13 (by decide) fun H14 r14 c14 => ?_
    have r1e := r1b.trans r14
    have sh3 : SeqAt.shaped (.list (List.replicate 3 (.list [.str "made", .int 0]))) = true := by decide +kernel
    refine Rm.s_ret r14.b (Rm.ew_andV (a := true) (b := true) (ew_eqCs (K := K) (n := 3) (ds := [.str "made", .int 0]) (j := 8) (l := l3) rfl (by decide) (fun H6 r => cs_R r11.b r c14) rfl (el_of fun _ _ => el_lst (ea_cons ev_c (ea_cons ev_c ea_nil)) (by show 2 ≤ 100000; decide)) (fun _ => .cons (.str _) (.cons (.int _) .nil)) sh3) (fun _ => fun H15 r15 Q q => ?_)) fun H15 r15 => q H15 ((r1.trans r1e).trans r15)
    refine ⟨_, rfl, _, rfl, _, rfl, fun a dx na nd ne => ⟨a, dx, .ref lw, .ref lp, H15, rfl, rfl, na, nd, ne, r15.b.1, .inr ⟨ws, gw H15 ((r1.trans r1e).trans r15), .inr ⟨ms, gm H15 ((r1.trans r1e).trans r15), fun H16 r16' sya => ⟨rfl, ?_⟩⟩⟩⟩⟩
    have syk := sy H16 ((r1e.trans r15).trans r16')
    obtain ⟨dxk, ltk, lmk, hk1, hk2, hk3⟩ := syk
    obtain ⟨dxa, lta, lma, ha1, ha2, ha3⟩ := sya
    refine ⟨k, dxk, _, rfl, hk1, .inr ⟨a, dxa, _, rfl, ha1⟩, k, .ref a, srtW ws, srtW ms, rfl, ⟨dxk, ltk, lmk, hk1, hk2, hk3⟩, srtW_isW (okWs_isW okw), srtW_isW (okWs_isW okm), .inr ⟨a, srtW ws, srtW ms, rfl, ⟨dxa, lta, lma, ha1, ha2, ha3⟩, srtW_isW (okWs_isW okw), srtW_isW (okWs_isW okm), fun H17 e17 => ⟨_, rfl, ?_⟩⟩⟩
    rw [decide_eq_true rfl, decide_eq_true rfl]
    exact q H17 (r16'.ex e17)

end
end K20
namespace K20
open PySem PySem.Spec PyProof.Rows L2 Lw Evl LamX Tk TL
open Rm (R Ok Z0 Zp Fr fr_none fr_ne nt_lst nt_tup nt_dK NT Zn)
open LwX (XC XF)
section
variable {P : Program} {w : World} {K : PySem.W.Frag} {mg : Str → Option Value} {base : Heap} {TT : List (Addr × Str)}
def spPotT (T : List (Addr × Str)) : Sp := fun vs H Q _ => ∃ p, vs = [.ref p] ∧ Po p H ∧ Tabs T H ∧ ∀ H', R (Zp T p) H H' → Q (.bl true) H'
abbrev s_right : Stmt := topS 34
theorem sc_right : FnScope ["_law_pot_here", "_law_turn", "_law_tags_here", "_law_good", "_law_spoilt_here", "_law_at"] ["_law_pot_here"] (defScope s_right) := ⟨rfl, rfl, rfl, by decide +kernel, rfl, by decide +kernel, by decide +kernel⟩
theorem ok_right {f : Addr} {fd : FuncData} (F : FunD K "_law_right" "_law_right" (defArgs s_right) (defBody s_right) (defScope s_right) [] [] f fd) (T : Tx P w K mg base) (d_law_draw : Cal P w K mg base CX0 1 "_law_draw" ["_law_pot_here", "_law_sides"] spDraw) (d_law_tags : Cal P w K mg base CX0 3 "_law_tags" ["_law_pot_here", "_law_amount"] spTags) (d_law_saw : Cal P w K mg base CX0 4 "_law_saw" ["_law_pot_here", "_law_tags_here"] (spSaw K)) (d_law_spoilt : Cal P w K mg base CX0 4 "_law_spoilt" ["_law_pot_here", "_law_tags_here"] (spSpoilt K)) (d_law_no_list : Cal P w K mg base CX0 3 "_law_no_list" ["_law_pot_here", "_law_tags_here"] (spNoList K)) (d_law_lists_right : Cal P w K mg base CX0 9 "_law_lists_right" ["_law_pot_here", "_law_tags_here", "_law_good", "_law_bad", "_law_due"] (spLR K TT)) : FnG P w K mg base CX0 10 f fd ["_law_pot_here"] (spPotT TT) := by
  refine fnG F sc_right (fun vs H Q E h => ?_) (fun cdv A outer s H vs Q E gd hr h => ?_)
  · obtain ⟨p, rfl, _⟩ := h
    rfl
  · skip
    refine ⟨_, PSs.nox ((pss_cons (ps_for PassesOwn.never rfl (pi_range1 (by rfl) T.m_range (pa_cons pe_int pa_nil)) (pg_name (i := 1) sc_right.nd rfl (by first | exact Or.inl rfl | exact Or.inr rfl)) (pss_cons (ps_set (i := 2) sc_right.nd rfl (by first | exact Or.inl rfl | exact Or.inr rfl) (pe_cal d_law_tags gd hr (pa_cons (pv 0) (pa_cons (pe_op op_add pe_int (pe_cal d_law_draw gd hr (pa_cons (pv 0) (pa_cons pe_int pa_nil)))) pa_nil))))
      (pss_cons (ps_set (i := 3) sc_right.nd rfl (by first | exact Or.inl rfl | exact Or.inr rfl) (pe_cal d_law_saw gd hr (pa_cons (pv 0) (pa_cons (pv 2) pa_nil))))
      (pss_cons (ps_asg (pe_cal d_law_spoilt gd hr (pa_cons (pv 0) (pa_cons (pv 2) pa_nil))) (pg_tup (n := 2) rfl (pgs_cons (pg_name (i := 4) sc_right.nd rfl (by first | exact Or.inl rfl | exact Or.inr rfl)) (pgs_cons (pg_name (i := 5) sc_right.nd rfl (by first | exact Or.inl rfl | exact Or.inr rfl)) pgs_nil))))
      (pss_cons (ps_if (pt_not (pt_val (pe_cal d_law_lists_right gd hr (pa_cons (pv 0) (pa_cons (pv 2) (pa_cons (pv 3) (pa_cons (pv 4) (pa_cons (pe_callB call_reprP (by rfl) T.m_repr (by decide +kernel) (pa_cons (pv 5) pa_nil)) pa_nil)))))))) (pss_one (ps_ret pe_bl)) pss_nil)
      (pss_cons (ps_if (pt_not (pt_val (pe_cal d_law_lists_right gd hr (pa_cons (pv 0) (pa_cons (pv 2) (pa_cons (pv 3) (pa_cons (pe_callTy (call_tupleK (K := K)) (by rfl) T.m_tuple (by decide +kernel) (pa_cons (pv 4) pa_nil)) (pa_cons (pe_callB call_reprP (by rfl) T.m_repr (by decide +kernel) (pa_cons (pv 5) pa_nil)) pa_nil)))))))) (pss_one (ps_ret pe_bl)) pss_nil)
      (pss_one (ps_if (pt_not (pt_val (pe_cal d_law_lists_right gd hr (pa_cons (pv 0) (pa_cons (pv 2) (pa_cons (pv 3) (pa_cons (pe_cal d_law_no_list gd hr (pa_cons (pv 0) (pa_cons (pv 2) pa_nil))) (pa_cons pe_str pa_nil)))))))) (pss_one (ps_ret pe_bl)) pss_nil))))))))
      (pss_one (ps_ret pe_bl)))), ?_⟩
    obtain ⟨p, rfl, hp, ht, q⟩ := h
    have o : Ok (Zp TT p) H := ⟨ht, fun a m => by rw [m]; exact hp⟩
    refine ⟨4, rfl, by decide, by decide, for_range (lo := 0) (n := ((4 : Int)).toNat) (fun i σ H' => ∃ a b c d e, σ = [some (.ref p), a, b, c, d, e] ∧ R (Zp TT p) H H') ⟨_, _, _, _, _, rfl, .refl o⟩ (fun i σ H1 hi hP => ?_) (fun σ H1 hP => ?_)⟩
    · obtain ⟨a, b, c, d, e, rfl, r1⟩ := hP
      refine ⟨_, rfl, _, rfl, p, 3, rfl, r1.b.2 p rfl, by decide, by decide, fun d1 H2 a0 a1 x2 => ⟨_, _, rfl, rfl, ?_⟩⟩
      have r2 := r1.trans (Rm.R.xp r1.b.1 (r1.b.2 p rfl) x2)
      obtain ⟨n, rfl⟩ := Int.eq_ofNat_of_zero_le a0
      refine ⟨TT, p, n + 1, by show [V.ref p, V.int ((1 : Int) + (n : Int))] = _; rw [Int.add_comm]; rfl, r2.b, by omega, by omega, fun l xs H3 fl r23 hl hn hL hN => ?_⟩
      have r3 := r2.trans r23
      have nl := ls_nm r3.b hl
      refine ⟨_, rfl, _, rfl, TT, p, l, xs, rfl, r3.b, hl, by omega, by omega, hL, hN, fun g lw lp ws ms H4 r34 hg hW okw w1 w3 hM okm m1 m3 => ?_⟩
      have r4 := r3.trans r34
      refine ⟨_, rfl, _, rfl, TT, p, l, xs, rfl, r4.b, r34.lst hl nl, by omega, by omega, hL, hN, fun g2 r us m H5 r45 hg2 hr rp hm bel => ?_⟩
      have r5 := r4.trans r45
      refine ⟨g2, _, rfl, SqT.of hg2, rfl, _, _, rfl, _, _, rfl, rfl, ?_⟩
      have gd5 : ∀ H6, R (Zp TT p) H5 H6 → H6 g = some (.tup [.ref lw, .ref lp]) ∧ LW K H6 lw ws ∧ LW K H6 lp ms := fun H6 r6 => ⟨(r45.trans r6).tup hg, lw_RO (r45.trans r6) hW, lw_RO (r45.trans r6) hM⟩
      have pz : Pz (.int (m : Int)) (toString (m : Int)) := .int m hm
      dsimp only
      obtain ⟨h1, h2, h3⟩ := gd5 H5 (.refl r5.b)
      refine Rm.q_when (b := !true) r5.b (Rm.et_not (Rm.et_B (fun H6 r6 Q6 q6 => ?_))) (fun z => by cases z) (fun _ H6 r6 => ?_)
      · obtain ⟨h1, h2, h3⟩ := gd5 H6 r6
        exact ⟨_, rfl, _, rfl, _, rfl, _, rfl, _, rfl, _, _, rfl, pz, _, _, g, _, _, lw, lp, ws, ms, _, rfl, r6.b.1, h1, h2, okw, w1, w3, h3, okm, m1, m3, pz, fun H7 r7 => .inr (.inr ⟨r, us, m, rfl, .inl ((r6.trans (r7.sub (r6.b.2 p rfl))).lst hr rp), bel H7 (r6.trans (r7.sub (r6.b.2 p rfl))), rfl⟩), fun H7 r7 => q6 H7 (r7.sub (r6.b.2 p rfl))⟩
      refine Rm.q_when (b := !true) r6.b (Rm.et_not (Rm.et_B (fun H7 r7 Q7 q7 => ?_))) (fun z => by cases z) (fun _ H7 r7 => ?_)
      · have r67 := r6.trans r7
        refine ⟨_, rfl, _, rfl, _, rfl, _, rfl, r, us, rfl, .inl ⟨SqL.of (r67.lst hr rp), fun t nt => ?_⟩⟩
        have rt := (R.refl r7.b).new (o := .tup us) nt
        obtain ⟨h1, h2, h3⟩ := gd5 _ (r67.trans rt)
        exact ⟨_, rfl, _, _, rfl, pz, _, _, g, _, _, lw, lp, ws, ms, _, rfl, rt.b.1, h1, h2, okw, w1, w3, h3, okm, m1, m3, pz, fun H8 r8 => .inr (.inr ⟨t, us, m, rfl, .inr ((r8.sub (rt.b.2 p rfl)).tup upd_same), bel H8 ((r67.trans rt).trans (r8.sub (rt.b.2 p rfl))), rfl⟩), fun H8 r8 => q7 H8 (rt.trans (r8.sub (rt.b.2 p rfl)))⟩
      have r57 := r6.trans r7
      refine s_whenR (b := !true) (r5.trans r57).b (Rm.et_not (Rm.et_B (fun H8 r8 Q8 q8 => ?_))) (fun z => by cases z) (fun _ H8 r8 => ⟨_, _, _, _, _, rfl, ((r5.trans r57).trans r8)⟩)
      refine ⟨_, rfl, _, rfl, _, rfl, _, rfl, _, rfl, TT, p, l, xs, rfl, r8.b, (((r34.trans r45).trans r57).trans r8).lst hl nl, by omega, by omega, hL, hN, fun v H9 r9 hv => ?_⟩
      obtain ⟨h1, h2, h3⟩ := gd5 H9 ((r57.trans r8).trans r9)
      exact ⟨_, _, g, v, _, lw, lp, ws, ms, _, rfl, r9.b.1, h1, h2, okw, w1, w3, h3, okm, m1, m3, .non, fun H10 r10 => hv H10 (r10.sub (r9.b.2 p rfl)), fun H10 r10 => q8 H10 (r9.trans (r10.sub (r9.b.2 p rfl)))⟩
    · obtain ⟨a, b, c, d, e, rfl, r1⟩ := hP
      show tRet (tC (V.bl true)) { nx := fun _ H' => Q V.non H', rt := Q } [some (.ref p), a, b, c, d, e] H1
      exact Rm.s_ret (v := .bl true) r1.b Rm.ew_c fun H2 r2 => q H2 (r1.trans r2)

def spLawT (K : PySem.W.Frag) (T : List (Addr × Str)) : Sp := fun vs H Q _ => ∃ (a : Addr) (ns : List Int), vs = [.ref a] ∧ Tabs T H ∧ SqL K H a (ns.map V.int) ∧ ns.length ≤ 63 ∧ ∀ H', Q (.bl true) H'
abbrev s_law : Stmt := topS 35
theorem sc_law : FnScope ["_law_script", "_law_at"] ["_law_script"] (defScope s_law) := ⟨rfl, rfl, rfl, by decide +kernel, rfl, by decide +kernel, by decide +kernel⟩
theorem ok_law {f : Addr} {fd : FuncData} (F : FunD K "law" "law" (defArgs s_law) (defBody s_law) (defScope s_law) [] [] f fd) (T : Tx P w K mg base) (d_law_pot : Cal P w K mg base CX0 1 "_law_pot" ["_law_script", "_law_at"] (spPot K)) (d_law_right : Cal P w K mg base CX0 10 "_law_right" ["_law_pot_here"] (spPotT TT)) : FnG P w K mg base CX0 11 f fd ["_law_script"] (spLawT K TT) := by
  refine fnG F sc_law (fun vs H Q E h => ?_) (fun cdv A outer s H vs Q E gd hr h => ?_)
  · obtain ⟨a, ns, rfl, _⟩ := h
    rfl
  · skip
    refine ⟨_, PSs.nox ((pss_one (ps_ret (pe_callB (cr_allK (K := K)) (by rfl) T.m_all (by decide +kernel) (pa_cons (pe_lc (own := [("_law_at", 1)]) (g := gName 1) (tt := tYes) rfl sc_law.nd (pi_range1 (by rfl) T.m_range (pa_cons (pe_callB (call_max2 rfl) (by rfl) T.m_max (by decide +kernel) (pa_cons pe_int (pa_cons (pe_callB (call_min2 rfl) (by rfl) T.m_min (by decide +kernel) (pa_cons (pe_callB (call_lenK (K := K)) (by rfl) T.m_len (by decide +kernel) (pa_cons (pv 0) pa_nil)) (pa_cons pe_int pa_nil))) pa_nil))) pa_nil)) (blkOk_by (own := [("_law_at", 1)]) (N := ["_law_script", "_law_at"]) (sc := defScope s_law) (by decide +kernel)) (fun _ _ _ _ _ => pg_name (i := 1) sc_law.nd rfl (by first | exact Or.inl rfl | exact Or.inr rfl)) (fun _ _ _ _ _ => pts_nil) (fun _ _ _ _ _ => (pe_cal d_law_right gd hr (pa_cons (pe_cal d_law_pot gd hr (pa_cons (pv 0) (pa_cons (pv 1) pa_nil))) pa_nil)))) pa_nil))))), ?_⟩
    obtain ⟨a, ns, rfl, htab, hS, hlen, q⟩ := h
    refine ⟨_, rfl, a, _, rfl, .inl hS, _, _, rfl, _, _, rfl, _, rfl, ?_, ?_, fun D hD => ?_⟩
    · split <;> split <;> omega
    · split <;> split <;> omega
    · have hn : ∀ n : Nat, n ≤ 63 → (if (if (4 : Int) < (n : Int) then 4 else (n : Int)) > 1 then (if (4 : Int) < (n : Int) then 4 else (n : Int)) else 1).toNat ≤ 4 := fun n _ => by split <;> split <;> omega
      have hn4 := hn _ (show (ns.map V.int).length ≤ 63 by rw [List.length_map]; exact hlen)
      refine lc_range (lo := 0) (n := (if (if (4 : Int) < ((ns.map V.int).length : Int) then 4 else ((ns.map V.int).length : Int)) > 1 then (if (4 : Int) < ((ns.map V.int).length : Int) then 4 else ((ns.map V.int).length : Int)) else 1).toNat) (fun i H' => R (Z0 TT) H H' ∧ H' D = some (.lst (List.replicate i (.bl true)))) ⟨(R.refl (Z := Z0 TT) ⟨htab, fun _ z => z.elim⟩).new hD, upd_same⟩ (fun i H' hi hP => ?_) (fun H' hP => ?_)
      · obtain ⟨e, hl⟩ := hP
        refine ⟨rfl, ?_⟩
        unfold tYes
        dsimp only
        try rw [if_pos rfl]
        refine ⟨_, rfl, _, rfl, a, ns, _, rfl, Rm.sql_R e hS, hlen, by omega, by omega, fun p H2 np s2 po => ?_⟩
        have e2 : R (Z0 TT) H H2 := e.ex s2
        refine ⟨p, rfl, po, e2.b.1, fun H3 x3 => ⟨List.replicate i (.bl true), x3.st _ _ (s2 _ _ hl) nt_lst (ne_of_none hl np), ?_, ?_, ?_⟩⟩
        · rw [List.length_replicate]
          exact sz_lt (by omega)
        · exact Rm.R.mut (Rm.R.drop e2 x3 (e.fr (fr_none np))) (fr_none hD) (x3.st _ _ (s2 _ _ hl) nt_lst (ne_of_none hl np)) trivial
        · rw [upd_same, List.replicate_succ']
      · obtain ⟨e, hl⟩ := hP
        refine ⟨D, List.replicate _ true, rfl, SqL.of (by rw [List.map_replicate]; exact hl), ?_⟩
        have z : ∀ n, (List.replicate n true).all id = true := fun n => by
          rw [List.all_replicate]
          cases n <;> rfl
        rw [z]
        exact q H'

end
end K20
namespace Tk
open PySem PySem.Spec PyProof.Rows L2 Lw Evl LamX
open LwX (XC XF)
/-! ### what the head tells of the classes -/
def refsOk (K : PySem.W.Frag) (C : Addr) : Bool := (PySem.W.clsIn K C).any fun cd => PySem.HandSPX.refsVE (cd.mro.drop 1)
def oneB (K : PySem.W.Frag) (x f : Str) : Bool := (He.Fa.glo x).ok K && (LwX.xcB K (He.ga K x) && (PySem.W.excInitIn K (He.ga K x) (LwX.bmOf "ValueError") "ValueError.__new__" && (refsOk K (He.ga K x) && (LwX.xfB K (He.ga K x) f && (He.Fa.meth x "__init__").ok K))))
/-- isinstance of the one's instances by the other, by a built-in class; except .. -/
def kkB (K : PySem.W.Frag) (x y : Str) (b : Bool) : Bool := decide (PySem.W.kitOne K (.ref (He.ga K x)) (.ref (He.ga K y)) = some b)
def ktB (K : PySem.W.Frag) (x : Str) (t : String) (b : Bool) : Bool := decide (PySem.W.kitOne K (.ref (He.ga K x)) (.type t) = some b)
def emB (K : PySem.W.Frag) (x y : Str) (b : Bool) : Bool := decide (PySem.W.exmOne K (.ref (He.ga K x)) (.ref (He.ga K y)) = some b)
section
variable {P : Program} {w : World} {K : PySem.W.Frag} {mg : Str → Option Value} {base h : Heap} {C fI : Addr} {fd : FuncData} {qual x f : Str} {params : Arguments} {scope : Scope}
structure OneF (K : PySem.W.Frag) (mg : Str → Option Value) (x f : Str) : Prop where
  g : mg x = some (.ref (He.ga K x))
  xc : XC K (He.ga K x)
  ox : OexC K (He.ga K x)
  xf : XF K (He.ga K x) f
  me : Meth K (He.ga K x) "__init__" (He.fAd K (x, some "__init__"))
theorem oex_of (X : K.In h) (T : XC K C) (q : PySem.W.excInitIn K C (LwX.bmOf "ValueError") "ValueError.__new__" = true) (r : refsOk K C = true) : OexC K C := by
  obtain ⟨nm, N, qn, bs, bm, hdct, sn, sub, ab, col, dd, k0, k1, k2, k3, k5, hC, _⟩ := PySem.W.excInit_of X q
  obtain ⟨cd, hcd, hh⟩ := PySem.W.any_some T.hd
  have lk : ∃ o, K.lookup C = some o := by
    cases e : K.lookup C with
    | some o => exact ⟨o, rfl⟩
    | none =>
      unfold PySem.W.clsIn at hcd
      rw [e] at hcd
      cases hcd
  obtain ⟨o, ho⟩ := lk
  have e := X C o ho
  rw [hC] at e
  have e2 := Option.some.inj e
  subst e2
  have c2 : PySem.W.clsIn K C = some { name := nm, bases := bs, mro := .ref C :: bm, ns := N, qualname := qn, hasDict := hdct, slotNames := sn, subclasses := sub, abstract := ab, collection := col, hasDel := false } := by
    unfold PySem.W.clsIn
    rw [ho] <;> rfl
  rw [c2] at hcd
  cases hcd
  have hd : hdct = true := hh
  subst hd
  unfold refsOk at r
  rw [c2] at r
  have r2 : PySem.HandSPX.refsVE bm = true := r
  exact ⟨⟨nm, qn, N, bs, bm, sn, sub, ab, col, dd, k0, k1, k2, k3, k5, ho, r2⟩, T.sa, T.sub, T.ty, T.kp⟩
theorem one_ok (X : K.In h) (G : h.Ns mainGlobals mg) (e : oneB K x f = true) : OneF K mg x f := by
  obtain ⟨e1, e⟩ := He.ba e
  obtain ⟨e2, e⟩ := He.ba e
  obtain ⟨e3, e⟩ := He.ba e
  obtain ⟨e4, e⟩ := He.ba e
  obtain ⟨e5, e6⟩ := He.ba e
  have T := LwX.xc_ok e2
  exact ⟨He.glo_ok X G e1, T, oex_of X T e3 e4, LwX.xf_ok e5, He.meth_ok e6⟩
theorem initO {q1 q2 q3 q4 : Pos} (F : FunD K "__init__" qual params [.Assign [.Attribute (.Name "self" q1) f q2] (.Name f q3) q4] scope [] [] fI fd) (S : FnScope ["self", f] ["self", f] scope) (T : OexC K C) (no : PySem.W.findIn K (.ref C) f = some none)
    (l1 : scope.names.lookup ("self" : Str) = some .local) (l2 : scope.names.lookup f = some .local) (n1 : (f == ("__debug__" : Str)) = false) (n2 : (f == ("__classdict__" : Str)) = false) : FnOk P w K mg base CX0 1 fI fd ["self", f] (spIx f C) := by
  refine fnO F S (fun vs H Q E h => ?_) (fun cdv A' outer s H vs Q E hr h => ?_)
  · obtain ⟨a, v, rfl, _⟩ := h
    rfl
  · obtain ⟨a, v, rfl, ha, q⟩ := h
    refine ⟨_, PSs.nox (pss_one (ps_ost (pv 0 rfl (.inl l1)) (pv 1 rfl (.inl l2) n1 n2))), ?_⟩
    exact ⟨v, rfl, .ref a, rfl, a, C, rfl, T, no, .inl ⟨ha, fun dx hd ne => q dx hd ne⟩⟩
theorem xrz {q1 q2 q3 q4 : Pos} (F : FunD K "__init__" qual params [.Assign [.Attribute (.Name "self" q1) f q2] (.Name f q3) q4] scope [] [] (He.fAd K (x, some "__init__")) fd) (S : FnScope ["self", f] ["self", f] scope)
    (l1 : scope.names.lookup ("self" : Str) = some .local) (l2 : scope.names.lookup f = some .local) (n1 : (f == ("__debug__" : Str)) = false) (n2 : (f == ("__classdict__" : Str)) = false)
    (hb : ∀ (kV doc pm : Value) (an : Option Addr) (cdv ct : Value) (us : List Value), us.length = 2 →
      bindArgs (PySem.W.fnOf "__init__" qual params [.Assign [.Attribute (.Name "self" q1) f q2] (.Name f q3) q4] scope .none kV doc pm an cdv ct) ⟨us, []⟩ = pure ((["self", f] : List Str).zip us)) (o : OneF K mg x f) : XRz P w K mg base 1 x (He.ga K x) f :=
  ⟨o.g, o.ox, _, _, o.me.at_, eq_of_beq o.me.fn, initO F S o.ox o.xf.no l1 l2 n1 n2, F.bindsN hb⟩
end
theorem OneF.xfc {K : PySem.W.Frag} {mg : Str → Option Value} {x f : Str} (o : OneF K mg x f) : XfC K (He.ga K x) := ⟨o.xc.ga, o.xc.gg, o.xc.sub, o.xc.hd⟩
/-- how an object's method binds what is passed by name, the last parameter first -/
theorem bindsS {K : PySem.W.Frag} {x qual : Str} {params : Arguments} {scope : Scope} {f : Addr} {fd : FuncData} {body : List Stmt} {ps : List Str} (F : FunD K x qual params body scope [] [] f fd)
    (z : ∀ (kV doc pm : Value) (an : Option Addr) (cdv ct : Value) (v : Value) (ws : List Value), ws.length = ps.length → bindArgs (PySem.W.fnOf x qual params body scope .none kV doc pm an cdv ct) ⟨[v], ps.reverse.zip ws⟩ = pure ((("self" : Str) :: ps).zip (v :: ws.reverse))) (v : Value) (ws : List Value) (s : Shared) (e : ws.length = ps.length) :
    BindsTo s fd ⟨[v], ps.reverse.zip ws⟩ ((("self" : Str) :: ps).zip (v :: ws.reverse)) := by
  obtain ⟨oc, od, dV, kV, doc, pm, an, cdv, ct, osl, rfl, _, _, hD, _⟩ := F.ex
  rcases hD with ⟨_, rfl⟩ | ⟨n, _⟩
  · exact .of_eq (z kV doc pm an cdv ct v ws e)
  · exact absurd rfl n
end Tk
namespace K20
open PySem PySem.Spec PyProof.Rows L2 Lw Evl LamX Tk
open LwX (XC XF)
/-! ### what the head tells of the classes -/
def relZ (K : PySem.W.Frag) : Bool := (He.Fa.glo "WakeError").ok K && ((He.Fa.glo "StateError").ok K && (kkB K "InvalidTriggers" "WakeError" true && (kkB K "InvalidTriggers" "StateError" false && (kkB K "InvalidMakes" "WakeError" true && (ktB K "InvalidMakes" "ValueError" true && (emB K "InvalidTriggers" "InvalidTriggers" true && (emB K "InvalidMakes" "InvalidTriggers" false && emB K "InvalidMakes" "InvalidMakes" true)))))))
def sayB (K : PySem.W.Frag) : Bool := ownB K "Saying" && ((He.Fa.mkr "Saying").ok K && ((He.Fa.noat "Saying" "_triggers").ok K && ((He.Fa.noat "Saying" "_makes").ok K && ((He.Fa.meth "Saying" "with_triggers").ok K && ((He.Fa.meth "Saying" "with_makes").ok K && ((He.Fa.meth "Saying" "__eq__").ok K && cintB K "Saying" "MOST" 3))))))
section
variable {K : PySem.W.Frag} {mg : Str → Option Value} {h : Heap}
theorem clz_ok (X : K.In h) (G : h.Ns mainGlobals mg) (T : OneF K mg "InvalidTriggers" "position") (M : OneF K mg "InvalidMakes" "position") (nV : mg "ValueError" = none) (nR : mg "repr" = none) (e : relZ K = true) :
    Clz K mg (He.ga K "InvalidTriggers") (He.ga K "InvalidMakes") (He.ga K "WakeError") (He.ga K "StateError") := by
  obtain ⟨gk, e⟩ := He.ba e
  obtain ⟨ge, e⟩ := He.ba e
  obtain ⟨a1, e⟩ := He.ba e
  obtain ⟨a2, e⟩ := He.ba e
  obtain ⟨a3, e⟩ := He.ba e
  obtain ⟨a4, e⟩ := He.ba e
  obtain ⟨b1, e⟩ := He.ba e
  obtain ⟨b2, b3⟩ := He.ba e
  exact ⟨T.g, M.g, He.glo_ok X G gk, He.glo_ok X G ge, nV, nR, T.xfc, M.xfc, T.xf.no, M.xf.no, T.xc, M.xc, of_decide_eq_true a1, of_decide_eq_true a2, of_decide_eq_true a3, of_decide_eq_true a4, of_decide_eq_true b1, of_decide_eq_true b2, of_decide_eq_true b3⟩
structure SayF (K : PySem.W.Frag) (mg : Str → Option Value) : Prop where
  o : OwnC K mg "Saying" (He.ga K "Saying")
  make : Mk K (He.ga K "Saying") (He.fAd K ("Saying", some "__init__"))
  nT : NoAttr K (He.ga K "Saying") "_triggers"
  nM : NoAttr K (He.ga K "Saying") "_makes"
  wt : Meth K (He.ga K "Saying") "with_triggers" (He.fAd K ("Saying", some "with_triggers"))
  wm : Meth K (He.ga K "Saying") "with_makes" (He.fAd K ("Saying", some "with_makes"))
  eq : Meth K (He.ga K "Saying") "__eq__" (He.fAd K ("Saying", some "__eq__"))
  ci : CInt K (He.ga K "Saying") "MOST" 3
theorem say_ok (X : K.In h) (G : h.Ns mainGlobals mg) (e : sayB K = true) : SayF K mg := by
  obtain ⟨e1, e⟩ := He.ba e
  obtain ⟨e2, e⟩ := He.ba e
  obtain ⟨e3, e⟩ := He.ba e
  obtain ⟨e4, e⟩ := He.ba e
  obtain ⟨e5, e⟩ := He.ba e
  obtain ⟨e6, e⟩ := He.ba e
  obtain ⟨e7, e8⟩ := He.ba e
  exact ⟨own_ok X G e1, He.mkr_ok e2, He.noat_ok e3, He.noat_ok e4, He.meth_ok e5, He.meth_ok e6, He.meth_ok e7, cint_ok e8⟩
end
end K20
namespace Tk
open PySem PySem.Spec PyProof.Rows L2
/-! ### the head's facts, the interpreter's own table among them (a class's constants are read by it) -/
section
variable (n : Nat) (fa : List He.Fa) (fn : List He.DefD) (tf : List He.Defn) (ex : PySem.W.Frag → Bool)
/-- what the names reach, and that table -/
def partY (g : Addr → Option Obj) : PySem.W.Frag := He.frT g (cStatics :: He.asD g n)
abbrev ToldY : Type := He.AlT × (Bool × Bool)
def obsY (g : Addr → Option Obj) : ToldY := (He.obsT fa fn [] (partY n g), (ex (partY n g), He.tabsB g tf (partY n g)))
structure SaysY (w : World) (h : Heap) (K : PySem.W.Frag) : Prop where
  t : He.SaysT fa fn [] w K
  more : ex K = true
  both : ∀ p ∈ tf, PySem.W.codeHdIn K (He.cT K p).1 (He.cT K p).2 = true ∧ K.lookup (He.cT K p).2 = none ∧ h.get? (He.cT K p).2 = some { cls := .none, data := .fields #[] }
variable {n fa fn tf ex}
theorem SaysY.hd {w : World} {h : Heap} {K : PySem.W.Frag} (c : SaysY fa fn tf ex w h K) (p : He.Defn) (m : p ∈ tf) : PySem.W.codeHdIn K (He.cT K p).1 (He.cT K p).2 = true := (c.both p m).1
theorem SaysY.out {w : World} {h : Heap} {K : PySem.W.Frag} (c : SaysY fa fn tf ex w h K) (p : He.Defn) (m : p ∈ tf) : K.lookup (He.cT K p).2 = none := (c.both p m).2.1
theorem SaysY.empty {w : World} {h : Heap} {K : PySem.W.Frag} (c : SaysY fa fn tf ex w h K) (p : He.Defn) (m : p ∈ tf) : h.get? (He.cT K p).2 = some { cls := .none, data := .fields #[] } := (c.both p m).2.2
theorem saysY_of {w : World} {h : Heap} (e : obsY n fa fn tf ex h.get? = (He.valT fn [] w, (true, true))) : SaysY fa fn tf ex w h (partY n h.get?) := by
  unfold obsY at e
  have a := (Prod.mk.injEq _ _ _ _ ▸ e : _ ∧ _)
  have b := (Prod.mk.injEq _ _ _ _ ▸ a.2 : _ ∧ _)
  refine ⟨a.1, b.1, fun p m => ?_⟩
  have z := List.all_eq_true.mp (show (tf.all fun p => _) = true from b.2) p m
  have z1 := (Bool.and_eq_true_iff.mp z).1
  have z2 := (Bool.and_eq_true_iff.mp z).2
  cases q : h.get? (He.cT (partY n h.get?) p).2 with
  | none => rw [q] at z2; cases z2
  | some o =>
    rw [q] at z2
    exact ⟨z1, He.frT_none q z2, by rw [He.emptyTab_eq z2]⟩
variable (n fa fn tf ex)
def hookY : PySem.W.Hook where
  α := ToldY
  obs := fun s => obsY n fa fn tf ex s.heap.get?
  val := fun w => (He.valT fn [] w, (true, true))
  says := fun w h => ∃ K : PySem.W.Frag, K.In h ∧ SaysY fa fn tf ex w h K
  of := fun _ s e => ⟨partY n s.heap.get?, He.frT_in, saysY_of e⟩
  keeps := fun _ _ _ z k => z.elim fun K y => ⟨K, PySem.W.Frag.In.keeps y.1 k, y.2.t, y.2.more, fun p m => ⟨(y.2.both p m).1, (y.2.both p m).2.1, k _ _ (y.2.both p m).2.2⟩⟩
theorem obsY_eq {g : Addr → Option Obj} {s : Shared} (h : ∀ a, g a = s.heap.get? a) : obsY n fa fn tf ex g = (hookY n fa fn tf ex).obs s := congrArg (obsY n fa fn tf ex) (funext h)
end
end Tk
namespace K20H
open PySem PySem.Spec PyProof.Rows L2 Lw Evl
open K20

def dF0 : He.DefD := ⟨("_law_draw", none), "_law_draw", "_law_draw", defArgs (topS 22), defBody (topS 22), defScope (topS 22), [], []⟩
def dF1 : He.DefD := ⟨("_law_pot", none), "_law_pot", "_law_pot", defArgs (topS 21), defBody (topS 21), defScope (topS 21), [], []⟩
def dF2 : He.DefD := ⟨("is_letter", none), "is_letter", "is_letter", defArgs (topS 12), defBody (topS 12), defScope (topS 12), [], []⟩
def dF3 : He.DefD := ⟨("is_word", none), "is_word", "is_word", defArgs (topS 13), defBody (topS 13), defScope (topS 13), [], []⟩
def dF4 : He.DefD := ⟨("is_list", none), "is_list", "is_list", defArgs (topS 2), defBody (topS 2), defScope (topS 2), [], []⟩
def dF5 : He.DefD := ⟨("in_order", none), "in_order", "in_order", defArgs (topS 14), defBody (topS 14), defScope (topS 14), [], []⟩
def dF6 : He.DefD := ⟨("_law_pick", none), "_law_pick", "_law_pick", defArgs (topS 23), defBody (topS 23), defScope (topS 23), [], []⟩
def dF7 : He.DefD := ⟨("_law_tags", none), "_law_tags", "_law_tags", defArgs (topS 24), defBody (topS 24), defScope (topS 24), [], []⟩
def dF8 : He.DefD := ⟨("_law_all", none), "_law_all", "_law_all", defArgs (topS 25), defBody (topS 25), defScope (topS 25), [], []⟩
def dF9 : He.DefD := ⟨("_law_verses", none), "_law_verses", "_law_verses", defArgs (topS 27), defBody (topS 27), defScope (topS 27), [], []⟩
def dF10 : He.DefD := ⟨("_law_saw", none), "_law_saw", "_law_saw", defArgs (topS 28), defBody (topS 28), defScope (topS 28), [], []⟩
def dF11 : He.DefD := ⟨("is_row", none), "is_row", "is_row", defArgs (topS 17), defBody (topS 17), defScope (topS 17), [], []⟩
def dF12 : He.DefD := ⟨("first_wrong", none), "first_wrong", "first_wrong", defArgs (topS 18), defBody (topS 18), defScope (topS 18), [], []⟩
def dF13 : He.DefD := ⟨("Saying", some "__init__"), "__init__", "Saying.__init__", defArgs (inClass (topS 19) 1), defBody (inClass (topS 19) 1), defScope (inClass (topS 19) 1), [], []⟩
def dF14 : He.DefD := ⟨("Saying", some "with_triggers"), "with_triggers", "Saying.with_triggers", defArgs (inClass (topS 19) 8), defBody (inClass (topS 19) 8), defScope (inClass (topS 19) 8), [], []⟩
def dF15 : He.DefD := ⟨("Saying", some "with_makes"), "with_makes", "Saying.with_makes", defArgs (inClass (topS 19) 9), defBody (inClass (topS 19) 9), defScope (inClass (topS 19) 9), [], []⟩
def dF16 : He.DefD := ⟨("Saying", some "__eq__"), "__eq__", "Saying.__eq__", defArgs (inClass (topS 19) 10), defBody (inClass (topS 19) 10), defScope (inClass (topS 19) 10), [], []⟩
def dF17 : He.DefD := ⟨("_law_odd", none), "_law_odd", "_law_odd", defArgs (topS 30), defBody (topS 30), defScope (topS 30), [], []⟩
def dF18 : He.DefD := ⟨("_law_no_list", none), "_law_no_list", "_law_no_list", defArgs (topS 31), defBody (topS 31), defScope (topS 31), [], []⟩
def dF19 : He.DefD := ⟨("_law_spoilt", none), "_law_spoilt", "_law_spoilt", defArgs (topS 32), defBody (topS 32), defScope (topS 32), [], []⟩
def dF20 : He.DefD := ⟨("_law_lists_right", none), "_law_lists_right", "_law_lists_right", defArgs (topS 33), defBody (topS 33), defScope (topS 33), [], []⟩
def dF21 : He.DefD := ⟨("_law_right", none), "_law_right", "_law_right", defArgs (topS 34), defBody (topS 34), defScope (topS 34), [], []⟩
def dF22 : He.DefD := ⟨("law", none), "law", "law", defArgs (topS 35), defBody (topS 35), defScope (topS 35), [], []⟩
def dF23 : He.DefD := ⟨("_law_heard", none), "_law_heard", "_law_heard", defArgs (topS 29), defBody (topS 29), defScope (topS 29), [], []⟩
def dF24 : He.DefD := ⟨("InvalidTriggers", some "__init__"), "__init__", "InvalidTriggers.__init__", defArgs (inClass (topS 6) 0), defBody (inClass (topS 6) 0), defScope (inClass (topS 6) 0), [], []⟩
def dF25 : He.DefD := ⟨("InvalidMakes", some "__init__"), "__init__", "InvalidMakes.__init__", defArgs (inClass (topS 7) 0), defBody (inClass (topS 7) 0), defScope (inClass (topS 7) 0), [], []⟩
def dF26 : He.DefD := ⟨("InvalidWords", some "__init__"), "__init__", "InvalidWords.__init__", defArgs (inClass (topS 5) 0), defBody (inClass (topS 5) 0), defScope (inClass (topS 5) 0), [], []⟩
def fn : List He.DefD := [dF0, dF1, dF2, dF3, dF4, dF5, dF6, dF7, dF8, dF9, dF10, dF11, dF12, dF13, dF14, dF15, dF16, dF17, dF18, dF19, dF20, dF21, dF22, dF23, dF24, dF25, dF26]
def fa : List He.Fa := [.glo "_law_draw", .glo "_law_pot", .glo "is_letter", .glo "is_word", .glo "is_list", .glo "in_order", .glo "_law_pick", .glo "_law_tags", .glo "_law_all", .glo "_law_verses", .glo "_law_saw", .glo "is_row", .glo "first_wrong", .glo "_law_odd", .glo "_law_no_list", .glo "_law_spoilt", .glo "_law_lists_right", .glo "_law_right", .glo "law", .glo "_law_heard", .free "len", .free "range", .free "abs", .free "max", .free "min", .free "int", .free "divmod", .free "all", .free "isinstance", .free "enumerate", .free "repr", .free "list", .free "tuple", .free "sorted", .free "str", .free "dict", .free "ValueError", .int "MOST_SIGNS" (8), .int "MOST_IN_WORD" (3)]
def tf : List He.Defn := [("in_order", none), ("_law_lists_right", none)]
def LL : List (He.Defn × Str) := [(("in_order", none), "in_order.<locals>.<lambda>"), (("_law_lists_right", none), "_law_lists_right.<locals>.<lambda>")]
def ex (K : PySem.W.Frag) : Bool := Tk.oneB K "InvalidTriggers" "position" && (Tk.oneB K "InvalidMakes" "position" && (Tk.oneB K "InvalidWords" "position" && (relZ K && (sayB K && decide ((LL.map fun e => (He.cT K e.1).2).Nodup)))))
abbrev R : PySem.W.OpenRow := PySem.W.OpenLaw.row PySem.Challenge.rw_wakesayings_k20_sayings_refused
abbrev hk : PySem.W.Hook := Tk.hookY 6 fa fn tf ex
def ob (s : PySem.W.SharedT) : Tk.ToldY := Tk.obsY 6 fa fn tf ex (HandSHeadRun.getT s)
theorem ob_eq (s : PySem.W.SharedT) : ob s = hk.obs s.abs := Tk.obsY_eq 6 fa fn tf ex (HandSHeadRun.getT_eq s)
def loose0 : List PySem.Str := ["_wall", "is_list", "WakeError", "InvalidWords", "InvalidTriggers", "InvalidMakes", "StateError", "is_letter", "is_word", "in_order", "letters_of", "is_row", "first_wrong", "Saying", "_law_pot", "_law_draw", "_law_pick", "_law_tags", "_law_all", "_law_lined", "_law_verses", "_law_saw", "_law_heard", "_law_odd", "_law_no_list", "_law_spoilt", "_law_lists_right", "_law_right", "MOST_SIGNS", "MOST_IN_WORD"]
def loose : List PySem.Str := loose0
set_option maxHeartbeats 0 in
theorem run (w : World) : HandSHeadRun.RunEq R (PySem.W.view R.prog [35]) hk ob 12000 loose w := by
  intro os
  kernel_rfl
end K20H
namespace K20
open PySem PySem.Spec PyProof.Rows L2 Lw Evl
open K20H

section
variable {P : Program} {w : World} {K : PySem.W.Frag} {mg : Str → Option Value} {base h : Heap}
theorem mkCal {k : Nat} {x : Str} {ps : List Str} {sp : Sp} {f : Addr} {fd : FuncData} (g : mg x = some (.ref f)) (kp : PySem.W.keepIn K (.ref f) = true) (b : Binds K fd ps []) (H : FnG P w K mg base CX0 k f fd ps sp) : Cal P w K mg base CX0 k x ps sp := ⟨f, fd, g, kp, b, H⟩
theorem mkCalR {k : Nat} {x : Str} {ps : List Str} {sp : Sp} {f : Addr} {fd : FuncData} (g : mg x = some (.ref f)) (kp : PySem.W.keepIn K (.ref f) = true) (b : ∀ (ws : List Value) (s : Shared), ws.length = ps.length → BindsTo s fd ⟨[], ps.reverse.zip ws⟩ (ps.zip ws.reverse)) (H : FnG P w K mg base CX0 k f fd ps sp) : CalR P w K mg base CX0 k x ps sp := ⟨f, fd, g, kp, b, H⟩
theorem bindsR {qual x : Str} {params : Arguments} {scope : Scope} {f : Addr} {fd : FuncData} {body : List Stmt} {ps : List Str} (F : FunD K x qual params body scope [] [] f fd)
    (z : ∀ (kV doc pm : Value) (an : Option Addr) (cdv ct : Value) (ws : List Value), ws.length = ps.length → bindArgs (PySem.W.fnOf x qual params body scope .none kV doc pm an cdv ct) ⟨[], ps.reverse.zip ws⟩ = pure (ps.zip ws.reverse)) (ws : List Value) (s : Shared) (e : ws.length = ps.length) :
    BindsTo s fd ⟨[], ps.reverse.zip ws⟩ (ps.zip ws.reverse) := by
  obtain ⟨oc, od, dV, kV, doc, pm, an, cdv, ct, osl, rfl, _, _, hD, _⟩ := F.ex
  rcases hD with ⟨_, rfl⟩ | ⟨n, _⟩
  · exact .of_eq (z kV doc pm an cdv ct ws e)
  · exact absurd rfl n
theorem tx (X : K.In h) (G : h.Ns mainGlobals mg) (c : He.SaysD fa fn K) : Tx P w K mg base := ⟨He.free_ok X G (c.fact 20 (f := .free "len") rfl), He.free_ok X G (c.fact 21 (f := .free "range") rfl), He.free_ok X G (c.fact 22 (f := .free "abs") rfl), He.free_ok X G (c.fact 23 (f := .free "max") rfl), He.free_ok X G (c.fact 24 (f := .free "min") rfl), He.free_ok X G (c.fact 25 (f := .free "int") rfl), He.free_ok X G (c.fact 26 (f := .free "divmod") rfl), He.free_ok X G (c.fact 27 (f := .free "all") rfl), He.free_ok X G (c.fact 28 (f := .free "isinstance") rfl), He.free_ok X G (c.fact 29 (f := .free "enumerate") rfl), He.free_ok X G (c.fact 30 (f := .free "repr") rfl), He.free_ok X G (c.fact 31 (f := .free "list") rfl), He.free_ok X G (c.fact 32 (f := .free "tuple") rfl), He.free_ok X G (c.fact 33 (f := .free "sorted") rfl), He.free_ok X G (c.fact 34 (f := .free "str") rfl), He.free_ok X G (c.fact 35 (f := .free "dict") rfl), He.int_ok X G (c.fact 37 (f := .int "MOST_SIGNS" (8)) rfl), He.int_ok X G (c.fact 38 (f := .int "MOST_IN_WORD" (3)) rfl)⟩
/-- the tables of code objects, by the names of what they hold -/
def TTs (K : PySem.W.Frag) : List (Addr × Str) := LL.map fun e => ((He.cT K e.1).2, e.2)
theorem uniq_T (nd : (LL.map fun e => (He.cT K e.1).2).Nodup) {p : Addr} {q : Str} (h : (p, q) ∈ TTs K) : ∀ z ∈ TTs K, z.1 = p → z.2 = q := by
  have key : ∀ {l : List (He.Defn × Str)}, (l.map fun e => (He.cT K e.1).2).Nodup → (p, q) ∈ l.map (fun e => ((He.cT K e.1).2, e.2)) → ∀ z ∈ l.map (fun e => ((He.cT K e.1).2, e.2)), z.1 = p → z.2 = q := by
    intro l
    induction l with
    | nil => intro _ _ z hz
             cases hz
    | cons a l ih =>
      intro nd h z hz e
      rw [List.map_cons, List.nodup_cons] at nd
      rw [List.map_cons] at h hz
      have out : ∀ y ∈ l.map (fun e => ((He.cT K e.1).2, e.2)), y.1 ≠ (He.cT K a.1).2 := fun y hy ey => nd.1 (by
        obtain ⟨b, hb, rfl⟩ := List.mem_map.mp hy
        exact List.mem_map.mpr ⟨b, hb, ey⟩)
      rcases List.mem_cons.mp h with h | h
      · rcases List.mem_cons.mp hz with hz | hz
        · rw [hz]
          exact (Prod.mk.inj h).2.symm
        · exact absurd (e.trans (Prod.mk.inj h).1) (out z hz)
      · rcases List.mem_cons.mp hz with hz | hz
        · rw [hz] at e
          exact absurd e.symm (out _ h)
        · exact ih nd.2 h z hz e
  exact key nd h
theorem facts {f : Addr} (X : K.In h) (G : h.Ns mainGlobals mg) (hfa : mg ("law" : Str) = some (.ref f)) (c : He.SaysD fa fn K) (e : ex K = true) :
    ∃ fd : FuncData, (∀ (s : Shared) (v : Value), BindsTo s fd ⟨[v], []⟩ [("_law_script", v)]) ∧ ∀ base : Heap, (∀ z ∈ tf.map (He.cT K), LamX.TabB base mg z.1 z.2) → FnG P w K mg base CX0 11 f fd ["_law_script"] (spLawT K (TTs K)) := by
  obtain ⟨fd0, F0⟩ := c.def_ 0 (d := dF0) rfl
  have g0 : mg "_law_draw" = some (.ref (He.ga K "_law_draw")) := He.glo_ok X G (c.fact 0 (f := .glo "_law_draw") rfl)
  have b0 : Binds K fd0 ["_law_pot_here", "_law_sides"] [] := F0.bindsN fun _ _ _ _ _ _ us hl => match us, hl with | [_, _], _ => rfl
  obtain ⟨fd1, F1⟩ := c.def_ 1 (d := dF1) rfl
  have g1 : mg "_law_pot" = some (.ref (He.ga K "_law_pot")) := He.glo_ok X G (c.fact 1 (f := .glo "_law_pot") rfl)
  have b1 : Binds K fd1 ["_law_script", "_law_at"] [] := F1.bindsN fun _ _ _ _ _ _ us hl => match us, hl with | [_, _], _ => rfl
  obtain ⟨fd2, F2⟩ := c.def_ 2 (d := dF2) rfl
  have g2 : mg "is_letter" = some (.ref (He.ga K "is_letter")) := He.glo_ok X G (c.fact 2 (f := .glo "is_letter") rfl)
  have b2 : Binds K fd2 ["value"] [] := F2.bindsN fun _ _ _ _ _ _ us hl => match us, hl with | [_], _ => rfl
  have r2 := bindsR (ps := ["value"]) F2 fun _ _ _ _ _ _ us hl => match us, hl with | [_], _ => rfl
  obtain ⟨fd3, F3⟩ := c.def_ 3 (d := dF3) rfl
  have g3 : mg "is_word" = some (.ref (He.ga K "is_word")) := He.glo_ok X G (c.fact 3 (f := .glo "is_word") rfl)
  have b3 : Binds K fd3 ["value"] [] := F3.bindsN fun _ _ _ _ _ _ us hl => match us, hl with | [_], _ => rfl
  have r3 := bindsR (ps := ["value"]) F3 fun _ _ _ _ _ _ us hl => match us, hl with | [_], _ => rfl
  obtain ⟨fd4, F4⟩ := c.def_ 4 (d := dF4) rfl
  have g4 : mg "is_list" = some (.ref (He.ga K "is_list")) := He.glo_ok X G (c.fact 4 (f := .glo "is_list") rfl)
  have b4 : Binds K fd4 ["value"] [] := F4.bindsN fun _ _ _ _ _ _ us hl => match us, hl with | [_], _ => rfl
  have r4 := bindsR (ps := ["value"]) F4 fun _ _ _ _ _ _ us hl => match us, hl with | [_], _ => rfl
  obtain ⟨fd5, F5⟩ := c.def_ 5 (d := dF5) rfl
  have g5 : mg "in_order" = some (.ref (He.ga K "in_order")) := He.glo_ok X G (c.fact 5 (f := .glo "in_order") rfl)
  have b5 : Binds K fd5 ["words"] [] := F5.bindsN fun _ _ _ _ _ _ us hl => match us, hl with | [_], _ => rfl
  have r5 := bindsR (ps := ["words"]) F5 fun _ _ _ _ _ _ us hl => match us, hl with | [_], _ => rfl
  obtain ⟨fd6, F6⟩ := c.def_ 6 (d := dF6) rfl
  have g6 : mg "_law_pick" = some (.ref (He.ga K "_law_pick")) := He.glo_ok X G (c.fact 6 (f := .glo "_law_pick") rfl)
  have b6 : Binds K fd6 ["_law_pot_here", "_law_some"] [] := F6.bindsN fun _ _ _ _ _ _ us hl => match us, hl with | [_, _], _ => rfl
  obtain ⟨fd7, F7⟩ := c.def_ 7 (d := dF7) rfl
  have g7 : mg "_law_tags" = some (.ref (He.ga K "_law_tags")) := He.glo_ok X G (c.fact 7 (f := .glo "_law_tags") rfl)
  have b7 : Binds K fd7 ["_law_pot_here", "_law_amount"] [] := F7.bindsN fun _ _ _ _ _ _ us hl => match us, hl with | [_, _], _ => rfl
  obtain ⟨fd8, F8⟩ := c.def_ 8 (d := dF8) rfl
  have g8 : mg "_law_all" = some (.ref (He.ga K "_law_all")) := He.glo_ok X G (c.fact 8 (f := .glo "_law_all") rfl)
  have b8 : Binds K fd8 ["_law_tags_here", "_law_most"] [] := F8.bindsN fun _ _ _ _ _ _ us hl => match us, hl with | [_, _], _ => rfl
  obtain ⟨fd9, F9⟩ := c.def_ 9 (d := dF9) rfl
  have g9 : mg "_law_verses" = some (.ref (He.ga K "_law_verses")) := He.glo_ok X G (c.fact 9 (f := .glo "_law_verses") rfl)
  have b9 : Binds K fd9 ["_law_pot_here", "_law_tags_here"] [] := F9.bindsN fun _ _ _ _ _ _ us hl => match us, hl with | [_, _], _ => rfl
  obtain ⟨fd10, F10⟩ := c.def_ 10 (d := dF10) rfl
  have g10 : mg "_law_saw" = some (.ref (He.ga K "_law_saw")) := He.glo_ok X G (c.fact 10 (f := .glo "_law_saw") rfl)
  have b10 : Binds K fd10 ["_law_pot_here", "_law_tags_here"] [] := F10.bindsN fun _ _ _ _ _ _ us hl => match us, hl with | [_, _], _ => rfl
  obtain ⟨fd11, F11⟩ := c.def_ 11 (d := dF11) rfl
  have g11 : mg "is_row" = some (.ref (He.ga K "is_row")) := He.glo_ok X G (c.fact 11 (f := .glo "is_row") rfl)
  have b11 : Binds K fd11 ["value"] [] := F11.bindsN fun _ _ _ _ _ _ us hl => match us, hl with | [_], _ => rfl
  have r11 := bindsR (ps := ["value"]) F11 fun _ _ _ _ _ _ us hl => match us, hl with | [_], _ => rfl
  obtain ⟨fd12, F12⟩ := c.def_ 12 (d := dF12) rfl
  have g12 : mg "first_wrong" = some (.ref (He.ga K "first_wrong")) := He.glo_ok X G (c.fact 12 (f := .glo "first_wrong") rfl)
  have b12 : Binds K fd12 ["words"] [] := F12.bindsN fun _ _ _ _ _ _ us hl => match us, hl with | [_], _ => rfl
  have r12 := bindsR (ps := ["words"]) F12 fun _ _ _ _ _ _ us hl => match us, hl with | [_], _ => rfl
  obtain ⟨fd13, F13⟩ := c.def_ 13 (d := dF13) rfl
  have b13 : Binds K fd13 ["self", "triggers", "makes"] [] := F13.bindsN fun _ _ _ _ _ _ us hl => match us, hl with | [_, _, _], _ => rfl
  have r13 := Tk.bindsS (ps := ["triggers", "makes"]) F13 fun _ _ _ _ _ _ _ us hl => match us, hl with | [_, _], _ => rfl
  obtain ⟨fd14, F14⟩ := c.def_ 14 (d := dF14) rfl
  have b14 : Binds K fd14 ["self", "triggers"] [] := F14.bindsN fun _ _ _ _ _ _ us hl => match us, hl with | [_, _], _ => rfl
  have r14 := Tk.bindsS (ps := ["triggers"]) F14 fun _ _ _ _ _ _ _ us hl => match us, hl with | [_], _ => rfl
  obtain ⟨fd15, F15⟩ := c.def_ 15 (d := dF15) rfl
  have b15 : Binds K fd15 ["self", "makes"] [] := F15.bindsN fun _ _ _ _ _ _ us hl => match us, hl with | [_, _], _ => rfl
  have r15 := Tk.bindsS (ps := ["makes"]) F15 fun _ _ _ _ _ _ _ us hl => match us, hl with | [_], _ => rfl
  obtain ⟨fd16, F16⟩ := c.def_ 16 (d := dF16) rfl
  have b16 : Binds K fd16 ["self", "other"] [] := F16.bindsN fun _ _ _ _ _ _ us hl => match us, hl with | [_, _], _ => rfl
  have r16 := Tk.bindsS (ps := ["other"]) F16 fun _ _ _ _ _ _ _ us hl => match us, hl with | [_], _ => rfl
  obtain ⟨fd17, F17⟩ := c.def_ 17 (d := dF17) rfl
  have g17 : mg "_law_odd" = some (.ref (He.ga K "_law_odd")) := He.glo_ok X G (c.fact 13 (f := .glo "_law_odd") rfl)
  have b17 : Binds K fd17 ["_law_pot_here", "_law_tags_here"] [] := F17.bindsN fun _ _ _ _ _ _ us hl => match us, hl with | [_, _], _ => rfl
  obtain ⟨fd18, F18⟩ := c.def_ 18 (d := dF18) rfl
  have g18 : mg "_law_no_list" = some (.ref (He.ga K "_law_no_list")) := He.glo_ok X G (c.fact 14 (f := .glo "_law_no_list") rfl)
  have b18 : Binds K fd18 ["_law_pot_here", "_law_tags_here"] [] := F18.bindsN fun _ _ _ _ _ _ us hl => match us, hl with | [_, _], _ => rfl
  obtain ⟨fd19, F19⟩ := c.def_ 19 (d := dF19) rfl
  have g19 : mg "_law_spoilt" = some (.ref (He.ga K "_law_spoilt")) := He.glo_ok X G (c.fact 15 (f := .glo "_law_spoilt") rfl)
  have b19 : Binds K fd19 ["_law_pot_here", "_law_tags_here"] [] := F19.bindsN fun _ _ _ _ _ _ us hl => match us, hl with | [_, _], _ => rfl
  obtain ⟨fd20, F20⟩ := c.def_ 20 (d := dF20) rfl
  have g20 : mg "_law_lists_right" = some (.ref (He.ga K "_law_lists_right")) := He.glo_ok X G (c.fact 16 (f := .glo "_law_lists_right") rfl)
  have b20 : Binds K fd20 ["_law_pot_here", "_law_tags_here", "_law_good", "_law_bad", "_law_due"] [] := F20.bindsN fun _ _ _ _ _ _ us hl => match us, hl with | [_, _, _, _, _], _ => rfl
  obtain ⟨fd21, F21⟩ := c.def_ 21 (d := dF21) rfl
  have g21 : mg "_law_right" = some (.ref (He.ga K "_law_right")) := He.glo_ok X G (c.fact 17 (f := .glo "_law_right") rfl)
  have b21 : Binds K fd21 ["_law_pot_here"] [] := F21.bindsN fun _ _ _ _ _ _ us hl => match us, hl with | [_], _ => rfl
  obtain ⟨fd22, F22⟩ := c.def_ 22 (d := dF22) rfl
  have g22 : mg "law" = some (.ref (He.ga K "law")) := He.glo_ok X G (c.fact 18 (f := .glo "law") rfl)
  obtain ⟨fd23, F23⟩ := c.def_ 23 (d := dF23) rfl
  have g23 : mg "_law_heard" = some (.ref (He.ga K "_law_heard")) := He.glo_ok X G (c.fact 19 (f := .glo "_law_heard") rfl)
  have b23 : Binds K fd23 ["_law_deed"] [] := F23.bindsN fun _ _ _ _ _ _ us hl => match us, hl with | [_], _ => rfl
  have ee := hfa.symm.trans g22
  cases ee
  have bl := FunD.bindsA (ps := ["_law_script"]) F22 fun _ _ _ _ _ _ us hl => match us, hl with | [_], _ => rfl
  refine ⟨fd22, fun s v => bl s [v] rfl, fun base tb => ?_⟩
  have T : Tx P w K mg base := tx X G c
  obtain ⟨fd24, F24⟩ := c.def_ 24 (d := dF24) rfl
  obtain ⟨fd25, F25⟩ := c.def_ 25 (d := dF25) rfl
  obtain ⟨fd26, F26⟩ := c.def_ 26 (d := dF26) rfl
  have e1 := He.ba e
  have e2 := He.ba e1.2
  have e3 := He.ba e2.2
  have e4 := He.ba e3.2
  have e5 := He.ba e4.2
  have nd := of_decide_eq_true e5.2
  have oT := Tk.one_ok (mg := mg) X G e1.1
  have oM := Tk.one_ok (mg := mg) X G e2.1
  have oS := Tk.one_ok (mg := mg) X G e3.1
  have CC := clz_ok (mg := mg) X G oT oM (He.free_ok X G (c.fact 36 (f := .free "ValueError") rfl)) T.m_repr e4.1
  have SF := say_ok (mg := mg) X G e5.1
  have zT := Tk.xrz (P := P) (w := w) (base := base) F24 ⟨rfl, rfl, rfl, by decide +kernel, rfl, by decide +kernel, by decide +kernel⟩ rfl rfl (by decide) (by decide) (fun _ _ _ _ _ _ us hl => match us, hl with | [_, _], _ => rfl) oT
  have zM := Tk.xrz (P := P) (w := w) (base := base) F25 ⟨rfl, rfl, rfl, by decide +kernel, rfl, by decide +kernel, by decide +kernel⟩ rfl rfl (by decide) (by decide) (fun _ _ _ _ _ _ us hl => match us, hl with | [_, _], _ => rfl) oM
  have zS := Tk.xrz (P := P) (w := w) (base := base) F26 ⟨rfl, rfl, rfl, by decide +kernel, rfl, by decide +kernel, by decide +kernel⟩ rfl rfl (by decide) (by decide) (fun _ _ _ _ _ _ us hl => match us, hl with | [_, _], _ => rfl) oS
  have DT : ToldD K mg := ⟨_, _, g23, F23.kp, F23, b23⟩
  have H0 := ok_draw F0 T 
  have H1 := ok_pot F1 T 
  have H2 := ok_is_letter F2 T 
  have H3 := ok_is_word F3 T ⟨_, _, g2, F2.kp, b2, r2, H2.mono (by decide)⟩
  have H4 := ok_is_list F4 T 
  have H5 := ok_in_order F5 T (TT := TTs K) (codeAt_of F5) (tb _ (List.mem_map.mpr ⟨_, (List.mem_cons_self), rfl⟩)) (List.mem_map.mpr ⟨_, (List.mem_cons_self), rfl⟩) (uniq_T nd (List.mem_map.mpr ⟨_, (List.mem_cons_self), rfl⟩)) zS ⟨_, _, g4, F4.kp, b4, r4, H4.mono (by decide)⟩ ⟨_, _, g3, F3.kp, b3, r3, H3.mono (by decide)⟩
  have H6 := ok_pick F6 T (mkCal g0 F0.kp b0 (H0.up (by decide)))
  have H7 := ok_tags F7 T (mkCal g0 F0.kp b0 (H0.up (by decide))) (mkCal g6 F6.kp b6 (H6.up (by decide)))
  have H8 := ok_all F8 T 
  have H9 := ok_verses F9 T (mkCal g0 F0.kp b0 (H0.up (by decide))) (mkCal g8 F8.kp b8 (H8.up (by decide)))
  have H10 := ok_saw F10 T (mkCal g9 F9.kp b9 (H9.up (by decide)))
  have H11 := ok_is_row F11 T SF.o SF.ci ⟨_, _, g4, F4.kp, b4, r4, H4.mono (by decide)⟩
  have H12 := ok_first_wrong F12 T ⟨_, _, g3, F3.kp, b3, r3, H3.mono (by decide)⟩
  have H13 := ok_sy_init F13 T SF.o SF.nT SF.nM zT zM ⟨_, _, g11, F11.kp, b11, r11, H11.mono (by decide)⟩ ⟨_, _, g12, F12.kp, b12, r12, H12.mono (by decide)⟩ ⟨_, _, g5, F5.kp, b5, r5, H5.mono (by decide)⟩
  have H14 := ok_sy_wt F14 T SF.o SF.nM ⟨_, _, SF.o.g, SF.make, b13, r13, H13⟩
  have H15 := ok_sy_wm F15 T SF.o SF.nT ⟨_, _, SF.o.g, SF.make, b13, r13, H13⟩
  have H16 := ok_sy_eq F16 T SF.o SF.nT SF.nM
  have H17 := ok_odd F17 T (mkCal g6 F6.kp b6 (H6.up (by decide)))
  have H18 := ok_no_list F18 T (mkCal g6 F6.kp b6 (H6.up (by decide))) (mkCal g8 F8.kp b8 (H8.up (by decide)))
  have H19 := ok_spoilt F19 T (mkCal g0 F0.kp b0 (H0.up (by decide))) (mkCal g6 F6.kp b6 (H6.up (by decide))) (mkCal g9 F9.kp b9 (H9.up (by decide))) (mkCal g17 F17.kp b17 (H17.up (by decide)))
  have H20 := ok_lists_right F20 T (TT := TTs K) (codeAt_of F20) (tb _ (List.mem_map.mpr ⟨_, (List.mem_cons_of_mem _ (List.mem_cons_self)), rfl⟩)) (List.mem_map.mpr ⟨_, (List.mem_cons_of_mem _ (List.mem_cons_self)), rfl⟩) (uniq_T nd (List.mem_map.mpr ⟨_, (List.mem_cons_of_mem _ (List.mem_cons_self)), rfl⟩)) DT CC SF.o ⟨_, _, SF.o.g, SF.make, b13, r13, H13⟩ ⟨_, _, SF.wt, b14, r14, H14⟩ ⟨_, _, SF.wm, b15, r15, H15⟩ ⟨_, _, SF.eq.at_, SF.eq.fn, b16, H16⟩
  have H21 := ok_right F21 T (mkCal g0 F0.kp b0 (H0.up (by decide))) (mkCal g7 F7.kp b7 (H7.up (by decide))) (mkCal g10 F10.kp b10 (H10.up (by decide))) (mkCal g19 F19.kp b19 (H19.up (by decide))) (mkCal g18 F18.kp b18 (H18.up (by decide))) (mkCal g20 F20.kp b20 (H20.up (by decide)))
  exact ok_law F22 T (mkCal g1 F1.kp b1 (H1.up (by decide))) (mkCal g21 F21.kp b21 (H21.up (by decide)))
end
end K20
open PySem PySem.W PySem.Calls PyProof.Rows
set_option maxHeartbeats 0 in
theorem PySem.Challenge.cw_wakesayings_k20_sayings_refused_holds : PySem.Challenge.rw_wakesayings_k20_sayings_refused.Holds := by
  w_on; o_law
  refine HandSHeadRun.head_any (r := OpenLaw.row PySem.Challenge.rw_wakesayings_k20_sayings_refused) (q := view (OpenLaw.row PySem.Challenge.rw_wakesayings_k20_sayings_refused).prog [35]) (H := K20H.hk) (ob := K20H.ob) (M := 12000) (loose := K20H.loose) (d := HandSHeadRun.topDef (OpenLaw.row PySem.Challenge.rw_wakesayings_k20_sayings_refused).prog 35) (kwd := []) K20H.ob_eq
    (by kernel_rfl) (fun s => by kernel_rfl) K20H.run (by kernel_rfl) (by kernel_rfl) (by kernel_rfl) (by rfl) (by first | assumption | decide +kernel) (by decide +kernel) ⟨rfl, rfl, rfl, rfl, rfl, by decide +kernel⟩ ?hw ?hc
  case hw => w_witness2
  case hc =>
    refine Lw.walkGT (l := PySem.Challenge.rw_wakesayings_k20_sayings_refused) (n := 63) (k := 11) (x := "_law_script") rfl (by decide) (by kernel_rfl) ⟨rfl, by decide, by decide⟩ ?F
    intro w mg fa h Y G hmg0
    obtain ⟨K, KX, c⟩ := Y
    have hmg : mg ("law" : PySem.Str) = some (.ref fa) := by
      have e : (HandSHeadRun.topDef (OpenLaw.row PySem.Challenge.rw_wakesayings_k20_sayings_refused).prog 35).name = ("law" : PySem.Str) := by kernel_rfl
      rw [← e]
      exact hmg0
    obtain ⟨fd, hb, hF⟩ := K20.facts (P := (PySem.Challenge.rw_wakesayings_k20_sayings_refused).prog) (w := w) KX G hmg c.t.d c.more
    refine ⟨K, fd, _, K20H.tf.map (He.cT K), KX, fun z hz => ?_, fun z hz => ?_, fun z hz => ?_, hb, fun H a ns hl hT hS => ⟨a, ns, rfl, fun z hz => by
      obtain ⟨e, he, rfl⟩ := List.mem_map.mp hz
      exact LamX.TabS.nil (hT _ (List.mem_map.mpr ⟨e.1, List.mem_map.mpr ⟨e, he, rfl⟩, rfl⟩)), hS, hl, fun _ => rfl⟩, fun base _ _ tb => hF base tb⟩
    · obtain ⟨p, hp, rfl⟩ := List.mem_map.mp hz
      exact c.empty p hp
    · obtain ⟨p, hp, rfl⟩ := List.mem_map.mp hz
      exact c.out p hp
    · obtain ⟨p, hp, rfl⟩ := List.mem_map.mp hz
      exact PySem.W.codeHd_of_K KX (c.hd p hp)
