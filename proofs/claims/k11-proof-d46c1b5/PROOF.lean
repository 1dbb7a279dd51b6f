import PyProof.Rows.All
import Wide.All
import OpenK.AllK
import Wide.FinOn
import HandS.ForMost
import HandS.ForExc
import HandS.More
import HandS.Evl
import HandS.Defaults
import HandS.IsInst
import HandS.HeadEnd
import PyProof.ReprRoads
import HandS.ExcInit
import HandS.ExcIs
import HandS.MakeKw
import KE.KExcIs
import KE.KExcInit
import HandS.Text
import HandS.Iter
import HandS.Walk
import HandS.TupAny
import HandS.Deep
import HandS.Style
import KE.SortKeyHeap
import KE.SortData
import KE.GoesMore
import PyProof.Draws
import PyProof.EnumMake
import HandS.DictComp
import HandS.Conv
import HandS.Lambda
import HandS.List
import KE.KSortKey
import HandS.EndTab
import HandS.HeadHook4
import HandS.NestedK
import HandS.ExcField
import HandS.TryMany
import HandS.Head0
import HandS.Head1
import HandS.Head2
import PyProof.StrLawsRepr
import PyProof.Rows.StrCase
import PyProof.Rows.TupDisplay
import HandS.TupMul
import PySem.Challenge.RW_wakesayings_k11_words_refused
set_option Elab.async false
set_option linter.all false
set_option maxRecDepth 100000
set_option maxHeartbeats 4000000
namespace Lw
open PySem PySem.Spec PyProof.Rows L2
/-! ### what a def keeps, called where no repr is under way -/
structure FnG (P : Program) (w : World) (K : PySem.W.Frag) (mg : Str → Option Value) (base : Heap) (CX : CXT) (k : Nat) (f : Addr) (fd : FuncData) (ps : List Str) (sp : Sp) : Prop where
  len : ∀ vs H Q E, sp vs H Q E → vs.length = ps.length
  go : ∀ {A : Around} {outer : List Env} {s : Shared} {H : Hp} {args : Args} {us : List Value} {vs : List V} {Q : VK} {E : XK},
    A.guards = some [] → Room k A → Env0 P w K mg base A outer s H → BindsTo s fd args (ps.zip us) → Vals vs us → sp vs H Q E →
    codeAny (model P w) A (.call (.ref f) args) (CR CX outer P w H s Q E) s
section
variable {P : Program} {w : World} {K : PySem.W.Frag} {mg : Str → Option Value} {base : Heap} {CX : CXT}
theorem FnG.up {j k : Nat} {f : Addr} {fd : FuncData} {ps : List Str} {sp : Sp} (F : FnG P w K mg base CX j f fd ps sp) (h : j ≤ k) : FnG P w K mg base CX k f fd ps sp :=
  ⟨F.len, fun g r => F.go g (r.mono h)⟩
/-- a def by its body: the body's reading, at a place where no repr is under way -/
theorem fnG {x qual : Str} {params : Arguments} {body : List Stmt} {scope : Scope} {dvs : List V} {kws : List (Str × V)} {f : Addr} {fd : FuncData} {N ps : List Str} {k : Nat} {sp : Sp}
    (F : FunD K x qual params body scope dvs kws f fd) (S : FnScope N ps scope) (len : ∀ vs H Q E, sp vs H Q E → vs.length = ps.length)
    (walk : ∀ (cdv : Value) (A : Around) (outer : List Env) (s : Shared) (H : Hp) (vs : List V) (Q : VK) (E : XK), A.guards = some [] → Room k (A.deeper (envOfC qual scope s.heap.objs.size f cdv)) → sp vs H Q E →
      ∃ t, PSs (cxOf CX P w K mg base N qual scope f cdv A outer s H E) body t ∧ t { nx := fun _ H' => Q .non H', rt := Q } (start N vs) H) :
    FnG P w K mg base CX (k + 1) f fd ps sp := by
  obtain ⟨_, _, dV, kV, doc, pm, an, cdv, ct, osl, rfl, lk, hcd, _, _⟩ := F.ex
  refine ⟨len, ?_⟩
  intro A outer s H args us vs Q E hg hr e0 hb rv hsp
  have hsz : (us.length = ps.length) := by
    rw [← rv.length]
    exact len _ _ _ _ hsp
  have kIn : K.In s.heap := e0.mod.kin.keeps fun b o e => (e0.bs b o e).1
  have noL : s.heap.NoLimit := e0.mod.nolimit.keeps fun b o e => (e0.bs b o e).1
  refine codeAny_call_function hr.depth (kIn _ _ lk) rfl S.co S.gen rfl (PySem.W.codeRec_of kIn hcd) (hb _ _ _ _ ?_)
  refine wpAny_newFunctionEnv_cells S.kind ?_ ?_
  · rintro ⟨n, v⟩ hm
    cases S.par n (List.of_mem_zip hm).1 with
    | inl q => exact .inl q
    | inr q => exact .inr ⟨q, PySem.W.cellsFrom_some _ _ _ (.inl q)⟩
  · rintro env rfl s1 x
    refine ⟨noL.keeps x.toInCall.keep, codeAny_func ?_⟩
    obtain ⟨t, ht, hq⟩ := walk cdv A outer s H vs Q E hg (hr.deeper _) hsp
    refine wpAny_mono (ht.run [] s1 (start N vs) H _ (inv_start S hr.hd e0 (len _ _ _ _ hsp) rv x) hq) (fun fl s2 hs => ?_) fun _ _ z => z
    cases fl with
    | ret u => exact match hs with
      | ⟨v, _, H', J, r, q⟩ => ⟨v, H', J.os, J.bare, J.base, J.hok, r, q⟩
    | next => exact match hs with
      | ⟨_, H', J, q⟩ => ⟨V.non, H', J.os, J.bare, J.base, J.hok, rfl, q⟩
    | brk => exact match hs with
      | ⟨_, _, _, q⟩ => q.elim
    | cont => exact match hs with
      | ⟨_, _, _, q⟩ => q.elim
/-! ### a def of the top, as its callers see it -/
def Cal (P : Program) (w : World) (K : PySem.W.Frag) (mg : Str → Option Value) (base : Heap) (CX : CXT) (k : Nat) (x : Str) (ps : List Str) (sp : Sp) : Prop :=
  ∃ f fd, mg x = some (.ref f) ∧ PySem.W.keepIn K (.ref f) = true ∧ Binds K fd ps [] ∧ FnG P w K mg base CX k f fd ps sp
end
section
variable {X : Cx} {CX : CXT} {k : Nat} {x : Str} {ps : List Str} {sp : Sp} {p pos : Pos} {e : Expr} {es : List Expr} {t : TA} {E : XK}
theorem runG {pins : List (Addr × Obj)} {σ : L2.St} {H : Hp} {s : Shared} {Q : VK} {f : Addr} {fd : FuncData} {us : List Value} {vs : List V} (F : FnG X.prog X.w X.K X.mg X.base CX k f fd ps sp) (hg : X.A.guards = some []) (hr : Room k X.A) (hb : Binds X.K fd ps [])
    (hx : Passes CX X E) (I : Inv X pins σ H s) (r : Vals vs us) (h : sp vs H Q E) : wpAny (model X.prog X.w) X.A (call (.ref f) us) (EP X pins σ Q) X.xe s := by
  have hl : (us ++ []).length = ps.length := by
    rw [List.append_nil, ← r.length]
    exact F.len _ _ _ _ h
  have bt := hb s us I.kIn hl
  rw [List.append_nil] at bt
  refine wpAny_call (codeAny_mono (F.go hg hr I.env0 bt r h) fun r s2 hq => ?_)
  cases r with
  | error er => exact hx pins σ H s er s2 I hq
  | ok fl =>
    cases fl with
    | ret u => exact I.after hq
    | next => exact hq.elim
    | brk => exact hq.elim
    | cont => exact hq.elim
theorem pe_calX (C : Cal X.prog X.w X.K X.mg X.base CX k x ps sp) {j : Nat} (gd : X.A.guards = some []) (hr : Room j X.A) (hx : Passes CX X E) (ha : PA X (e :: es) t) (hj : k ≤ j := by decide) (hg : Gl X x := by rfl) (hdb : (x == ("__debug__" : Str)) = false := by decide)
    (he : starEach (e :: es) X.env = (false, eval e X.env) :: starEach es X.env := by rfl) (hpl : (backTo pos (starEach es X.env)).any (·.1) = false := by rfl) :
    PE X (.Call (.Name x p) (e :: es) [] pos) (tCall sp [] E t) := by
  obtain ⟨f, fd, hm, hk, hb, F⟩ := C
  constructor
  intro pins s σ H Q I h
  refine wpAny_Call_Name_kw (ld_glob I hg hm ?_ hdb)
  refine PySem.W.callWith_K (h₀ := X.base) I.ok.mod.kin hk (thn (ha.run pos pins s σ H _ I h) fun us s1 hh => ?_) he hpl
  obtain ⟨vs, H1, I1, r, q⟩ := hh
  rw [List.append_nil] at q
  exact ⟨I1.kIn, runG F gd (hr.mono hj) hb hx I1 r q⟩
/-- .. that lets no error out -/
theorem pe_cal (C : Cal X.prog X.w X.K X.mg X.base CX0 k x ps sp) {j : Nat} (gd : X.A.guards = some []) (hr : Room j X.A) (ha : PA X (e :: es) t) (hj : k ≤ j := by decide) (hg : Gl X x := by rfl) (hdb : (x == ("__debug__" : Str)) = false := by decide)
    (he : starEach (e :: es) X.env = (false, eval e X.env) :: starEach es X.env := by rfl) (hpl : (backTo pos (starEach es X.env)).any (·.1) = false := by rfl) :
    PE X (.Call (.Name x p) (e :: es) [] pos) (tCall sp [] E0 t) := pe_calX C gd hr pass0 ha hj hg hdb he hpl
end
/-! ### the law's own call -/
/-- what the law's heap holds at the entry: the script, locked -/
def scr (a : Addr) (o : Obj) (ns : List Int) : Hp := fun b => if b = a then some (.frz o (.lst (ns.map V.int))) else none
theorem scr_at {a : Addr} {o : Obj} {ns : List Int} : scr a o ns a = some (.frz o (.lst (ns.map V.int))) := if_pos rfl
theorem scr_off {a b : Addr} {o : Obj} {ns : List Int} (h : b ≠ a) : scr a o ns b = none := if_neg h
theorem lawG {P : Program} {w : World} {K : PySem.W.Frag} {mg mb : Str → Option Value} {k : Nat} {fa a : Addr} {fd : FuncData} {x : Str} {sp : Sp} {s : Shared} {vs : List Value} {ns : List Int}
    (KX : K.In s.heap) (hns : s.heap.Ns mainGlobals mg) (hb : s.heap.Ns builtinsNs mb) (hbb : ∀ x : Str, x ≠ "__name__" → mb x = bootBuiltins x) (hlim : s.heap.NoLimit) (hgen : s.gens = #[])
    (ha : s.heap.get? a = some { cls := .type "list", data := .seq vs.toArray }) (hi : IntsAre vs ns) (hl : ns.length ≤ sizeLine) (hr : Room k callerA)
    (F : ∀ base : Heap, K.In base → base.Ns mainGlobals mg → FnG P w K mg base CX0 k fa fd [x] sp) (hbind : ∀ (s : Shared) (u : Value), BindsTo s fd ⟨[u], []⟩ [(x, u)])
    (hsp : ∀ H : Hp, SqL K H a (ns.map V.int) → sp [.ref a] H (fun v _ => v = .bl true) E0) :
    codeAny (model P w) callerA (.call (.ref fa) ⟨[.ref a], []⟩) (fun r s' => r = .ok (.ret (.bool true)) ∧ OldK s.heap s'.heap ∧ s'.os = s.os ∧ AllBare s'.gens) s := by
  have rv := vals_ints hi
  -- a heap H that tracks nothing but what is locked
  have go : ∀ H : Hp, SqL K H a (ns.map V.int) → HOk P w H s.heap → (∀ b u, H b = some u → b = a ∧ K.lookup a = none ∧ ∃ o xs, u = .frz o (.lst xs)) →
      codeAny (model P w) callerA (.call (.ref fa) ⟨[.ref a], []⟩) (fun r s' => r = .ok (.ret (.bool true)) ∧ OldK s.heap s'.heap ∧ s'.os = s.os ∧ AllBare s'.gens) s := by
    intro H hS hok hH
    have free : ∀ b, b ≠ a → H b = none := fun b n => by
      cases q : H b with
      | none => rfl
      | some u => exact absurd (hH b u q).1 n
    have notDict : ∀ {b : Addr} {o : Obj} {es : Array DictEntry} {n : Nat}, s.heap.get? b = some o → o.data = .dict es n → H b = none := fun {b o es n} e d => free b fun z => by
      rw [z, ha] at e
      cases e
      cases d
    have nsB : ∀ {b : Addr} {m : Str → Option Value}, s.heap.Ns b m → (hidT s.heap H).Ns b m := fun {b m} z => by
      obtain ⟨o, es, n, e, d, r⟩ := z
      exact ⟨o, es, n, hidT_get e (notDict e d), d, r⟩
    have KB : K.In (hidT s.heap H) := fun b o e => hidT_get (KX b o e) (by
      cases q : H b with
      | none => rfl
      | some u =>
        obtain ⟨rfl, n, _⟩ := hH b u q
        rw [n] at e
        cases e)
    have md : Mod K mg (hidT s.heap H) := ⟨KB, nsB hns, ⟨mb, nsB hb, hbb⟩, by
      obtain ⟨m, z1, z2⟩ := hlim
      exact ⟨m, nsB z1, z2⟩⟩
    have e0 : Env0 P w K mg (hidT s.heap H) callerA [] s H := ⟨rfl, md, fun b o e => of_hidT e, Nat.le_of_eq (hidT_size _ _), trivial, fun b z => absurd z (List.not_mem_nil), hok, .of_eq hgen⟩
    refine codeAny_mono ((F _ KB (nsB hns)).go (vs := [.ref a]) (us := [.ref a]) rfl hr e0 (hbind s (.ref a)) (.cons rfl .nil) (hsp H hS)) fun r s2 h => ?_
    cases r with
    | error er => exact h.elim
    | ok fl =>
      cases fl with
      | next => exact h.elim
      | brk => exact h.elim
      | cont => exact h.elim
      | ret u =>
        obtain ⟨v, H2, os, bare, un, hok2, rv2, rfl⟩ := h
        obtain rfl : u = Value.bool true := rv2
        refine ⟨rfl, OldK.of_keep fun b o e => ?_, os, bare⟩
        cases q : H b with
        | none => exact un.keep b o e q List.not_mem_nil List.not_mem_nil
        | some u =>
          obtain ⟨rfl, _, ob, xs, rfl⟩ := hH b u q
          have z1 := (hok b _ q).1
          have z2 := (hok2 b _ (un.frzs b ob _ q)).1
          rw [z1] at e
          cases e
          exact z2
  cases hk : K.lookup a with
  | some o =>
    have e := KX a o hk
    rw [ha] at e
    cases e
    exact go (fun _ => none) (.inr ⟨_, vs.toArray, _, hk, rfl, rfl, rfl, by rw [List.size_toArray, hi.length]; exact hl, by simpa using rv⟩) (fun _ _ z => nomatch z) (fun _ _ z => nomatch z)
  | none =>
    refine go (scr a { cls := .type "list", data := .seq vs.toArray } ns) (.inl (.inr ⟨_, scr_at⟩)) (fun b u z => ?_) (fun b u z => ?_)
    · by_cases q : b = a
      · subst q
        rw [scr_at] at z
        cases z
        exact ⟨ha, by rw [List.length_map]; exact hl, vs, _, rv, ha⟩
      · rw [scr_off q] at z
        cases z
    · by_cases q : b = a
      · subst q
        rw [scr_at] at z
        cases z
        exact ⟨rfl, hk, _, _, rfl⟩
      · rw [scr_off q] at z
        cases z
/-- the end of a law's row: its promise, from the facts that the head tells -/
theorem walkG {l : PySem.W.OpenLaw} {n k : Nat} {q : Program} {loose : List Str} {XP : (Str → Option Value) → Heap → Prop} {YP : World → Heap → Prop} {d : DefRec} {x : Str}
    (hn : l.most = some n) (hn2 : n ≤ sizeLine) (hdf : d.params.defaults = []) (hr : Room k callerA)
    (F : ∀ (w : World) (mg : Str → Option Value) (fa : Addr) (h : Heap), YP w h → h.Ns mainGlobals mg → mg d.name = some (.ref fa) →
      ∃ (K : PySem.W.Frag) (fd : FuncData) (sp : Sp), K.In h ∧ (∀ (s : Shared) (u : Value), BindsTo s fd ⟨[u], []⟩ [(x, u)]) ∧
        (∀ (H : Hp) (a : Addr) (ns : List Int), ns.length ≤ n → SqL K H a (ns.map V.int) → sp [.ref a] H (fun v _ => v = .bl true) E0) ∧
        ∀ base : Heap, K.In base → base.Ns mainGlobals mg → FnG l.prog w K mg base CX0 k fa fd [x] sp) :
    PySem.W.WalkO q loose XP YP l.row.toRowW d [] (fun f vs => PySem.call f vs) := by
  refine Att.attach_call hn hdf fun w s₀ s₁ mg mb fa o pm cd doc a vs ns G Y ho hd hcd hmg hobj hints hlen hg => ?_
  obtain ⟨K, fd, sp, KX, hb, hsp, hF⟩ := F w mg fa _ Y G.T.g hmg
  exact lawG KX G.T.g G.T.b G.T.builtins G.T.nolimit hg hobj hints (Nat.le_trans hlen hn2) hr hF hb fun H hS => hsp H a ns hlen hS
/-! ### the pot: a list of two numbers that a draw changes -/
/-- a heap at which a pot stands at p -/
def Po (p : Addr) (H : Hp) : Prop := ∃ i j : Int, H p = some (.lst [.int i, .int j]) ∧ 0 ≤ i ∧ 0 ≤ j ∧ j < 2147483648
/-- all that was tracked, but the pot, stands -/
def Xp (p : Addr) (H H' : Hp) : Prop := (∀ a o, a ≠ p → H a = some o → H' a = some o) ∧ Po p H'
theorem Xp.refl {p : Addr} {H : Hp} (h : Po p H) : Xp p H H := ⟨fun _ _ _ e => e, h⟩
theorem Xp.trans {p : Addr} {H H1 H2 : Hp} (a : Xp p H H1) (b : Xp p H1 H2) : Xp p H H2 := ⟨fun c o n e => b.1 c o n (a.1 c o n e), b.2⟩
theorem Po.some {p : Addr} {H : Hp} (h : Po p H) : ∃ o, H p = some o := ⟨_, h.choose_spec.choose_spec.1⟩
/-- a new object beside the pot -/
theorem Xp.new {p q : Addr} {H : Hp} {o : HO} (h : Po p H) (hq : H q = none) : Xp p H (upd H q o) := by
  obtain ⟨i, j, e, r⟩ := h
  refine ⟨fun a u _ ea => ?_, i, j, ?_, r⟩
  · rw [upd_ne (ne_of_none ea hq)]
    exact ea
  · rw [upd_ne (ne_of_none e hq)]
    exact e
theorem Xp.snew {p q : Addr} {H H1 : Hp} {o : HO} (x : Xp p H H1) (hq : H1 q = none) : Xp p H (upd H1 q o) := x.trans (.new x.2 hq)
theorem Xp.same {p : Addr} {H H1 H2 : Hp} (x : Xp p H H1) (s : Same H1 H2) : Xp p H H2 := by
  obtain ⟨h, i, j, e, r⟩ := x
  exact ⟨fun a o n ea => s _ _ (h a o n ea), i, j, s _ _ e, r⟩
/-- what is seen of a list, a tuple that isn't the pot -/
theorem Xp.at {p : Addr} {H H' : Hp} (x : Xp p H H') {a : Addr} {o : HO} (e : H a = some o) (n : a ≠ p) : H' a = some o := x.1 a o n e
/-- a draw: some number below the size -/
def spDraw : Sp := fun vs H Q _ => ∃ (p : Addr) (n : Int), vs = [.ref p, .int n] ∧ Po p H ∧ 0 < n ∧ n < 1073741824 ∧
  ∀ (d : Int) (H' : Hp), 0 ≤ d → d < n → Xp p H H' → Q (.int d) H'
/-- one of a list, at any place -/
def spPick (K : PySem.W.Frag) : Sp := fun vs H Q _ => ∃ (p l : Addr) (xs : List V), vs = [.ref p, .ref l] ∧ Po p H ∧ H l = some (.lst xs) ∧ l ≠ p ∧ 0 < xs.length ∧ xs.length < 100000 ∧
  ∀ (v : V) (H' : Hp), v ∈ xs → Xp p H H' → Q v H'
/-- a new pot -/
def spPot (K : PySem.W.Frag) : Sp := fun vs H Q _ => ∃ (a : Addr) (ns : List Int) (k : Int), vs = [.ref a, .int k] ∧ SqL K H a (ns.map V.int) ∧ ns.length ≤ 63 ∧ 0 ≤ k ∧ k ≤ 63 ∧
  ∀ (p : Addr) (H' : Hp), H p = none → Same H H' → Po p H' → Q (.ref p) H'
theorem atI_mem {xs : List V} {d : Int} (h0 : 0 ≤ d) (h1 : d < xs.length) : ∃ v, atI xs d = some v ∧ v ∈ xs := by
  obtain ⟨n, rfl⟩ := Int.eq_ofNat_of_zero_le h0
  have hn : n < xs.length := by omega
  exact ⟨xs[n], atI_nat (List.getElem?_eq_getElem hn), List.getElem_mem hn⟩
end Lw
namespace Lw
open PySem PySem.Spec PyProof.Rows L2
/-! ### what a value shows by repr -/
/-- wherever H is kept, v is read as d; no dict stands at sys.modules -/
def Rw (P : Program) (w : World) (H : Hp) (v : V) (d : PyData) : Prop :=
  ∀ h : Heap, HOk P w H h → ∀ u : Value, RelV v u → ∃ as, Reads h u d as ∧ (d.hasDict = true → sysModules ∉ as)
section
variable {P : Program} {w : World} {H H' : Hp}
theorem rw_non : Rw P w H .non .none := fun h _ u r => by
  cases (show u = Value.none from r)
  exact ⟨_, .none, fun z => nomatch z⟩
theorem rw_bl (b : Bool) : Rw P w H (.bl b) (.bool b) := fun h _ u r => by
  cases (show u = Value.bool b from r)
  exact ⟨_, .bool b, fun z => nomatch z⟩
theorem rw_int (i : Int) : Rw P w H (.int i) (.int i) := fun h _ u r => by
  obtain ⟨t, rfl⟩ := (show ∃ t, u = Value.int i t from r)
  exact ⟨_, .int i t, fun z => nomatch z⟩
theorem rw_str (x : Str) : Rw P w H (.str x) (.str x) := fun h _ u r => by
  obtain ⟨t, rfl⟩ := (show ∃ t, u = Value.str x t from r)
  exact ⟨_, .str x t, fun z => nomatch z⟩
theorem rw_all {h : Heap} (hok : HOk P w H h) : ∀ {vs : List V} {ds : List PyData} {us : List Value}, Paired (Rw P w H) vs ds → Vals vs us → ∃ as, ReadsAll h us ds as
  | _, _, _, .nil, .nil => ⟨_, .nil⟩
  | _, _, _, .cons r t, .cons q s => by
    obtain ⟨as, r1, _⟩ := r h hok _ q
    obtain ⟨bs, r2⟩ := rw_all hok t s
    exact ⟨_, .cons r1 r2⟩
theorem rw_lst {a : Addr} {vs : List V} {ds : List PyData} (e : H a = some (.lst vs)) (hp : Paired (Rw P w H) vs ds) (nd : PyData.hasDictAll ds = false) : Rw P w H (.ref a) (.list ds) := fun h hok u r => by
  cases (show u = Value.ref a from r)
  obtain ⟨_, its, n, rv, ho⟩ : vs.length ≤ sizeLine ∧ ∃ (its : List Value) (n : Nat), Vals vs its ∧ h.get? a = some { cls := .type "list", data := .seq its.toArray n } := hok a _ e
  obtain ⟨as, ra⟩ := rw_all hok hp rv
  exact ⟨_, .list ho rfl rfl ra, fun z => by rw [PyData.hasDict, nd] at z; cases z⟩
theorem rw_tup {a : Addr} {vs : List V} {ds : List PyData} (e : H a = some (.tup vs)) (hp : Paired (Rw P w H) vs ds) (nd : PyData.hasDictAll ds = false) : Rw P w H (.ref a) (.tuple ds) := fun h hok u r => by
  cases (show u = Value.ref a from r)
  obtain ⟨_, its, rv, o, ho, hc, n, hd⟩ : vs.length ≤ sizeLine ∧ ∃ its : List Value, Vals vs its ∧ IsTup h a its.toArray := hok a _ e
  obtain ⟨as, ra⟩ := rw_all hok hp rv
  exact ⟨_, .tuple ho hc hd ra, fun z => by rw [PyData.hasDict, nd] at z; cases z⟩
end
/-! a dict with plain values -/
def kD : Key → PyData
  | .inl i => .int i
  | .inr x => .str x
def vD : V → Option PyData
  | .non => some .none
  | .bl b => some (.bool b)
  | .int i => some (.int i)
  | .str x => some (.str x)
  | _ => none
theorem vD_reads {h : Heap} {v : V} {d : PyData} {u : Value} (e : vD v = some d) (r : RelV v u) : Reads h u d [] := by
  cases v with
  | non =>
    cases (show u = Value.none from r)
    cases e
    exact .none
  | bl b =>
    cases (show u = Value.bool b from r)
    cases e
    exact .bool b
  | int i =>
    obtain ⟨t, rfl⟩ := (show ∃ t, u = Value.int i t from r)
    cases e
    exact .int i t
  | str x =>
    obtain ⟨t, rfl⟩ := (show ∃ t, u = Value.str x t from r)
    cases e
    exact .str x t
  | _ => cases e
section
variable {P : Program} {w : World} {H H' : Hp}
theorem kv_reads {h : Heap} : ∀ {kvs : List (Key × V)} {ds : List PyData} {vs : List (Key × Value)} {es : List DictEntry}, kvs.map (fun q => vD q.2) = ds.map some → KV kvs vs → Pairs (mixKind P w) es vs →
    ReadsAll h (es.map (·.key)) ((kvs.zipWith (fun q d => (kD q.1, d)) ds).map (·.1)) [] ∧ ReadsAll h (es.map (·.val)) ((kvs.zipWith (fun q d => (kD q.1, d)) ds).map (·.2)) []
  | [], [], _, _, _, .nil, .nil => ⟨.nil, .nil⟩
  | [], _ :: _, _, _, e, _, _ => by cases e
  | _ :: _, [], _, _, e, _, _ => by cases e
  | (k, v) :: kvs, d :: ds, _, _, e, .cons (b := q) ⟨e1, rv⟩ t, .cons (e := en) h1 h2 t2 => by
    injection e with e2 e3
    obtain ⟨z1, z2⟩ := kv_reads (h := h) e3 t t2
    have rk : Reads h en.key (kD k) [] := by
      have e1' : k = q.1 := e1
      rw [← e1'] at h1
      rcases keyIs_shape (show keyIs k en.key = true from h1) with ⟨i, t, rfl, e⟩ | ⟨x, t, rfl, e⟩
      · rw [e]
        exact .int i t
      · rw [e]
        exact .str x t
    have rv' : Reads h en.val d [] := by
      rw [h2]
      exact vD_reads e2 rv
    exact ⟨.cons rk z1, .cons rv' z2⟩
theorem rw_dk {a : Addr} {kvs : List (Key × V)} {ds : List PyData} (e : H a = some (.dK kvs)) (hv : kvs.map (fun q => vD q.2) = ds.map some) : Rw P w H (.ref a) (.dict (kvs.zipWith (fun q d => (kD q.1, d)) ds)) := fun h hok u r => by
  cases (show u = Value.ref a from r)
  obtain ⟨_, hs, vs, kv, o, es, ep, ho, hx, hd, _, hp, _⟩ : kvs.length ≤ sizeLine ∧ (a == sysModules) = false ∧ ∃ vs, KV kvs vs ∧ h.DictOf (mixKind P w) a vs := hok a _ e
  obtain ⟨z1, z2⟩ := kv_reads (h := h) hv kv hp
  refine ⟨_, .dict ho hx.1 hd z1 z2, fun _ z => ?_⟩
  have z' : sysModules = a := by simpa using z
  rw [← z'] at hs
  simp at hs
/-! the rule -/
theorem rk_all {h : Heap} (hok : HOk P w H h) : ∀ {vs : List V} {ds : List PyData} {us : List Value}, Paired (Rw P w H) vs ds → Vals vs us → PyData.showableAll ds = true → (∀ t ∈ PyData.shownAll ds, t.length ≤ sizeLine) →
    ∃ bs, ReadAtMost h (PyData.depthAll ds) bs ∧ ReprAllK P w bs h (PyData.depthAll ds) us (PyData.shownAll ds)
  | _, _, _, .nil, .nil, _, _ => ⟨[], (fun _ z => nomatch z), by simp only [PyData.shownAll]; exact .nil⟩
  | _, _, _, .cons (b := d) (l₂ := ds) r t, .cons q s, hs, hz => by
    have hs' : d.showable = true ∧ PyData.showableAll ds = true := by simpa [PyData.showableAll] using hs
    obtain ⟨as, r1, hd⟩ := r h hok _ q
    obtain ⟨b1, m1, k1⟩ := ReprK.of_reads (prog := P) (w := w) r1 hs'.1 hd (hz _ (by simp only [PyData.shownAll]; exact List.mem_cons_self ..))
    obtain ⟨b2, m2, k2⟩ := rk_all hok t s hs'.2 (fun t ht => hz t (by simp only [PyData.shownAll]; exact List.mem_cons_of_mem _ ht))
    refine ⟨b1 ++ b2, ?_, ?_⟩
    · simp only [PyData.depthAll]
      exact (m1.mono (Nat.le_max_left _ _)).append (m2.mono (Nat.le_max_right _ _))
    · simp only [PyData.depthAll, PyData.shownAll]
      exact .cons ((k1.more fun b z => List.mem_append_left _ z).level_le (Nat.le_max_left _ _)) (k2.more_le (fun b z => List.mem_append_right _ z) (Nat.le_max_right _ _))
end
/-- repr of a list -/
def rReprL (P : Program) (w : World) : List V → Hp → VK → Prop := fun xs H Q => ∃ (p : Addr) (vs : List V) (ds : List PyData), xs = [.ref p] ∧ H p = some (.lst vs) ∧ Paired (Rw P w H) vs ds ∧
  PyData.showableAll ds = true ∧ (listText (PyData.shownAll ds)).length ≤ sizeLine ∧ PyData.depthAll ds ≤ 40 ∧ Q (.str (listText (PyData.shownAll ds))) H
theorem call_reprL {X : Cx} (gd : X.A.guards = some []) (hu : X.A.units + 64 < cLine) : CallR X (.builtin "repr") (rReprL X.prog X.w) := by
  intro pins s σ H xs us Q I r h
  obtain ⟨p, vs, ds, rfl, e, hp, hs, hz, hd, q⟩ := h
  cases r with
  | cons rx rr =>
    cases rr
    cases rx
    obtain ⟨_, its, n, rv, ho⟩ : vs.length ≤ sizeLine ∧ ∃ (its : List Value) (n : Nat), Vals vs its ∧ s.heap.get? p = some { cls := .type "list", data := .seq its.toArray n } := I.hok p _ e
    obtain ⟨as, ra⟩ := rw_all I.hok hp rv
    obtain ⟨bs, hb, hk⟩ := rk_all (P := X.prog) (w := X.w) I.hok hp rv hs fun t ht => Nat.le_trans (listText_mem_le ht) hz
    have hna : p ∉ bs := not_mem_of_deeper (.list ho rfl rfl ra) (by simp only [PyData.depth]; omega) hb
    have ty : s.TypeIs (.ref p) "list" := ⟨_, ho, rfl⟩
    refine call_repr_slot (by omega) ty F.slot_list_repr.toG ?_
    have fin : ∀ h' u tk, (∀ b o, s.heap.get? b = some o → h'.get? b = some o) → EP X pins σ Q (.str (listText (PyData.shownAll ds)) u) { s with heap := h', toks := tk } :=
      fun h' u tk k => ⟨.str (listText (PyData.shownAll ds)), H, I.kept k, ⟨u, rfl⟩, q⟩
    cases its with
    | nil =>
      cases rv
      cases hp
      simp only [PyData.shownAll, listText_nil] at fin
      exact call_list_repr_empty ty ho rfl ⟨_, _, rfl, fin s.heap _ _ fun _ _ z => z⟩
    | cons x l =>
      exact call_list_reprK ho rfl rfl hna (by simpa using hk.length_eq) (fun i y z => hk.item i y (by simpa using z)) gd (fun b _ => Clear.nil b) (by show X.A.in1.units + _ < cLine; show X.A.units + 1 + _ < cLine; omega) (fun _ _ z => z) (fun h' u tk k => ⟨_, _, rfl, fin h' u tk k⟩) hz
end Lw
/-! ### an exception class of the program's own, called with values by position and by name -/
namespace LwX
open PySem PySem.W PySem.Calls PySem.HandSPX
open Builtin Builtin.ObjectAttr
section
variable {M : Model} {prog : Program} {w : World} {A : Around} {E : Value → Shared → Prop} {R : Result → Shared → Prop} {h : Heap} {g : Array GenState} {d : Drawn} {t : Nat} {os : OsState}
variable {nm q : Str} {C N : Addr} {bs bm bB : List Value} {hdct : Bool} {sn : List Str} {sub : List Value} {ab : Bool} {col : Option Bool} {dd : Option Addr} {k0 k1 k2 k3 k5 : Option Value} {B nI iI : String}
variable {pos : List Value} {kw : List (Str × Value)}
theorem chkK (F : ExcBaseFacts B nI iI bB) (hT : ∀ X : String, bm.contains (.type X) = bB.contains (.type X)) {Q : Unit → Shared → Prop}
    (hC : h.get? C = some (excClassObj nm q C N bs bm hdct sn sub ab col dd k0 k1 k2 k3 k5 nI)) (hq : Q () ⟨h, g, d, t, os⟩) : wpAny M A (checkBuiltinCall nI ⟨.ref C :: pos, kw⟩) Q E ⟨h, g, d, t, os⟩ := by
  have cB : (Value.ref C :: bm).contains (.type B) = true := by rw [List.contains_cons, hT, F.hasB, Bool.or_true]
  have ns := F.noStar
  simp only [checkBuiltinCall, F.newKind, F.newSplit, F.newRow]
  repeat (first
    | refine wpAny_loadPart_at hC ?_
    | (refine wpAny_isSubtype_exc hC ?_; rw [cB])
    | refine wpAny_staticBase_exc hC ?_
    | refine wpAny_madeBy_exc hC ?_
    | simp only [bne_self_eq_false, Bool.false_eq_true, if_false]
    | wp_step)
  exact hq
theorem newK (F : ExcBaseFacts B nI iI bB) (hT : ∀ X : String, bm.contains (.type X) = bB.contains (.type X))
    (hC : h.get? C = some (excClassObj nm q C N bs bm hdct sn sub ab col dd k0 k1 k2 k3 k5 nI)) (hz : pos.length ≤ sizeLine)
    (hq : R (.ok (.ret (.ref (h.objs.size + 1)))) ⟨(h.push (W.kdv_tup pos)).push (excO C h.objs.size), g, d, t, os⟩) :
    codeAny (model prog w) A (.builtin nI ⟨.ref C :: pos, kw⟩) R ⟨h, g, d, t, os⟩ := by
  have ends := F.ends
  have cB : (Value.ref C :: bm).contains (.type B) = true := by rw [List.contains_cons, hT, F.hasB, Bool.or_true]
  have cA : (Value.ref C :: bm).contains (.type "AttributeError") = false := by rw [List.contains_cons, hT, F.noAttr]; rfl
  have cN : (Value.ref C :: bm).contains (.type "NameError") = false := by rw [List.contains_cons, hT, F.noName]; rfl
  have hrest : pos.length ≤ sizeLine := hz
  refine codeAny_builtinAt F.entry ?_
  unfold Builtin.«BaseException.__new__»
  refine wpAt_bind ?_
  show wpAt _ _ _ (stack >>= _) _ _ _
  refine wpAt_bind (wpAt_stack fun p below => wpAt_of_wpAny ?_)
  wp_walk
  refine wpAt_of_wpAny ?_
  rw [F.owner]
  repeat (first
    | with_reducible refine wpAny_madeHere_exc F.canon hC ?_
    | with_reducible refine wpAny_loadPart_at hC ?_
    | (with_reducible refine wpAny_isSubtype_exc hC ?_; first | rw [cB] | rw [cA] | rw [cN])
    | wp_step)
  show R _ _
  rw [Heap.size_push]
  exact hq
theorem tcK (F : ExcBaseFacts B nI iI bB) (hT : ∀ X : String, bm.contains (.type X) = bB.contains (.type X)) {fI : Addr} {Q : Fin → Shared → Prop}
    (hC : h.get? C = some (excClassObj nm q C N bs bm hdct sn sub ab col dd k0 k1 k2 k3 k5 nI))
    (hi : W.Looks (model prog w) h (typeLookup (.ref C) "__init__") (some (.ref fI))) (hb : ∀ self, W.Looks (model prog w) h (bindSpecial (.ref fI) self) (.ref fI, [self])) (hz : pos.length ≤ sizeLine)
    (hq : codeAny (model prog w) A (.call (.ref fI) ⟨.ref (h.objs.size + 1) :: pos, kw⟩)
      (fun r s' => match r with | .ok (.ret v) => v = .none ∧ Q (.done (.ret (.ref (h.objs.size + 1)))) s' | .ok _ => False | .error e => E e s')
      ⟨(h.push (W.kdv_tup pos)).push (excO C h.objs.size), g, d, t, os⟩) :
    wpAny (model prog w) A (Builtin.«type.__call__» ⟨.ref C :: pos, kw⟩) Q E ⟨h, g, d, t, os⟩ := by
  have hrest : pos.length ≤ sizeLine := hz
  repeat (first
    | with_reducible refine wpAny_loadPart_at hC ?_
    | with_reducible refine wpAny_madeBy_exc hC ?_
    | wp_step)
  refine codeAny_call_builtin_code (Code.quiet_builtin _ F.quiet) (chkK F hT hC ?_)
  refine newK F hT hC hz ?_
  show wpAny _ _ _ _ _ _
  have k : ∀ b o, h.get? b = some o → ((h.push (W.kdv_tup pos)).push (excO C h.objs.size)).get? b = some o := fun b o e => Heap.get?_push_of_some _ (Heap.get?_push_of_some _ e)
  have hC1 := k _ _ hC
  have made : ((h.push (W.kdv_tup pos)).push (excO C h.objs.size)).get? (h.objs.size + 1) = some (excO C h.objs.size) := by heap_get
  have cC : (Value.ref C :: bm).contains (.ref C) = true := by simp
  have i1 := hi.keeps k
  have b1 := (hb (.ref (h.objs.size + 1))).keeps k
  unfold isInstance
  repeat (first
    | with_reducible refine wpAny_loadPart_at made ?_
    | (with_reducible refine wpAny_isSubtype_exc hC1 ?_; rw [cC])
    | wp_step)
  show wpAny _ _ (typeLookup (.ref C) _) _ _ _
  refine i1.at ?_
  refine wpAny_holding (wpAny_bind (b1.at ?_))
  refine wpAny_bind (wpAny_call (codeAny_mono hq fun r s' z => ?_))
  rcases r with e | (v | _ | _ | _)
  all_goals (first | exact z | exact z.elim | skip)
  obtain ⟨rfl, z⟩ := z
  first
    | exact wpAny_pure (wpAny_pure z)
    | (wp_walk; exact z)
theorem callK (F : ExcBaseFacts B nI iI bB) (hT : ∀ X : String, bm.contains (.type X) = bB.contains (.type X)) {fI : Addr}
    (hC : h.get? C = some (excClassObj nm q C N bs bm hdct sn sub ab col dd k0 k1 k2 k3 k5 nI))
    (hi : W.Looks (model prog w) h (typeLookup (.ref C) "__init__") (some (.ref fI))) (hb : ∀ self, W.Looks (model prog w) h (bindSpecial (.ref fI) self) (.ref fI, [self])) (hz : pos.length ≤ sizeLine)
    (hq : codeAny (model prog w) (A.under (.builtin "type.__call__" ⟨.ref C :: pos, kw⟩)) (.call (.ref fI) ⟨.ref (h.objs.size + 1) :: pos, kw⟩) (W.InitBack (h.objs.size + 1) R)
      ⟨(h.push (W.kdv_tup pos)).push (excO C h.objs.size), g, d, t, os⟩) :
    codeAny (model prog w) A (.call (.ref C) ⟨pos, kw⟩) R ⟨h, g, d, t, os⟩ := by
  have f1 := tc_lookup
  have f2 := tc_bind (.ref C)
  have ty : (⟨h, g, d, t, os⟩ : Shared).TypeIs (.ref C) "type" := ⟨_, hC, rfl⟩
  refine codeAny_of_tree ?_
  show wpAny _ _ (callAny (.ref C) _) _ _ _
  repeat (any_goals (first
    | assumption
    | with_reducible refine wpAny_loadPart_at hC ?_
    | wp_step))
  refine ⟨rfl, ?_⟩
  refine codeAny_call_builtin_at (Code.quiet_builtin _ (by decide +kernel)) entry_typeCall (wpAny_check_type_call_sub hC (tcK F hT hC hi hb hz ?_))
  refine codeAny_mono hq fun r s' z => ?_
  rcases r with e | (v | _ | _ | _) <;> exact z
end
end LwX
namespace LwX
open PySem PySem.W PySem.Calls
open Builtin Builtin.ObjectAttr
/-! ### what the top tells of an exception class -/
structure XC (K : Frag) (C : Addr) : Prop where
  base : ∃ (B nI iI : String) (bB : List Value), ExcBaseFacts B nI iI bB ∧ StoreFacts B bB "object.__setattr__" "object" ∧ excInitIn K C bB nI = true ∧ excOver K C bB = true
  hd : hasDictIn K C = true
  kp : keepIn K (.ref C) = true
  sa : findIn K (.ref C) "__setattr__" = some (some (.builtin "object.__setattr__"))
  ga : findIn K (.ref C) "__getattribute__" = some (some (.builtin "BaseException.__getattribute__"))
  gg : findIn K (.ref C) "__getattr__" = some none
  sub : subIn K (.ref C) (.type "BaseException") = some true
  ty : typeIn K (.ref C) = some (.type "type")
  cl : findIn K (.ref C) "__class__" = some (some (.builtin "object.__class__"))
  gt : specialIn K (.builtin "object.__class__") "__get__" = some (some (.builtin "getset_descriptor.__get__"))
  tk : takesIn K (.builtin "object.__class__") = some true
  mo : mroIn K C (.type "object") = some true
/-- a class whose attribute f is the instances' own -/
structure XF (K : Frag) (C : Addr) (f : Str) : Prop where
  no : findIn K (.ref C) f = some none
  tk : takerIn K C f = some none
/-- the mro of the built-in base -/
def bmOf (B : String) : List Value := [.type B, .type "Exception", .type "BaseException", .type "object"]
def baseB (K : Frag) (C : Addr) : Bool :=
  (excInitIn K C (bmOf "ValueError") "ValueError.__new__" && excOver K C (bmOf "ValueError")) || ((excInitIn K C (bmOf "LookupError") "LookupError.__new__" && excOver K C (bmOf "LookupError")) ||
  ((excInitIn K C (bmOf "RuntimeError") "RuntimeError.__new__" && excOver K C (bmOf "RuntimeError")) || (excInitIn K C (bmOf "ArithmeticError") "ArithmeticError.__new__" && excOver K C (bmOf "ArithmeticError"))))
def xcB (K : Frag) (C : Addr) : Bool := baseB K C && (hasDictIn K C && (keepIn K (.ref C) && (decide (findIn K (.ref C) "__setattr__" = some (some (.builtin "object.__setattr__"))) &&
  (decide (findIn K (.ref C) "__getattribute__" = some (some (.builtin "BaseException.__getattribute__"))) && (decide (findIn K (.ref C) "__getattr__" = some none) && (decide (subIn K (.ref C) (.type "BaseException") = some true) &&
  (decide (typeIn K (.ref C) = some (.type "type")) && (decide (findIn K (.ref C) "__class__" = some (some (.builtin "object.__class__"))) && (decide (specialIn K (.builtin "object.__class__") "__get__" = some (some (.builtin "getset_descriptor.__get__"))) &&
  (decide (takesIn K (.builtin "object.__class__") = some true) && decide (mroIn K C (.type "object") = some true)))))))))))
def xfB (K : Frag) (C : Addr) (f : Str) : Bool := decide (findIn K (.ref C) f = some none) && decide (takerIn K C f = some none)
theorem xf_ok {K : Frag} {C : Addr} {f : Str} (h : xfB K C f = true) : XF K C f := by
  obtain ⟨h1, h2⟩ := Bool.and_eq_true_iff.mp h
  exact ⟨of_decide_eq_true h1, of_decide_eq_true h2⟩
theorem xc_ok {K : Frag} {C : Addr} (h : xcB K C = true) : XC K C := by
  obtain ⟨h1, h⟩ := Bool.and_eq_true_iff.mp h
  obtain ⟨h2, h⟩ := Bool.and_eq_true_iff.mp h
  obtain ⟨h3, h⟩ := Bool.and_eq_true_iff.mp h
  obtain ⟨h4, h⟩ := Bool.and_eq_true_iff.mp h
  obtain ⟨h5, h⟩ := Bool.and_eq_true_iff.mp h
  obtain ⟨h6, h⟩ := Bool.and_eq_true_iff.mp h
  obtain ⟨h7, h⟩ := Bool.and_eq_true_iff.mp h
  obtain ⟨h8, h⟩ := Bool.and_eq_true_iff.mp h
  obtain ⟨h9, h⟩ := Bool.and_eq_true_iff.mp h
  obtain ⟨h10, h⟩ := Bool.and_eq_true_iff.mp h
  obtain ⟨h11, h12⟩ := Bool.and_eq_true_iff.mp h
  refine ⟨?_, h2, h3, of_decide_eq_true h4, of_decide_eq_true h5, of_decide_eq_true h6, of_decide_eq_true h7, of_decide_eq_true h8, of_decide_eq_true h9, of_decide_eq_true h10, of_decide_eq_true h11, of_decide_eq_true h12⟩
  unfold baseB at h1
  rcases Bool.or_eq_true_iff.mp h1 with z | h1
  · obtain ⟨z1, z2⟩ := Bool.and_eq_true_iff.mp z
    exact ⟨_, _, _, _, F.excBase_ValueError, F.store_ValueError, z1, z2⟩
  rcases Bool.or_eq_true_iff.mp h1 with z | h1
  · obtain ⟨z1, z2⟩ := Bool.and_eq_true_iff.mp z
    exact ⟨_, _, _, _, F.excBase_LookupError, F.store_LookupError, z1, z2⟩
  rcases Bool.or_eq_true_iff.mp h1 with z | z
  · obtain ⟨z1, z2⟩ := Bool.and_eq_true_iff.mp z
    exact ⟨_, _, _, _, F.excBase_RuntimeError, F.store_RuntimeError, z1, z2⟩
  · obtain ⟨z1, z2⟩ := Bool.and_eq_true_iff.mp z
    exact ⟨_, _, _, _, F.excBase_ArithmeticError, F.store_ArithmeticError, z1, z2⟩
/-! ### self.f = v, the first one and a further one -/
section
variable {prog : Program} {w : World} {A : Around} {R : Result → Shared → Prop} {K : Frag} {x C dx : Addr} {f : Str} {tk : Tok} {v : Value}
variable {hp : Heap} {g : Array GenState} {d : Drawn} {t : Nat} {os : OsState} {fv : Array Value} {t0 : Addr}
theorem osaN (T : XC K C) (F : XF K C f) (X : K.In hp) (hx : hp.get? x = some (PySem.HandSPX.excO C t0))
    (hq : ∀ h' tk' dx, (∀ b o, b ≠ x → hp.get? b = some o → h'.get? b = some o) → hp.objs.size ≤ dx → dx ≠ x → h'.get? x = some { cls := .ref C, dict := some dx, data := .fields #[.ref t0, .none, .none, .none, .bool false, .none] } →
      h'.Ns1 dx (fun y => if y = f then some v else none) → R (.ok (.ret .none)) ⟨h', g, d, tk', os⟩) :
    codeAny (model prog w) A (.call (.builtin "object.__setattr__") ⟨[.ref x, .str f tk, v], []⟩) R ⟨hp, g, d, t, os⟩ := by
  obtain ⟨B, nI, iI, bB, _, SF, _, ov⟩ := T.base
  have I : InstAt hp x (PySem.HandSPX.excO C t0) C none := ⟨hx, rfl, rfl, trivial⟩
  refine osa_openX (s := ⟨hp, g, d, t, os⟩) SF X I ov F.tk fun b => ?_
  show wpAny _ _ (storeInOwnDict (.ref x) (.ref C) (.str f tk) f v b) _ _ _
  obtain ⟨cd, hc, hh⟩ := any_some T.hd
  have Lc : Looks (model prog w) hp (classData C) cd := looks_clsIn X hc
  have nx : x ≠ hp.objs.size := Nat.ne_of_lt (Heap.lt_size hx)
  obtain ⟨nm, bs, mro, ns, qn, hd, sn, sb, ab, col, del⟩ := cd
  dsimp only at hh
  subst hh
  unfold storeInOwnDict ownDictForStores
  repeat (first
    | with_reducible refine PySem.HandSPX.store_in_new ?_ ?_
    | with_reducible refine wpAny_loadPart_at hx ?_
    | with_reducible refine Lc.at ?_
    | wp_step)
  · exact ⟨_, #[], _, (Heap.get?_update_ne _ _ _ _ nx.symm).trans (Heap.get?_push_at rfl rfl), rfl, fun e he => absurd he (by simp), fun _ => rfl⟩
  · intro h' tk' hn' hs
    have hx1 : (hp.push { cls := .type "dict", data := .dict #[] }).get? x = some (PySem.HandSPX.excO C t0) := Heap.get?_push_of_some _ hx
    refine hq h' tk' hp.objs.size (fun b o hb ho => ?_) (Nat.le_refl _) nx.symm ?_ hn'
    · exact (hs.2 b (Nat.ne_of_lt (Heap.lt_size ho))).trans ((Heap.get?_update_ne _ _ _ _ hb).trans (Heap.get?_push_of_some _ ho))
    · exact (hs.2 x nx).trans (Heap.get?_update_self _ hx1 rfl)
theorem osaD {m0 : Str → Option Value} {nl : List Str} (T : XC K C) (F : XF K C f) (X : K.In hp) (hx : hp.get? x = some { cls := .ref C, dict := some dx, data := .fields fv }) (hns : hp.Ns1 dx m0) (hw : Within m0 nl) (hz : nl.length ≤ 1000)
    (hq : ∀ h' tk', (∀ b o, b ≠ dx → hp.get? b = some o → h'.get? b = some o) → h'.Ns1 dx (fun y => if y = f then some v else m0 y) → R (.ok (.ret .none)) ⟨h', g, d, tk', os⟩) :
    codeAny (model prog w) A (.call (.builtin "object.__setattr__") ⟨[.ref x, .str f tk, v], []⟩) R ⟨hp, g, d, t, os⟩ := by
  obtain ⟨B, nI, iI, bB, _, SF, _, ov⟩ := T.base
  obtain ⟨oD, _, _, hoD, _, _⟩ := hns.count hw
  have I : InstAt hp x { cls := .ref C, dict := some dx, data := .fields fv } C (some oD) := ⟨hx, rfl, rfl, hoD⟩
  refine osa_openX (s := ⟨hp, g, d, t, os⟩) SF X I ov F.tk fun b => ?_
  show wpAny _ _ (storeInOwnDict (.ref x) (.ref C) (.str f tk) f v b) _ _ _
  obtain ⟨cd, hc, hh⟩ := any_some T.hd
  have Lc : Looks (model prog w) hp (classData C) cd := looks_clsIn X hc
  obtain ⟨nm, bs, mro, ns, qn, hd, sn, sb, ab, col, del⟩ := cd
  dsimp only at hh
  subst hh
  unfold storeInOwnDict ownDictForStores
  repeat (first
    | with_reducible refine PySem.OEX.store_in_old hns hw hz ?_
    | with_reducible refine wpAny_loadPart_at hx ?_
    | with_reducible refine Lc.at ?_
    | wp_step)
  intro h' tk' hn' hs
  exact hq h' tk' (fun b o hb ho => (hs.2 b hb).trans ho) hn'
end
end LwX
namespace Lw
open PySem PySem.Spec PyProof.Rows L2
open LwX (XC XF)
/-! ### self.f = v in an exception's own __init__ -/
section
variable {X : Cx} {pins : List (Addr × Obj)} {σ : L2.St} {H : Hp} {s : Shared} {a C dx : Addr} {f : Str} {y : V} {u : Value} {fs : List (Str × V)} {Q : Unit → Shared → Prop} {E : Value → Shared → Prop} {A : Around}
theorem xst_new (T : XC X.K C) (F : XF X.K C f) (I : Inv X pins σ H s) (e : H a = some (exo a C none)) (ry : RelV y u)
    (h : ∀ dx s', H dx = none → dx ≠ a → Inv X pins σ (upd (upd H dx (exd dx [(f, y)])) a (exo a C (some dx))) s' → Q () s') : wpAny (model X.prog X.w) A (setAttr (.ref a) f u) Q E s := by
  obtain ⟨t1, ho⟩ := exo_at I.hok e
  obtain ⟨hp, g, d, t, os⟩ := s
  refine PySem.W.set_plain I.kIn (ox := { cls := .ref C, dict := none, data := .fields #[.ref t1, .none, .none, .none, .bool false, .none] }) (od := none) ⟨ho, rfl, rfl, trivial⟩ T.sa ?_
  refine LwX.osaN T F I.kIn ho fun h2 tk2 dx k dn dne hx hn => ?_
  have free : H dx = none := I.hok.fresh dn
  have old : ∀ {b : Addr} {o : Obj}, hp.get? b = some o → b ≠ dx := fun {b o} q => Nat.ne_of_lt (Nat.lt_of_lt_of_le (Heap.lt_size q) dn)
  have off : ∀ {b : Addr}, H b = none → b ≠ a := fun {b} n z => by
    rw [z, e] at n
    cases n
  have un : Un X.fs [] H (upd (upd H dx (exd dx [(f, y)])) a (exo a C (some dx))) hp h2 := {
    keep := fun b o q n _ _ => k b o (off n) q
    slot := fun b o q n _ _ => ⟨o.slots, k b o (off n) q⟩
    free := fun b o q n _ => by
      rw [upd_ne (off n), upd_ne (old q)]
      exact n
    there := fun b o q _ => by
      by_cases hb : b = a
      · exact ⟨_, hb ▸ hx⟩
      · exact ⟨o, k b o hb q⟩
    tups := fun b xs q => by
      rw [upd_ne (at_ne e q exo_tup), upd_ne (ne_of_none q free)]
      exact q
    frzs := fun b o v q => by
      rw [upd_ne (at_ne e q exo_frz), upd_ne (ne_of_none q free)]
      exact q
    tbls := fun b ps q => ⟨#[], by
      rw [upd_ne (at_ne e q exo_tbl), upd_ne (ne_of_none q free), q]
      simp⟩ }
  refine h dx _ free dne (I.un (t' := tk2) un fun b o q => ?_)
  by_cases hb : b = a
  · subst hb
    rw [upd_same] at q
    cases q
    exact exo_ok hx
  rw [upd_ne hb] at q
  by_cases hd : b = dx
  · subst hd
    rw [upd_same] at q
    cases q
    exact exd_ok hn (relO_put (fs := []) ry fun _ => True.intro)
  rw [upd_ne hd] at q
  refine (I.hok b o q).stay (fun c v hc z => k c v ?_ z) (fun c hc => ?_) (fun c xs hc => ?_)
  · rcases hc with rfl | hc
    · exact hb
    · exact at_ne e hc exo_own
  · rw [upd_ne (at_ne e hc exo_own), upd_ne (ne_of_none hc free)]
    exact hc
  · rw [upd_ne (at_ne e hc exo_tup), upd_ne (ne_of_none hc free)]
    exact hc
theorem xst_old (T : XC X.K C) (F : XF X.K C f) (I : Inv X pins σ H s) (e : H a = some (exo a C (some dx))) (ed : H dx = some (exd dx fs)) (hl : fs.length ≤ 900) (ry : RelV y u)
    (h : ∀ s', Inv X pins σ (upd H dx (exd dx ((f, y) :: fs))) s' → Q () s') : wpAny (model X.prog X.w) A (setAttr (.ref a) f u) Q E s := by
  obtain ⟨t1, ho⟩ := exo_at I.hok e
  obtain ⟨mA, hns, rel⟩ := exd_at I.hok ed
  have hw := within_of rel
  obtain ⟨hp, g, d, t, os⟩ := s
  obtain ⟨oD, _, _, hoD, _, _⟩ := hns.count hw
  refine PySem.W.set_plain I.kIn (ox := { cls := .ref C, dict := some dx, data := .fields #[.ref t1, .none, .none, .none, .bool false, .none] }) (od := some oD) ⟨ho, rfl, rfl, hoD⟩ T.sa ?_
  refine LwX.osaD T F I.kIn ho hns hw (by rw [List.length_map]; omega) fun h2 tk2 k hn => ?_
  obtain ⟨o2, es2, ep2, e2, r2⟩ := hn
  exact h _ (I.write (t' := tk2) (x := dx) (e := dx) (o := exd dx ((f, y) :: fs)) (by rw [ed]; exact True.intro) (.inl rfl) k ⟨o2, e2⟩ (exd_ok ⟨o2, es2, ep2, e2, r2⟩ (relO_put ry rel)))
end
/-- self.f = e: the reading -/
def tXst (K : PySem.W.Frag) (f : Str) (to te : TE) : TS := fun D σ H => te σ H fun y H1 => to σ H1 fun x H2 => ∃ a C : Addr, x = .ref a ∧ XC K C ∧ XF K C f ∧
  ((H2 a = some (exo a C none) ∧ ∀ dx, H2 dx = none → dx ≠ a → D.nx σ (upd (upd H2 dx (exd dx [(f, y)])) a (exo a C (some dx)))) ∨
    ∃ (dx : Addr) (fs : List (Str × V)), H2 a = some (exo a C (some dx)) ∧ H2 dx = some (exd dx fs) ∧ fs.length ≤ 900 ∧ D.nx σ (upd H2 dx (exd dx ((f, y) :: fs))))
theorem ps_xst {X : Cx} {o e : Expr} {to te : TE} {f : Str} {p' pos : Pos} (ho : PE X o to) (he : PE X e te) (hs : swapsWith e (some (.Attribute o f p')) pos.line X.env = pure false := by rfl) : PS X (.Assign [.Attribute o f p'] e pos) (tXst X.K f to te) := by
  constructor
  intro pins s σ H D I h
  refine plainObj_wpAny_Assign_Attribute (thn (he.run pins s σ H _ I h) fun v s1 h1 => ?_) hs
  obtain ⟨y, H1, I1, r1, q1⟩ := h1
  refine thn (ho.run pins s1 σ H1 _ I1 q1) fun u s2 h2 => ?_
  obtain ⟨x, H2, I2, r2, a, C, rfl, T, F, q⟩ := h2
  obtain rfl : u = Value.ref a := r2
  rcases q with ⟨ea, q⟩ | ⟨dx, fs, ea, ed, hl, q⟩
  · exact xst_new T F I2 ea r1 fun dx s3 n ne J => ⟨σ, _, J, q dx n ne⟩
  · exact xst_old T F I2 ea ed hl r1 fun s3 J => ⟨σ, _, J, q⟩
/-! ### an exception as a value -/
/-- at a: an exception of the class at C whose own attributes are fs -/
def Xo (H : Hp) (a C : Addr) (fs : List (Str × V)) : Prop := (fs = [] ∧ H a = some (exo a C none)) ∨ ∃ d, H a = some (exo a C (some d)) ∧ H d = some (exd d fs)
theorem Xo.same {H H' : Hp} {a C : Addr} {fs : List (Str × V)} (x : Xo H a C fs) (s : Same H H') : Xo H' a C fs := by
  rcases x with ⟨e, h⟩ | ⟨d, h1, h2⟩
  · exact .inl ⟨e, s _ _ h⟩
  · exact .inr ⟨d, s _ _ h1, s _ _ h2⟩
/-- e.f -/
def tXat (K : PySem.W.Frag) (f : Str) (te : TE) : TE := fun σ H Q => te σ H fun x H1 => ∃ (a C : Addr) (fs : List (Str × V)) (v : V), x = .ref a ∧ Xo H1 a C fs ∧ XC K C ∧ XF K C f ∧ fs.lookup f = some v ∧ Q v H1
theorem pe_xat {X : Cx} {e : Expr} {te : TE} {f : Str} {pos : Pos} (he : PE X e te) (hb : attributeBase e f X.env (eval e X.env) = eval e X.env := by rfl) : PE X (.Attribute e f pos) (tXat X.K f te) := by
  constructor
  intro pins s σ H Q I h
  refine attr_of hb (thn (he.run pins s σ H _ I h) fun u s1 hh => ?_)
  obtain ⟨x, H1, I1, rx, a, C, fs, v, rfl, xo, T, F, l, q⟩ := hh
  obtain rfl : u = Value.ref a := rx
  rcases xo with ⟨rfl, _⟩ | ⟨d, h1, h2⟩
  · cases l
  · obtain ⟨t1, ho⟩ := exo_at I1.hok h1
    obtain ⟨mA, hns, hr⟩ := exd_at I1.hok h2
    obtain ⟨od, hod, hl⟩ := lookIn_ns hns
    obtain ⟨w', hw, rw'⟩ := RelO.some_of (v := v) (o := mA f) (by rw [← l]; exact hr f)
    have J : PySem.W.InstAt s1.heap a { cls := .ref C, dict := some d, data := .fields #[.ref t1, .none, .none, .none, .bool false, .none] } C (some od) := ⟨ho, rfl, rfl, hod⟩
    exact HandSPX.exc_get I1.kIn J T.ga T.gg T.sub (PySem.W.findObj_own T.hd F.no rfl (by rw [hl, hw])) (handed_of rw') ⟨v, H1, I1.tok _, rw', q⟩
/-- isinstance(e, c) of such a value -/
def rIsX (K : PySem.W.Frag) : List V → Hp → VK → Prop := fun xs H Q => ∃ (a C : Addr) (fs : List (Str × V)) (c : V) (cv : Value) (b : Bool), xs = [.ref a, c] ∧ Xo H a C fs ∧ XC K C ∧ (∀ u, RelV c u → u = cv) ∧ PySem.W.kitOne K (.ref C) cv = some b ∧ Q (.bl b) H
theorem call_isX {X : Cx} : CallR X (.builtin "isinstance") (rIsX X.K) := by
  intro pins s σ H xs us Q I r h
  obtain ⟨a, C, fs, c, cv, b, rfl, xo, T, hcv, e, q⟩ := h
  cases r with
  | cons rx rr =>
    cases rr with
    | cons rt rr =>
      cases rr
      cases rx
      have ec := hcv _ rt
      subst ec
      obtain ⟨ox, od, J⟩ : ∃ (ox : Obj) (od : Option Obj), PySem.W.InstAt s.heap a ox C od := by
        rcases xo with ⟨_, h1⟩ | ⟨d, h1, h2⟩
        · obtain ⟨t1, ho⟩ := exo_at I.hok h1
          exact ⟨_, none, ho, rfl, rfl, trivial⟩
        · obtain ⟨t1, ho⟩ := exo_at I.hok h1
          obtain ⟨mA, hns, _⟩ := exd_at I.hok h2
          obtain ⟨od, hod, _⟩ := lookIn_ns hns
          exact ⟨_, some od, ho, rfl, rfl, hod⟩
      have hcl : (PySem.W.clsIn X.K C).isSome = true := by
        obtain ⟨cd, hc, _⟩ := PySem.W.any_some T.hd
        rw [hc]
        rfl
      exact PySem.W.kia_one (PySem.W.kitx_exc hcl T.ga T.gg T.sub T.cl T.gt T.tk T.mo) I.kIn J e (fun z => nomatch z) fun tk => ⟨.bl b, H, I.kept (t' := tk) fun _ _ z => z, rfl, q⟩
/-! ### C(e, ..), C(f = e, ..) -/
/-- a class of the top with an __init__ of its own -/
structure XCls (P : Program) (w : World) (K : PySem.W.Frag) (mg : Str → Option Value) (base : Heap) (k : Nat) (x : Str) (C : Addr) (ps : List Str) (sp : Sp) : Prop where
  g : mg x = some (.ref C)
  xc : XC K C
  ini : ∃ fI fd, PySem.W.findIn K (.ref C) "__init__" = some (some (.ref fI)) ∧ PySem.W.typeIn K (.ref fI) = some (.type "function") ∧ FnG P w K mg base CX0 k fI fd ps sp ∧ Binds K fd ps [] ∧
    ∀ (us ws : List Value) (s : Shared), us.length = 1 → ws.length = (ps.drop 1).length → BindsTo s fd ⟨us, (ps.drop 1).reverse.zip ws⟩ (ps.zip (us ++ ws.reverse))
theorem Vals.reverse : ∀ {xs : List V} {us : List Value}, Vals xs us → Vals xs.reverse us.reverse
  | _, _, .nil => .nil
  | _, _, .cons r t => by
    rw [List.reverse_cons, List.reverse_cons]
    exact L2.Vals.append (Vals.reverse t) (.cons r .nil)
section
variable {X : Cx} {k : Nat} {x : Str} {C : Addr} {ps : List Str} {sp : Sp} {p pos : Pos} {e : Expr} {es : List Expr} {kws : List Keyword} {t tk : TA}
/-- the promise of C(..): an exception at a, not yet filled, then its __init__ -/
def xmk (C : Addr) (sp : Sp) (vs : List V) (H : Hp) (Q : VK) : Prop := ∀ a, H a = none → sp (.ref a :: vs) (upd H a (exo a C none)) (fun v H2 => v = .non ∧ Q (.ref a) H2) E0
theorem run_xmk {pins : List (Addr × Obj)} {σ : L2.St} {H : Hp} {s : Shared} {Q : VK} {us : List Value} {kw : List (Str × Value)} {vs : List V} {bs : List Value} {fI : Addr} {fd : FuncData} (T : XC X.K C)
    (hi : PySem.W.findIn X.K (.ref C) "__init__" = some (some (.ref fI))) (ti : PySem.W.typeIn X.K (.ref fI) = some (.type "function")) (F : FnG X.prog X.w X.K X.mg X.base CX0 k fI fd ps sp) (gd : X.A.guards = some []) (hr : Room (k + 1) X.A)
    (I : Inv X pins σ H s) (hz : us.length ≤ sizeLine) (r : Vals vs bs) (hb : ∀ (s : Shared) (a : Addr), X.K.In s.heap → BindsTo s fd ⟨.ref a :: us, kw⟩ (ps.zip (.ref a :: bs))) (h : xmk C sp vs H Q) :
    wpAny (model X.prog X.w) X.A (call (.ref C) us kw) (EP X pins σ Q) X.xe s := by
  obtain ⟨B, nI, iI, bB, FB, _, q, _⟩ := T.base
  obtain ⟨hp, g, dr, tok, os⟩ := s
  obtain ⟨nm, N, qn, bs', bm, hdct, sn, sub, ab, col, dd, k0, k1, k2, k3, k5, hC, hT⟩ := PySem.W.excInit_of (h := hp) I.kIn q
  have hsz : hp.objs.size ≤ hp.objs.size + 1 := Nat.le_succ _
  have hn : H (hp.objs.size + 1) = none := I.hok.fresh hsz
  have hq := h (hp.objs.size + 1) hn
  have kk : ∀ b o, hp.get? b = some o → ((hp.push (PySem.W.kdv_tup us)).push (PySem.HandSPX.excO C hp.objs.size)).get? b = some o := fun b o z => Heap.get?_push_of_some _ (Heap.get?_push_of_some _ z)
  have made : ((hp.push (PySem.W.kdv_tup us)).push (PySem.HandSPX.excO C hp.objs.size)).get? (hp.objs.size + 1) = some (PySem.HandSPX.excO C hp.objs.size) := by heap_get
  have I2 : Inv X pins σ (upd H (hp.objs.size + 1) (exo (hp.objs.size + 1) C none)) ⟨(hp.push (PySem.W.kdv_tup us)).push (PySem.HandSPX.excO C hp.objs.size), g, dr, tok, os⟩ :=
    I.laid (t' := tok) (a := hp.objs.size + 1) (o := exo (hp.objs.size + 1) C none) kk hsz (exo_ok made)
  refine wpAny_call (LwX.callK FB hT hC (PySem.W.looks_findIn I.kIn hi) (fun self => PySem.W.bind_fn I.kIn self ti) hz
    (codeAny_mono (F.go (vs := .ref (hp.objs.size + 1) :: vs) (us := .ref (hp.objs.size + 1) :: bs) ?_ (hr.make C us kw) (I2.env0.make C us kw) (hb _ _ I2.kIn) (.cons rfl r) hq) fun r s2 hq2 => ?_))
  · simp [Around.under, pushGuards, gd, Code.guards, Code.isGuard, guardIds]
  · cases r with
    | error er => exact hq2.elim
    | ok fl =>
      cases fl with
      | next => exact hq2.elim
      | brk => exact hq2.elim
      | cont => exact hq2.elim
      | ret u =>
        obtain ⟨v, H3, I3, rv, rfl, q3⟩ := I2.after hq2
        exact ⟨rv, ⟨.ref (hp.objs.size + 1), H3, I3, rfl, q3⟩⟩
def tXmk (C : Addr) (sp : Sp) (t : TA) : TE := fun σ H Q => t σ H fun vs H1 => vs.length ≤ 1000 ∧ xmk C sp vs H1 Q
theorem pe_xmk (T : XCls X.prog X.w X.K X.mg X.base k x C ps sp) {j : Nat} (gd : X.A.guards = some []) (hr : Room j X.A) (ha : PA X (e :: es) t) (hj : k + 1 ≤ j := by decide) (hg : Gl X x := by rfl) (hdb : (x == ("__debug__" : Str)) = false := by decide)
    (he : starEach (e :: es) X.env = (false, eval e X.env) :: starEach es X.env := by rfl) (hpl : (backTo pos (starEach es X.env)).any (·.1) = false := by rfl) :
    PE X (.Call (.Name x p) (e :: es) [] pos) (tXmk C sp t) := by
  obtain ⟨fI, fd, hi, ti, F, hb, _⟩ := T.ini
  constructor
  intro pins s σ H Q I h
  refine wpAny_Call_Name_kw (ld_glob I hg T.g ?_ hdb)
  refine PySem.W.callWith_K (h₀ := X.base) I.ok.mod.kin T.xc.kp (thn (ha.run pos pins s σ H _ I h) fun us s1 hh => ?_) he hpl
  obtain ⟨vs, H1, I1, r, hz, q⟩ := hh
  refine ⟨I1.kIn, run_xmk T.xc hi ti F gd (hr.mono hj) I1 (by show us.length ≤ sizeLine; rw [← r.length, sizeLine_eq]; omega) r (fun s a hk => ?_) q⟩
  have hl : (Value.ref a :: us ++ []).length = ps.length := by
    rw [List.append_nil, List.length_cons, ← r.length]
    have := F.len _ _ _ _ (q (s1.heap.objs.size + 1) (I1.hok.fresh (Nat.le_succ _)))
    rw [← this]
    rfl
  have z := hb s (.ref a :: us) hk hl
  rw [List.append_nil] at z
  exact z
theorem pe_xmk0 (T : XCls X.prog X.w X.K X.mg X.base k x C ps sp) {j : Nat} (gd : X.A.guards = some []) (hr : Room j X.A) (hj : k + 1 ≤ j := by decide) (hg : Gl X x := by rfl) (hdb : (x == ("__debug__" : Str)) = false := by decide) :
    PE X (.Call (.Name x p) [] [] pos) (tXmk C sp tNil) := by
  obtain ⟨fI, fd, hi, ti, F, hb, _⟩ := T.ini
  constructor
  intro pins s σ H Q I h
  obtain ⟨_, q⟩ := h
  refine wpAny_Call_Name_kw (ld_glob I hg T.g ?_ hdb)
  refine PySem.W.callWith_K0 I.kIn T.xc.kp (run_xmk T.xc hi ti F gd (hr.mono hj) I (Nat.zero_le _) .nil (fun s3 a hk => ?_) q)
  have hl : ([Value.ref a] ++ []).length = ps.length := F.len _ _ _ _ (q s.heap.objs.size (I.hok.fresh (Nat.le_refl _)))
  exact hb s3 [.ref a] hk hl
/-- with all values by name, in the other sequence -/
def tXmkK (C : Addr) (sp : Sp) (tk : TA) : TE := fun σ H Q => tk σ H fun vs H1 => xmk C sp vs.reverse H1 Q
theorem pe_xmkK (T : XCls X.prog X.w X.K X.mg X.base k x C ps sp) {j : Nat} (gd : X.A.guards = some []) (hr : Room j X.A) (hkw : PK X kws tk) (hj : k + 1 ≤ j := by decide) (hg : Gl X x := by rfl) (hdb : (x == ("__debug__" : Str)) = false := by decide)
    (hall : (backToKw pos (keywordEach kws X.env)).all (·.1.isSome) = true := by rfl) (hks : (backToKw pos (keywordEach kws X.env)).filterMap (·.1) = (ps.drop 1).reverse := by rfl)
    (hpl : ((backTo pos (starEach [] X.env)).any (·.1) || (backToKw pos (keywordEach kws X.env)).any (·.1.isNone)) = false := by rfl) :
    PE X (.Call (.Name x p) [] kws pos) (tXmkK C sp tk) := by
  obtain ⟨fI, fd, hi, ti, F, _, hb⟩ := T.ini
  constructor
  intro pins s σ H Q I h
  refine wpAny_Call_Name_kw (ld_glob I hg T.g ?_ hdb)
  refine PySem.W.callWith_KW0 (h₀ := X.base) I.ok.mod.kin T.xc.kp hall ?_ hpl
  refine thn (hkw.run pos pins s σ H _ I h) fun ws s2 hh => ?_
  obtain ⟨zs, H2, I2, rz, q⟩ := hh
  refine ⟨I2.kIn, ?_⟩
  rw [hks]
  have hl : zs.length = (ps.drop 1).length := by
    have z := F.len _ _ _ _ (q (s2.heap.objs.size + 1) (I2.hok.fresh (Nat.le_succ _)))
    rw [List.length_cons, List.length_reverse] at z
    rw [List.length_drop]
    omega
  refine run_xmk (us := []) (bs := ws.reverse) T.xc hi ti F gd (hr.mono hj) I2 (Nat.zero_le _) (Vals.reverse rz) (fun s a hk => ?_) q
  exact hb [.ref a] ws s rfl (rz.length.symm.trans hl)
end
end Lw
namespace Lw
open PySem PySem.Spec PyProof.Rows L2 Evl
open LwX (XC XF)
section
variable {K : PySem.W.Frag} {σ : L2.St} {H H' : Hp} {ta tb te : TE} {xs ys : List V}
/-! ### lists put together, repeated -/
theorem el_cat (ha : EvL ta σ H xs) (hb : EvL tb σ H ys) (hz : xs.length + ys.length ≤ 100000) : EvL (tOp rCat ta tb) σ H (xs ++ ys) := fun H1 e Q q =>
  ha H1 e _ fun p H2 hp e2 hl => hb H2 (e.trans e2) _ fun r H3 hr e3 hl3 => ⟨p, r, xs, ys, rfl, rfl, e3 _ _ hl, hl3, sz_of hz, fun t ht => q t _ (fresh_back (e2.trans e3) ht) ((e2.trans e3).trans (Ex.new ht)) upd_same⟩
/-- the first one stands already -/
theorem el_catV {p : Addr} (ha : Ev ta σ H (.ref p)) (hp : H p = some (.lst xs)) (hb : EvL tb σ H ys) (hz : xs.length + ys.length ≤ 100000) : EvL (tOp rCat ta tb) σ H (xs ++ ys) := fun H1 e Q q =>
  ha H1 e _ fun H2 e2 => hb H2 (e.trans e2) _ fun r H3 hr e3 hl3 => ⟨p, r, xs, ys, rfl, rfl, e3 _ _ (e2 _ _ (e _ _ hp)), hl3, sz_of hz, fun t ht => q t _ (fresh_back (e2.trans e3) ht) ((e2.trans e3).trans (Ex.new ht)) upd_same⟩
theorem flatten_rep1 (n : Nat) (v : V) : (List.replicate n [v]).flatten = List.replicate n v := by
  induction n with
  | zero => rfl
  | succ n ih => rw [List.replicate_succ, List.flatten_cons, ih, List.replicate_succ]; rfl
/-- [v] * n -/
theorem el_rep1 {v : V} {n : Nat} (ha : EvL ta σ H [v]) (hb : ∀ H1, Ex H H1 → Ev tb σ H1 (.int (n : Int))) (hz : n ≤ 100000) : EvL (tOp rRep ta tb) σ H (List.replicate n v) := fun H1 e Q q =>
  ha H1 e _ fun p H2 hp e2 hl => hb H2 (e.trans e2) H2 (Ex.refl _) _ fun H3 e3 => ⟨p, (n : Int), [v], rfl, rfl, e3 _ _ hl, by omega, by omega, by
    show 1 * (n : Int).toNat ≤ sizeLine
    rw [Nat.one_mul, Int.toNat_natCast]
    exact sz_of hz, fun t ht => by
    rw [Int.toNat_natCast, flatten_rep1]
    exact q t _ (fresh_back (e2.trans e3) ht) ((e2.trans e3).trans (Ex.new ht)) upd_same⟩
/-- two lists of plain data compared, both new -/
theorem ev_neD {d e : PyData} (ha : EvL ta σ H xs) (hb : EvL tb σ H ys) (hd : ∀ H1 p, Ex H H1 → H1 p = some (.lst xs) → Dp K H1 (.ref p) d) (he : ∀ H1 p, Ex H H1 → H1 p = some (.lst ys) → Dp K H1 (.ref p) e)
    (sd : SeqAt.shaped d = true) (se : SeqAt.shaped e = true) : Ev (tOp (rNeD K) ta tb) σ H (.bl (!PyData.eqv d e)) := fun H1 e1 Q q =>
  ha H1 e1 _ fun p H2 hp e2 hl => hb H2 (e1.trans e2) _ fun r H3 hr e3 hl3 => ⟨d, e, hd H3 p (e1.trans (e2.trans e3)) (e3 _ _ hl), he H3 r (e1.trans (e2.trans e3)) hl3, sd, se, q H3 (e2.trans e3)⟩
/-! ### loops over enumerate(xs) -/
theorem for_enum {a : Addr} {xs : List V} {g : TG} {tb : TS} {D : Ends} (Pv : Nat → L2.St → Hp → Prop) (h0 : Pv 0 σ H) (hl : ∀ i σ H, i ≤ xs.length → Pv i σ H → SqL K H a xs)
    (hs : ∀ i x σ H T, xs[i]? = some x → Pv i σ H → H T = none → g (.ref T) σ (upd H T (.tup [.int (i : Nat), x])) fun σ2 H2 => tb { D with nx := Pv (i + 1), ct := Pv (i + 1), bk := D.nx } σ2 H2) (hd : ∀ σ H, Pv xs.length σ H → D.nx σ H) :
    ∃ W : Nat → Nat → L2.St → Hp → Prop, (∃ m, W 0 m σ H) ∧ ∀ i m σ H, W i m σ H →
      ((Ite K a).stop i H ∧ D.nx σ H) ∨ ((Ite K a).go i H ∧ ∃ N : L2.St → Hp → Prop, (∀ σ' H', N σ' H' → ∃ m', m' < m ∧ W (i + 1) m' σ' H') ∧ ∀ x H', (Ite K a).yld i H x H' → g x σ H' fun σ2 H2 => tb { D with nx := N, ct := N, bk := D.nx } σ2 H2) := by
  refine ⟨fun i m σ H => i + m = xs.length ∧ Pv i σ H, ⟨xs.length, by omega, h0⟩, ?_⟩
  rintro i m σ H ⟨em, p⟩
  have q := hl i σ H (by omega) p
  by_cases c : i < xs.length
  · refine .inr ⟨⟨xs, xs[i], q, List.getElem?_eq_getElem c⟩, Pv (i + 1), fun σ' H' p' => ⟨m - 1, by omega, by omega, p'⟩, fun x H' y => ?_⟩
    obtain ⟨T, z, rfl, hT, rfl, hz⟩ := y
    exact hs i z σ H T (hz xs q) p hT
  · have e : i = xs.length := by omega
    subst e
    exact .inl ⟨⟨xs, q, Nat.le_refl _⟩, hd σ H p⟩
end
/-! ### what an exception's __init__ does -/
def spI0 (C : Addr) : Sp := fun vs H Q _ => ∃ a : Addr, vs = [.ref a] ∧ H a = some (exo a C none) ∧ Q .non H
def spI1 (f : Str) (C : Addr) : Sp := fun vs H Q _ => ∃ (a : Addr) (v : V), vs = [.ref a, v] ∧ H a = some (exo a C none) ∧ ∀ dx, H dx = none → dx ≠ a → Q .non (upd (upd H dx (exd dx [(f, v)])) a (exo a C (some dx)))
def spI2 (f g : Str) (C : Addr) : Sp := fun vs H Q _ => ∃ (a : Addr) (v w : V), vs = [.ref a, v, w] ∧ H a = some (exo a C none) ∧
  ∀ dx, H dx = none → dx ≠ a → Q .non (upd (upd (upd H dx (exd dx [(f, v)])) a (exo a C (some dx))) dx (exd dx [(g, w), (f, v)]))
theorem xmk0 {C : Addr} {H : Hp} {Q : VK} (k : ∀ a H', Ex H H' → Xo H' a C [] → Q (.ref a) H') : xmk C (spI0 C) [] H Q := fun a ha =>
  ⟨a, rfl, upd_same, rfl, k a _ (Ex.new ha) (.inl ⟨rfl, upd_same⟩)⟩
theorem off_upd {H : Hp} {a d : Addr} {o : HO} (h : upd H a o d = none) : H d = none ∧ d ≠ a := by
  by_cases z : d = a
  · rw [z, upd_same] at h
    cases h
  · rw [upd_ne z] at h
    exact ⟨h, z⟩
theorem xmk1 {C : Addr} {H : Hp} {f : Str} {v : V} {Q : VK} (k : ∀ a H', Ex H H' → Xo H' a C [(f, v)] → Q (.ref a) H') : xmk C (spI1 f C) [v] H Q := fun a ha => by
  refine ⟨a, v, rfl, upd_same, fun dx hd hne => ⟨rfl, ?_⟩⟩
  obtain ⟨hd', _⟩ := off_upd hd
  refine k a _ (fun b o e => ?_) (.inr ⟨dx, upd_same, ?_⟩)
  · rw [upd_ne (ne_of_none e ha), upd_ne (ne_of_none e hd'), upd_ne (ne_of_none e ha)]
    exact e
  · rw [upd_ne hne]
    exact upd_same
theorem xmk2 {C : Addr} {H : Hp} {f g : Str} {v w : V} {Q : VK} (k : ∀ a H', Ex H H' → Xo H' a C [(g, w), (f, v)] → Q (.ref a) H') : xmk C (spI2 f g C) [v, w] H Q := fun a ha => by
  refine ⟨a, v, w, rfl, upd_same, fun dx hd hne => ⟨rfl, ?_⟩⟩
  obtain ⟨hd', _⟩ := off_upd hd
  refine k a _ (fun b o e => ?_) (.inr ⟨dx, ?_, upd_same⟩)
  · rw [upd_ne (ne_of_none e hd'), upd_ne (ne_of_none e ha), upd_ne (ne_of_none e hd'), upd_ne (ne_of_none e ha)]
    exact e
  · rw [upd_ne hne.symm]
    exact upd_same
section
variable {P : Program} {w : World} {K : PySem.W.Frag} {mg : Str → Option Value} {base : Heap} {C fI : Addr} {fd : FuncData} {qual : Str} {params : Arguments} {scope : Scope}
/-- the body: self.f = f -/
theorem init1 {f : Str} {q1 q2 q3 q4 : Pos} (F : FunD K "__init__" qual params [.Assign [.Attribute (.Name "self" q1) f q2] (.Name f q3) q4] scope [] [] fI fd) (S : FnScope ["self", f] ["self", f] scope) (T : XC K C) (A : XF K C f)
    (l1 : scope.names.lookup ("self" : Str) = some .local) (l2 : scope.names.lookup f = some .local) (n1 : (f == ("__debug__" : Str)) = false) (n2 : (f == ("__classdict__" : Str)) = false) :
    FnG P w K mg base CX0 1 fI fd ["self", f] (spI1 f C) := by
  refine fnG F S (fun vs H Q E h => ?_) (fun cdv A' outer s H vs Q E gd hr h => ?_)
  · obtain ⟨a, v, rfl, _⟩ := h
    rfl
  · obtain ⟨a, v, rfl, ha, q⟩ := h
    refine ⟨_, PSs.nox (pss_one (ps_xst (pv 0 rfl (.inl l1)) (pv 1 rfl (.inl l2) n1 n2))), ?_⟩
    exact ⟨v, rfl, .ref a, rfl, a, C, rfl, T, A, .inl ⟨ha, fun dx hd ne => q dx hd ne⟩⟩
/-- self.f = f; self.g = g -/
theorem init2 {f g : Str} {q1 q2 q3 q4 r1 r2 r3 r4 : Pos} (F : FunD K "__init__" qual params [.Assign [.Attribute (.Name "self" q1) f q2] (.Name f q3) q4, .Assign [.Attribute (.Name "self" r1) g r2] (.Name g r3) r4] scope [] [] fI fd)
    (S : FnScope ["self", f, g] ["self", f, g] scope) (T : XC K C) (A : XF K C f) (B : XF K C g)
    (l1 : scope.names.lookup ("self" : Str) = some .local) (l2 : scope.names.lookup f = some .local) (l3 : scope.names.lookup g = some .local) (n1 : (f == ("__debug__" : Str)) = false) (n2 : (f == ("__classdict__" : Str)) = false)
    (n3 : (g == ("__debug__" : Str)) = false) (n4 : (g == ("__classdict__" : Str)) = false) :
    FnG P w K mg base CX0 1 fI fd ["self", f, g] (spI2 f g C) := by
  refine fnG F S (fun vs H Q E h => ?_) (fun cdv A' outer s H vs Q E gd hr h => ?_)
  · obtain ⟨a, v, w, rfl, _⟩ := h
    rfl
  · obtain ⟨a, v, w', rfl, ha, q⟩ := h
    refine ⟨_, PSs.nox (pss_cons (ps_xst (pv 0 rfl (.inl l1)) (pv 1 rfl (.inl l2) n1 n2)) (pss_one (ps_xst (pv 0 rfl (.inl l1)) (pv 2 rfl (.inl l3) n3 n4)))), ?_⟩
    refine ⟨v, rfl, .ref a, rfl, a, C, rfl, T, A, .inl ⟨ha, fun dx hd ne => ?_⟩⟩
    exact ⟨w', rfl, .ref a, rfl, a, C, rfl, T, B, .inr ⟨dx, _, upd_same, by rw [upd_ne ne]; exact upd_same, (by show 1 ≤ 900; decide), q dx hd ne⟩⟩
/-- pass -/
theorem init0 {q1 : Pos} (F : FunD K "__init__" qual params [.Pass q1] scope [] [] fI fd) (S : FnScope ["self"] ["self"] scope) : FnG P w K mg base CX0 1 fI fd ["self"] (spI0 C) := by
  refine fnG F S (fun vs H Q E h => ?_) (fun cdv A' outer s H vs Q E gd hr h => ?_)
  · obtain ⟨a, rfl, _⟩ := h
    rfl
  · obtain ⟨a, rfl, ha, q⟩ := h
    exact ⟨_, PSs.nox (pss_one ps_pass), q⟩
/-- how values by name are bound -/
theorem kbound {x : Str} {body : List Stmt} {ps : List Str} (F : FunD K x qual params body scope [] [] fI fd)
    (h : ∀ (kV doc pm : Value) (an : Option Addr) (cdv ct : Value) (us ws : List Value), us.length = 1 → ws.length = (ps.drop 1).length →
      bindArgs (PySem.W.fnOf x qual params body scope .none kV doc pm an cdv ct) ⟨us, (ps.drop 1).reverse.zip ws⟩ = pure (ps.zip (us ++ ws.reverse)))
    (us ws : List Value) (s : Shared) (h1 : us.length = 1) (h2 : ws.length = (ps.drop 1).length) : BindsTo s fd ⟨us, (ps.drop 1).reverse.zip ws⟩ (ps.zip (us ++ ws.reverse)) := by
  obtain ⟨oc, od, dV, kV, doc, pm, an, cdv, ct, osl, rfl, lk, hcd, hD, hK⟩ := F.ex
  rcases hD with ⟨_, rfl⟩ | ⟨e, _⟩
  · exact .of_eq (h kV doc pm an cdv ct us ws h1 h2)
  · exact absurd rfl e
end
end Lw
namespace Lw
open PySem PySem.Spec PyProof.Rows L2 Evl
/-! ### small data beside a pot -/
/-- data whose text is short -/
def Rok (d : PyData) : Prop := d.showable = true ∧ d.shown.length ≤ 2500 ∧ d.depth ≤ 10
/-- v is such data, whatever is drawn later -/
def Sm (P : Program) (w : World) (p : Addr) (H : Hp) (v : V) : Prop := ∃ d, Rok d ∧ ∀ H', Xp p H H' → Rw P w H' v d
section
variable {P : Program} {w : World} {p : Addr} {H H' : Hp} {σ : L2.St}
theorem Sm.on {v : V} (s : Sm P w p H v) (x : Xp p H H') : Sm P w p H' v := by
  obtain ⟨d, h, r⟩ := s
  exact ⟨d, h, fun H2 y => r H2 (x.trans y)⟩
theorem sm_int {i : Int} (h : i.natAbs.log2 < 1920) : Sm P w p H (.int i) := by
  refine ⟨.int i, ⟨by simpa [PyData.showable] using h, ?_, by simp [PyData.depth]⟩, fun H' _ => rw_int i⟩
  have := int_text_len_1921 h
  simp only [PyData.shown]
  exact Nat.le_trans this (by decide)
theorem log_of {i : Int} {k : Nat} (h : i.natAbs < 2 ^ k) (hk : k ≤ 1900) : i.natAbs.log2 < 1920 := by
  by_cases z : i.natAbs = 0
  · rw [z]
    decide
  · have := (Nat.log2_lt z).mpr h
    omega
theorem sm_small {i : Int} (h0 : -(2 ^ 120) < i) (h1 : i < 2 ^ 120) : Sm P w p H (.int i) := sm_int (log_of (k := 120) (by omega) (by decide))
theorem sm_bl (b : Bool) : Sm P w p H (.bl b) := by
  refine ⟨.bool b, ⟨rfl, ?_, by simp [PyData.depth]⟩, fun H' _ => rw_bl b⟩
  cases b
  · decide +kernel
  · decide +kernel
theorem sm_non : Sm P w p H .non := ⟨.none, ⟨rfl, by decide +kernel, by simp [PyData.depth]⟩, fun H' _ => rw_non⟩
theorem sm_str (x : Str) (h : (reprText x).length ≤ 2500) : Sm P w p H (.str x) := ⟨.str x, ⟨rfl, by simpa only [PyData.shown] using h, by simp [PyData.depth]⟩, fun H' _ => rw_str x⟩
theorem sm_obj {a : Addr} {o : HO} {d : PyData} (hr : Rok d) (n : a ≠ p) (e : H a = some o) (f : ∀ H', H' a = some o → Rw P w H' (.ref a) d) : Sm P w p H (.ref a) := ⟨d, hr, fun H' x => f H' (x.1 a o n e)⟩
/-! expressions, argument lists that give small data -/
def SmE (P : Program) (w : World) (p : Addr) (σ : L2.St) (te : TE) : Prop := ∀ H, Po p H → ∀ Q : VK, (∀ v H', Xp p H H' → Sm P w p H' v → Q v H') → te σ H Q
def SmA (P : Program) (w : World) (p : Addr) (σ : L2.St) (n : Nat) (ta : TA) : Prop := ∀ H, Po p H → ∀ Q : List V → Hp → Prop, (∀ vs H', Xp p H H' → vs.length = n → (∀ v ∈ vs, Sm P w p H' v) → Q vs H') → ta σ H Q
theorem sa_nil : SmA P w p σ 0 tNil := fun H hp Q q => q [] H (.refl hp) rfl (fun _ z => nomatch z)
theorem sa_cons {n : Nat} {te : TE} {ta : TA} (h : SmE P w p σ te) (hr : SmA P w p σ n ta) : SmA P w p σ (n + 1) (tCons te ta) := fun H hp Q q =>
  h H hp _ fun v H1 x1 s1 => hr H1 x1.2 _ fun vs H2 x2 hl hs => q _ H2 (x1.trans x2) (by rw [List.length_cons, hl]) fun u hu => by
    rcases List.mem_cons.mp hu with rfl | hu
    · exact s1.on x2
    · exact hs u hu
theorem se_c {v : V} (h : ∀ H, Sm P w p H v) : SmE P w p σ (tC v) := fun H hp Q q => q v H (.refl hp) (h H)
/-- a display of constants -/
def CA (ta : TA) (vs : List V) : Prop := ∀ (σ : L2.St) (H : Hp) (Q : List V → Hp → Prop), Q vs H → ta σ H Q
theorem ca_nil : CA tNil [] := fun _ _ _ q => q
theorem ca_cons {v : V} {ta : TA} {vs : List V} (h : CA ta vs) : CA (tCons (tC v) ta) (v :: vs) := fun σ H Q q => h σ H _ q
theorem se_tup {ta : TA} {vs : List V} {ds : List PyData} (h : CA ta vs) (hr : Rok (.tuple ds)) (hz : vs.length ≤ 100000) (hd : ∀ H, Paired (Rw P w H) vs ds) (nd : PyData.hasDictAll ds = false) : SmE P w p σ (tTup ta) := fun H hp Q q =>
  h σ H _ ⟨sz_of hz, fun t ht => q _ _ (Xp.new hp ht) (sm_obj hr (by
    obtain ⟨o, e⟩ := hp.some
    exact (ne_of_none e ht).symm) upd_same fun H' e => rw_tup e (hd H') nd)⟩
theorem se_lst {ta : TA} {vs : List V} {ds : List PyData} (h : CA ta vs) (hr : Rok (.list ds)) (hz : vs.length ≤ 100000) (hd : ∀ H, Paired (Rw P w H) vs ds) (nd : PyData.hasDictAll ds = false) : SmE P w p σ (tLst ta) := fun H hp Q q =>
  h σ H _ ⟨sz_of hz, fun t ht => q _ _ (Xp.new hp ht) (sm_obj hr (by
    obtain ⟨o, e⟩ := hp.some
    exact (ne_of_none e ht).symm) upd_same fun H' e => rw_lst e (hd H') nd)⟩
end
section
variable {P : Program} {w : World} {p : Addr} {H H' : Hp} {σ : L2.St} {D : Ends} {tz : TS} {ta : TA} {i j n : Nat}
/-- a list of small data given to a name -/
theorem s_lstSm (h : SmA P w p σ n ta) (hp : Po p H) (hn : n ≤ 100000) (k : ∀ vs H1 l, Xp p H H1 → vs.length = n → (∀ v ∈ vs, Sm P w p H1 v) → H1 l = some (.lst vs) → l ≠ p → tz D (σ.set i (some (.ref l))) H1) : tSeq (tAsg (tLst ta) (gName i)) tz D σ H :=
  h H hp _ fun vs H1 x hl hs => ⟨sz_of (by omega), fun l nl => by
    have y := x.snew (o := .lst vs) nl
    refine k vs _ l y hl (fun v hv => (hs v hv).on (.new x.2 nl)) upd_same ?_
    obtain ⟨o, e⟩ := x.2.some
    exact (ne_of_none e nl).symm⟩
/-- .. one more list behind it -/
theorem s_catSm {l : Addr} {us : List V} {tj : TE} (hj : ∀ H (Q : VK), Q (.ref l) H → tj σ H Q) (e : H l = some (.lst us)) (hlp : l ≠ p) (hu : ∀ v ∈ us, Sm P w p H v) (h : SmA P w p σ n ta) (hp : Po p H) (hn : us.length + n ≤ 100000)
    (k : ∀ vs H1 l, Xp p H H1 → vs.length = us.length + n → (∀ v ∈ vs, Sm P w p H1 v) → H1 l = some (.lst vs) → l ≠ p → tz D (σ.set i (some (.ref l))) H1) : tSeq (tAsg (tOp rCat tj (tLst ta)) (gName i)) tz D σ H := by
  refine hj H _ (h H hp _ fun vs H1 x hl hs => ⟨sz_of (by omega), fun l2 n2 => ?_⟩)
  have e1 : (upd H1 l2 (.lst vs)) l = some (.lst us) := by
    rw [upd_ne (ne_of_none (x.1 l _ hlp e) n2)]
    exact x.1 l _ hlp e
  refine ⟨l, l2, us, vs, rfl, rfl, e1, upd_same, sz_of (by omega), fun l3 n3 => ?_⟩
  have y := x.snew (o := .lst vs) n2
  have y3 := y.snew (o := .lst (us ++ vs)) n3
  refine k _ _ l3 y3 (by rw [List.length_append, hl]) (fun v hv => ?_) upd_same ?_
  · rcases List.mem_append.mp hv with hv | hv
    · exact (hu v hv).on y3
    · exact ((hs v hv).on (.new x.2 n2)).on (.new y.2 n3)
  · obtain ⟨o, eo⟩ := y.2.some
    exact (ne_of_none eo n3).symm
end
/-- the texts of small lists -/
theorem lst_rok {ds : List PyData} (h : ∀ d ∈ ds, Rok d) (hn : ds.length ≤ 1000) : PyData.showableAll ds = true ∧ (listText (PyData.shownAll ds)).length ≤ sizeLine ∧ PyData.depthAll ds ≤ 40 := by
  have key : ∀ ds : List PyData, (∀ d ∈ ds, Rok d) → PyData.showableAll ds = true ∧ ((PyData.shownAll ds).map (·.length)).sum ≤ 2500 * ds.length ∧ (PyData.shownAll ds).length = ds.length ∧ PyData.depthAll ds ≤ 10 := by
    intro ds
    induction ds with
    | nil => intro _; exact ⟨rfl, by simp [PyData.shownAll], by simp [PyData.shownAll], by simp [PyData.depthAll]⟩
    | cons d ds ih =>
      intro h
      obtain ⟨a, b, c, e⟩ := ih fun x hx => h x (List.mem_cons_of_mem _ hx)
      obtain ⟨h1, h2, h3⟩ := h d (List.mem_cons_self ..)
      refine ⟨by simp [PyData.showableAll, h1, a], ?_, by simp [PyData.shownAll, c], by simp only [PyData.depthAll]; omega⟩
      simp only [PyData.shownAll, List.map_cons, List.sum_cons, List.length_cons]
      omega
  obtain ⟨a, b, c, e⟩ := key ds h
  refine ⟨a, ?_, by omega⟩
  have := listText_len_le (PyData.shownAll ds)
  rw [sizeLine_eq]
  omega
end Lw
namespace Lw
open PySem PySem.Spec PyProof.Rows L2 Evl
/-! ### repr of any small value, of a list of such -/
def rReprV (P : Program) (w : World) : List V → Hp → VK → Prop := fun xs H Q => ∃ (v : V) (d : PyData), xs = [v] ∧ Rw P w H v d ∧ Rok d ∧ Q (.str d.shown) H
def rRepr (P : Program) (w : World) : List V → Hp → VK → Prop := fun xs H Q => rReprL P w xs H Q ∨ rReprV P w xs H Q
theorem call_reprV {X : Cx} (gd : X.A.guards = some []) (hu : X.A.units + 64 < cLine) : CallR X (.builtin "repr") (rReprV X.prog X.w) := by
  intro pins s σ H xs us Q I r h
  obtain ⟨v, d, rfl, hr, ⟨h1, h2, h3⟩, q⟩ := h
  cases r with
  | cons rx rr =>
    cases rr
    rename_i u
    have hz : d.shown.length ≤ sizeLine := by rw [sizeLine_eq]; omega
    obtain ⟨as, rd, hm⟩ := hr s.heap I.hok u rx
    have fin : ∀ h' t tk, (∀ b o, s.heap.get? b = some o → h'.get? b = some o) → EP X pins σ Q (.str d.shown t) { s with heap := h', toks := tk } :=
      fun h' t tk k => ⟨.str d.shown, H, I.kept k, ⟨t, rfl⟩, q⟩
    cases u with
    | ref a => exact repr_of_reads' rd h1 hm gd (by omega) (fun _ _ z => z) (fun h' t tk k => fin h' t tk k) hz
    | none =>
      cases rd
      simp only [PyData.shown] at fin
      exact PySem.P.repr_of_none (fin _ _ _ fun _ _ z => z)
    | bool b =>
      cases rd
      simp only [PyData.shown] at fin
      refine PySem.P.repr_of_bool ?_
      cases b
      · exact fin _ _ _ fun _ _ z => z
      · exact fin _ _ _ fun _ _ z => z
    | int i t =>
      cases rd
      simp only [PyData.shown] at fin
      exact PySem.P.repr_of_int (by simpa [PyData.showable] using h1) (fin _ _ _ fun _ _ z => z)
    | str x t =>
      cases rd
      simp only [PyData.shown] at fin hz
      exact PySem.P.repr_of_str (fin _ _ _ fun _ _ z => z) hz
    | _ => cases rd
theorem call_repr {X : Cx} (gd : X.A.guards = some []) (hu : X.A.units + 64 < cLine) : CallR X (.builtin "repr") (rRepr X.prog X.w) := by
  intro pins s σ H xs us Q I r h
  rcases h with h | h
  · exact call_reprL gd hu pins s σ H xs us Q I r h
  · exact call_reprV gd hu pins s σ H xs us Q I r h
section
variable {P : Program} {w : World} {K : PySem.W.Frag} {σ : L2.St} {H : Hp} {te : TE} {xs : List V} {ds : List PyData}
theorem ev_reprL (h : EvL te σ H xs) (hd : ∀ H1, Ex H H1 → Paired (Rw P w H1) xs ds) (hr : ∀ d ∈ ds, Rok d) (hn : ds.length ≤ 1000) : Ev (tCB (rRepr P w) (tCons te tNil)) σ H (.str (listText (PyData.shownAll ds))) := fun H1 e Q q =>
  h H1 e _ fun p H2 hp e2 hl => by
    obtain ⟨a, b, c⟩ := lst_rok hr hn
    exact .inl ⟨p, xs, ds, rfl, hl, hd H2 (e.trans e2), a, b, c, q H2 e2⟩
theorem ev_reprV {v : V} {d : PyData} (h : Ev te σ H v) (hd : ∀ H1, Ex H H1 → Rw P w H1 v d) (hr : Rok d) : Ev (tCB (rRepr P w) (tCons te tNil)) σ H (.str d.shown) := fun H1 e Q q =>
  h H1 e _ fun H2 e2 => .inr ⟨v, d, rfl, hd H2 (e.trans e2), hr, q H2 e2⟩
end
/-! ### lists of truths -/
theorem dpa_bools {K : PySem.W.Frag} {H : Hp} : ∀ bs : List Bool, DpAll K H (bs.map V.bl) (bs.map PyData.bool)
  | [] => .nil
  | b :: bs => .cons (.bl b) (dpa_bools bs)
theorem dp_bools {K : PySem.W.Frag} {H : Hp} {p : Addr} {bs : List Bool} (h : H p = some (.lst (bs.map V.bl))) : Dp K H (.ref p) (.list (bs.map PyData.bool)) := .lst (SqL.of h) (dpa_bools bs)
theorem lay_bools : ∀ bs : List Bool, PyData.canLayAll0 (bs.map PyData.bool) = true ∧ PyData.depthAll (bs.map PyData.bool) = 0
  | [] => ⟨rfl, rfl⟩
  | b :: bs => by
    obtain ⟨h1, h2⟩ := lay_bools bs
    exact ⟨by simp [PyData.canLayAll0, PyData.canLay0, h1], by simp [PyData.depthAll, PyData.depth, h2]⟩
theorem shaped_bools (bs : List Bool) : SeqAt.shaped (.list (bs.map PyData.bool)) = true := by
  obtain ⟨h1, h2⟩ := lay_bools bs
  simp [SeqAt.shaped, PyData.canLay0, PyData.depth, h1, h2]
theorem eqv_bools (bs : List Bool) : PyData.eqv (.list (bs.map PyData.bool)) (.list (bs.map PyData.bool)) = true := by
  obtain ⟨h1, _⟩ := lay_bools bs
  exact SeqAt.eqv_refl _ (by simp [PyData.canLay0, h1])
section
variable {K : PySem.W.Frag} {σ : L2.St} {H : Hp} {ta tb : TE}
/-- two new lists of the same truths are not unlike -/
theorem ev_sameB {bs : List Bool} {xs ys : List V} (ha : EvL ta σ H xs) (hb : EvL tb σ H ys) (hx : xs = bs.map V.bl) (hy : ys = bs.map V.bl) : Ev (tOp (rNeD K) ta tb) σ H (.bl false) := by
  subst hx hy
  have z := ev_neD (K := K) ha hb (d := .list (bs.map PyData.bool)) (e := .list (bs.map PyData.bool)) (fun H1 p _ h => dp_bools h) (fun H1 p _ h => dp_bools h) (shaped_bools bs) (shaped_bools bs)
  rw [eqv_bools bs] at z
  exact z
theorem given_all (n : Nat) (v : Nat → V) : given n (fun _ => true) v = (List.range n).map v := by
  unfold given
  rw [List.filter_eq_self.mpr (fun _ _ => rfl)]
theorem et_yes : EvT tYes σ H true := fun H1 e Q q => q H1 (Ex.refl H1)
end
/-- parts of a list -/
theorem cut_to (xs : List V) (n : Nat) (h : n ≤ xs.length) : cutV xs none (some (n : Int)) = xs.take n := by
  unfold cutV
  rw [show HT.sIx xs.length xs.length (some (n : Int)) = min n xs.length from HT.sIx_nat _ _ n, HT.sIx_none]
  rw [Nat.min_eq_left h, List.drop_zero, Nat.sub_zero]
theorem cut_mid (xs : List V) (m n : Nat) (h : n ≤ xs.length) (hm : m ≤ n) : cutV xs (some (m : Int)) (some (n : Int)) = (xs.drop m).take (n - m) := by
  unfold cutV
  rw [show HT.sIx xs.length xs.length (some (n : Int)) = min n xs.length from HT.sIx_nat _ _ n, show HT.sIx xs.length 0 (some (m : Int)) = min m xs.length from HT.sIx_nat _ _ m]
  rw [Nat.min_eq_left h, Nat.min_eq_left (Nat.le_trans hm h)]
/-! ### the rules whose readings name what the top has written, K said -/
section
variable {X : Cx} {K : PySem.W.Frag}
theorem op_inK (h : X.K = K := by rfl) : OpR X (compareOp .In) (rIn K false) := h ▸ op_in_seq
theorem op_notInK (h : X.K = K := by rfl) : OpR X (compareOp .NotIn) (rIn K true) := h ▸ op_notIn_seq
theorem ix_listK (h : X.K = K := by rfl) : IxR X (rIxL K) := h ▸ ix_list
theorem ix_tupK (h : X.K = K := by rfl) : IxR X (rIxT K) := h ▸ ix_tup
theorem sl_listK (h : X.K = K := by rfl) : SlR X (rSlL K) := h ▸ sl_list
theorem op_neDK (hu : X.A.units + 64 < cLine) (h : X.K = K := by rfl) : OpR X (compareOp .NotEq) (rNeD K) := h ▸ op_neD hu
theorem op_eqDK (hu : X.A.units + 64 < cLine) (h : X.K = K := by rfl) : OpR X (compareOp .Eq) (rEqD K) := h ▸ op_eqD hu
theorem call_isXK (h : X.K = K := by rfl) : CallR X (.builtin "isinstance") (rIsX K) := h ▸ call_isX
theorem cr_allK (hc : X.calm = true := by rfl) (h : X.K = K := by rfl) : CallR X (.builtin "all") (rAll K) := h ▸ cr_all hc
theorem call_lenK (h : X.K = K := by rfl) : CallR X (.builtin "len") (rLenS K) := by
  subst h
  exact call_len_seq
theorem call_reprK {P : Program} {w : World} (gd : X.A.guards = some []) (hu : X.A.units + 64 < cLine) (h : X.prog = P := by rfl) (h2 : X.w = w := by rfl) : CallR X (.builtin "repr") (rRepr P w) := by
  subst h h2
  exact call_repr gd hu
theorem pe_xatK {e : Expr} {te : TE} {f : Str} {pos : Pos} (he : PE X e te) (h : X.K = K := by rfl) (hb : attributeBase e f X.env (eval e X.env) = eval e X.env := by rfl) : PE X (.Attribute e f pos) (tXat K f te) := h ▸ pe_xat he hb
theorem pi_listK {tg e : Expr} {te : TE} (he : PE X e te) (h : X.K = K := by rfl) : PI X tg e (iList K te) := by
  subst h
  exact pi_list he
end
end Lw
namespace Lw
open PySem PySem.Spec PyProof.Rows L2 Evl TL
/-! ### letters -/
/-- the sign's place in the alphabet -/
def abc : List Nat := (List.range 26).map (97 + ·)
def sgn (c : Nat) : Str := ⟨#[c]⟩
/-- a letter: one to eight signs of the alphabet -/
def isL (s : Str) : Bool := (1 ≤ s.cps.toList.length && s.cps.toList.length ≤ 8) && s.cps.toList.all fun c => 97 ≤ c && c ≤ 122
theorem isL_iff {s : Str} : isL s = true ↔ (1 ≤ s.cps.toList.length ∧ s.cps.toList.length ≤ 8) ∧ ∀ c ∈ s.cps.toList, 97 ≤ c ∧ c ≤ 122 := by
  unfold isL
  rw [Bool.and_eq_true, Bool.and_eq_true, decide_eq_true_iff, decide_eq_true_iff, List.all_eq_true]
  exact ⟨fun ⟨a, b⟩ => ⟨a, fun c hc => by
    obtain ⟨x, y⟩ := Bool.and_eq_true_iff.mp (b c hc)
    exact ⟨of_decide_eq_true x, of_decide_eq_true y⟩⟩, fun ⟨a, b⟩ => ⟨a, fun c hc => Bool.and_eq_true_iff.mpr ⟨decide_eq_true (b c hc).1, decide_eq_true (b c hc).2⟩⟩⟩
theorem tl_sgn (c : Nat) : (sgn c).cps.toList = [c] := rfl
theorem sgn_inj {c d : Nat} (h : sgn c = sgn d) : c = d := by
  have e : (sgn c).cps.toList = (sgn d).cps.toList := by rw [h]
  rw [tl_sgn, tl_sgn] at e
  injection e
theorem isL_sgn {c : Nat} (h : 97 ≤ c) (h2 : c ≤ 122) : isL (sgn c) = true := isL_iff.mpr ⟨by rw [tl_sgn]; exact ⟨Nat.le_refl 1, (by decide : 1 ≤ 8)⟩, fun d hd => by
  rw [tl_sgn] at hd
  cases List.mem_singleton.mp hd
  exact ⟨h, h2⟩⟩
theorem len_cps (s : Str) : s.length = s.cps.toList.length := by simp [Str.length]
theorem isL_len {s : Str} (h : isL s = true) : 1 ≤ s.length ∧ s.length ≤ 8 := by
  rw [len_cps]
  exact (isL_iff.mp h).1
theorem tl_app (x y : Str) : (x ++ y).cps.toList = x.cps.toList ++ y.cps.toList := tl_append x y
theorem isL_app {s : Str} {c : Nat} (h : isL s = true) (hl : s.length < 8) (h1 : 97 ≤ c) (h2 : c ≤ 122) : isL (s ++ sgn c) = true := by
  obtain ⟨⟨a, b⟩, d⟩ := isL_iff.mp h
  rw [len_cps] at hl
  refine isL_iff.mpr ⟨?_, fun e he => ?_⟩
  · rw [tl_app, List.length_append, tl_sgn]
    exact ⟨by omega, by show s.cps.toList.length + 1 ≤ 8; omega⟩
  · rw [tl_app, tl_sgn] at he
    rcases List.mem_append.mp he with z | z
    · exact d e z
    · cases List.mem_singleton.mp z
      exact ⟨h1, h2⟩
/-- signs put together -/
theorem isL_join {cs : List Nat} (h : ∀ c ∈ cs, 97 ≤ c ∧ c ≤ 122) (h1 : 1 ≤ cs.length) (h8 : cs.length ≤ 8) : isL (Str.join (Str.ofString "") (cs.map sgn)) = true := by
  have e : ∀ cs : List Nat, joinL [] ((cs.map sgn).map tl) = cs := fun cs => by
    induction cs with
    | nil => rfl
    | cons c r ih =>
      cases r with
      | nil => rfl
      | cons d r =>
        show [c] ++ ([] ++ joinL [] (([d] : List Nat) :: (r.map sgn).map tl)) = _
        have ih2 : joinL [] (([d] : List Nat) :: (r.map sgn).map tl) = d :: r := ih
        rw [ih2]
        rfl
  have z : tl (Str.join (Str.ofString "") (cs.map sgn)) = cs := by
    rw [tl_join, show tl (Str.ofString "") = [] from rfl, e]
  refine isL_iff.mpr ⟨?_, fun c hc => ?_⟩
  · rw [show (Str.join (Str.ofString "") (cs.map sgn)).cps.toList = cs from z]
    exact ⟨h1, h8⟩
  · rw [show (Str.join (Str.ofString "") (cs.map sgn)).cps.toList = cs from z] at hc
    exact h c hc
/-! ### a list without repeats within another is no longer -/
theorem nodup_le {α : Type} [DecidableEq α] : ∀ {l m : List α}, l.Nodup → (∀ x ∈ l, x ∈ m) → l.length ≤ m.length
  | [], _, _, _ => Nat.zero_le _
  | x :: l, m, h, hs => by
    obtain ⟨hx, hl⟩ := List.nodup_cons.mp h
    have mx : x ∈ m := hs x List.mem_cons_self
    have z := nodup_le (m := m.erase x) hl fun y hy => (List.mem_erase_of_ne (fun e => hx (by rw [← e]; exact hy))).mpr (hs y (List.mem_cons_of_mem _ hy))
    rw [List.length_erase_of_mem mx] at z
    have : 0 < m.length := List.length_pos_of_mem mx
    show l.length + 1 ≤ m.length
    omega
theorem inV_str {x : Str} {xs : List Str} : inV (.str x) (xs.map V.str) = decide (x ∈ xs) := by
  unfold inV
  induction xs with
  | nil => rfl
  | cons y r ih =>
    rw [List.map_cons, List.any_cons, ih]
    by_cases h : y = x
    · subst h
      simp [eqV]
    · simp [eqV, h, Ne.symm h]
theorem flat_str (xs : List Str) : (xs.map V.str).all flatV = true := by
  rw [List.all_map]
  exact List.all_eq_true.mpr fun _ _ => rfl
theorem dpa_str {K : PySem.W.Frag} {H : Hp} : ∀ xs : List Str, DpAll K H (xs.map V.str) (xs.map PyData.str)
  | [] => .nil
  | x :: xs => .cons (.str x) (dpa_str xs)
end Lw
namespace Lw
open PySem PySem.Spec PyProof.Rows L2 Evl TL
theorem strOk_of {s : Str} (h : isL s = true) : PyData.strOk s = true := by
  obtain ⟨_, d⟩ := isL_iff.mp h
  show s.cps.all (· < 0x110000) = true
  rw [← Array.all_toList]
  exact List.all_eq_true.mpr fun c hc => decide_eq_true (by have := d c hc; omega)
theorem lay_strs : ∀ {xs : List Str}, (∀ x ∈ xs, PyData.strOk x = true) → PyData.canLayAll0 (xs.map PyData.str) = true ∧ PyData.depthAll (xs.map PyData.str) = 0
  | [], _ => ⟨rfl, rfl⟩
  | x :: xs, h => by
    obtain ⟨h1, h2⟩ := lay_strs fun y hy => h y (List.mem_cons_of_mem _ hy)
    exact ⟨by simp [PyData.canLayAll0, PyData.canLay0, h1, h x List.mem_cons_self], by simp [PyData.depthAll, PyData.depth, h2]⟩
theorem shaped_strs {xs : List Str} (h : ∀ x ∈ xs, PyData.strOk x = true) : SeqAt.shaped (.list (xs.map PyData.str)) = true := by
  obtain ⟨h1, h2⟩ := lay_strs h
  simp [SeqAt.shaped, PyData.canLay0, PyData.depth, h1, h2]
theorem shaped_strsT {xs : List Str} (h : ∀ x ∈ xs, PyData.strOk x = true) : SeqAt.shaped (.tuple (xs.map PyData.str)) = true := by
  obtain ⟨h1, h2⟩ := lay_strs h
  simp [SeqAt.shaped, PyData.canLay0, PyData.depth, h1, h2]
theorem tt_if {b : Bool} {p q : Prop} (h1 : b = true → p) (h2 : b = false → q) : if b = true then p else q := by
  cases b
  · exact h2 rfl
  · exact h1 rfl
end Lw
namespace Lw
open PySem PySem.Spec PyProof.Rows L2 Evl TL
section
variable {X : Cx} {K : PySem.W.Frag}
def rJoin (K : PySem.W.Frag) : V → List V → Hp → VK → Prop := fun x xs H Q => ∃ a p, ∃ ys : List Str, x = .str a ∧ xs = [.ref p] ∧ (SqL K H p (ys.map V.str) ∨ SqT K H p (ys.map V.str)) ∧ (ys.map (·.length)).sum + ys.length * a.length ≤ 16777216 ∧ Q (.str (Txt.join a ys)) H
theorem pe_joinK {o e : Expr} {to te : TE} {apos pos : Pos} (ho : PE X o to) (he : PE X e te) (h : X.K = K := by rfl) (hs : starEach [e] X.env = [(false, eval e X.env)] := by rfl) (hbase : attributeBase o "join" X.env (eval o X.env) = eval o X.env := by rfl) (hline : (apos.endLine == pos.line) = true := by rfl) :
    PE X (.Call (.Attribute o "join" apos) [e] [] pos) (tM1 (rJoin K) to te) := by
  subst h
  exact pe_join ho he hs hbase hline
end
end Lw
namespace Lw
open PySem PySem.Spec PyProof.Rows L2 Evl TL
theorem Xp.back {p D : Addr} {H H1 : Hp} (x : Xp p H H1) (hD : H1 D = none) : H D = none := by
  have ne : D ≠ p := fun e => by
    obtain ⟨o, ho⟩ := x.2.some
    rw [e, ho] at hD
    cases hD
  cases e : H D with
  | none => rfl
  | some o =>
    rw [x.1 _ _ ne e] at hD
    cases hD
theorem Xp.own {p D : Addr} {H H3 : Hp} {o : HO} (x : Xp p H H3) (hD : H D = none) (ne : D ≠ p) : Xp p H (upd H3 D o) := by
  refine ⟨fun a u na ea => ?_, ?_⟩
  · rw [upd_ne (ne_of_none ea hD)]
    exact x.1 a u na ea
  · obtain ⟨i, j, e, r⟩ := x.2
    exact ⟨i, j, by rw [upd_ne ne.symm]; exact e, r⟩
theorem sum_sgn : ∀ cs : List Nat, ((cs.map sgn).map (·.length)).sum = cs.length
  | [] => rfl
  | c :: cs => by
    rw [List.map_cons, List.map_cons, List.sum_cons, sum_sgn cs, List.length_cons, show (sgn c).length = 1 from rfl]
    omega
theorem tand_raw {t u : TT} {σ : L2.St} {H : Hp} {Q : Bool → Hp → Prop} (h : t σ H fun b H1 => if b = true then u σ H1 Q else Q false H1) : tAnd t u σ H Q := h
end Lw
namespace Lw
open PySem PySem.Spec PyProof.Rows L2 Evl TL
theorem atI_end {xs : List Str} (h : xs ≠ []) : ∃ s, s ∈ xs ∧ atI (xs.map V.str) (-1) = some (.str s) := by
  refine ⟨xs.getLast h, List.getLast_mem h, ?_⟩
  have e : xs = xs.dropLast ++ [xs.getLast h] := (List.dropLast_concat_getLast h).symm
  have z := L2.atI_last (xs.dropLast.map V.str) (V.str (xs.getLast h))
  have e2 : xs.map V.str = xs.dropLast.map V.str ++ [V.str (xs.getLast h)] := by
    conv => lhs; rw [e]
    rw [List.map_append]
    rfl
  rw [e2]
  exact z
end Lw
namespace Lw
open PySem PySem.Spec PyProof.Rows L2 Evl TL
/-- the first n letters of one sign -/
def firsts (n : Nat) : List Str := (List.range n).map fun j => sgn (97 + j)
theorem firsts_succ (n : Nat) : firsts (n + 1) = firsts n ++ [sgn (97 + n)] := by
  unfold firsts
  rw [List.range_succ, List.map_append]
  rfl
theorem firsts_len (n : Nat) : (firsts n).length = n := by
  unfold firsts
  rw [List.length_map, List.length_range]
theorem firsts_nodup (n : Nat) : (firsts n).Nodup := by
  unfold firsts
  have z : (List.range n).Pairwise (fun a b => a ≠ b) := List.nodup_range
  refine List.pairwise_map.mpr (z.imp fun {a b} h (e : sgn (97 + a) = sgn (97 + b)) => h ?_)
  have := sgn_inj e
  omega
theorem firsts_isL {n : Nat} (h : n ≤ 26) {s : Str} (hs : s ∈ firsts n) : isL s = true := by
  obtain ⟨j, hj, rfl⟩ := List.mem_map.mp hs
  have := List.mem_range.mp hj
  exact isL_sgn (by omega) (by omega)
end Lw
namespace Lw
open PySem PySem.Spec PyProof.Rows L2 Evl TL
section
variable {X : Cx} {K : PySem.W.Frag}
theorem call_isiK1 (h : X.K = K := by rfl) : CallR X (.builtin "isinstance") (rIsi K) := h ▸ call_isi
theorem pi_tupK {tg e : Expr} {te : TE} (he : PE X e te) (h : X.K = K := by rfl) : PI X tg e (iTup K te) := by
  subst h
  exact pi_tup he
theorem ix_tupK2 (h : X.K = K := by rfl) : IxR X (rIxT K) := h ▸ ix_tup
end
/-- what a value tells when it is asked whether it is a letter -/
inductive LB (K : PySem.W.Frag) (H : Hp) : V → Bool → Prop
  | str (s : Str) (h : s.length ≤ 100000) : LB K H (.str s) (isL s)
  | oth {v : V} {t : String} (h : TyX K H v (.type t)) (hn : kitB t "str" = some false) : LB K H v false
theorem kitB_str : kitB "str" "str" = some true := rfl
theorem isL_app0 (s : Str) : isL s = ((decide (1 ≤ s.length) && decide (s.length ≤ 8)) && s.cps.toList.all fun c => decide (97 ≤ c) && decide (c ≤ 122)) := by
  unfold isL
  rw [len_cps]
end Lw
namespace Lw
open PySem PySem.Spec PyProof.Rows L2 Evl TL
section
variable {K : PySem.W.Frag} {σ : L2.St} {H : Hp} {te tz : TE}
/-- over the signs of a text -/
theorem el_lcS {z : Str} {j : Nat} {vs : List Nat} (v : Nat → V) (h : Ev tz σ H (.str z)) (hz : z.cps.size ≤ 40000) (hw : ∀ x, wipe ((wipe σ vs).set j (some x)) vs = wipe σ vs)
    (he : ∀ (i c : Nat) H1, Ex H H1 → z.cps[i]? = some c → Ev te ((wipe σ vs).set j (some (.str ⟨#[c]⟩))) H1 (v i)) :
    EvL (tLc (iStr tz) (gName j) tYes te vs) σ H ((List.range z.cps.size).map v) := fun H0 e Q q => h H0 e _ fun H1 e1 => ⟨z, rfl, fun Dl hD =>
  lc_it walk_str (Cw H1 (fun _ => true) v Dl) ⟨hD, Ex.new hD, upd_same⟩ (fun _ _ _ _ => trivial) (fun i x H' H'' hi p y => by
    obtain ⟨rfl, c, hc, rfl⟩ := y
    exact ⟨hw _, cw_turn p (by omega) et_yes (fun _ => he i c H1 (e.trans e1) hc)⟩) (fun H' p => q Dl H' (fresh_back e1 p.1) (e1.trans p.2.1) (by rw [← given_all]; exact p.2.2))⟩
/-- over a tuple -/
theorem el_lcT {a : Addr} {xs : List V} {j : Nat} {vs : List Nat} (v : Nat → V) (h : Ev tz σ H (.ref a)) (hx : SqT K H a xs) (hz : xs.length ≤ 40000) (hw : ∀ x, wipe ((wipe σ vs).set j (some x)) vs = wipe σ vs)
    (he : ∀ (i : Nat) (x : V) H1, Ex H H1 → xs[i]? = some x → Ev te ((wipe σ vs).set j (some x)) H1 (v i)) :
    EvL (tLc (iTup K tz) (gName j) tYes te vs) σ H ((List.range xs.length).map v) := fun H0 e Q q => h H0 e _ fun H1 e1 => ⟨a, rfl, ⟨xs, ex_t (e.trans e1) hx⟩, fun Dl hD =>
  lc_it walk_tup (Cw H1 (fun _ => true) v Dl) ⟨hD, Ex.new hD, upd_same⟩ (fun i H' _ p => ex_t ((e.trans e1).trans p.2.1) hx) (fun i x H' H'' hi p y => by
    obtain ⟨rfl, hy⟩ := y
    exact ⟨hw _, cw_turn p (by omega) et_yes (fun _ => he i x H1 (e.trans e1) hy)⟩) (fun H' p => q Dl H' (fresh_back e1 p.1) (e1.trans p.2.1) (by rw [← given_all]; exact p.2.2))⟩
theorem ev_all {bs : List Bool} {xs : List V} (h : EvL te σ H xs) (hx : xs = bs.map V.bl) : Ev (tCB (rAll K) (tCons te tNil)) σ H (.bl (bs.all id)) := fun H1 e Q q => h H1 e _ fun p H2 _ e2 hl => ⟨p, bs, rfl, SqL.of (by rw [← hx]; exact hl), q H2 e2⟩
theorem ev_isi {v : V} {t cls : String} {b : Bool} (h : Ev te σ H v) (ht : ∀ H1, Ex H H1 → TyX K H1 v (.type t)) (hk : kitB t cls = some b) : Ev (tCB (rIsi K) (tCons te (tCons (tC (.ty cls)) tNil))) σ H (.bl b) := fun H1 e Q q =>
  h H1 e _ fun H2 e2 => ⟨v, .ty cls, .type t, .type cls, b, rfl, .ty cls, ht H2 (e.trans e2), hk, q H2 e2⟩
def rLenStr : List V → Hp → VK → Prop := fun xs H Q => ∃ z, xs = [.str z] ∧ z.length ≤ sizeLine ∧ Q (.int z.length) H
theorem ev_lenS {z : Str} (h : Ev te σ H (.str z)) (hz : z.length ≤ 100000) : Ev (tCB (fun xs H Q => ∃ z, xs = [V.str z] ∧ z.length ≤ sizeLine ∧ Q (V.int z.length) H) (tCons te tNil)) σ H (.int (z.length : Int)) := fun H1 e Q q =>
  h H1 e _ fun H2 e2 => ⟨z, rfl, sz_of hz, q H2 e2⟩
theorem et_chainI {f g : Int → Int → Bool} {ta tb tc : TE} {i j k : Int} (ha : Ev ta σ H (.int i)) (hb : Ev tb σ H (.int j)) (hc : Ev tc σ H (.int k)) :
    EvT (tTest (tChain (rI0 fun i j => V.bl (f i j)) (rI0 fun i j => V.bl (g i j)) ta tb tc)) σ H (f i j && g j k) := fun H1 e Q q => ha H1 e _ fun H2 e2 => hb H2 (e.trans e2) _ fun H3 e3 => ⟨i, j, rfl, rfl, f i j, rfl, by
    revert q
    cases f i j with
    | true => exact fun q => hc H3 ((e.trans e2).trans e3) _ fun H4 e4 => ⟨j, k, rfl, rfl, g j k, rfl, q H4 ((e2.trans e3).trans e4)⟩
    | false => exact fun q => ⟨false, rfl, q H3 (e2.trans e3)⟩⟩
end
theorem tyx_mono {K : PySem.W.Frag} {H H1 : Hp} {v : V} {t : Value} (e : Ex H H1) (h : TyX K H v t) : TyX K H1 v t := by
  cases h with
  | base b =>
    refine .base ?_
    cases b with
    | non => exact .non
    | bl y => exact .bl y
    | int i => exact .int i
    | str y => exact .str y
    | flt y => exact .flt y
    | lst ea => exact .lst (e _ _ ea)
    | frz ea => exact .frz (e _ _ ea)
    | tup ea => exact .tup (e _ _ ea)
    | dK ea => exact .dK (e _ _ ea)
    | dT ea => exact .dT (e _ _ ea)
    | ins ea cl ha hn htk hm => exact .ins (e _ _ ea) cl ha hn htk hm
  | byt b => exact .byt b
  | set ea => exact .set (e _ _ ea)
  | kList ea c => exact .kList ea c
  | kTuple ea c => exact .kTuple ea c
  | kDict ea c => exact .kDict ea c
  | fTuple ea => exact .fTuple (e _ _ ea)
  | fDict ea => exact .fDict (e _ _ ea)
end Lw
namespace Lw
open PySem PySem.Spec PyProof.Rows L2 Evl TL
theorem range_get {α β : Type} (l : List α) (d : α) (g : α → β) : (List.range l.length).map (fun i => g (l.getD i d)) = l.map g := by
  refine List.ext_getElem (by simp) fun i h1 h2 => ?_
  rw [List.getElem_map, List.getElem_map, List.getElem_range]
  have hi : i < l.length := by simpa using h2
  congr 1
  rw [List.getD_eq_getElem?_getD, List.getElem?_eq_getElem hi]
  rfl
def rLeS : R2 := fun x y H Q => ∃ i j, x = .str i ∧ y = .str j ∧ Q (.bl (!decide (j.cps.toList < i.cps.toList))) H
def leS (a b : Str) : Bool := !decide (b.cps.toList < a.cps.toList)
theorem ev_chainS {σ : L2.St} {H : Hp} {ta tb tc : TE} {a b c : Str} (ha : Ev ta σ H (.str a)) (hb : Ev tb σ H (.str b)) (hc : Ev tc σ H (.str c)) :
    Ev (tChain (fun x y H Q => ∃ i j, x = V.str i ∧ y = V.str j ∧ Q (V.bl !decide (j.cps.toList < i.cps.toList)) H) (fun x y H Q => ∃ i j, x = V.str i ∧ y = V.str j ∧ Q (V.bl !decide (j.cps.toList < i.cps.toList)) H) ta tb tc) σ H (.bl (leS a b && leS b c)) := fun H1 e Q q => ha H1 e _ fun H2 e2 => hb H2 (e.trans e2) _ fun H3 e3 => ⟨a, b, rfl, rfl, leS a b, rfl, by
    revert q
    cases leS a b with
    | true => exact fun q => hc H3 ((e.trans e2).trans e3) _ fun H4 e4 => ⟨b, c, rfl, rfl, q H4 ((e2.trans e3).trans e4)⟩
    | false => exact fun q => q H3 (e2.trans e3)⟩
theorem lt_one (c d : Nat) : decide (([c] : List Nat) < [d]) = decide (c < d) := by
  refine decide_eq_decide.mpr ?_
  simp [List.cons_lt_cons_iff]
theorem leS_sgn (c d : Nat) : leS (sgn c) (sgn d) = decide (c ≤ d) := by
  unfold leS
  rw [tl_sgn, tl_sgn, lt_one]
  by_cases h : c ≤ d
  · rw [decide_eq_true h, decide_eq_false (by omega)]
    rfl
  · rw [decide_eq_false h, decide_eq_true (by omega)]
    rfl
end Lw
namespace Lw
open PySem PySem.Spec PyProof.Rows L2 Evl TL
section
variable {K : PySem.W.Frag} {σ : L2.St} {H : Hp} {te : TE}
theorem ev_lenT {p : Addr} {xs : List V} (ha : Ev te σ H (.ref p)) (h : SqT K H p xs) : Ev (tCB (rLenS K) (tCons te tNil)) σ H (.int (xs.length : Int)) := fun H1 e Q q =>
  ha H1 e _ fun H2 e2 => ⟨p, xs, rfl, .inr (ex_t (e.trans e2) h), q H2 e2⟩
end
/-- what a value tells when it is asked whether it is a word -/
inductive WB (K : PySem.W.Frag) (H : Hp) : V → Bool → Prop
  | tup {a : Addr} {vs : List V} {bs : List Bool} (h : SqT K H a vs) (ht : TyX K H (.ref a) (.type "tuple")) (hl : vs.length ≤ 40000) (hb : Paired (LB K H) vs bs) : WB K H (.ref a) (decide (vs.length ≤ 3) && bs.all id)
  | oth {v : V} {t : String} (h : TyX K H v (.type t)) (hn : kitB t "tuple" = some false) : WB K H v false
theorem lb_mono {K : PySem.W.Frag} {H H1 : Hp} {v : V} {b : Bool} (e : Ex H H1) (h : LB K H v b) : LB K H1 v b := by
  cases h with
  | str s hs => exact .str s hs
  | oth ht hn => exact .oth (tyx_mono e ht) hn
theorem paired_mono {α β : Type} {R S : α → β → Prop} (h : ∀ a b, R a b → S a b) : ∀ {xs : List α} {ys : List β}, Paired R xs ys → Paired S xs ys
  | _, _, .nil => .nil
  | _, _, .cons r t => .cons (h _ _ r) (paired_mono h t)
end Lw
namespace Lw
open PySem PySem.Spec PyProof.Rows L2 Evl TL
section
variable {X : Cx} {K : PySem.W.Frag}
/-- a statement that is not reached -/
def tDead : TS := fun _ _ _ => False
theorem ps_dead {st : Stmt} : PS X st tDead := ⟨fun _ _ _ _ _ _ h => h.elim⟩
theorem op_catAK (h : X.K = K := by rfl) : OpR X (binaryOp .Add) (rCatA K) := h ▸ op_catA
theorem sl_tupAK (h : X.K = K := by rfl) : SlR X (rSlA K) := h ▸ sl_tupA
theorem pt_truthK {a : Expr} {ta : TE} (ha : PE X a ta) (h : X.K = K := by rfl) (he : ∀ whole, isTrue a X.env whole = (do let v ← whole; standAt a.pos; holding [v] (truthy v)) := by intro _; rfl) :
    PT X a (fun σ H Q => ta σ H fun x H' => ∃ k, TruV K x H' k ∧ Q k H') := by
  subst h
  exact pt_truth ha he
end
theorem tyx_tup {K : PySem.W.Frag} {H : Hp} {a : Addr} {xs : List V} (h : SqT K H a xs) : TyX K H (.ref a) (.type "tuple") := by
  rcases h with (h | ⟨o, h⟩) | ⟨o, its, n, h, c, _⟩
  · exact .base (.tup h)
  · exact .fTuple h
  · exact .kTuple h c
/-- a tuple of texts -/
def Wd (_ : PySem.W.Frag) (H : Hp) (v : V) (ys : List Str) : Prop := ∃ a, v = .ref a ∧ H a = some (.tup (ys.map V.str))
/-- such a tuple that is a word -/
def isW (ys : List Str) : Bool := decide (ys.length ≤ 3) && ys.all isL
theorem isW_iff {ys : List Str} : isW ys = true ↔ ys.length ≤ 3 ∧ ∀ y ∈ ys, isL y = true := by
  unfold isW
  rw [Bool.and_eq_true, decide_eq_true_iff, List.all_eq_true]
theorem wd_mono {K : PySem.W.Frag} {H H1 : Hp} {v : V} {ys : List Str} (e : Ex H H1) (h : Wd K H v ys) : Wd K H1 v ys := by
  obtain ⟨a, rfl, h⟩ := h
  exact ⟨a, rfl, e _ _ h⟩
theorem sqt_xp {K : PySem.W.Frag} {p a : Addr} {H H1 : Hp} {xs : List V} (hp : Po p H) (x : Xp p H H1) (h : SqT K H a xs) : SqT K H1 a xs := by
  obtain ⟨i, j, e, _⟩ := hp
  rcases h with (h | ⟨o, h⟩) | h
  · refine .inl (.inl (x.1 _ _ (fun z => ?_) h))
    rw [z, e] at h
    cases h
  · refine .inl (.inr ⟨o, x.1 _ _ (fun z => ?_) h⟩)
    rw [z, e] at h
    cases h
  · exact .inr h
theorem wd_xp {K : PySem.W.Frag} {p : Addr} {H H1 : Hp} {v : V} {ys : List Str} (hp : Po p H) (x : Xp p H H1) (h : Wd K H v ys) : Wd K H1 v ys := by
  obtain ⟨a, rfl, h⟩ := h
  obtain ⟨i, j, e, _⟩ := hp
  exact ⟨a, rfl, x.1 _ _ (fun z => by rw [z, e] at h; cases h) h⟩
theorem isL_short {s : Str} (h : isL s = true) : s.length ≤ 100000 := Nat.le_trans (isL_len h).2 (by decide)
theorem lbs_of {K : PySem.W.Frag} {H : Hp} : ∀ {ys : List Str}, (∀ y ∈ ys, y.length ≤ 100000) → Paired (LB K H) (ys.map V.str) (ys.map isL)
  | [], _ => .nil
  | y :: ys, h => .cons (.str y (h y List.mem_cons_self)) (lbs_of fun z hz => h z (List.mem_cons_of_mem _ hz))
theorem wb_of {K : PySem.W.Frag} {H : Hp} {v : V} {ys : List Str} (h : Wd K H v ys) (hs : ∀ y ∈ ys, y.length ≤ 100000) (hl : ys.length ≤ 40000) : WB K H v (isW ys) := by
  obtain ⟨a, rfl, h⟩ := h
  have h := SqT.of (K := K) h
  have z := WB.tup h (tyx_tup h) (by rw [List.length_map]; exact hl) (lbs_of (H := H) hs)
  rw [List.length_map, List.all_map] at z
  exact z
theorem wb_word {K : PySem.W.Frag} {H : Hp} {v : V} {ys : List Str} (h : Wd K H v ys) (hw : isW ys = true) : WB K H v true := by
  obtain ⟨h3, hl⟩ := isW_iff.mp hw
  have z := wb_of h (fun y hy => isL_short (hl y hy)) (by omega)
  rw [hw] at z
  exact z
/-- an expression that gives such a tuple -/
def EvW (K : PySem.W.Frag) (te : TE) (σ : L2.St) (H : Hp) (ys : List Str) : Prop := ∀ H1, Ex H H1 → ∀ Q : VK, (∀ v H2, Ex H1 H2 → Wd K H2 v ys → Q v H2) → te σ H1 Q
section
variable {K : PySem.W.Frag} {σ : L2.St} {H : Hp} {te ta tb : TE} {xs ys : List Str}
theorem ew_of {v : V} (h : Ev te σ H v) (hw : Wd K H v ys) : EvW K te σ H ys := fun H1 e Q q => h H1 e _ fun H2 e2 => q v H2 e2 (wd_mono (e.trans e2) hw)
theorem ew_cat (ha : EvW K ta σ H xs) (hb : EvW K tb σ H ys) (hz : xs.length + ys.length ≤ 100000) : EvW K (tOp (rCatA K) ta tb) σ H (xs ++ ys) := fun H1 e Q q =>
  ha H1 e _ fun v H2 e2 ⟨a, ea, hx⟩ => hb H2 (e.trans e2) _ fun u H3 e3 ⟨b, eb, hy⟩ => by
    refine ⟨a, b, xs.map V.str, ys.map V.str, ea, eb, SqT.of (e3 _ _ hx), SqT.of hy, by rw [List.length_map, List.length_map]; exact sz_of hz, fun z => ?_, fun z1 z => ?_, fun z1 z2 p hp => ?_⟩
    · have : xs = [] := List.map_eq_nil_iff.mp z
      subst this
      exact q _ H3 (e2.trans e3) ⟨b, rfl, hy⟩
    · have : ys = [] := List.map_eq_nil_iff.mp z
      subst this
      rw [List.append_nil] at q
      exact q _ H3 (e2.trans e3) ⟨a, rfl, e3 _ _ hx⟩
    · exact q _ _ ((e2.trans e3).trans (Ex.new hp)) ⟨p, rfl, by rw [List.map_append]; exact upd_same⟩
/-- a beginning -/
theorem ew_to {n : Nat} {to th : TO} (ha : EvW K ta σ H xs) (h1 : EvO to σ H none) (h2 : EvO th σ H (some (n : Int))) (hn : n ≤ xs.length) : EvW K (tSl (rSlA K) ta to th) σ H (xs.take n) := fun H1 e Q q =>
  ha H1 e _ fun v H2 e2 ⟨a, ea, hx⟩ => h1 H2 (e.trans e2) _ fun H3 e3 => h2 H3 ((e.trans e2).trans e3) _ fun H4 e4 => by
    have hx4 := (e3.trans e4) _ _ hx
    have e14 := (e2.trans e3).trans e4
    refine ⟨a, xs.map V.str, ea, SqT.of hx4, fun z => ?_, fun z p hp => ?_⟩
    · have z2 : HT.sIx (xs.map V.str).length (xs.map V.str).length (some (n : Int)) = (xs.map V.str).length := z.2
      rw [HT.sIx_nat, List.length_map, Nat.min_eq_left hn] at z2
      rw [z2, List.take_length] at q
      exact q _ H4 e14 ⟨a, rfl, hx4⟩
    · refine q _ _ (e14.trans (Ex.new hp)) ⟨p, rfl, ?_⟩
      rw [← List.map_take.symm, ← cut_to (xs.map V.str) n (by rw [List.length_map]; exact hn)] 
      exact upd_same
end
end Lw
namespace Lw
open PySem PySem.Spec PyProof.Rows L2 Evl TL
section
variable {K : PySem.W.Frag} {σ : L2.St} {H : Hp} {te ta : TE} {ys : List Str} {tz : TS} {D : Ends}
theorem q_asgW {i : Nat} (h : EvW K te σ H ys) (k : ∀ v H1, Ex H H1 → Wd K H1 v ys → tz D (σ.set i (some v)) H1) : tSeq (tAsg te (gName i)) tz D σ H := h H (Ex.refl H) _ fun v H1 e hw => k v H1 e hw
theorem s_retW (h : EvW K te σ H ys) (k : ∀ v H1, Ex H H1 → Wd K H1 v ys → D.rt v H1) : tRet te D σ H := h H (Ex.refl H) _ fun v H1 e hw => k v H1 e hw
/-- a list of such tuples -/
def LW (K : PySem.W.Frag) (H : Hp) (l : Addr) (ws : List (List Str)) : Prop := ∃ us, H l = some (.lst us) ∧ Paired (Wd K H) us ws
theorem lw_mono {H1 : Hp} {l : Addr} {ws : List (List Str)} (e : Ex H H1) (h : LW K H l ws) : LW K H1 l ws := by
  obtain ⟨us, h1, h2⟩ := h
  exact ⟨us, e _ _ h1, paired_mono (fun _ _ r => wd_mono e r) h2⟩
def EvLW (K : PySem.W.Frag) (te : TE) (σ : L2.St) (H : Hp) (ws : List (List Str)) : Prop := ∀ H1, Ex H H1 → ∀ Q : VK, (∀ l H2, H1 l = none → Ex H1 H2 → LW K H2 l ws → Q (.ref l) H2) → te σ H1 Q
theorem paired_app {α β : Type} {R : α → β → Prop} : ∀ {xs xs2 : List α} {ys ys2 : List β}, Paired R xs ys → Paired R xs2 ys2 → Paired R (xs ++ xs2) (ys ++ ys2)
  | _, _, _, _, .nil, h => h
  | _, _, _, _, .cons r t, h => .cons r (paired_app t h)
/-- a list of n such tuples, put together turn by turn -/
theorem elw_R1 {ta : TA} {j : Nat} {vs : List Nat} {n : Nat} (f : Nat → List Str) (h : EvA ta σ H [.int (n : Int)]) (hn : n ≤ 40000) (hw : ∀ x, wipe ((wipe σ vs).set j (some x)) vs = wipe σ vs)
    (he : ∀ (i : Nat) H1, Ex H H1 → i < n → EvW K te ((wipe σ vs).set j (some (.int (i : Int)))) H1 (f i)) : EvLW K (tLc (iRng1 ta) (gName j) tYes te vs) σ H ((List.range n).map f) := fun H0 e Q q => h H0 e _ fun H1 e1 => ⟨n, rfl, by omega, by omega, fun Dl hD =>
  lc_range (lo := 0) (n := n) (fun i H' => Ex H1 H' ∧ LW K H' Dl ((List.range i).map f)) ⟨Ex.new hD, [], upd_same, .nil⟩ (fun i H' hi p => by
    obtain ⟨p1, us, p2, p3⟩ := p
    have e0 : (0 : Int) + (i : Int) = (i : Int) := Int.zero_add _
    show wipe ((wipe σ vs).set j (some (.int ((0 : Int) + (i : Int))))) vs = wipe σ vs ∧ tYes ((wipe σ vs).set j (some (.int ((0 : Int) + (i : Int))))) H' fun b H3 => if b = true then te ((wipe σ vs).set j (some (.int ((0 : Int) + (i : Int))))) H3 fun y H4 => ∃ acc, H4 Dl = some (.lst acc) ∧ acc.length < sizeLine ∧ (Ex H1 (upd H4 Dl (.lst (acc ++ [y]))) ∧ LW K (upd H4 Dl (.lst (acc ++ [y]))) Dl ((List.range (i + 1)).map f)) else (Ex H1 H3 ∧ LW K H3 Dl ((List.range (i + 1)).map f))
    rw [e0]
    refine ⟨hw _, ?_⟩
    show te ((wipe σ vs).set j (some (.int (i : Int)))) H' fun y H4 => ∃ acc, H4 Dl = some (.lst acc) ∧ acc.length < sizeLine ∧ (Ex H1 (upd H4 Dl (.lst (acc ++ [y]))) ∧ LW K (upd H4 Dl (.lst (acc ++ [y]))) Dl ((List.range (i + 1)).map f))
    refine he i H' ((e.trans e1).trans p1) hi H' (Ex.refl H') _ fun y H4 e4 hy => ?_
    have hl := Paired.length p3
    rw [List.length_map, List.length_range] at hl
    -- what is tracked, but the new list, stands
    have keep : ∀ {v : V} {zs : List Str}, Wd K H4 v zs → Wd K (upd H4 Dl (.lst (us ++ [y]))) v zs := fun {v zs} hz => by
      obtain ⟨a, rfl, hz⟩ := hz
      refine ⟨a, rfl, ?_⟩
      have hd := e4 _ _ p2
      rw [upd_ne (fun q => by rw [q, hd] at hz; cases hz)]
      exact hz
    refine ⟨us, e4 _ _ p2, sz_lt (by omega), Ex.mut (p1.trans e4) hD, us ++ [y], upd_same, ?_⟩
    rw [List.range_succ, List.map_append]
    exact paired_app (paired_mono (fun _ _ r => keep (wd_mono e4 r)) p3) (.cons (keep hy) .nil)) (fun H' p => q Dl H' (fresh_back e1 hD) (e1.trans p.1) p.2)⟩
end
end Lw
namespace Lw
open PySem PySem.Spec PyProof.Rows L2 Evl TL
section
variable {P : Program} {w : World} {K : PySem.W.Frag} {σ : L2.St} {H : Hp} {te ta : TE} {ys : List Str}
def wD (ys : List Str) : PyData := .tuple (ys.map PyData.str)
theorem rw_strs : ∀ {ys : List Str}, Paired (Rw P w H) (ys.map V.str) (ys.map PyData.str)
  | [] => .nil
  | y :: ys => .cons (rw_str y) (rw_strs (ys := ys))
theorem nodict_strs : ∀ ys : List Str, PyData.hasDictAll (ys.map PyData.str) = false
  | [] => rfl
  | y :: ys => by
    have := nodict_strs ys
    simp [PyData.hasDictAll, PyData.hasDict, this]
theorem rw_word {v : V} (h : Wd K H v ys) : Rw P w H v (wD ys) := by
  obtain ⟨a, rfl, h⟩ := h
  exact rw_tup h rw_strs (nodict_strs ys)
theorem rws_words {us : List V} {ws : List (List Str)} (h : Paired (Wd K H) us ws) : Paired (Rw P w H) us (ws.map wD) := by
  induction h with
  | nil => exact .nil
  | cons r t ih => exact .cons (rw_word r) ih
/-- repr of a list of such tuples -/
theorem ev_reprLW {ws : List (List Str)} (h : EvLW K te σ H ws) (hr : ∀ d ∈ ws.map wD, Rok d) (hn : ws.length ≤ 1000) : Ev (tCB (rRepr P w) (tCons te tNil)) σ H (.str (listText (PyData.shownAll (ws.map wD)))) := fun H1 e Q q =>
  h H1 e _ fun p H2 hp e2 hl => by
    obtain ⟨us, h1, h2⟩ := hl
    obtain ⟨a, b, c⟩ := lst_rok hr (by rw [List.length_map]; exact hn)
    exact .inl ⟨p, us, ws.map wD, rfl, h1, rws_words h2, a, b, c, q H2 e2⟩
theorem ev_reprLWv {l : Addr} {ws : List (List Str)} (h : Ev te σ H (.ref l)) (hl : LW K H l ws) (hr : ∀ d ∈ ws.map wD, Rok d) (hn : ws.length ≤ 1000) : Ev (tCB (rRepr P w) (tCons te tNil)) σ H (.str (listText (PyData.shownAll (ws.map wD)))) := fun H1 e Q q =>
  h H1 e _ fun H2 e2 => by
    obtain ⟨us, h1, h2⟩ := lw_mono (e.trans e2) hl
    obtain ⟨a, b, c⟩ := lst_rok hr (by rw [List.length_map]; exact hn)
    exact .inl ⟨l, us, ws.map wD, rfl, h1, rws_words h2, a, b, c, q H2 e2⟩
end
end Lw
namespace Lw
open PySem PySem.Spec PyProof.Rows L2 Evl TL
/-- the text of a word -/
def tx (ys : List Str) : Str := if ys = [] then "-" else Str.join "." ys
theorem tx_ne {ys : List Str} (h : ys ≠ []) : tx ys = Str.join "." ys := if_neg h
/-- its beginnings -/
def begs (ys : List Str) : List (List Str) := (List.range (ys.length + 1)).map fun i => ys.take i
theorem join_head {ys : List Str} (h : ys ≠ []) (hw : isW ys = true) : ∃ c r, (Str.join "." ys).cps.toList = c :: r ∧ 97 ≤ c ∧ c ≤ 122 := by
  cases ys with
  | nil => exact absurd rfl h
  | cons y ys =>
    have hy := (isW_iff.mp hw).2 y List.mem_cons_self
    obtain ⟨⟨h1, _⟩, h2⟩ := isL_iff.mp hy
    have e : tl (Str.join "." (y :: ys)) = joinL (tl ".") ((y :: ys).map tl) := tl_join "." (y :: ys)
    cases q : y.cps.toList with
    | nil =>
      rw [q] at h1
      exact absurd h1 (by decide)
    | cons c r =>
      have hc := h2 c (by rw [q]; exact List.mem_cons_self)
      have q2 : tl y = c :: r := q
      cases ys with
      | nil => exact ⟨c, r, by show tl _ = _; rw [e]; exact q2, hc⟩
      | cons z zs =>
        refine ⟨c, r ++ (tl "." ++ joinL (tl ".") ((z :: zs).map tl)), ?_, hc⟩
        show tl _ = _
        rw [e]
        show tl y ++ (tl "." ++ joinL (tl ".") ((z :: zs).map tl)) = _
        rw [q2]
        rfl
theorem tx_dash {ys : List Str} (h : ys ≠ []) (hw : isW ys = true) : tx ys ≠ "-" := fun e => by
  rw [tx_ne h] at e
  obtain ⟨c, r, hc, h1, _⟩ := join_head h hw
  rw [e] at hc
  have : ("-" : Str).cps.toList = [45] := rfl
  rw [this] at hc
  injection hc with hc _
  omega
theorem split_word {ys : List Str} (h : ys ≠ []) (hw : isW ys = true) : Txt.split (Str.join "." ys) "." = ys := by
  have z := split_join (y := ".") (s := 46) (S := []) rfl (by decide +kernel) h (fun p hp hm => by
    have := (isL_iff.mp ((isW_iff.mp hw).2 p hp)).2 46 hm
    omega)
  rw [TL.join_eq] at z
  exact z
theorem sum_le : ∀ {ys : List Str}, (∀ y ∈ ys, y.length ≤ 8) → (ys.map (·.length)).sum ≤ 8 * ys.length
  | [], _ => Nat.zero_le _
  | y :: ys, h => by
    have h1 := sum_le (ys := ys) fun z hz => h z (List.mem_cons_of_mem _ hz)
    have h2 := h y List.mem_cons_self
    rw [List.map_cons, List.sum_cons, List.length_cons]
    omega
section
variable {K : PySem.W.Frag} {σ : L2.St} {H : Hp} {te ta : TE} {ys : List Str} {D : Ends}
theorem ev_joinW (h : EvW K te σ H ys) (hw : isW ys = true) : Ev (tM1 (rJoin K) (tC (.str ".")) te) σ H (.str (Str.join "." ys)) := fun H1 e Q q => ⟨⟨_, rfl⟩, h H1 e _ fun v H2 e2 ⟨a, ea, hv⟩ => by
  obtain ⟨h3, hl⟩ := isW_iff.mp hw
  have z := sum_le fun y hy => (isL_len (hl y hy)).2
  have z1 : Str.length "." = 1 := rfl
  subst ea
  refine ⟨_, a, ys, rfl, rfl, .inr (SqT.of hv), by rw [z1]; omega, ?_⟩
  rw [TL.join_eq]
  exact q H2 e2⟩
theorem et_truW {v : V} (h : Ev te σ H v) (hv : Wd K H v ys) : EvT (fun σ H Q => te σ H fun x H' => ∃ k, TruV K x H' k ∧ Q k H') σ H (!ys.isEmpty) := fun H1 e Q q => h H1 e _ fun H2 e2 => by
  obtain ⟨a, ea, hv2⟩ := wd_mono (e.trans e2) hv
  subst ea
  refine ⟨!ys.isEmpty, .inr (.inl ⟨ys.map V.str, SqT.of hv2, ?_⟩), q H2 e2⟩
  cases ys <;> rfl
theorem ev_lenW {v : V} (h : Ev te σ H v) (hv : Wd K H v ys) : Ev (tCB (rLenS K) (tCons te tNil)) σ H (.int (ys.length : Int)) := fun H1 e Q q => h H1 e _ fun H2 e2 => by
  obtain ⟨a, ea, hv2⟩ := wd_mono (e.trans e2) hv
  refine ⟨a, ys.map V.str, by rw [ea], .inr (SqT.of hv2), ?_⟩
  rw [List.length_map]
  exact q H2 e2
theorem s_retLW {ws : List (List Str)} (h : EvLW K te σ H ws) (k : ∀ l H1, H l = none → Ex H H1 → LW K H1 l ws → D.rt (.ref l) H1) : tRet te D σ H := h H (Ex.refl H) _ k
end
end Lw
namespace Lw
open PySem PySem.Spec PyProof.Rows L2 Evl TL
theorem len_app (x y : Str) : (x ++ y).length = x.length + y.length := by
  rw [len_cps, len_cps, len_cps, tl_app, List.length_append]
theorem join_len : ∀ {ys : List Str}, (∀ y ∈ ys, y.length ≤ 8) → (Str.join "." ys).length ≤ 9 * ys.length
  | [], _ => Nat.zero_le _
  | [y], h => by
    have := h y List.mem_cons_self
    show y.length ≤ 9 * 1
    omega
  | y :: z :: r, h => by
    have h1 := join_len (ys := z :: r) fun u hu => h u (List.mem_cons_of_mem _ hu)
    have h2 := h y List.mem_cons_self
    show (y ++ "." ++ Str.join "." (z :: r)).length ≤ _
    rw [len_app, len_app, show Str.length "." = 1 from rfl]
    rw [List.length_cons]
    omega
theorem word_len {ys : List Str} (hw : isW ys = true) : (Str.join "." ys).length ≤ 27 := by
  obtain ⟨h3, hl⟩ := isW_iff.mp hw
  have := join_len fun y hy => (isL_len (hl y hy)).2
  omega
end Lw
namespace Lw
open PySem PySem.Spec PyProof.Rows L2 Evl TL
section
variable {K : PySem.W.Frag} {σ : L2.St} {H : Hp}
theorem ev_chainI {f g : Int → Int → Bool} {ta tb tc : TE} {i j k : Int} (ha : Ev ta σ H (.int i)) (hb : Ev tb σ H (.int j)) (hc : Ev tc σ H (.int k)) :
    Ev (tChain (rI0 fun i j => V.bl (f i j)) (rI0 fun i j => V.bl (g i j)) ta tb tc) σ H (.bl (f i j && g j k)) := fun H1 e Q q => ha H1 e _ fun H2 e2 => hb H2 (e.trans e2) _ fun H3 e3 => ⟨i, j, rfl, rfl, f i j, rfl, by
    revert q
    cases f i j with
    | true => exact fun q => hc H3 ((e.trans e2).trans e3) _ fun H4 e4 => ⟨j, k, rfl, rfl, q H4 ((e2.trans e3).trans e4)⟩
    | false => exact fun q => q H3 (e2.trans e3)⟩
theorem rv_inSign {c : Nat} {z : Str} : RV (fun x y H Q => ∃ (c : Nat) (z : Str), x = V.str ⟨#[c]⟩ ∧ y = V.str z ∧ Q (.bl (decide (c ∈ z.cps.toList))) H) (.str ⟨#[c]⟩) (.str z) H (.bl (decide (c ∈ z.cps.toList))) :=
  fun H1 e Q q => ⟨c, z, rfl, rfl, q H1 (Ex.refl H1)⟩
end
end Lw
namespace Lw
open PySem PySem.Spec PyProof.Rows L2 Evl TL
/-- texts, each behind a dot -/
def glue (ys : List Str) : Str := ys.foldl (fun s y => s ++ "." ++ y) ""
theorem tl_glue_from : ∀ (ys : List Str) (s : Str), tl (ys.foldl (fun s y => s ++ "." ++ y) s) = tl s ++ (ys.map fun y => 46 :: tl y).flatten
  | [], s => by simp
  | y :: ys, s => by
    rw [List.foldl_cons, tl_glue_from ys, tl_append, tl_append, List.map_cons, List.flatten_cons, List.append_assoc, List.append_assoc]
    rfl
theorem glue_succ {ys : List Str} {i : Nat} {y : Str} (h : ys[i]? = some y) : glue (ys.take (i + 1)) = glue (ys.take i) ++ "." ++ y := by
  obtain ⟨hi, e⟩ := List.getElem?_eq_some_iff.mp h
  rw [← List.take_concat_get hi, e, List.concat_eq_append]
  unfold glue
  rw [List.foldl_append]
  rfl
theorem join_flat : ∀ {ys : List Str}, ys ≠ [] → 46 :: joinL [46] (ys.map tl) = (ys.map fun y => 46 :: tl y).flatten
  | [], h => absurd rfl h
  | [y], _ => by
    show 46 :: tl y = (46 :: tl y) ++ []
    rw [List.append_nil]
  | y :: z :: r, _ => by
    have ih := join_flat (ys := z :: r) (fun e => nomatch e)
    show 46 :: (tl y ++ ([46] ++ joinL [46] ((z :: r).map tl))) = (46 :: tl y) ++ ((z :: r).map fun y => 46 :: tl y).flatten
    rw [← ih]
    rfl
theorem glue_cut {ys : List Str} (h : ys ≠ []) : cutS (glue ys) (some 1) none = Str.join "." ys := by
  refine ext_tl ?_
  have e : tl (glue ys) = 46 :: joinL [46] (ys.map tl) := by
    rw [join_flat h]
    show tl (ys.foldl (fun s y => s ++ "." ++ y) "") = _
    rw [tl_glue_from]
    rfl
  have n : (glue ys).length = (tl (glue ys)).length := len_tl _
  show (((tl (glue ys)).drop (HT.sIx (glue ys).length 0 (some ((1 : Nat) : Int)))).take (HT.sIx (glue ys).length (glue ys).length none - HT.sIx (glue ys).length 0 (some ((1 : Nat) : Int)))) = tl (Str.join "." ys)
  rw [HT.sIx_nat, HT.sIx_none, n, e, tl_join]
  rw [show min 1 (46 :: joinL [46] (ys.map tl)).length = 1 from Nat.min_eq_left (by rw [List.length_cons]; omega)]
  show ((joinL [46] (ys.map tl)).take ((joinL [46] (ys.map tl)).length + 1 - 1)) = _
  rw [Nat.add_sub_cancel, List.take_length]
  rfl
theorem glue_len : ∀ {ys : List Str}, (∀ y ∈ ys, y.length ≤ 8) → (glue ys).length ≤ 9 * ys.length := by
  intro ys h
  have e : tl (glue ys) = (ys.map fun y => 46 :: tl y).flatten := by
    show tl (ys.foldl (fun s y => s ++ "." ++ y) "") = _
    rw [tl_glue_from]
    rfl
  rw [len_tl, e]
  clear e
  induction ys with
  | nil => exact Nat.zero_le _
  | cons y ys ih =>
    have h1 := ih fun z hz => h z (List.mem_cons_of_mem _ hz)
    have h2 := h y List.mem_cons_self
    rw [len_tl] at h2
    rw [List.map_cons, List.flatten_cons, List.length_append, List.length_cons, List.length_cons]
    omega
/-- what stands aheadW of what: by the number of letters, then by the first unequal ones -/
def lexW : List Str → List Str → Bool
  | x :: xs, y :: ys => if x = y then lexW xs ys else decide (x.cps.toList < y.cps.toList)
  | _, _ => false
def aheadW (xs ys : List Str) : Bool := if xs.length = ys.length then lexW xs ys else decide (xs.length < ys.length)
theorem lexW_step {xs ys : List Str} {i : Nat} {x y : Str} (hx : xs[i]? = some x) (hy : ys[i]? = some y) : lexW (xs.drop i) (ys.drop i) = if x = y then lexW (xs.drop (i + 1)) (ys.drop (i + 1)) else decide (x.cps.toList < y.cps.toList) := by
  obtain ⟨h1, e1⟩ := List.getElem?_eq_some_iff.mp hx
  obtain ⟨h2, e2⟩ := List.getElem?_eq_some_iff.mp hy
  rw [List.drop_eq_getElem_cons h1, List.drop_eq_getElem_cons h2, e1, e2]
  rfl
end Lw
namespace Lw
open PySem PySem.Spec PyProof.Rows L2 Evl TL
theorem rv_ltS {x y : Str} {H : Hp} : RV (fun x y H Q => ∃ i j, x = V.str i ∧ y = V.str j ∧ Q (V.bl (decide (i.cps.toList < j.cps.toList))) H) (.str x) (.str y) H (.bl (decide (x.cps.toList < y.cps.toList))) :=
  fun H1 e Q q => ⟨x, y, rfl, rfl, q H1 (Ex.refl H1)⟩
theorem ev_atW {K : PySem.W.Frag} {σ : L2.St} {H : Hp} {ta tb : TE} {a : Addr} {i : Nat} {x : Str} {xs : List Str} (ha : Ev ta σ H (.ref a)) (hb : Ev tb σ H (.int (i : Int))) (h : H a = some (.tup (xs.map V.str))) (hx : xs[i]? = some x) : Ev (tOp (rIxT K) ta tb) σ H (.str x) :=
  ev_op ha hb (rv_ixT (SqT.of h) (atI_nat (by rw [List.getElem?_map, hx]; rfl)))
end Lw
namespace Lw
open PySem PySem.Spec PyProof.Rows L2 Evl TL
theorem paired_take {α β : Type} {R : α → β → Prop} : ∀ (n : Nat) {xs : List α} {ys : List β}, Paired R xs ys → Paired R (xs.take n) (ys.take n)
  | 0, _, _, _ => by rw [List.take_zero, List.take_zero]; exact .nil
  | _ + 1, _, _, .nil => .nil
  | n + 1, _, _, .cons r t => .cons r (paired_take n t)
theorem paired_drop {α β : Type} {R : α → β → Prop} : ∀ (n : Nat) {xs : List α} {ys : List β}, Paired R xs ys → Paired R (xs.drop n) (ys.drop n)
  | 0, _, _, h => h
  | _ + 1, _, _, .nil => .nil
  | n + 1, _, _, .cons r t => paired_drop n t
theorem cut_from (xs : List V) (n : Nat) (h : n ≤ xs.length) : cutV xs (some (n : Int)) none = xs.drop n := by
  unfold cutV
  rw [show HT.sIx xs.length 0 (some (n : Int)) = min n xs.length from HT.sIx_nat _ _ n, HT.sIx_none, Nat.min_eq_left h]
  rw [List.take_of_length_le (by rw [List.length_drop]; omega)]
theorem given_count {β : Type} (l : List β) (d : β) (g : β → Bool) (v : Nat → V) : (given l.length (fun i => g (l.getD i d)) v).length = (l.filter g).length := by
  unfold given
  rw [List.length_map]
  have e : l = (List.range l.length).map (fun i => l.getD i d) := by
    have z := range_get l d (fun x => x)
    rw [List.map_id''] at z
    · exact z.symm
    · intro x
      rfl
  conv => rhs; rw [e]
  rw [List.filter_map, List.length_map]
  rfl
/-- a word put into a list of different ones, behind those that stand aheadW of it -/
def insW (fs : List (List Str)) (w : List Str) : List (List Str) := if w ∈ fs then fs else fs.take (fs.filter (aheadW · w)).length ++ [w] ++ fs.drop (fs.filter (aheadW · w)).length
def srtW (ws : List (List Str)) : List (List Str) := ws.foldl insW []
theorem srtW_succ {ws : List (List Str)} {i : Nat} {w : List Str} (h : ws[i]? = some w) : srtW (ws.take (i + 1)) = insW (srtW (ws.take i)) w := by
  obtain ⟨hi, e⟩ := List.getElem?_eq_some_iff.mp h
  rw [← List.take_concat_get hi, e, List.concat_eq_append]
  unfold srtW
  rw [List.foldl_append]
  rfl
theorem insW_mem {fs : List (List Str)} {w u : List Str} : u ∈ insW fs w ↔ u ∈ fs ∨ u = w := by
  unfold insW
  split
  · rename_i h
    exact ⟨.inl, fun z => z.elim id fun e => e ▸ h⟩
  · have e : fs.take (fs.filter (aheadW · w)).length ++ fs.drop (fs.filter (aheadW · w)).length = fs := List.take_append_drop _ _
    constructor
    · intro z
      rcases List.mem_append.mp z with z | z
      · rcases List.mem_append.mp z with z | z
        · exact .inl (List.mem_of_mem_take z)
        · exact .inr (List.mem_singleton.mp z)
      · exact .inl (List.mem_of_mem_drop z)
    · rintro (z | z)
      · rw [← e] at z
        rcases List.mem_append.mp z with z | z
        · exact List.mem_append_left _ (List.mem_append_left _ z)
        · exact List.mem_append_right _ z
      · exact List.mem_append_left _ (List.mem_append_right _ (List.mem_singleton.mpr z))
theorem insW_len (fs : List (List Str)) (w : List Str) : (insW fs w).length ≤ fs.length + 1 := by
  unfold insW
  split
  · omega
  · rw [List.length_append, List.length_append, List.length_take, List.length_drop]
    have := List.length_filter_le (aheadW · w) fs
    show min _ _ + 1 + _ ≤ _
    omega
theorem srtW_mem {ws : List (List Str)} {u : List Str} : u ∈ srtW ws ↔ u ∈ ws := by
  have key : ∀ (ws fs : List (List Str)), u ∈ ws.foldl insW fs ↔ u ∈ fs ∨ u ∈ ws := fun ws => by
    induction ws with
    | nil => intro fs; simp
    | cons w ws ih =>
      intro fs
      rw [List.foldl_cons, ih, insW_mem, List.mem_cons, or_assoc]
  unfold srtW
  rw [key]
  simp
theorem srtW_len (ws : List (List Str)) : (srtW ws).length ≤ ws.length := by
  have key : ∀ (ws fs : List (List Str)), (ws.foldl insW fs).length ≤ fs.length + ws.length := fun ws => by
    induction ws with
    | nil => intro fs; exact Nat.le_refl _
    | cons w ws ih =>
      intro fs
      have h1 := ih (insW fs w)
      have h2 := insW_len fs w
      rw [List.foldl_cons, List.length_cons]
      omega
  have z := key ws []
  rw [List.length_nil, Nat.zero_add] at z
  exact z
/-! ### == of such tuples -/
theorem eqvAll_strs : ∀ xs ys : List Str, PyData.eqvAll (xs.map PyData.str) (ys.map PyData.str) = decide (xs = ys)
  | [], [] => rfl
  | [], _ :: _ => rfl
  | _ :: _, [] => rfl
  | x :: xs, y :: ys => by
    rw [List.map_cons, List.map_cons]
    unfold PyData.eqvAll
    rw [eqvAll_strs xs ys]
    by_cases h : x = y
    · subst h
      by_cases h2 : xs = ys
      · subst h2
        simp [PyData.eqv]
      · simp [PyData.eqv, h2]
    · simp [PyData.eqv, h]
theorem eqv_wD (xs ys : List Str) : PyData.eqv (wD xs) (wD ys) = decide (xs = ys) := by
  unfold wD
  unfold PyData.eqv
  exact eqvAll_strs xs ys
theorem dp_word {K : PySem.W.Frag} {H : Hp} {v : V} {ys : List Str} (h : Wd K H v ys) : Dp K H v (wD ys) := by
  obtain ⟨a, rfl, h⟩ := h
  exact .tup (SqT.of h) (dpa_str ys)
theorem dpa_words {K : PySem.W.Frag} {H : Hp} {us : List V} {ws : List (List Str)} (h : Paired (Wd K H) us ws) : DpAll K H us (ws.map wD) := by
  induction h with
  | nil => exact .nil
  | cons r t ih => exact .cons (dp_word r) ih
theorem shaped_wD {ys : List Str} (h : isW ys = true) : SeqAt.shaped (wD ys) = true := shaped_strsT fun x hx => strOk_of ((isW_iff.mp h).2 x hx)
theorem shaped_wDs {ws : List (List Str)} (h : ∀ w ∈ ws, isW w = true) : SeqAt.shaped (.list (ws.map wD)) = true := by
  have key : ∀ ws : List (List Str), (∀ w ∈ ws, isW w = true) → PyData.canLayAll0 (ws.map wD) = true ∧ PyData.depthAll (ws.map wD) ≤ 1 := fun ws => by
    induction ws with
    | nil => intro _; exact ⟨rfl, Nat.zero_le _⟩
    | cons w ws ih =>
      intro h
      obtain ⟨h1, h2⟩ := ih fun y hy => h y (List.mem_cons_of_mem _ hy)
      have hw := h w List.mem_cons_self
      obtain ⟨l1, l2⟩ := lay_strs fun x hx => strOk_of ((isW_iff.mp hw).2 x hx)
      constructor
      · simp [PyData.canLayAll0, PyData.canLay0, wD, l1, h1]
      · simp [PyData.depthAll, PyData.depth, wD, l2]
        exact Nat.max_le.mpr ⟨Nat.le_refl _, h2⟩
  obtain ⟨h1, h2⟩ := key ws h
  simp [SeqAt.shaped, PyData.canLay0, PyData.depth, h1]
  omega
end Lw
theorem L2.Room.u65 {k : Nat} {A : PySem.Around} (r : L2.Room k A) : A.units + 65 < PySem.cLine := by
  have := r.un
  omega
namespace Lw
open PySem PySem.Spec PyProof.Rows L2 Evl TL
theorem op_notInDK {X : Cx} {K : PySem.W.Frag} (hu : X.A.units + 65 < cLine) (h : X.K = K := by rfl) : OpR X (compareOp .NotIn) (rNotInD K) := h ▸ op_notInD hu
theorem any_wD (ws : List (List Str)) (w : List Str) : ((ws.map wD).any fun z => PyData.eqv z (wD w)) = decide (w ∈ ws) := by
  induction ws with
  | nil => rfl
  | cons u ws ih =>
    rw [List.map_cons, List.any_cons, ih, eqv_wD]
    by_cases h : u = w
    · subst h
      simp
    · simp [h, Ne.symm h]
section
variable {K : PySem.W.Frag} {σ : L2.St} {H : Hp} {ta tb : TE}
theorem ev_niW {v : V} {w : List Str} {l : Addr} {us : List V} {ws : List (List Str)} (ha : Ev ta σ H v) (hb : Ev tb σ H (.ref l)) (hv : Wd K H v w) (hl : H l = some (.lst us)) (hp : Paired (Wd K H) us ws) (hw : isW w = true) (hws : ∀ u ∈ ws, isW u = true) :
    Ev (tOp (rNotInD K) ta tb) σ H (.bl (!decide (w ∈ ws))) := ev_op ha hb (rv_val fun H1 e Q q =>
  ⟨wD w, ws.map wD, dp_word (wd_mono e hv), .lst (SqL.of (e _ _ hl)) (dpa_words (paired_mono (fun _ _ r => wd_mono e r) hp)), shaped_wD hw, shaped_wDs hws, by rw [any_wD]; exact q⟩)
end
end Lw
namespace Lw
open PySem PySem.Spec PyProof.Rows L2 Evl TL
/-- a def that is also called by names alone, in the other sequence -/
def CalR (P : Program) (w : World) (K : PySem.W.Frag) (mg : Str → Option Value) (base : Heap) (CX : CXT) (k : Nat) (x : Str) (ps : List Str) (sp : Sp) : Prop :=
  ∃ f fd, mg x = some (.ref f) ∧ PySem.W.keepIn K (.ref f) = true ∧ (∀ (ws : List Value) (s : Shared), ws.length = ps.length → BindsTo s fd ⟨[], ps.reverse.zip ws⟩ (ps.zip ws.reverse)) ∧ FnG P w K mg base CX k f fd ps sp
def tCallR (sp : Sp) (tk : TA) : TE := fun σ H Q => tk σ H fun vs H1 => sp vs.reverse H1 Q E0
section
variable {X : Cx} {CX : CXT} {k : Nat} {x : Str} {ps : List Str} {sp : Sp} {p pos : Pos} {kws : List Keyword} {tk : TA} {E : XK}
theorem pe_calR (C : CalR X.prog X.w X.K X.mg X.base CX0 k x ps sp) {j : Nat} (gd : X.A.guards = some []) (hr : Room j X.A) (hkw : PK X kws tk) (hj : k ≤ j := by decide) (hg : Gl X x := by rfl) (hdb : (x == ("__debug__" : Str)) = false := by decide)
    (hall : (backToKw pos (keywordEach kws X.env)).all (·.1.isSome) = true := by rfl) (hks : (backToKw pos (keywordEach kws X.env)).filterMap (·.1) = ps.reverse := by rfl)
    (hpl : ((backTo pos (starEach [] X.env)).any (·.1) || (backToKw pos (keywordEach kws X.env)).any (·.1.isNone)) = false := by rfl) :
    PE X (.Call (.Name x p) [] kws pos) (tCallR sp tk) := by
  obtain ⟨f, fd, hm, hk, hb, F⟩ := C
  constructor
  intro pins s σ H Q I h
  refine wpAny_Call_Name_kw (ld_glob I hg hm ?_ hdb)
  refine PySem.W.callWith_KW0 (h₀ := X.base) I.ok.mod.kin hk hall ?_ hpl
  refine thn (hkw.run pos pins s σ H _ I h) fun ws s2 hh => ?_
  obtain ⟨zs, H2, I2, rz, q⟩ := hh
  refine ⟨I2.kIn, ?_⟩
  rw [hks]
  have hl : zs.length = ps.length := by
    have z := F.len _ _ _ _ q
    rw [List.length_reverse] at z
    exact z
  refine wpAny_call (codeAny_mono (F.go gd (hr.mono hj) I2.env0 (hb ws s2 (rz.length.symm.trans hl)) (Vals.reverse rz) q) fun r s3 hq => ?_)
  cases r with
  | error er => exact pass0 pins σ _ s2 er s3 I2 hq
  | ok fl =>
    cases fl with
    | ret u => exact I2.after hq
    | next => exact hq.elim
    | brk => exact hq.elim
    | cont => exact hq.elim
end
section
variable {K : PySem.W.Frag} {σ : L2.St} {H : Hp} {te : TE} {tk : TA} {sp : Sp} {v z : V} {vs : List V}
theorem ev_callR (h : EvA tk σ H vs) (hs : SpV sp vs.reverse H z) : Ev (tCallR sp tk) σ H z := fun H1 e Q q => h H1 e _ fun H2 e2 => hs H2 (e.trans e2) _ (fun H3 e3 => q H3 (e2.trans e3)) E0
end
end Lw
namespace Lw
open PySem PySem.Spec PyProof.Rows L2 Evl TL
theorem jl_le : ∀ ts : List Str, (Str.join ", " ts).length ≤ (ts.map fun t => t.length + 2).sum
  | [] => Nat.zero_le _
  | [t] => by
    show t.length ≤ (t.length + 2) + 0
    omega
  | t :: u :: r => by
    have ih := jl_le (u :: r)
    show (t ++ ", " ++ Str.join ", " (u :: r)).length ≤ (t.length + 2) + ((u :: r).map fun t => t.length + 2).sum
    rw [len_app, len_app, show Str.length ", " = 2 from rfl]
    omega
theorem rok_wD {ys : List Str} (h : isW ys = true) : Rok (wD ys) := by
  obtain ⟨h3, hl⟩ := isW_iff.mp h
  have r1 : ∀ y ∈ ys, (PySem.reprText y).length + 2 ≤ 84 := fun y hy => by
    have h1 := isL_len (hl y hy)
    have h2 := PySem.StrLaws.reprText_len y fun c hc => by
      have := (isL_iff.mp (hl y hy)).2 c hc
      omega
    omega
  have sum : ∀ zs : List Str, (∀ y ∈ zs, (PySem.reprText y).length + 2 ≤ 84) → ((zs.map PySem.reprText).map fun t => t.length + 2).sum ≤ 84 * zs.length := fun zs => by
    induction zs with
    | nil => intro _; exact Nat.zero_le _
    | cons z zs ih =>
      intro hz
      have i1 := ih fun y hy => hz y (List.mem_cons_of_mem _ hy)
      have i2 := hz z List.mem_cons_self
      rw [List.map_cons, List.map_cons, List.sum_cons, List.length_cons]
      omega
  have e : (wD ys).shown = tupleText (ys.map PySem.reprText) := by
    unfold wD
    rw [PyData.shown, PyData.shownAll_strs]
  refine ⟨?_, ?_, ?_⟩
  · unfold wD
    rw [PyData.showable]
    clear h h3 hl r1 sum e
    induction ys with
    | nil => rfl
    | cons y ys ih => simp [PyData.showableAll, PyData.showable, ih]
  · rw [e]
    have j := jl_le (ys.map PySem.reprText)
    have s := sum ys r1
    unfold tupleText
    rw [len_app, len_app, show Str.length "(" = 1 from rfl]
    split
    · rw [show Str.length ",)" = 2 from rfl]
      omega
    · rw [show Str.length ")" = 1 from rfl]
      omega
  · unfold wD
    rw [PyData.depth]
    have := (lay_strs fun x hx => strOk_of (hl x hx)).2
    rw [this]
    omega
theorem roks_wD {ws : List (List Str)} (h : ∀ w ∈ ws, isW w = true) : ∀ d ∈ ws.map wD, Rok d := fun d hd => by
  obtain ⟨w, hw, rfl⟩ := List.mem_map.mp hd
  exact rok_wD (h w hw)
theorem isW_take {ys : List Str} (h : isW ys = true) (n : Nat) : isW (ys.take n) = true := by
  obtain ⟨h3, hl⟩ := isW_iff.mp h
  exact isW_iff.mpr ⟨by rw [List.length_take]; omega, fun y hy => hl y (List.mem_of_mem_take hy)⟩
theorem begs_isW {ys : List Str} (h : isW ys = true) : ∀ w ∈ begs ys, isW w = true := fun w hw => by
  obtain ⟨i, _, rfl⟩ := List.mem_map.mp hw
  exact isW_take h i
theorem begs_len (ys : List Str) : (begs ys).length = ys.length + 1 := by
  unfold begs
  rw [List.length_map, List.length_range]
end Lw
namespace Lw
open PySem PySem.Spec PyProof.Rows L2 Evl TL
theorem q_asgLW {K : PySem.W.Frag} {σ : L2.St} {H : Hp} {te : TE} {tz : TS} {D : Ends} {i : Nat} {ws : List (List Str)} (h : EvLW K te σ H ws) (k : ∀ l H1, H l = none → Ex H H1 → LW K H1 l ws → tz D (σ.set i (some (.ref l))) H1) : tSeq (tAsg te (gName i)) tz D σ H := h H (Ex.refl H) _ k
end Lw
namespace Lw
open PySem PySem.Spec PyProof.Rows L2 Evl TL
/-- a list that changes leaves tuples and other lists of them -/
theorem wd_upd {K : PySem.W.Frag} {H : Hp} {l : Addr} {xs : List V} {o : HO} {v : V} {ys : List Str} (hl : H l = some (.lst xs)) (h : Wd K H v ys) : Wd K (upd H l o) v ys := by
  obtain ⟨a, rfl, h⟩ := h
  refine ⟨a, rfl, ?_⟩
  rw [upd_ne (fun q => by rw [q, hl] at h; cases h)]
  exact h
theorem lw_upd {K : PySem.W.Frag} {H : Hp} {l r : Addr} {xs : List V} {o : HO} {ws : List (List Str)} (hl : H l = some (.lst xs)) (hr : r ≠ l) (h : LW K H r ws) : LW K (upd H l o) r ws := by
  obtain ⟨us, h1, h2⟩ := h
  exact ⟨us, by rw [upd_ne hr]; exact h1, paired_mono (fun _ _ z => wd_upd hl z) h2⟩
end Lw
namespace Lw
open PySem PySem.Spec PyProof.Rows L2 Evl TL
/-! ### the order of words -/
theorem lexW_irr : ∀ xs : List Str, lexW xs xs = false
  | [] => rfl
  | x :: xs => by
    show (if x = x then lexW xs xs else decide (x.cps.toList < x.cps.toList)) = false
    rw [if_pos rfl, lexW_irr xs]
theorem lexW_trans : ∀ {xs ys zs : List Str}, lexW xs ys = true → lexW ys zs = true → lexW xs zs = true
  | [], _, _, h, _ => by cases h
  | _ :: _, [], _, h, _ => by cases h
  | _ :: _, _ :: _, [], _, h => by cases h
  | x :: xs, y :: ys, z :: zs, h1, h2 => by
    have h1 : (if x = y then lexW xs ys else decide (x.cps.toList < y.cps.toList)) = true := h1
    have h2 : (if y = z then lexW ys zs else decide (y.cps.toList < z.cps.toList)) = true := h2
    show (if x = z then lexW xs zs else decide (x.cps.toList < z.cps.toList)) = true
    by_cases e1 : x = y
    · subst e1
      rw [if_pos rfl] at h1
      by_cases e2 : x = z
      · subst e2
        rw [if_pos rfl] at h2 ⊢
        exact lexW_trans h1 h2
      · rw [if_neg e2] at h2 ⊢
        exact h2
    · rw [if_neg e1] at h1
      have l1 := of_decide_eq_true h1
      by_cases e2 : y = z
      · subst e2
        rw [if_neg e1]
        exact h1
      · rw [if_neg e2] at h2
        have l2 := of_decide_eq_true h2
        have l3 : x.cps.toList < z.cps.toList := List.lt_trans l1 l2
        have e3 : x ≠ z := fun e => by
          rw [e] at l3
          exact List.lt_irrefl _ l3
        rw [if_neg e3]
        exact decide_eq_true l3
theorem lt_conn {a b : List Nat} (h : a ≠ b) : a < b ∨ b < a := by
  rcases Decidable.em (a < b) with z | z
  · exact .inl z
  · refine .inr ?_
    have h1 : b ≤ a := List.not_lt.mp z
    rcases Decidable.em (b < a) with y | y
    · exact y
    · have h2 : a ≤ b := List.not_lt.mp y
      exact absurd (List.le_antisymm h2 h1) h
theorem lexW_conn : ∀ {xs ys : List Str}, xs.length = ys.length → xs ≠ ys → lexW xs ys = true ∨ lexW ys xs = true
  | [], [], _, h => absurd rfl h
  | [], _ :: _, h, _ => by cases h
  | _ :: _, [], h, _ => by cases h
  | x :: xs, y :: ys, hl, h => by
    show (if x = y then lexW xs ys else decide (x.cps.toList < y.cps.toList)) = true ∨ (if y = x then lexW ys xs else decide (y.cps.toList < x.cps.toList)) = true
    by_cases e : x = y
    · subst e
      rw [if_pos rfl, if_pos rfl]
      exact lexW_conn (Nat.succ.inj hl) fun z => h (by rw [z])
    · rw [if_neg e, if_neg fun z => e z.symm]
      have ne : x.cps.toList ≠ y.cps.toList := fun z => e (ext_tl z)
      rcases lt_conn ne with z | z
      · exact .inl (decide_eq_true z)
      · exact .inr (decide_eq_true z)
theorem ahead_irr (xs : List Str) : aheadW xs xs = false := by
  unfold aheadW
  rw [if_pos rfl, lexW_irr]
theorem ahead_le {xs ys : List Str} (h : aheadW xs ys = true) : xs.length ≤ ys.length := by
  unfold aheadW at h
  split at h
  · omega
  · have := of_decide_eq_true h
    omega
theorem ahead_trans {xs ys zs : List Str} (h1 : aheadW xs ys = true) (h2 : aheadW ys zs = true) : aheadW xs zs = true := by
  have a := ahead_le h1
  have b := ahead_le h2
  unfold aheadW at h1 h2 ⊢
  by_cases e : xs.length = zs.length
  · rw [if_pos (by omega)] at h1 h2
    rw [if_pos e]
    exact lexW_trans h1 h2
  · rw [if_neg e]
    exact decide_eq_true (by omega)
theorem ahead_conn {xs ys : List Str} (h : xs ≠ ys) : aheadW xs ys = true ∨ aheadW ys xs = true := by
  unfold aheadW
  by_cases e : xs.length = ys.length
  · rw [if_pos e, if_pos e.symm]
    exact lexW_conn e h
  · rw [if_neg e, if_neg fun z => e z.symm]
    rcases Nat.lt_or_gt_of_ne e with z | z
    · exact .inl (decide_eq_true z)
    · exact .inr (decide_eq_true z)
theorem ahead_asymm {xs ys : List Str} (h : aheadW xs ys = true) : aheadW ys xs = false := by
  cases q : aheadW ys xs with
  | false => rfl
  | true =>
    have z := ahead_trans h q
    rw [ahead_irr] at z
    cases z
/-! ### sorted lists -/
def Sd (ws : List (List Str)) : Prop := ws.Pairwise fun a b => aheadW a b = true
theorem sd_uniq : ∀ {xs ys : List (List Str)}, Sd xs → Sd ys → (∀ u, u ∈ xs ↔ u ∈ ys) → xs = ys
  | [], [], _, _, _ => rfl
  | [], y :: ys, _, _, h => absurd ((h y).mpr List.mem_cons_self) List.not_mem_nil
  | x :: xs, [], _, _, h => absurd ((h x).mp List.mem_cons_self) List.not_mem_nil
  | x :: xs, y :: ys, hx, hy, h => by
    obtain ⟨x1, x2⟩ := List.pairwise_cons.mp hx
    obtain ⟨y1, y2⟩ := List.pairwise_cons.mp hy
    have e : x = y := by
      rcases List.mem_cons.mp ((h x).mp List.mem_cons_self) with z | z
      · exact z
      · rcases List.mem_cons.mp ((h y).mpr List.mem_cons_self) with w | w
        · exact w.symm
        · have a := x1 y w
          rw [ahead_asymm (y1 x z)] at a
          cases a
    subst e
    have e2 : xs = ys := sd_uniq x2 y2 fun u => by
      constructor
      · intro hu
        rcases List.mem_cons.mp ((h u).mp (List.mem_cons_of_mem _ hu)) with z | z
        · have a := x1 u hu
          rw [z, ahead_irr] at a
          cases a
        · exact z
      · intro hu
        rcases List.mem_cons.mp ((h u).mpr (List.mem_cons_of_mem _ hu)) with z | z
        · have a := y1 u hu
          rw [z, ahead_irr] at a
          cases a
        · exact z
    rw [e2]
/-- those aheadW of w stand at the beginning -/
theorem sd_split {w : List Str} : ∀ {fs : List (List Str)}, Sd fs → w ∉ fs → (∀ u ∈ fs.take (fs.filter (aheadW · w)).length, aheadW u w = true) ∧ (∀ u ∈ fs.drop (fs.filter (aheadW · w)).length, aheadW w u = true)
  | [], _, _ => ⟨fun u hu => absurd hu (by simp), fun u hu => absurd hu (by simp)⟩
  | f :: fs, h, hw => by
    obtain ⟨h1, h2⟩ := List.pairwise_cons.mp h
    have hwf : w ≠ f := fun e => hw (by rw [e]; exact List.mem_cons_self)
    have hwfs : w ∉ fs := fun z => hw (List.mem_cons_of_mem _ z)
    by_cases q : aheadW f w = true
    · obtain ⟨i1, i2⟩ := sd_split h2 hwfs
      rw [List.filter_cons, if_pos q, List.length_cons, List.take_succ_cons, List.drop_succ_cons]
      refine ⟨fun u hu => ?_, i2⟩
      rcases List.mem_cons.mp hu with z | z
      · rw [z]
        exact q
      · exact i1 u z
    · have hf : aheadW w f = true := (ahead_conn hwf).resolve_right q
      have all : ∀ u ∈ fs, aheadW w u = true := fun u hu => ahead_trans hf (h1 u hu)
      have none : fs.filter (aheadW · w) = [] := List.filter_eq_nil_iff.mpr fun u hu z => by
        rw [ahead_asymm (all u hu)] at z
        cases z
      rw [List.filter_cons, if_neg q, none]
      refine ⟨fun u hu => absurd hu (by simp), fun u hu => ?_⟩
      rw [List.length_nil, List.drop_zero] at hu
      rcases List.mem_cons.mp hu with z | z
      · rw [z]
        exact hf
      · exact all u z
theorem insW_sd {fs : List (List Str)} {w : List Str} (h : Sd fs) : Sd (insW fs w) := by
  unfold insW
  split
  · exact h
  · rename_i hw
    obtain ⟨a, b⟩ := sd_split h hw
    have e : fs.take (fs.filter (aheadW · w)).length ++ fs.drop (fs.filter (aheadW · w)).length = fs := List.take_append_drop _ _
    have h' : Sd (fs.take (fs.filter (aheadW · w)).length ++ fs.drop (fs.filter (aheadW · w)).length) := by rw [e]; exact h
    obtain ⟨p1, p2, p3⟩ := List.pairwise_append.mp h'
    refine List.pairwise_append.mpr ⟨List.pairwise_append.mpr ⟨p1, List.pairwise_singleton _ _, fun u hu v hv => ?_⟩, p2, fun u hu v hv => ?_⟩
    · rw [List.mem_singleton.mp hv]
      exact a u hu
    · rcases List.mem_append.mp hu with z | z
      · exact p3 u z v hv
      · rw [List.mem_singleton.mp z]
        exact b v hv
theorem srtW_sd (ws : List (List Str)) : Sd (srtW ws) := by
  have key : ∀ (ws fs : List (List Str)), Sd fs → Sd (ws.foldl insW fs) := fun ws => by
    induction ws with
    | nil => intro fs h; exact h
    | cons w ws ih => intro fs h; exact ih _ (insW_sd h)
  exact key ws [] .nil
/-- the same words, the same list -/
theorem srtW_same {ws us : List (List Str)} (h : ∀ u, u ∈ ws ↔ u ∈ us) : srtW ws = srtW us := sd_uniq (srtW_sd ws) (srtW_sd us) fun u => by rw [srtW_mem, srtW_mem, h]
theorem srtW_back (ws : List (List Str)) : srtW ((srtW ws).reverse ++ ws) = srtW ws := srtW_same fun u => by
  rw [List.mem_append, List.mem_reverse, srtW_mem, or_self]
end Lw
namespace Lw
open PySem PySem.Spec PyProof.Rows L2 Evl TL
/-! ### lists of words: displays, parts, joined -/
section
variable {K : PySem.W.Frag} {σ : L2.St} {H : Hp} {te ta tb : TE} {tA tr : TA} {ys w : List Str} {ws us : List (List Str)}
def EvAW (K : PySem.W.Frag) (ta : TA) (σ : L2.St) (H : Hp) (ws : List (List Str)) : Prop := ∀ H1, Ex H H1 → ∀ Q : List V → Hp → Prop, (∀ us H2, Ex H1 H2 → Paired (Wd K H2) us ws → Q us H2) → ta σ H1 Q
theorem eaw_nil : EvAW K tNil σ H [] := fun H1 _ Q q => q [] H1 (Ex.refl H1) .nil
theorem eaw_cons (h : EvW K te σ H w) (hr : EvAW K tr σ H ws) : EvAW K (tCons te tr) σ H (w :: ws) := fun H1 e Q q => h H1 e _ fun v H2 e2 hv => hr H2 (e.trans e2) _ fun us H3 e3 hu => q _ H3 (e2.trans e3) (.cons (wd_mono e3 hv) hu)
theorem ew_tup (h : EvA tA σ H (ys.map V.str)) (hz : ys.length ≤ 100000) : EvW K (tTup tA) σ H ys := fun H1 e Q q => h H1 e _ fun H2 e2 => ⟨by rw [List.length_map]; exact sz_of hz, fun p hp => q _ _ (e2.trans (Ex.new hp)) ⟨p, rfl, upd_same⟩⟩
theorem elw_lst (h : EvAW K tA σ H ws) (hz : ws.length ≤ 100000) : EvLW K (tLst tA) σ H ws := fun H1 e Q q => h H1 e _ fun us H2 e2 hu => ⟨by rw [Paired.length hu]; exact sz_of hz, fun p hp => q p _ (fresh_back e2 hp) (e2.trans (Ex.new hp)) ⟨us, upd_same, paired_mono (fun _ _ r => wd_mono (Ex.new hp) r) hu⟩⟩
theorem elw_cat (ha : EvLW K ta σ H ws) (hb : EvLW K tb σ H us) (hz : ws.length + us.length ≤ 100000) : EvLW K (tOp rCat ta tb) σ H (ws ++ us) := fun H1 e Q q => ha H1 e _ fun l H2 hl e2 hL => hb H2 (e.trans e2) _ fun r H3 hr e3 hR => by
  obtain ⟨xs, x1, x2⟩ := lw_mono e3 hL
  obtain ⟨zs, z1, z2⟩ := hR
  refine ⟨l, r, xs, zs, rfl, rfl, x1, z1, by rw [Paired.length x2, Paired.length z2]; exact sz_of hz, fun t ht => q t _ (fresh_back (e2.trans e3) ht) ((e2.trans e3).trans (Ex.new ht)) ⟨_, upd_same, paired_mono (fun _ _ r => wd_mono (Ex.new ht) r) (paired_app x2 z2)⟩⟩
/-- a list that stands, then a new one -/
theorem elw_catV {l : Addr} (ha : Ev ta σ H (.ref l)) (hl : LW K H l ws) (hb : EvLW K tb σ H us) (hz : ws.length + us.length ≤ 100000) : EvLW K (tOp rCat ta tb) σ H (ws ++ us) := fun H1 e Q q => ha H1 e _ fun H2 e2 => hb H2 (e.trans e2) _ fun r H3 hr e3 hR => by
  obtain ⟨xs, x1, x2⟩ := lw_mono ((e.trans e2).trans e3) hl
  obtain ⟨zs, z1, z2⟩ := hR
  refine ⟨l, r, xs, zs, rfl, rfl, x1, z1, by rw [Paired.length x2, Paired.length z2]; exact sz_of hz, fun t ht => q t _ (fresh_back (e2.trans e3) ht) ((e2.trans e3).trans (Ex.new ht)) ⟨_, upd_same, paired_mono (fun _ _ r => wd_mono (Ex.new ht) r) (paired_app x2 z2)⟩⟩
theorem elw_take {l : Addr} {n : Nat} {to th : TO} (ha : Ev ta σ H (.ref l)) (hl : LW K H l ws) (h1 : EvO to σ H none) (h2 : EvO th σ H (some (n : Int))) (hn : n ≤ ws.length) : EvLW K (tSl (rSlL K) ta to th) σ H (ws.take n) := fun H1 e Q q => by
  obtain ⟨xs, x1, x2⟩ := lw_mono e hl
  refine el_sl (K := K) (H := H1) (ha.mono e) (fun H2 e2 => h1 H2 (e.trans e2)) (fun H2 e2 => h2 H2 (e.trans e2)) (SqL.of x1) H1 (Ex.refl H1) _ fun p H2 hp e2 h => ?_
  rw [cut_to xs n (by rw [Paired.length x2]; exact hn)] at h
  exact q p H2 hp e2 ⟨_, h, paired_mono (fun _ _ r => wd_mono e2 r) (paired_take n x2)⟩
theorem elw_drop {l : Addr} {n : Nat} {to th : TO} (ha : Ev ta σ H (.ref l)) (hl : LW K H l ws) (h1 : EvO to σ H (some (n : Int))) (h2 : EvO th σ H none) (hn : n ≤ ws.length) : EvLW K (tSl (rSlL K) ta to th) σ H (ws.drop n) := fun H1 e Q q => by
  obtain ⟨xs, x1, x2⟩ := lw_mono e hl
  refine el_sl (K := K) (H := H1) (ha.mono e) (fun H2 e2 => h1 H2 (e.trans e2)) (fun H2 e2 => h2 H2 (e.trans e2)) (SqL.of x1) H1 (Ex.refl H1) _ fun p H2 hp e2 h => ?_
  rw [cut_from xs n (by rw [Paired.length x2]; exact hn)] at h
  exact q p H2 hp e2 ⟨_, h, paired_mono (fun _ _ r => wd_mono e2 r) (paired_drop n x2)⟩
theorem paired_rev {α β : Type} {R : α → β → Prop} : ∀ {xs : List α} {ys : List β}, Paired R xs ys → Paired R xs.reverse ys.reverse
  | _, _, .nil => .nil
  | _, _, .cons r t => by
    rw [List.reverse_cons, List.reverse_cons]
    exact paired_app (paired_rev t) (.cons r .nil)
theorem elw_rev {K' : PySem.W.Frag} (ha : EvLW K ta σ H ws) : EvLW K (tRevL K' ta) σ H ws.reverse := fun H1 e Q q => ha H1 e _ fun l H2 hl e2 hL => by
  obtain ⟨xs, x1, x2⟩ := hL
  exact ⟨l, xs, rfl, SqL.of x1, fun p hp => q p _ (fresh_back e2 hp) (e2.trans (Ex.new hp)) ⟨_, upd_same, paired_mono (fun _ _ r => wd_mono (Ex.new hp) r) (paired_rev x2)⟩⟩
theorem lw_xp {p l : Addr} {H1 : Hp} (hp : Po p H) (x : Xp p H H1) (h : LW K H l ws) : LW K H1 l ws := by
  obtain ⟨xs, x1, x2⟩ := h
  have hp2 := hp
  by_cases e : l = p
  · -- the pot's own list holds no tuples
    obtain ⟨i, j, ep, _⟩ := hp
    rw [e, ep] at x1
    injection x1 with x1
    injection x1 with x1
    subst x1
    cases x2 with
    | cons r t =>
      obtain ⟨a, ea, _⟩ := r
      cases ea
  · exact ⟨xs, x.1 _ _ e x1, paired_mono (fun _ _ r => wd_xp hp2 x r) x2⟩
end
end Lw
namespace Lw
open PySem PySem.Spec PyProof.Rows L2 Evl TL
theorem cut_to2 (xs : List V) (n : Nat) : cutV xs none (some (n : Int)) = xs.take n := by
  unfold cutV
  rw [show HT.sIx xs.length xs.length (some (n : Int)) = min n xs.length from HT.sIx_nat _ _ n, HT.sIx_none, List.drop_zero, Nat.sub_zero]
  rcases Nat.le_total n xs.length with h | h
  · rw [Nat.min_eq_left h]
  · rw [Nat.min_eq_right h, List.take_length, List.take_of_length_le h]
section
variable {P : Program} {wd : World} {K : PySem.W.Frag} {σ : L2.St} {H : Hp} {te ta tb : TE} {ys w : List Str} {ws us : List (List Str)}
theorem elw_take2 {l : Addr} {n : Nat} {to th : TO} (ha : Ev ta σ H (.ref l)) (hl : LW K H l ws) (h1 : EvO to σ H none) (h2 : EvO th σ H (some (n : Int))) : EvLW K (tSl (rSlL K) ta to th) σ H (ws.take n) := fun H1 e Q q => by
  obtain ⟨xs, x1, x2⟩ := lw_mono e hl
  refine el_sl (K := K) (H := H1) (ha.mono e) (fun H2 e2 => h1 H2 (e.trans e2)) (fun H2 e2 => h2 H2 (e.trans e2)) (SqL.of x1) H1 (Ex.refl H1) _ fun p H2 hp e2 h => ?_
  rw [cut_to2 xs n] at h
  exact q p H2 hp e2 ⟨_, h, paired_mono (fun _ _ r => wd_mono e2 r) (paired_take n x2)⟩
theorem ev_reprW (h : EvW K te σ H ys) (hw : isW ys = true) : Ev (tCB (rRepr P wd) (tCons te tNil)) σ H (.str (wD ys).shown) := fun H1 e Q q =>
  h H1 e _ fun v H2 e2 hv => .inr ⟨v, wD ys, rfl, rw_word hv, rok_wD hw, q H2 e2⟩
theorem ev_neW (ha : EvW K ta σ H ys) (hb : EvW K tb σ H ys) (hw : isW ys = true) : Ev (tOp (rNeD K) ta tb) σ H (.bl false) := fun H1 e Q q => ha H1 e _ fun v H2 e2 hv => hb H2 (e.trans e2) _ fun u H3 e3 hu => by
  have sh := shaped_wD hw
  refine ⟨wD ys, wD ys, dp_word (wd_mono e3 hv), dp_word hu, sh, sh, ?_⟩
  rw [eqv_wD, decide_eq_true rfl]
  exact q H3 (e2.trans e3)
end
end Lw
namespace Lw
open PySem PySem.Spec PyProof.Rows L2 Evl TL PySem.W
/-! ### sorted by the number of letters, then by the word -/
def kW (ys : List Str) : PyData := .tuple [.int (ys.length : Int), wD ys]
theorem rowLt_strs : ∀ {xs ys : List Str}, xs.length = ys.length → rowLt (xs.map PyData.str) (ys.map PyData.str) = lexW xs ys
  | [], [], _ => lex_irrefl _
  | x :: xs, y :: ys, h => by
    have e : rowLt (PyData.str x :: xs.map .str) (PyData.str y :: ys.map .str) = if x = y then rowLt (xs.map .str) (ys.map .str) else decide (x.cps.toList < y.cps.toList) := by
      unfold rowLt
      rw [dataLt_cons (by simp [alike]), dataLt_str]
      simp only [PyData.eqv, beq_iff_eq]
    show rowLt (PyData.str x :: xs.map .str) (PyData.str y :: ys.map .str) = if x = y then lexW xs ys else decide (x.cps.toList < y.cps.toList)
    rw [e, rowLt_strs (Nat.succ.inj h)]
theorem alike_strs : ∀ xs ys : List Str, alikeAll (xs.map PyData.str) (ys.map PyData.str) = true
  | [], _ => by simp [alikeAll]
  | _ :: _, [] => by simp [alikeAll]
  | x :: xs, y :: ys => by simp [alikeAll, alike, alike_strs xs ys]
theorem lt_kW (xs ys : List Str) : dataLt (kW xs) (kW ys) = aheadW xs ys := by
  unfold kW
  rw [dataLt_pair (by simp [alike]) (by simp [alike, wD, alike_strs]), dataLt_int, eqv_wD]
  unfold aheadW
  by_cases h : xs.length = ys.length
  · rw [if_pos (by rw [h]; simp [PyData.eqv]), if_pos h]
    by_cases e : xs = ys
    · subst e
      rw [if_pos (decide_eq_true rfl), lexW_irr]
    · rw [if_neg (by simp [e])]
      unfold wD
      rw [dataLt_tuple]
      exact rowLt_strs h
  · rw [if_neg h, if_neg (by simp [PyData.eqv]; omega)]
    exact decide_eq_decide.mpr (by omega)
theorem le_kW : dataLe false kW = fun a b => !aheadW b a := by
  funext a b
  show (!dataLt (kW b) (kW a)) = _
  rw [lt_kW]
theorem alike_kW (ws : List (List Str)) : AllAlike (ws.map kW) := fun d hd e he => by
  obtain ⟨x, _, rfl⟩ := List.mem_map.mp hd
  obtain ⟨y, _, rfl⟩ := List.mem_map.mp he
  simp [kW, alike, alikeAll, wD, alike_strs]
theorem sortable_kW (ws : List (List Str)) : Sortable (ws.map kW) := .inl fun d hd => by
  obtain ⟨x, _, rfl⟩ := List.mem_map.mp hd
  exact ⟨_, _, rfl⟩
/-- different words, sorted by that key -/
theorem sort_words {ds ws : List (List Str)} (hn : ds.Nodup) (hm : ∀ u, u ∈ ds ↔ u ∈ ws) : ds.mergeSort (dataLe false kW) = srtW ws := by
  have p : (ds.mergeSort (dataLe false kW)).Perm ds := List.mergeSort_perm ds _
  have s : (ds.mergeSort (dataLe false kW)).Pairwise fun a b => dataLe false kW a b = true := sort_pairwise (sortLe_total _ _ _) ds
  have nd : (ds.mergeSort (dataLe false kW)).Nodup := (List.Perm.nodup_iff p).mpr hn
  refine sd_uniq ?_ (srtW_sd ws) fun u => by rw [p.mem_iff, srtW_mem, hm]
  refine List.Pairwise.imp₂ (fun a b h1 h2 => ?_) s nd
  rw [le_kW] at h1
  have h1 : (!aheadW b a) = true := h1
  rcases ahead_conn (show a ≠ b from h2) with z | z
  · exact z
  · rw [z] at h1
    cases h1
end Lw
namespace Lw
open PySem PySem.Spec PyProof.Rows L2 Evl
/-! ### enumerate over a tuple -/
theorem drawsT {prog : Program} {w : World} {A : Around} (hn : A.handled = none) (r t : Addr) (ne : t ≠ r) (ys : Array Value) :
    Draws prog w A r [r, t] ys.size (fun j v => ys[j]? = some v) (fun j h => h.IsTupleIter r t j ∧ h.IsTuple t ys) where
  live := fun _ _ z => by
    obtain ⟨⟨o, e, _⟩, _⟩ := z
    exact ⟨o, e⟩
  frame := fun _ _ _ z k => ⟨z.1.at fun o e => k r (by simp) o e, z.2.at fun o e => k t (by simp) o e⟩
  item := fun j s Q E lt z q => by
    refine PySem.wpAny_nextOf_tuple_item z.1 z.2 (x := ys[j]) (by simp [lt]) fun h2 z2 sb => ?_
    exact q _ h2 s.toks (by simp [lt]) ⟨z2, z.2.at fun o e => sb.extBut t o ne e⟩ sb
  done := fun s Q E z q => PySem.wpAny_nextOf_tuple_end hn z.1 z.2 (by simp) q
theorem newEnumT (t : Addr) (ys : Array Value) (n : Nat) (d : Option Addr) (sl : Array (Option Value)) :
    Meets (Builtin.«enumerate.__new__» ⟨[.type "enumerate", .ref t], []⟩) (fun _ R s => s.heap.get? t = some { cls := .type "tuple", dict := d, data := .seq ys n, slots := sl } ∧
      R (.ok (.ret (.ref (s.heap.push { cls := .type "tuple_iterator", data := .fields #[.ref t, .int 0 0] }).objs.size)))
        { s with heap := (s.heap.push { cls := .type "tuple_iterator", data := .fields #[.ref t, .int 0 0] }).push { cls := .type "enumerate", data := .fields #[.none, .bool false, .ref s.heap.objs.size, rawInt 0, .none, .none] } }) :=
  .of_wp fun prog w A R s z => by
    obtain ⟨hp, g, dr, tk, os⟩ := s
    obtain ⟨ht, z⟩ := z
    have su := sub_enumerate
    have hT : Heap.IsTuple (Shared.heap ⟨hp, g, dr, tk, os⟩) t ys := ⟨_, ht, rfl, n, rfl⟩
    wp_walk using AutoSeq1.wpAny_loadPart' ht
    refine wpAny_stack_any fun st => wpAny_pure ?_
    split
    · rename_i c _ _ _ _ _
      cases (c == Value.type "enumerate") <;>
      · wp_walk using AutoSeq1.wpAny_loadPart' ht, wpAny_pyIter_tuple hT
        exact ⟨_, rfl, z⟩
    · wp_walk using AutoSeq1.wpAny_loadPart' ht, wpAny_pyIter_tuple hT
      exact ⟨_, rfl, z⟩
section
variable {prog : Program} {w : World} {A : Around} {E : Value → Shared → Prop} {s : Shared}
theorem callEnumT {t : Addr} {ys : Array Value} {Q : Value → Shared → Prop} (ht : s.heap.IsTuple t ys)
    (q : ∀ h2, IsEnum h2 (s.heap.objs.size + 1) s.heap.objs.size 0 .none → h2.IsTupleIter s.heap.objs.size t 0 → (∀ b o, s.heap.get? b = some o → h2.get? b = some o) → Q (.ref (s.heap.objs.size + 1)) { s with heap := h2 }) :
    wpAny (model prog w) A (call (.type "enumerate") [.ref t]) Q E s := by
  obtain ⟨⟨c, d, dt, sl⟩, ho, hc, n, hd⟩ := ht
  obtain rfl : c = .type "tuple" := hc
  obtain rfl : dt = .seq ys n := hd
  refine callType_new F.called_enumerate (by decide) (F.typeCall_enumerate_1 _) (F.newCall_enumerate_1 _) (fun obj => F.args_object_init_2 obj _) F.entry_enumerate_new (newEnumT t ys n d sl) ⟨ho, ?_⟩
  let r : Obj := { cls := .type "tuple_iterator", data := .fields #[.ref t, .int 0 0] }
  have sz : (s.heap.push r).objs.size = s.heap.objs.size + 1 := Heap.size_push ..
  have en := Heap.get?_push_size (s.heap.push r) (o := { cls := .type "enumerate", data := .fields #[.none, .bool false, .ref s.heap.objs.size, rawInt 0, .none, .none] }) rfl
  show _ ∧ _
  rw [sz] at en ⊢
  exact ⟨⟨_, en, rfl⟩, q _ en ⟨_, Heap.get?_push_of_some _ (Heap.get?_push_size _ rfl), rfl, rfl⟩ fun b o e => Heap.get?_push_of_some _ (Heap.get?_push_of_some _ e)⟩
end
/-- the tuple at a, each item in a new pair -/
def IteT (K : PySem.W.Frag) (a : Addr) : It where
  go := fun i H => ∃ (xs : List V) (x : V), SqT K H a xs ∧ xs[i]? = some x
  yld := fun i H v H' => ∃ T x, v = .ref T ∧ H T = none ∧ H' = upd H T (.tup [.int (i : Nat), x]) ∧ ∀ xs, SqT K H a xs → xs[i]? = some x
  stop := fun i H => ∃ xs : List V, SqT K H a xs ∧ i = xs.length
theorem turnEnumT {P : Program} {w : World} {K : PySem.W.Frag} {es : List Expr} {kk : Nat} {tp : Pos} (a e r : Addr) :
    Turn P w K (.Tuple es kk tp) (IteT K a) [e, r] e (fun i h => (∃ old, IsEnum h e r ((i : Nat) : Int) old) ∧ h.IsTupleIter r a i ∧ e ≠ r) where
  mem := List.mem_cons_self
  obj := fun i h z b hb => by
    obtain ⟨⟨old, z1⟩, ⟨o, e1, _, e2⟩, _⟩ := z
    rcases List.mem_cons.mp hb with rfl | hb
    · exact ⟨_, z1, fun v q => nomatch q⟩
    · obtain rfl := List.mem_singleton.mp hb
      exact ⟨o, e1, fun v q => by
        rw [e2] at q
        cases q⟩
  keep := fun i h h2 z k => by
    obtain ⟨⟨old, z1⟩, z2, z3⟩ := z
    exact ⟨⟨old, k e (by simp) _ z1⟩, z2.at fun o q => k r (by simp) o q, z3⟩
  item := by
    intro X hP hw hK hc i pins s σ H E I hf z hg
    subst hP hw hK
    obtain ⟨⟨old, z1⟩, z2, z3⟩ := z
    obtain ⟨xs, x, hq, hx⟩ := hg
    obtain ⟨its, rv, p, hz⟩ := I.tuple hq
    obtain ⟨u, hu, ru⟩ := rv.get hx
    have le : e < s.heap.objs.size := Heap.lt_size z1
    have lr : r < s.heap.objs.size := by
      obtain ⟨_, q, _⟩ := z2
      exact Heap.lt_size q
    have pT : s.heap.IsTuple a its.toArray := p
    have ar : a ≠ r := fun q => by
      obtain ⟨o1, g1, c1, _⟩ := pT
      obtain ⟨o2, g2, c2, _⟩ := z2
      rw [q, g2] at g1
      cases g1
      rw [c1] at c2
      injection c2 with c3
      exact absurd c3 (by decide)
    have ea : e ∉ [r, a] := fun q => by
      rcases List.mem_cons.mp q with q | q
      · exact z3 q
      · obtain ⟨o1, g1, c1, _⟩ := pT
        rw [← List.mem_singleton.mp q, z1] at g1
        cases g1
        injection c1 with c3
        exact absurd c3 (by decide)
    have hil : i < its.toArray.size := by
      have := (List.getElem?_eq_some_iff.mp hu).1
      simpa using this
    refine wpAny_pyNext_enum_itemD (drawsT (A := X.A.in1) (I.ok.hd hc) r a ar its.toArray) z1 ⟨z2, pT⟩ hil z3 ea fun v h1 tk hv ho st hT hsz hk => ?_
    obtain rfl : v = u := by
      have e1 : its[i]? = some v := by simpa using hv
      rw [hu] at e1
      exact (Option.some.inj e1).symm
    refine ⟨_, rfl, wpAny_letOwnedTupleGo_enum (s := { s with heap := h1, toks := tk + 1 }) ho fun h2 he2 sb => ?_⟩
    have t2 : h2.get? s.heap.objs.size = some { cls := .type "tuple", data := .seq #[.int i tk, v] } := (sb.2 _ (Nat.ne_of_gt le)).trans hT
    have new : ObjOk X.prog X.w (upd H s.heap.objs.size (.tup [.int (i : Nat), x])) h2 s.heap.objs.size (.tup [.int (i : Nat), x]) :=
      ⟨by show 2 ≤ sizeLine; decide, [.int i tk, v], .cons ⟨_, rfl⟩ (.cons ru .nil), ⟨_, t2, rfl, _, rfl⟩⟩
    have J := I.turnedNew (t' := tk + 1) (ch := [e, r]) (h' := h2) (fun b o nb q => (sb.2 b fun y => nb (by simp [y])).trans (hk b o (fun y => nb (by simp [y])) (fun y => nb (by simp [y])) q)) hf (Nat.le_refl _) new
    refine ⟨.ref s.heap.objs.size, _, J, rfl, ⟨_, x, rfl, I.hok.fresh (Nat.le_refl _), rfl, fun ys hy => ?_⟩, ⟨⟨v, ?_⟩, st.1.at fun o q => (sb.2 r (Ne.symm z3)).trans q, z3⟩, fun b hb => ?_⟩
    · rw [I.tuple_inj hy hq]
      exact hx
    · rw [show ((i + 1 : Nat) : Int) = (i : Int) + 1 by omega]
      exact he2
    · have lb : b < s.heap.objs.size := by
        rcases List.mem_cons.mp hb with rfl | hb
        · exact le
        · rw [List.mem_singleton.mp hb]
          exact lr
      rw [upd_ne (Nat.ne_of_lt lb)]
      exact (hf b hb).1
  done := by
    intro X hP hw hK hc i pins s σ H E I hf z hg
    subst hP hw hK
    obtain ⟨⟨old, z1⟩, z2, z3⟩ := z
    obtain ⟨xs, hq, hx⟩ := hg
    obtain ⟨its, rv, p, hz⟩ := I.tuple hq
    have pT : s.heap.IsTuple a its.toArray := p
    obtain ⟨f0, f1, f2, f3, f4, f5⟩ := hf r (by simp)
    have hl := rv.length
    have ar : a ≠ r := fun q => by
      obtain ⟨o1, g1, c1, _⟩ := pT
      obtain ⟨o2, g2, c2, _⟩ := z2
      rw [q, g2] at g1
      cases g1
      rw [c1] at c2
      injection c2 with c3
      exact absurd c3 (by decide)
    have en : i = its.toArray.size := by
      rw [List.size_toArray, ← hl]
      exact hx
    rw [en] at z2
    exact wpAny_pyNext_enum_endD (drawsT (A := X.A.in1) (I.ok.hd hc) r a ar its.toArray) z1 ⟨z2, pT⟩ fun h2 eb => ⟨rfl, I.turned (t' := s.toks) (fun b o nb q => eb b o nb q) f0 f1 f3 f4 f5⟩
  self := fun A i s Q E z h => by
    obtain ⟨⟨_, z1⟩, _⟩ := z
    exact wpAny_pyIter_enum z1 h
/-- over a list or a tuple -/
def iEnumS (K : PySem.W.Frag) (ta : TA) : TI := fun σ H R => ta σ H fun vs H1 => ∃ a, vs = [.ref a] ∧ ((∃ xs, SqL K H1 a xs ∧ R (Ite K a) H1) ∨ ∃ xs, SqT K H1 a xs ∧ R (IteT K a) H1)
theorem pi_enumS {X : Cx} {e : Expr} {ta : TA} {p pos tp : Pos} {es : List Expr} {kk : Nat} (hg : Gl X "enumerate") (hm : X.mg "enumerate" = none) (ha : PA X [e] ta) (hs : starEach [e] X.env = [(false, eval e X.env)] := by rfl) :
    PI X (.Tuple es kk tp) (.Call (.Name "enumerate" p) [e] [] pos) (iEnumS X.K ta) := by
  constructor
  intro pins s σ H R I h
  refine Call_ (ld_blt I hg hm boot_enumerate (PyProof.Rows.callWith_type1 (thn (ha.run pos pins s σ H _ I h) fun us s1 g => ?_) hs rfl))
  obtain ⟨vs, H1, I1, r1, a, rfl, q⟩ := g
  obtain ⟨u, rfl, ru⟩ := r1.one
  obtain rfl : u = Value.ref a := ru
  have fp : ∀ b ∈ [s1.heap.objs.size + 1, s1.heap.objs.size], FpOk X pins H1 b := fun b hb => by
    have le : s1.heap.objs.size ≤ b := by
      rcases List.mem_cons.mp hb with rfl | hb
      · exact Nat.le_succ _
      · rw [List.mem_singleton.mp hb]
        exact Nat.le_refl _
    exact I1.fpOk le (I1.hok.fresh le)
  rcases q with ⟨xs, hq, q⟩ | ⟨xs, hq, q⟩
  · obtain ⟨its, rv, pL, hz⟩ := I1.list hq
    exact call_enumerate_list pL.isList fun h2 he hit _ hk => wpAny_pyIter_enum he
      ⟨_, _, _, _, H1, rfl, I1.kept (t' := s1.toks) hk, turn_enum a (s1.heap.objs.size + 1) s1.heap.objs.size, ⟨⟨.none, he⟩, hit, Nat.succ_ne_self _⟩, fp, q⟩
  · obtain ⟨its, rv, pT, hz⟩ := I1.tuple hq
    exact callEnumT (show s1.heap.IsTuple a its.toArray from pT) fun h2 he hit hk => wpAny_pyIter_enum he
      ⟨_, _, _, _, H1, rfl, I1.kept (t' := s1.toks) hk, turnEnumT a (s1.heap.objs.size + 1) s1.heap.objs.size, ⟨⟨.none, he⟩, hit, Nat.succ_ne_self _⟩, fp, q⟩
theorem walkEnumT {K : PySem.W.Frag} {a : Addr} {xs : List V} : Walk (IteT K a) xs.length (fun H => SqT K H a xs) (YPair (fun i => some (.int (i : Nat))) (fun i => xs[i]?)) := by
  refine ⟨fun i _ hi q => ⟨xs, xs[i], q, by simp [hi]⟩, fun _ q => ⟨xs, q, rfl⟩, fun i H v H' _ q y => ?_⟩
  obtain ⟨T, x, h1, h2, h3, h4⟩ := y
  exact ⟨T, .int (i : Nat), x, h1, h2, h3, rfl, h4 xs q⟩
/-- a list or a tuple is walked -/
def iSeqS (K : PySem.W.Frag) (te : TE) : TI := fun σ H R => te σ H fun v H1 => ∃ a, v = .ref a ∧ ((∃ xs, SqL K H1 a xs ∧ R (Itl K a) H1) ∨ ∃ xs, SqT K H1 a xs ∧ R (Itt K a) H1)
theorem pi_seqS {X : Cx} {K : PySem.W.Frag} {tg l : Expr} {te : TE} (he : PE X l te) (hK : X.K = K := by rfl) : PI X tg l (iSeqS K te) := by
  subst hK
  constructor
  intro pins s σ H R I h
  refine thn (he.run pins s σ H _ I h) fun u s1 g => ?_
  obtain ⟨v, H1, I1, rv, a, rfl, q⟩ := g
  obtain rfl : u = Value.ref a := rv
  have fp : ∀ b ∈ [s1.heap.objs.size], FpOk X pins H1 b := fun b hb => by
    rw [List.mem_singleton.mp hb]
    exact I1.fpOk (Nat.le_refl _) (I1.hok.fresh (Nat.le_refl _))
  rcases q with ⟨xs, hq, q⟩ | ⟨xs, hq, q⟩
  · obtain ⟨its, _, pL, _⟩ := I1.list hq
    exact wpAny_pyIter_list pL.isList ⟨_, _, _, _, H1, rfl, I1.kept (t' := s1.toks) fun b o e => Heap.get?_push_of_some _ e, turn_list a _, ⟨_, Heap.get?_push_size _ rfl, rfl, rfl⟩, fp, q⟩
  · obtain ⟨its, _, pT, _⟩ := I1.tuple hq
    exact wpAny_pyIter_tuple (show s1.heap.IsTuple a its.toArray from pT) ⟨_, _, _, _, H1, rfl, I1.kept (t' := s1.toks) fun b o e => Heap.get?_push_of_some _ e, turn_tuple a _, ⟨_, Heap.get?_push_size _ rfl, rfl, rfl⟩, fp, q⟩
theorem pi_enumSK {X : Cx} {K : PySem.W.Frag} {e : Expr} {ta : TA} {p pos tp : Pos} {es : List Expr} {kk : Nat} (hg : Gl X "enumerate") (hm : X.mg "enumerate" = none) (ha : PA X [e] ta) (hK : X.K = K := by rfl) (hs : starEach [e] X.env = [(false, eval e X.env)] := by rfl) :
    PI X (.Tuple es kk tp) (.Call (.Name "enumerate" p) [e] [] pos) (iEnumS K ta) := by
  subst hK
  exact pi_enumS hg hm ha hs
end Lw
namespace Lw
open PySem PySem.Spec PyProof.Rows L2 Evl
/-! ### a dict comprehension whose keys are tuples of texts -/
section
variable {X : Cx} {pins : List (Addr × Obj)} {σ : L2.St} {H : Hp} {s : Shared}
/-- d[y] = v on the way of a comprehension, y a tuple -/
theorem putT {E : Value → Shared → Prop} {D b : Addr} {kvs : List (List L2.Key × V)} {k : List L2.Key} {z : V} {r : Value} {Q : Unit → Shared → Prop} (I : Inv X pins σ H s) (hu : X.A.units < cLine) (hD : H D = some (.dT kvs)) (hb : H b = some (.tup (k.map kV))) (lt : kvs.length < sizeLine) (rz : RelV z r)
    (q : ∀ t, Inv X pins σ (upd H D (.dT (putK kvs k z))) t → Q () t) : wpAny (model X.prog X.w) X.A (dictSet D (.ref b) r) Q E s := by
  obtain ⟨le, sm, xs, kt, dd⟩ := dt_of I.hok hD
  have lx : xs.length ≤ sizeLine := by
    rw [← Paired.length kt]
    exact le
  have lp : (putK kvs k z).length ≤ sizeLine := by
    have := length_putK kvs k z
    omega
  refine wpAny_dictSet_heap (hsz := lx) (knd := tupleKind (mixKind X.prog X.w)) (by first | exact tupleKind_room_in1 hu | exact tupleKind_room hu | exact hu) (key_of I.hok hb) dd fun h2 d2 sb => q _ ?_
  obtain ⟨o, es, ep, a1, a2, a3, a4, _, a5⟩ := d2
  refine d_write I (by rw [hD]; trivial) sb ⟨o, a1⟩ ⟨lp, sm, _, (kt.put k hb rz).keeps fun c ys e => ?_, o, es, ep, a1, a2, a3, a4, a5⟩
  rw [upd_ne (ne_of e hD fun z => nomatch z)]
  exact e
end
/-- {k: v for target in iter}: D is the new dict -/
def tDcT (wi : TI) (g : TG) (tk tv : TE) (ws : List Nat) : TE := fun σ H Q => wi σ H fun J H1 => ∀ D, H1 D = none → ∃ W : Nat → Nat → Hp → Prop, (∃ m, W 0 m (upd H1 D (.dT []))) ∧ ∀ i m H, W i m H →
  (J.stop i H ∧ Q (.ref D) H) ∨ (J.go i H ∧ ∃ N : Hp → Prop, (∀ H2, N H2 → ∃ l, l < m ∧ W (i + 1) l H2) ∧ ∀ x H2, J.yld i H x H2 → g x (wipe σ ws) H2 fun τ H3 => wipe τ ws = wipe σ ws ∧
    tk τ H3 fun y H4 => tv τ H4 fun z H5 => ∃ kvs k b, y = .ref b ∧ H5 b = some (.tup (k.map kV)) ∧ H5 D = some (.dT kvs) ∧ kvs.length < sizeLine ∧ N (upd H5 D (.dT (putK kvs k z))))
/-- within a comprehension's block -/
abbrev InBlk (X : Cx) (scope : Scope) (p : Cx → Prop) : Prop := ∀ s H C cl fp, p (X.blk s H scope (compEnvC scope cl C X.env) fp)
section
variable {X : Cx}
/-- what follows the last turn -/
def DcEnd (X : Cx) (pins : List (Addr × Obj)) (σ : L2.St) (use : Option (Value → Sem Unit)) (Q : VK) (Qf : Value → Shared → Prop) : Prop :=
  ∀ D C t m G, Inv X pins σ G t → Q (.ref D) G → t.heap.Ns C m → FpOk X pins G C → compPost (model X.prog X.w) X.A X.xe use Qf (.ref D) C (.ok .next) t
theorem dcT_core {pins : List (Addr × Obj)} {s : Shared} {σ : L2.St} {H : Hp} {Q : VK} {kx vx tg iter : Expr} {scope : Scope} {own : List (Str × Nat)} {pos at_ : Pos} {wi : TI} {g : TG} {tk tv : TE} {use : Option (Value → Sem Unit)} {Qf : Value → Shared → Prop} (hu : X.A.units < cLine) (cm : X.calm = true) (nd : X.N.Nodup) (I : Inv X pins σ H s) (hi : PI X tg iter wi) (bo : BlkOk X.N X.env.scope scope own)
    (gg : InBlk X scope fun Y => PG Y tg g) (gk : InBlk X scope fun Y => PE Y kx tk) (gv : InBlk X scope fun Y => PE Y vx tv) (fs : ∀ x, foldedSetIterable iter X.env x = pure x) (h : tDcT wi g tk tv (own.map (·.2)) σ H Q) (fin : DcEnd X pins σ use Q Qf) :
    wpAny (model X.prog X.w) X.A (comprehension (.DictComp kx vx [⟨tg, iter, [], 0⟩] scope pos) scope X.env at_ newDict false (eval iter X.env) use) Qf X.xe s := by
  have cells : ∀ y ∈ scope.names, y.2 = .free → ∃ c, X.env.cells.lookup y.1 = some c := fun y my ey => by
    rcases bo.free y my ey with z | z
    · exact I.ok.has _ (.inl z)
    · exact I.ok.has _ (.inr z)
  refine wpAny_comprehension_free (use := use) rfl fs (closure_ok cells) bo.kind (fun y my ey => by rw [bo.uniq y my, ey]) (thn (hi.run pins s σ H _ I h) fun xv s1 h1 => thn h1 fun itv s2 h2 => ?_)
  obtain ⟨r, fp, tn, J, H2, rfl, I2, T, st2, ff2, q⟩ := h2
  refine wpAny_newObj_type (newEnv_comp ?_)
  obtain ⟨D, eD⟩ : ∃ D, s2.heap.objs.size = D := ⟨_, rfl⟩
  have nD : H2 D = none := I2.hok.fresh (Nat.le_of_eq eD)
  obtain ⟨W, ⟨m0, w0⟩, turn⟩ := q D nD
  have kp3 : ∀ b o, s2.heap.get? b = some o → (s2.heap.push { cls := .type "dict", data := .dict #[] }).get? b = some o := fun b o e => Heap.get?_push_of_some _ e
  have J3 : Inv X pins σ (upd H2 D (.dT [])) { s2 with heap := s2.heap.push { cls := .type "dict", data := .dict #[] } } := by
    rw [← eD]
    exact I2.laid (t' := s2.toks) kp3 (Nat.le_refl _) (dt_empty s2.heap I2.big)
  have ff3 : ∀ b ∈ fp, FpOk X pins (upd H2 D (.dT [])) b ∧ b < (s2.heap.push { cls := .type "dict", data := .dict #[] }).objs.size := fun b mb => by
    obtain ⟨o, e, _⟩ := T.obj _ _ st2 b mb
    have l := Heap.lt_size e
    refine ⟨⟨?_, (ff2 b mb).2⟩, by rw [Heap.size_push]; exact Nat.lt_succ_of_lt l⟩
    rw [upd_ne (by rw [← eD]; exact Nat.ne_of_lt l)]
    exact (ff2 b mb).1
  have st3 := T.keep _ _ _ st2 fun b _ o e => kp3 b o e
  rw [eD]
  generalize e3 : ({ s2 with heap := s2.heap.push { cls := .type "dict", data := .dict #[] } } : Shared) = t3 at J3 ⊢
  have hp3 : t3.heap = s2.heap.push { cls := .type "dict", data := .dict #[] } := by rw [← e3]
  rw [← hp3] at ff3 st3
  have B4 := block_start J3 bo nd ff3
  have pg := gg t3 (upd H2 D (.dT [])) t3.heap.objs.size (cellsFrom (t3.heap.objs.size + 1) scope.names (cloFrom X.env.cells scope.names [])) fp
  have pk := gk t3 (upd H2 D (.dT [])) t3.heap.objs.size (cellsFrom (t3.heap.objs.size + 1) scope.names (cloFrom X.env.cells scope.names [])) fp
  have pv := gv t3 (upd H2 D (.dT [])) t3.heap.objs.size (cellsFrom (t3.heap.objs.size + 1) scope.names (cloFrom X.env.cells scope.names [])) fp
  have lift4 : tn 0 (pushCells (t3.heap.push { cls := .type "dict", data := .dict #[] }) scope.names) := T.keep _ _ _ st3 fun b _ o e => pushCells_keeps _ _ _ _ (Heap.get?_push_of_some _ e)
  obtain ⟨ce, hce⟩ : ∃ ce, compEnvC scope (cellsFrom (t3.heap.objs.size + 1) scope.names (cloFrom X.env.cells scope.names [])) t3.heap.objs.size X.env = ce := ⟨_, rfl⟩
  have cl : ce.locals = t3.heap.objs.size := by rw [← hce]; rfl
  rw [hce] at B4 pg pk pv
  obtain ⟨G, hG⟩ : ∃ G, upd H2 D (.dT []) = G := ⟨_, rfl⟩
  rw [hG] at J3 ff3 B4 pg pk pv w0
  have fin0 : ∀ b ∈ fp, G b = none := fun b mb => (ff3 b mb).1.1
  have fpOk : ∀ {τ : L2.St} {K1 : Hp} {t : Shared}, Inv (X.blk t3 G scope ce fp) [] τ K1 t → (∀ b ∈ fp, K1 b = none) → ∀ b ∈ fp, FpOk (X.blk t3 G scope ce fp) [] K1 b := fun {τ K1 t} I' nn b mb => by
    have z := I'.ok.exf b mb
    exact ⟨nn b mb, z.1, I'.ok.exfs b mb, .inl mb, fun x c e => z.2 x c e, fun p mp => nomatch (show p ∈ ([] : List (Addr × Obj)) from mp)⟩
  change codeAny _ _ (.compStart _ 0 (.ref r) (.ref D) (compEnvC scope (cellsFrom (t3.heap.objs.size + 1) scope.names (cloFrom X.env.cells scope.names [])) t3.heap.objs.size X.env)) (compPost _ _ _ use Qf (.ref D) t3.heap.objs.size)
    { t3 with heap := pushCells (t3.heap.push { cls := .type "dict", data := .dict #[] }) scope.names }
  rw [hce]
  replace lift4 : tn 0 ({ t3 with heap := pushCells (t3.heap.push { cls := .type "dict", data := .dict #[] }) scope.names } : Shared).heap := lift4
  generalize ({ t3 with heap := pushCells (t3.heap.push { cls := .type "dict", data := .dict #[] }) scope.names } : Shared) = t4 at B4 lift4 ⊢
  -- the state between two turns, and behind the last one
  let St : Nat → Shared → Prop := fun m t => ∃ i K1, Inv (X.blk t3 G scope ce fp) [] (wipe σ (own.map (·.2))) K1 t ∧ tn i t.heap ∧ (∀ b ∈ fp, K1 b = none) ∧ W i m K1
  have walk : codeAny (model X.prog X.w) X.A (.compLoop (.DictComp kx vx [⟨tg, iter, [], 0⟩] scope pos) 0 (.ref r) (.ref D) ce) (compPost (model X.prog X.w) X.A X.xe use Qf (.ref D) t3.heap.objs.size) t4 := by
    refine compLoop_anyD St ?_ m0 ⟨0, G, B4, lift4, fin0, w0⟩
    rintro m t5 ⟨i, K5, B5, z5, n5, w5⟩
    rcases turn i m K5 w5 with ⟨over, done⟩ | ⟨go, N, less, body⟩
    · refine thnF (T.done (X.blk t3 G scope ce fp) rfl rfl rfl cm i [] t5 _ K5 (fun _ _ => False) B5 (fpOk B5 n5) z5 over) fun rr t6 h6 => ?_
      obtain ⟨rfl, B6⟩ := h6
      have J6 : Inv X pins σ K5 t6 := J3.call' (ch := fp) B6.os B6.base B6.hok B6.bare fun b mb => by
        have z := (ff3 b mb).1.2
        exact ⟨z.2.2.1, z.1, z.2.2.2.1, z.2.2.2.2⟩
      obtain ⟨mm, ns, _⟩ := B6.loc
      replace ns : t6.heap.Ns ce.locals mm := ns
      rw [cl] at ns
      have y0 : K5 t3.heap.objs.size = none := by
        rw [← cl]
        exact B6.free
      exact fin D t3.heap.objs.size t6 mm K5 J6 done ns (J3.fpOk (Nat.le_refl _) y0)
    · refine thnF (T.item (X.blk t3 G scope ce fp) rfl rfl rfl cm i [] t5 _ K5 (fun _ _ => False) B5 (fpOk B5 n5) z5 go) fun rr t6 h6 => ?_
      obtain ⟨u, rfl, h6⟩ := h6
      refine thnF h6 fun _ t7 h7 => ?_
      obtain ⟨x, K7, B7, r7, y7, z7, n7⟩ := h7
      have P7 := B7.pinned (fpOk B7 n7) (T.obj _ _ z7)
      refine thnF (pg.run _ t7 _ K7 x u _ P7 r7 (body x K7 y7)) fun _ t8 h8 => ?_
      obtain ⟨τ, K8, B8, wp8, q8⟩ := h8
      rw [List.forIn_nil]
      refine wpAny_pure ?_
      rw [if_pos rfl]
      refine thnF (pk.run _ t8 τ K8 _ B8 q8) fun ky t9 h9 => ?_
      obtain ⟨yk, K9, B9, r9, q9⟩ := h9
      refine thnF (pv.run _ t9 τ K9 _ B9 q9) fun vz t10 h10 => ?_
      obtain ⟨yv, K10, B10, r10, kvs, k, b, rfl, hb, hD, lt, nx⟩ := h10
      obtain rfl : ky = Value.ref b := r9
      refine putT (X := X.blk t3 G scope ce fp) B10 hu hD hb lt r10 fun t11 B11 => ?_
      obtain ⟨l, ll, wl⟩ := less _ nx
      have pin : ∀ b ∈ fp, ∀ o, t7.heap.get? b = some o → t11.heap.get? b = some o ∧ (upd K10 D (.dT (putK kvs k yv))) b = none := fun b mb o e => by
        have z := B11.pin (b, o) (List.mem_append_right _ (List.mem_append_right _ (mem_pinsAt mb e)))
        exact ⟨z.1, z.2.1⟩
      have len : (wipe σ (own.map (·.2))).length = τ.length := by rw [← wp8, wipe_length]
      refine ⟨l, ll, i + 1, _, (B11.unpinned (pins := [])).weak len (fun j v e => ?_), T.keep _ _ _ z7 fun b mb o e => (pin b mb o e).1, fun b mb => ?_, wl⟩
      · rw [← wp8] at e
        exact (wipe_some e).1
      · obtain ⟨o, e, _⟩ := T.obj _ _ z7 b mb
        exact (pin b mb o e).2
  exact codeAny_compStart_dict walk (T.self X.A 0 _ _ _ lift4 walk)
theorem pe_dcT {kx vx tg iter : Expr} {scope : Scope} {own : List (Str × Nat)} {pos : Pos} {wi : TI} {g : TG} {tk tv : TE} (hu : X.A.units < cLine) (cm : X.calm = true) (nd : X.N.Nodup) (hi : PI X tg iter wi) (bo : BlkOk X.N X.env.scope scope own)
    (gg : InBlk X scope fun Y => PG Y tg g) (gk : InBlk X scope fun Y => PE Y kx tk) (gv : InBlk X scope fun Y => PE Y vx tv) (fs : ∀ x, foldedSetIterable iter X.env x = pure x := by intro _; rfl) :
    PE X (.DictComp kx vx [⟨tg, iter, [], 0⟩] scope pos) (tDcT wi g tk tv (own.map (·.2))) := by
  constructor
  intro pins s σ H Q I h
  rw [arm_eval_DictComp]
  refine dcT_core hu cm nd I hi bo gg gk gv fs h fun D C t m G J q ns fp => ⟨m, ns, fun h2 sb => ?_⟩
  obtain ⟨y0, y1, y2, y3, y4, y5⟩ := fp
  exact ⟨.ref D, G, J.turned (t' := t.toks) (fun b o nb e => (sb.2 b nb).trans e) y0 y1 y3 y4 y5, rfl, q⟩
theorem swD {kx vx : Expr} {gs : List Comprehension} {scope : Scope} {pos py : Pos} {y : Str} {l : Nat} {env : Env} (hk : env.scope.kind = .function) (hy : env.scope.names.lookup y = some .local) (hl : (py.line == pos.line) = true)
    (no : (scope.names.any fun (n, k) => n == y && (k == .local || k == .cell)) = false) : swapsWith (.DictComp kx vx gs scope pos) (some (.Name y py)) l env = pure true := by
  have k1 : env.kindOf y = some .local := hy
  have k2 : env.blockKind = .function := by
    unfold Env.blockKind
    rw [hk]
    rfl
  unfold swapsWith
  simp only [k1, k2, no, hl, Expr.pos]
  rfl
/-- y = {k: v for ..} -/
theorem ps_setDcT {i : Nat} {y : Str} {py : Pos} {kx vx tg iter : Expr} {scope : Scope} {own : List (Str × Nat)} {pos sp : Pos} {wi : TI} {g : TG} {tk tv : TE} (hu : X.A.units < cLine) (cm : X.calm = true) (nd : X.N.Nodup) (hy : X.N[i]? = some y) (yl : X.env.scope.names.lookup y = some .local)
    (sw : swapsWith (.DictComp kx vx [⟨tg, iter, [], 0⟩] scope pos) (some (.Name y py)) sp.line X.env = pure true) (hi : PI X tg iter wi) (bo : BlkOk X.N X.env.scope scope own)
    (gg : InBlk X scope fun Y => PG Y tg g) (gk : InBlk X scope fun Y => PE Y kx tk) (gv : InBlk X scope fun Y => PE Y vx tv) (fs : ∀ x, foldedSetIterable iter X.env x = pure x := by intro _; rfl) :
    PS X (.Assign [.Name y py] (.DictComp kx vx [⟨tg, iter, [], 0⟩] scope pos) sp) (tAsg (tDcT wi g tk tv (own.map (·.2))) (gName i)) := by
  constructor
  intro pins s σ H D I h
  rw [exec_Assign_Name_used _ _ _ _ sw]
  refine wpAny_bind (wpAny_standAt (wpAny_bind ?_))
  show wpAny _ X.A (do let _ ← comprehension (.DictComp kx vx [⟨tg, iter, [], 0⟩] scope pos) scope X.env (firstIterPos [⟨tg, iter, [], 0⟩] pos) newDict false (eval iter X.env) (some (assign (.Name y py) X.env))) _ _ s
  refine wpAny_bind (thn (dcT_core (Qf := fun _ t => SP X pins D .next t) (Q := fun x H1 => gName i x σ H1 D.nx) hu cm nd I hi bo gg gk gv fs h fun L C t m G J q ns fp => ?_) fun _ t e => wpAny_pure (wpAny_pure e))
  show wpAny _ _ (assign (.Name y py) X.env (.ref L)) _ _ _
  refine wpAny_assign_Name (store_ok2 (v := V.ref L) J nd hy (.inl yl) rfl (fun t2 J2 z => ?_) (.inr yl))
  obtain ⟨a, sb, ha⟩ := z
  obtain ⟨y0, y1, y2, y3, y4, y5⟩ := fp
  have nC : C ≠ a := by
    rcases ha with e | ha
    · rw [e]
      exact y1
    · exact fun e => y4 y a ha e.symm
  exact ⟨m, ns.sameBut sb nC, fun h3 sb3 => ⟨_, G, J2.turned (t' := t2.toks) (fun b o nb e => (sb3.2 b nb).trans e) y0 y1 y3 y4 y5, q⟩⟩
end
end Lw
namespace Lw
open PySem PySem.Spec PyProof.Rows L2 Evl
/-! ### sorted(.., key=lambda row: (len(row), row)) -/
/-- what the lambda's names are -/
structure RowS (sc : Scope) (x : Str) : Prop where
  kind : sc.kind = .function
  co : sc.isCoroutine = false
  gen : sc.isGenerator = false
  cell : ∀ y ∈ sc.names, y.2 ≠ .cell
  free : ∀ y ∈ sc.names, y.2 ≠ .free
  par : sc.names.lookup x = some .local
  len : sc.names.lookup ("len" : Str) = some .globalImplicit
theorem rowKey {prog : Program} {w : World} {A : Around} {s : Shared} {f c a : Addr} {ys : Array Value} {ps : Arguments} {sc : Scope} {x q : Str} {pm ct : Value} {cl : List (Str × Addr)} {n : Nat} {p1 p2 p3 p4 p5 : Pos} {mg mb : Str → Option Value} {ds : List PyData}
    (room : A.depth < recursionLimit) (fo : s.heap.get? f = some (PySem.W.kla_obj "<lambda>" q ps (.Tuple [.Call (.Name "len" p1) [.Name x p2] [] p3, .Name x p4] n p5) sc cl pm c ct))
    (co : ∃ (oc : Obj) (vs : Array Value) (t : Tok), s.heap.get? c = some oc ∧ oc.data = .fields vs ∧ vs[1]? = some (.str q t)) (S : RowS sc x)
    (bind : bindArgs (PySem.W.kla_fn "<lambda>" q ps (.Tuple [.Call (.Name "len" p1) [.Name x p2] [] p3, .Name x p4] n p5) sc cl pm (.ref c) ct) ⟨[.ref a], []⟩ = pure [(x, .ref a)])
    (G : s.heap.Ns mainGlobals mg) (gl : mg "len" = none) (B : s.heap.Ns builtinsNs mb) (bl : mb "len" = some (.builtin "len")) (lim : s.heap.NoLimit)
    (ht : IsTup s.heap a ys) (fit : (ys.size : Int) < 2 ^ 63) (rd : Reads s.heap (.ref a) (.tuple ds) []) (xd : (x == ("__debug__" : Str)) = false) :
    wpAny (model prog w) A (call (.ref f) [.ref a]) (PySem.W.KeyPure (.tuple [.int (ys.size : Int), .tuple ds]) s) (fun _ _ => False) s := by
  refine wpAny_call (PySem.W.kla_callFunE room fo rfl S.co S.gen rfl ?_ ?_)
  · obtain ⟨oc, vs, t, h1, h2, h3⟩ := co
    exact ⟨c, oc, vs, t, rfl, h1, h2, h3⟩
  rw [bind]
  refine wpAny_pure (wpAny_newFunctionEnv S.cell (fun y my => ?_) (fun h1 ns sb => ?_) S.kind)
  · rw [List.mem_singleton.mp my]
    exact S.par
  have keep : ∀ b o, s.heap.get? b = some o → h1.get? b = some o := fun b o e => sb.extBut b o (Nat.ne_of_lt (Heap.lt_size e)) (Heap.get?_push_of_some _ e)
  refine ⟨lim.keeps keep, ?_⟩
  generalize ht1 : s.toks + ([(x, Value.ref a)] : List (Str × Value)).length = tk1
  show codeAny _ _ (.expr _ (PySem.W.envX q sc s.heap.objs.size f (.ref c) cl)) _ { s with heap := h1, toks := tk1 }
  refine PySem.W.kla_codeExpr (wpAny_Tuple_spliced ?_)
  have ld : ∀ (E : Value → Shared → Prop) (Q : Value → Shared → Prop) (tk : Tok) (p : Pos), Q (.ref a) { s with heap := h1, toks := tk } →
      wpAny (model prog w) (A.deeper (PySem.W.envX q sc s.heap.objs.size f (.ref c) cl)) (eval (.Name x p) (PySem.W.envX q sc s.heap.objs.size f (.ref c) cl)) Q E { s with heap := h1, toks := tk } := fun E Q tk p hq =>
    wpAny_Name (wpAny_loadName_local S.kind S.par ns (by simp) hq) xd
  refine Calls.spliced_cons (wpAny_Call_Name_kw (Calls.Name_function_global S.kind S.len (Calls.loadGlobal_builtin (G.keeps keep) gl (B.keeps keep) bl ?_) (by decide)))
  refine PyProof.Rows.callWith_builtin1 (Calls.spliced_cons (ld _ _ _ _ (Calls.spliced_nil ?_))) (by rfl) (by rfl)
  refine len_tuple (show IsTup h1 a ys from ?_) fit (Calls.spliced_cons (ld _ _ _ _ (Calls.spliced_nil ⟨by show 2 ≤ sizeLine; decide, ?_⟩)))
  · obtain ⟨o, e, r⟩ := ht
    exact ⟨o, keep _ _ e, r⟩
  have up : ∀ (z : Obj) b o, s.heap.get? b = some o → (h1.push z).get? b = some o := fun z b o e => Heap.get?_push_of_some _ (keep b o e)
  refine ⟨_, _, rfl, up _, ?_⟩
  exact .tuple (Heap.get?_push_size _ rfl) rfl rfl (.cons (.int _ _) (.cons (PyProof.Rows.Reads.keeps (up _) rd) .nil))
end Lw
namespace Lw
open PySem PySem.Spec PyProof.Rows L2 Evl LamX
theorem reads_strs {h : Heap} : ∀ {xs : List Str} {us : List Value}, Vals (xs.map V.str) us → PySem.ReadsAll h us (xs.map PyData.str) []
  | [], _, .nil => .nil
  | x :: xs, _, .cons r t => by
    obtain ⟨tk, rfl⟩ := r
    exact .cons (.str x tk) (reads_strs t)
theorem reads_tup {P : Program} {w : World} {H : Hp} {h : Heap} (ok : HOk P w H h) {a : Addr} {xs : List Str} (e : H a = some (.tup (xs.map V.str))) :
    ∃ ys : Array Value, IsTup h a ys ∧ ys.size = xs.length ∧ xs.length ≤ sizeLine ∧ Reads h (.ref a) (.tuple (xs.map PyData.str)) [] := by
  obtain ⟨le, its, r, o, e1, e2, n, e3⟩ := ok a _ e
  rw [List.length_map] at le
  have z := r.length
  rw [List.length_map] at z
  exact ⟨its.toArray, ⟨o, e1, e2, n, e3⟩, by rw [List.size_toArray, ← z], le, .tuple e1 e2 e3 (by simpa using reads_strs r)⟩
/-- all but the table at P stands, and nothing that was there is free -/
def ExtP (P : Addr) (H H2 : Hp) : Prop := (∀ b o, b ≠ P → H b = some o → H2 b = some o) ∧ ∀ b, H2 b = none → H b = none
theorem ExtP.trans {P : Addr} {H H2 H3 : Hp} (a : ExtP P H H2) (b : ExtP P H2 H3) : ExtP P H H3 := ⟨fun c o n e => b.1 c o n (a.1 c o n e), fun c e => a.2 c (b.2 c e)⟩
theorem ExtP.of {P : Addr} {H H2 : Hp} (e : Ex H H2) : ExtP P H H2 := ⟨fun c o _ q => e c o q, fun c q => fresh_back e q⟩
theorem ExtP.nt {P : Addr} {H H2 : Hp} {q : Str} (x : ExtP P H H2) (t : TabS H P q) {b : Addr} {o : HO} (e : H b = some o) (n : ∀ ps, o ≠ .tbl ps) : H2 b = some o := x.1 b o (fun z => by
  obtain ⟨ps, h, _⟩ := t
  rw [z, h] at e
  exact n ps (Option.some.inj e).symm) e
section
variable {X : Cx} {pins : List (Addr × Obj)} {σ : L2.St} {H : Hp} {s : Shared}
/-- a lambda that captures nothing is made -/
theorem mkLam {T : List (Addr × Str)} {c P : Addr} {ps : Arguments} {body : Expr} {sc : Scope} {pos : Pos} {E : Value → Shared → Prop} {Q : Value → Shared → Prop} (I : Inv X pins σ H s) (TB : TabB X.base X.mg c P) (hc : X.env.code = .ref c)
    (hm : (P, X.env.qual ++ "<lambda>") ∈ T) (hu : ∀ z ∈ T, z.1 = P → z.2 = X.env.qual ++ "<lambda>") (t : Tabs T H) (df : defaultsOf ps X.env = ([], [])) (nf : ∀ y ∈ sc.names, y.2 ≠ .free)
    (q : ∀ (f c2 : Addr) (pm ct : Value) (H2 : Hp) (s2 : Shared), Inv X pins σ H2 s2 → ExtP P H H2 → Tabs T H2 →
      s2.heap.get? f = some (PySem.W.kla_obj "<lambda>" (X.env.qual ++ "<lambda>") ps body sc (cloFrom X.env.cells sc.names []) pm c2 ct) → H2 c2 = some (CodeO c2 (X.env.qual ++ "<lambda>")) → Q (.ref f) s2) :
    wpAny (model X.prog X.w) X.A (eval (.Lambda ps body sc pos) X.env) Q E s := by
  obtain ⟨arr, hP, tr, all⟩ := t _ hm
  have clo : closureFor sc X.env = pure (cloFrom X.env.cells sc.names []) := closure_ok fun y my ey => absurd ey (nf y my)
  have gk := I.mod.glob.keeps I.bk
  have bk := TB.bm.keeps I.bk
  have oP : s.heap.get? P = some { cls := .none, data := .fields arr } := I.hok P _ hP
  refine PySem.W.kla_eval df ?_
  rcases hcode : codeAmong pos arr.toList with _ | cv
  · refine PySem.W.kla_makeFunction (mg := X.mg) (c := c) (P := P) (ps := arr) clo I.ok.glob gk hc (TB.code.keeps I.bk) oP tr hcode TB.gP bk fun c2 ct h2 tk eb ge lt rec2 tab => ?_
    obtain ⟨_, oc, vs, tt, z, o1, o2, o3⟩ := rec2
    cases z
    have nc : H c2 = none := I.hok.fresh ge
    have pc : P ≠ c2 := ne_of_none hP nc
    have J := inv_table (t' := tk) (more := #[rawInt pos.line, rawInt pos.col, .ref c2]) (q := X.env.qual ++ "<lambda>") (h' := h2.push (PySem.W.kla_obj "<lambda>" (X.env.qual ++ "<lambda>") ps body sc (cloFrom X.env.cells sc.names []) ((X.mg "__name__").getD .none) c2 ct)) I hP
      (fun b o nb e => Heap.get?_push_of_some _ (eb b o nb e)) (Heap.get?_push_of_some _ tab) ge ⟨oc, vs, tt, Heap.get?_push_of_some _ o1, o2, o3⟩
    have st : ∀ b o, b ≠ P → H b = some o → (upd (upd H P (.tbl (arr ++ #[rawInt pos.line, rawInt pos.col, .ref c2]))) c2 (CodeO c2 (X.env.qual ++ "<lambda>"))) b = some o := fun b o nb e => by
      rw [upd_ne (ne_of_none e nc), upd_ne nb]
      exact e
    have fr : ∀ b, (upd (upd H P (.tbl (arr ++ #[rawInt pos.line, rawInt pos.col, .ref c2]))) c2 (CodeO c2 (X.env.qual ++ "<lambda>"))) b = none → H b = none := fun b e => by
      by_cases n1 : b = c2
      · rw [n1]
        exact nc
      · rw [upd_ne n1] at e
        by_cases n2 : b = P
        · rw [n2, upd_same] at e
          cases e
        · rwa [upd_ne n2] at e
    have li : (arr ++ #[rawInt pos.line, rawInt pos.col, .ref c2]).toList = arr.toList ++ [rawInt pos.line, rawInt pos.col, .ref c2] := by simp
    refine q _ c2 _ ct _ _ J ⟨st, fr⟩ (fun z hz => ?_) (Heap.get?_push_size _ rfl) upd_same
    by_cases e : z.1 = P
    · rw [hu z hz e, e]
      refine ⟨_, by rw [upd_ne pc, upd_same], by rw [li]; exact PySem.TriplesOk_snoc _ _ _ _ tr, fun p2 cv hcv => ?_⟩
      rw [li] at hcv
      rcases among_app _ tr hcv with y | y
      · obtain ⟨c0, rfl, z2⟩ := all p2 cv y
        exact ⟨c0, rfl, st _ _ (fun y => by rw [y, hP] at z2; cases z2) z2⟩
      · exact ⟨c2, y, upd_same⟩
    · obtain ⟨arr2, a1, a2, a3⟩ := t z hz
      refine ⟨arr2, st _ _ e a1, a2, fun p2 cv hcv => ?_⟩
      obtain ⟨c0, rfl, z2⟩ := a3 p2 cv hcv
      exact ⟨c0, rfl, st _ _ (fun y => by rw [y, hP] at z2; cases z2) z2⟩
  · obtain ⟨c2, rfl, co⟩ := all pos cv hcode
    refine PySem.W.kla_makeFunctionHit (mg := X.mg) (c := c) (P := P) (ps := arr) clo I.ok.glob gk hc (TB.code.keeps I.bk) oP tr hcode bk fun ct h2 tk kp le => ?_
    exact q h2.objs.size c2 _ ct H _ (I.kept fun b o e => Heap.get?_push_of_some _ (kp b o e)) (.of (Ex.refl H)) t (Heap.get?_push_size _ rfl) co
end
/-- sorted(e, key=lambda row: (len(row), row)), e a list of tuples of texts -/
def tSortRow (K : PySem.W.Frag) (T : List (Addr × Str)) (P : Addr) (te : TE) : TE := fun σ H Q => te σ H fun v H1 => Tabs T H1 ∧ ∃ l ws, v = .ref l ∧ LW K H1 l ws ∧ ws.length ≤ 100000 ∧
  ∀ r H2, ExtP P H1 H2 → Tabs T H2 → H1 r = none → LW K H2 r (ws.mergeSort (PySem.W.dataLe false kW)) → Q (.ref r) H2
theorem depth_strs : ∀ xs : List Str, PyData.depthAll (xs.map PyData.str) = 0
  | [] => rfl
  | x :: xs => by simp [PyData.depthAll, PyData.depth, depth_strs xs]
theorem depth_kW (xs : List Str) : (kW xs).depth ≤ 2 := by
  simp [kW, wD, PyData.depth, PyData.depthAll, depth_strs]
/-- a word, as it stands among the values -/
def WR (H : Hp) (v : Value) (xs : List Str) : Prop := ∃ a, v = .ref a ∧ H a = some (.tup (xs.map V.str))
theorem wr_of {K : PySem.W.Frag} {H : Hp} : ∀ {us : List V} {ws : List (List Str)} {vs : List Value}, Paired (Wd K H) us ws → Vals us vs → PySem.W.EachIs (WR H) vs ws
  | _, _, _, .nil, .nil => .nil
  | _, _, _, .cons r t, .cons rv tv => by
    obtain ⟨a, rfl, e⟩ := r
    obtain rfl : _ = Value.ref a := rv
    exact .cons ⟨a, rfl, e⟩ (wr_of t tv)
theorem wr_back {K : PySem.W.Frag} {H : Hp} : ∀ {vs : List Value} {ws : List (List Str)}, PySem.W.EachIs (WR H) vs ws → ∃ us, Vals us vs ∧ Paired (Wd K H) us ws
  | _, _, .nil => ⟨[], .nil, .nil⟩
  | _, _, .cons r t => by
    obtain ⟨us, h1, h2⟩ := wr_back (K := K) t
    obtain ⟨a, rfl, e⟩ := r
    exact ⟨.ref a :: us, .cons rfl h1, .cons ⟨a, rfl, e⟩ h2⟩
section
variable {X : Cx}
theorem pe_sortRow {K : PySem.W.Frag} {T : List (Addr × Str)} {te : TE} {c P : Addr} {e : Expr} {ps : Arguments} {sc : Scope} {x : Str} {n : Nat} {p p1 p2 p3 p4 p5 lp kp pos : Pos} (gd : Gl X "sorted") (gm : X.mg "sorted" = none) (gl : X.mg "len" = none) (he : PE X e te)
    (TB : TabB X.base X.mg c P) (hc : X.env.code = .ref c) (hm : (P, X.env.qual ++ "<lambda>") ∈ T) (hu : ∀ z ∈ T, z.1 = P → z.2 = X.env.qual ++ "<lambda>") (room : X.A.depth < recursionLimit) (un : X.A.units + 64 < cLine) (S : RowS sc x)
    (df : defaultsOf ps X.env = ([], [])) (xd : (x == ("__debug__" : Str)) = false)
    (bind : ∀ (q : Str) (cl : List (Str × Addr)) (pm ct : Value) (c a : Addr), bindArgs (PySem.W.kla_fn "<lambda>" q ps (.Tuple [.Call (.Name "len" p1) [.Name x p2] [] p3, .Name x p4] n p5) sc cl pm (.ref c) ct) ⟨[.ref a], []⟩ = pure [(x, .ref a)])
    (hK : X.K = K := by rfl)
    (h1 : backTo pos (starEach [e] X.env) = [(false, eval e X.env)] := by rfl) :
    PE X (.Call (.Name "sorted" p) [e] [⟨some "key", .Lambda ps (.Tuple [.Call (.Name "len" p1) [.Name x p2] [] p3, .Name x p4] n p5) sc lp, kp⟩] pos) (tSortRow K T P te) := by
  subst hK
  constructor
  intro pins s σ H Q I h
  refine wpAny_Call_Name_kw (ld_blt I gd gm PyProof.Rows.boot_sorted ?_)
  refine PyProof.Rows.callWith_kw (e := e) (rest := []) ?_ h1 (by rw [h1]; rfl) (by rfl) (by rfl)
  rw [h1]
  refine Calls.spliced_cons (thn (he.run pins s σ H _ I h) fun u s1 h2 => Calls.spliced_nil ?_)
  obtain ⟨v, H1, I1, rv, t1, l, ws, rfl, lw, lz, q⟩ := h2
  obtain rfl : u = Value.ref l := rv
  show wpAny _ _ (evalAll [do let v ← eval (.Lambda _ _ sc lp) X.env; standAt pos; pure v]) _ _ s1
  refine PyProof.Rows.evalAll_cons (wpAny_bind (mkLam I1 TB hc hm hu t1 df S.free fun f c2 pm ct H2 s2 I2 eN t2 fo hco => wpAny_bind (wpAny_standAt (wpAny_pure ?_))))
  refine wpAny_evalAll_nil ?_
  show wpAny _ _ (call (.builtin "sorted") [.ref l] [(Str.ofString "key", .ref f)]) _ _ s2
  obtain ⟨us, hl, hp⟩ := lw
  have hl2 : H2 l = some (.lst us) := eN.nt (t1 _ hm) hl fun ps z => nomatch z
  have hp2 : Paired (Wd X.K H2) us ws := paired_mono (fun v ys r => by
    obtain ⟨a, rfl, ea⟩ := r
    exact ⟨a, rfl, eN.nt (t1 _ hm) ea fun ps z => nomatch z⟩) hp
  obtain ⟨zl, its, ep, rel, ho⟩ := I2.hok l _ hl2
  have e := wr_of hp2 rel
  obtain ⟨mb, b1, b2⟩ := I2.mod.blt
  refine PySem.W.sorted_key_data (R := WR H2) (b := false) kW ⟨_, ho, rfl, ep, rfl⟩ e (alike_kW ws) (sortable_kW ws) (sz_of lz) (fun ys _ => by have := depth_kW ys; omega) (PyProof.Rows.ksk_s1 _ _) (fun _ => PyProof.Rows.ksk_l1 _ _) (fun _ => PyProof.Rows.ksk_t1 _ _)
    (fun v ys r _ h3 tk kp => ?_) (fun out cnt h3 tk kp fr hD _ eo => ?_)
  · obtain ⟨a, rfl, ea⟩ := r
    obtain ⟨arr, ht, hs, le, rd⟩ := reads_tup I2.hok ea
    have line := line63
    have co := (I2.hok c2 _ hco).1
    have z := rowKey (prog := X.prog) (w := X.w) (A := X.A.in1.in1) (s := { s2 with heap := h3, toks := tk }) (ds := ys.map PyData.str) room (kp _ _ fo) (by
      obtain ⟨oc, vs, t, z1, z2, z3⟩ := co
      exact ⟨oc, vs, t, kp _ _ z1, z2, z3⟩) S (bind _ _ _ _ _ _) ((I2.mod.glob.keeps I2.bk).keeps kp) gl ((b1.keeps I2.bk).keeps kp) ((b2 "len" (by decide)).trans (by decide +kernel)) (I2.nolimit.keeps kp) (ht.keeps kp) (by omega) (PyProof.Rows.Reads.keeps kp rd) xd
    rw [hs] at z
    exact z
  · obtain ⟨us2, v2, w2⟩ := wr_back (K := X.K) eo
    have hn : H2 (s2.heap.objs.size + 1) = none := I2.hok.fresh (Nat.le_succ _)
    have len : us2.length ≤ sizeLine := by
      rw [Paired.length w2, List.length_mergeSort]
      exact sz_of lz
    refine ⟨.ref _, upd H2 (s2.heap.objs.size + 1) (.lst us2), I2.laid (t' := tk) kp (Nat.le_succ _) ⟨len, out, cnt, v2, hD⟩, rfl, q _ _ (eN.trans (.of (Ex.new hn))) (t2.ext (Ex.new hn)) ?_ ⟨us2, upd_same, ?_⟩⟩
    · exact eN.2 _ hn
    · exact paired_mono (fun _ _ r => wd_mono (Ex.new hn) r) w2
end
end Lw
namespace Lw
open PySem PySem.Spec PyProof.Rows L2 Evl
section
variable {K : PySem.W.Frag}
/-- a tuple of words -/
def TW (K : PySem.W.Frag) (H : Hp) (l : Addr) (ws : List (List Str)) : Prop := ∃ us, H l = some (.tup us) ∧ Paired (Wd K H) us ws
section
variable {σ : L2.St} {H : Hp} {te ta tb : TE} {tk : TA} {l : Addr} {ws us : List (List Str)}
/-- an expression that gives a list, or a tuple, of words -/
def EvSW (K : PySem.W.Frag) (te : TE) (σ : L2.St) (H : Hp) (ws : List (List Str)) : Prop := ∀ H1, Ex H H1 → ∀ Q : VK, (∀ l H2, Ex H1 H2 → LW K H2 l ws ∨ TW K H2 l ws → Q (.ref l) H2) → te σ H1 Q
theorem esw_var (h : Ev te σ H (.ref l)) (hl : LW K H l ws) : EvSW K te σ H ws := fun H1 e Q q => h H1 e _ fun H2 e2 => q l H2 e2 (.inl (lw_mono (e.trans e2) hl))
theorem esw_new (h : EvLW K te σ H ws) : EvSW K te σ H ws := fun H1 e Q q => h H1 e _ fun l H2 _ e2 hl => q l H2 e2 (.inl hl)
theorem esw_tup {K' : PySem.W.Frag} (h : Ev te σ H (.ref l)) (hl : LW K H l ws) : EvSW K (tCB (fun xs H Q => ∃ p ys, xs = [V.ref p] ∧ ((SqL K' H p ys ∧ ∀ l, H l = none → Q (V.ref l) (upd H l (.tup ys))) ∨ (SqT K' H p ys ∧ Q (V.ref p) H))) (tCons te tNil)) σ H ws := fun H1 e Q q => h H1 e _ fun H2 e2 => by
  obtain ⟨us, h1, h2⟩ := lw_mono (e.trans e2) hl
  exact ⟨l, us, rfl, .inl ⟨SqL.of h1, fun t ht => q t _ (e2.trans (Ex.new ht)) (.inr ⟨us, upd_same, paired_mono (fun _ _ r => wd_mono (Ex.new ht) r) h2⟩)⟩⟩
theorem esw_revcat {K' : PySem.W.Frag} {a b : Addr} (ha : Ev ta σ H (.ref a)) (hb : Ev tb σ H (.ref b)) (h1 : LW K H a us) (h2 : LW K H b ws) (hz : us.length + ws.length ≤ 100000) : EvSW K (tOp rCat (tRevL K' ta) tb) σ H (us.reverse ++ ws) := fun H1 e Q q => ha H1 e _ fun H2 e2 => by
  obtain ⟨vs, v1, v2⟩ := lw_mono (e.trans e2) h1
  refine ⟨a, vs, rfl, SqL.of v1, fun p hp => hb _ ((e.trans e2).trans (Ex.new hp)) _ fun H3 e3 => ?_⟩
  obtain ⟨zs, z1, z2⟩ := lw_mono (((e.trans e2).trans (Ex.new hp)).trans e3) h2
  have l1 := Paired.length v2
  have l2 := Paired.length z2
  refine ⟨p, b, vs.reverse, zs, rfl, rfl, e3 _ _ upd_same, z1, sz_of (by rw [List.length_reverse]; omega), fun t ht => q t _ (((e2.trans (Ex.new hp)).trans e3).trans (Ex.new ht)) (.inl ⟨_, upd_same, ?_⟩)⟩
  exact paired_mono (fun _ _ r => wd_mono (Ex.new ht) r) (paired_app (paired_mono (fun _ _ r => wd_mono ((Ex.new hp).trans e3) r) (paired_rev v2)) z2)
theorem elw_nil : EvLW K (tLst tNil) σ H [] := fun H1 e Q q => ⟨Nat.zero_le _, fun p hp => q p _ hp (Ex.new hp) ⟨[], upd_same, .nil⟩⟩
theorem ev_neLW {a b : Addr} (ha : Ev ta σ H (.ref a)) (hb : Ev tb σ H (.ref b)) (h1 : LW K H a ws) (h2 : LW K H b ws) (hw : ∀ x ∈ ws, isW x = true) : Ev (tOp (rNeD K) ta tb) σ H (.bl false) := ev_op ha hb (rv_val fun H1 e Q q => by
  obtain ⟨vs, v1, v2⟩ := lw_mono e h1
  obtain ⟨zs, z1, z2⟩ := lw_mono e h2
  have sh := shaped_wDs hw
  refine ⟨.list (ws.map wD), .list (ws.map wD), .lst (SqL.of v1) (dpa_words v2), .lst (SqL.of z1) (dpa_words z2), sh, sh, ?_⟩
  rw [SeqAt.eqv_refl _ (SeqAt.canLay_of_shaped sh)]
  exact q)
variable {xs ys : List Str}
/-- a list of two such tuples -/
theorem elw_two (ha : EvW K ta σ H xs) (hb : EvW K tb σ H ys) : EvLW K (tLst (tCons ta (tCons tb tNil))) σ H [xs, ys] := fun H1 e Q q => ha H1 e _ fun x H2 e2 hx => hb H2 (e.trans e2) _ fun y H3 e3 hy =>
  ⟨(by show 2 ≤ sizeLine; decide), fun p hp => q p _ (fresh_back (e2.trans e3) hp) ((e2.trans e3).trans (Ex.new hp)) ⟨[x, y], upd_same, .cons (wd_mono (e3.trans (Ex.new hp)) hx) (.cons (wd_mono (Ex.new hp) hy) .nil)⟩⟩
theorem et_neS {x y : Str} (ha : Ev ta σ H (.str x)) (hb : Ev tb σ H (.str y)) : EvT (tTest (tOp rNe ta tb)) σ H (!decide (x = y)) := by
  have z := et_test (ev_op ha hb (rv_ne (H := H) (x := .str x) (y := .str y) rfl))
  rw [show decide (V.str x = V.str y) = decide (x = y) from decide_eq_decide.mpr ⟨fun e => by injection e, fun e => by rw [e]⟩] at z
  exact z
theorem et_neSS {x : Str} (ha : Ev ta σ H (.str x)) (hb : Ev tb σ H (.str x)) : EvT (tTest (tOp rNe ta tb)) σ H false := by
  have z := et_neS ha hb
  rw [decide_eq_true rfl] at z
  exact z
end
end
end Lw
namespace Rm
open PySem PySem.Spec PyProof.Rows L2 Lw Evl LamX
/-! ### what stands while tables of code objects grow, and pots turn -/
structure Zn where
  T : List (Addr × Str)
  M : Addr → Prop
abbrev Z0 (T : List (Addr × Str)) : Zn := ⟨T, fun _ => False⟩
abbrev Zp (T : List (Addr × Str)) (p : Addr) : Zn := ⟨T, fun a => a = p⟩
def Ok (Z : Zn) (H : Hp) : Prop := Tabs Z.T H ∧ ∀ a, Z.M a → Po a H
def NT (o : HO) : Prop := ∀ ps, o ≠ .tbl ps
theorem nt_lst {xs : List V} : NT (.lst xs) := fun _ z => nomatch z
theorem nt_tup {xs : List V} : NT (.tup xs) := fun _ z => nomatch z
theorem nt_frz {o : Obj} {u : HO} : NT (.frz o u) := fun _ z => nomatch z
theorem nt_dT {kvs : List (List L2.Key × V)} : NT (.dT kvs) := fun _ z => nomatch z
theorem nt_dK {kvs : List (L2.Key × V)} : NT (.dK kvs) := fun _ z => nomatch z
theorem nt_ins {C d : Addr} {fs : List (Str × V)} : NT (.ins C d fs) := fun _ z => nomatch z
theorem nt_own {x : Addr} : NT (.own x) := fun _ z => nomatch z
/-- nothing stands there, but a table at most -/
def Fr (H : Hp) (x : Addr) : Prop := ∀ o, H x = some o → ¬ NT o
theorem fr_none {H : Hp} {x : Addr} (h : H x = none) : Fr H x := fun o e => by rw [h] at e; cases e
theorem fr_ne {H : Hp} {x b : Addr} {o : HO} (h : Fr H x) (e : H b = some o) (n : NT o) : b ≠ x := fun z => by
  rw [z] at e
  exact h o e n
structure R (Z : Zn) (H H2 : Hp) : Prop where
  a : Ok Z H
  b : Ok Z H2
  st : ∀ x o, H x = some o → NT o → ¬ Z.M x → H2 x = some o
section
variable {Z : Zn} {H H1 H2 H3 : Hp} {x p : Addr} {o u : HO} {K : PySem.W.Frag}
theorem R.refl (h : Ok Z H) : R Z H H := ⟨h, h, fun _ _ e _ _ => e⟩
theorem R.trans (r : R Z H H1) (q : R Z H1 H2) : R Z H H2 := ⟨r.a, q.b, fun x o e n m => q.st x o (r.st x o e n m) n m⟩
theorem R.fr (r : R Z H H1) (h : Fr H1 x) : Fr H x := fun o e n => by
  by_cases m : Z.M x
  · obtain ⟨i, j, q, _⟩ := r.b.2 x m
    exact h _ q nt_lst
  · exact h o (r.st x o e n m) n
theorem po_ex (e : Ex H H1) (h : Po p H) : Po p H1 := by
  obtain ⟨i, j, q, z⟩ := h
  exact ⟨i, j, e _ _ q, z⟩
theorem R.of (h : Ok Z H) (e : Ex H H1) : R Z H H1 := ⟨h, ⟨h.1.ext e, fun a m => po_ex e (h.2 a m)⟩, fun x o q _ _ => e x o q⟩
theorem R.ex (r : R Z H H1) (e : Ex H1 H2) : R Z H H2 := r.trans (.of r.b e)
theorem R.new (r : R Z H H1) (h : H1 p = none) : R Z H (upd H1 p o) := r.ex (.new h)
theorem Ok.nm (h : Ok Z H) (e : H x = some o) (n : ∀ xs, o ≠ .lst xs) : ¬ Z.M x := fun m => by
  obtain ⟨i, j, q, _⟩ := h.2 x m
  rw [e] at q
  exact n _ (Option.some.inj q)
theorem Ok.fresh (h : Ok Z H) (e : Fr H x) : ¬ Z.M x := fun m => by
  obtain ⟨i, j, q, _⟩ := h.2 x m
  exact e _ q nt_lst
theorem R.tup {us : List V} (r : R Z H H1) (h : H x = some (.tup us)) : H1 x = some (.tup us) := r.st x _ h nt_tup (r.a.nm h fun _ z => nomatch z)
theorem R.frz {w : Obj} (r : R Z H H1) (h : H x = some (.frz w u)) : H1 x = some (.frz w u) := r.st x _ h nt_frz (r.a.nm h fun _ z => nomatch z)
theorem R.lst {us : List V} (r : R Z H H1) (h : H x = some (.lst us)) (n : ¬ Z.M x) : H1 x = some (.lst us) := r.st x _ h nt_lst n
/-- an object that was not there may change; it is no table and no code object -/
def Pl : HO → Prop
  | .tbl _ => False
  | .ext _ => False
  | _ => True
theorem R.mut (r : R Z H H1) (h : Fr H p) (h1 : H1 p = some u) (pl : Pl u) : R Z H (upd H1 p o) := by
  have np : ¬ Z.M p := r.a.fresh h
  refine ⟨r.a, ⟨fun z hz => ?_, fun a m => ?_⟩, fun x v e n m => ?_⟩
  · obtain ⟨ps, e1, e2, e3⟩ := r.b.1 z hz
    have n1 : z.1 ≠ p := fun y => by
      rw [y, h1] at e1
      cases Option.some.inj e1
      exact pl
    refine ⟨ps, by rw [upd_ne n1]; exact e1, e2, fun q v hv => ?_⟩
    obtain ⟨c, y, e4⟩ := e3 q v hv
    refine ⟨c, y, ?_⟩
    rw [upd_ne fun y2 => by
      rw [y2, h1] at e4
      cases Option.some.inj e4
      exact pl]
    exact e4
  · obtain ⟨i, j, q, z⟩ := r.b.2 a m
    exact ⟨i, j, by rw [upd_ne fun y => np (by rw [← y]; exact m)]; exact q, z⟩
  · rw [upd_ne (fr_ne h e n)]
    exact r.st x v e n m
theorem R.lam (h : Ok Z H) (e : ExtN H H1) (t : Tabs Z.T H1) : R Z H H1 :=
  ⟨h, ⟨t, fun a m => by
    obtain ⟨i, j, y, z⟩ := h.2 a m
    exact ⟨i, j, e _ _ y nt_lst, z⟩⟩, fun x o y n _ => e _ _ y n⟩
theorem R.lamP {P : Addr} {q : Str} (h : Ok Z H) (hm : (P, q) ∈ Z.T) (e : ExtP P H H1) (t : Tabs Z.T H1) : R Z H H1 :=
  ⟨h, ⟨t, fun a m => by
    obtain ⟨i, j, y, z⟩ := h.2 a m
    exact ⟨i, j, e.nt (h.1 _ hm) y nt_lst, z⟩⟩, fun x o y n _ => e.nt (h.1 _ hm) y n⟩
theorem Tabs.po {T : List (Addr × Str)} (t : Tabs T H) (h : Po p H) (x : Xp p H H1) : Tabs T H1 := fun z hz => by
  obtain ⟨i, j, q, _⟩ := h
  obtain ⟨ps, e1, e2, e3⟩ := t z hz
  refine ⟨ps, x.1 _ _ (fun y => by rw [y, q] at e1; cases e1) e1, e2, fun a v hv => ?_⟩
  obtain ⟨c, y, e4⟩ := e3 a v hv
  exact ⟨c, y, x.1 _ _ (fun y => by rw [y, q] at e4; cases e4) e4⟩
theorem R.xp {T : List (Addr × Str)} (t : Tabs T H) (h : Po p H) (x : Xp p H H1) : R (Zp T p) H H1 :=
  ⟨⟨t, fun a m => by rw [m]; exact h⟩, ⟨Tabs.po t h x, fun a m => by rw [m]; exact x.2⟩, fun a o e _ n => x.1 a o n e⟩
theorem R.sub {T : List (Addr × Str)} (r : R (Z0 T) H H1) (h : Po p H) : R (Zp T p) H H1 :=
  ⟨⟨r.a.1, fun a m => by rw [m]; exact h⟩, ⟨r.b.1, fun a m => by
    obtain ⟨i, j, e, z⟩ := h
    rw [m]
    exact ⟨i, j, r.st _ _ e nt_lst fun y => y, z⟩⟩, fun a o e n _ => r.st a o e n fun y => y⟩
theorem wd_R {v : V} {ys : List Str} (r : R Z H H1) (h : Wd K H v ys) : Wd K H1 v ys := by
  obtain ⟨a, e, h⟩ := h
  exact ⟨a, e, r.tup h⟩
theorem lw_R {l : Addr} {ws : List (List Str)} (r : R Z H H1) (n : ¬ Z.M l) (h : LW K H l ws) : LW K H1 l ws := by
  obtain ⟨us, h1, h2⟩ := h
  exact ⟨us, r.lst h1 n, paired_mono (fun _ _ q => wd_R r q) h2⟩
theorem tw_R {l : Addr} {ws : List (List Str)} (r : R Z H H1) (h : TW K H l ws) : TW K H1 l ws := by
  obtain ⟨us, h1, h2⟩ := h
  exact ⟨us, r.tup h1, paired_mono (fun _ _ q => wd_R r q) h2⟩
end
theorem sql_R {Z : Zn} {H H1 : Hp} {K : PySem.W.Frag} {a : Addr} {ns : List Int} (r : R Z H H1) (h : SqL K H a (ns.map V.int)) (n : ¬ Z.M a := by exact fun z => z) : SqL K H1 a (ns.map V.int) := by
  rcases h with (h | ⟨o, h⟩) | h
  · exact .inl (.inl (r.lst h n))
  · exact .inl (.inr ⟨o, r.frz h⟩)
  · exact .inr h
/-! ### what evaluates to what -/
/-- a value | a truth | a new list of words | a list or tuple of words -/
def Ew (Z : Zn) (te : TE) (σ : L2.St) (H : Hp) (v : V) : Prop := ∀ H1, R Z H H1 → ∀ Q : VK, (∀ H2, R Z H1 H2 → Q v H2) → te σ H1 Q
def Et (Z : Zn) (tt : TT) (σ : L2.St) (H : Hp) (b : Bool) : Prop := ∀ H1, R Z H H1 → ∀ Q : Bool → Hp → Prop, (∀ H2, R Z H1 H2 → Q b H2) → tt σ H1 Q
def Elw (Z : Zn) (K : PySem.W.Frag) (te : TE) (σ : L2.St) (H : Hp) (ws : List (List Str)) : Prop := ∀ H1, R Z H H1 → ∀ Q : VK, (∀ l H2, Fr H1 l → R Z H1 H2 → LW K H2 l ws → Q (.ref l) H2) → te σ H1 Q
def Esw (Z : Zn) (K : PySem.W.Frag) (te : TE) (σ : L2.St) (H : Hp) (ws : List (List Str)) : Prop := ∀ H1, R Z H H1 → ∀ Q : VK, (∀ l H2, R Z H1 H2 → LW K H2 l ws ∨ TW K H2 l ws → Q (.ref l) H2) → te σ H1 Q
section
variable {Z : Zn} {K : PySem.W.Frag} {P : Program} {w : World} {σ : L2.St} {H H1 : Hp} {te ta tb : TE} {tt tu : TT} {v x y : V} {ws : List (List Str)} {b c : Bool} {D : Ends} {tz : TS}
theorem ew_of (h : ∀ H1, R Z H H1 → Ev te σ H1 v) : Ew Z te σ H v := fun H1 r Q q => h H1 r H1 (Ex.refl H1) Q fun H2 e => q H2 (.of r.b e)
theorem et_of (h : ∀ H1, R Z H H1 → EvT tt σ H1 b) : Et Z tt σ H b := fun H1 r Q q => h H1 r H1 (Ex.refl H1) Q fun H2 e => q H2 (.of r.b e)
theorem elw_of (h : ∀ H1, R Z H H1 → EvLW K te σ H1 ws) : Elw Z K te σ H ws := fun H1 r Q q => h H1 r H1 (Ex.refl H1) Q fun l H2 n e => q l H2 (fr_none n) (.of r.b e)
theorem esw_of (h : ∀ H1, R Z H H1 → EvSW K te σ H1 ws) : Esw Z K te σ H ws := fun H1 r Q q => h H1 r H1 (Ex.refl H1) Q fun l H2 e => q l H2 (.of r.b e)
theorem esw_new (h : Elw Z K te σ H ws) : Esw Z K te σ H ws := fun H1 r Q q => h H1 r Q fun l H2 _ r2 z => q l H2 r2 (.inl z)
theorem ew_var {i : Nat} (h : σ[i]? = some (some v)) : Ew Z (tVar i) σ H v := ew_of fun _ _ => ev_var h
theorem ew_c : Ew Z (tC v) σ H v := ew_of fun _ _ => ev_c
theorem ew_op {r : R2} {z : V} (ha : Ew Z ta σ H x) (hb : Ew Z tb σ H y) (hr : ∀ H1, R Z H H1 → RV r x y H1 z) : Ew Z (tOp r ta tb) σ H z := fun H1 e Q q =>
  ha H1 e _ fun H2 e2 => hb H2 (e.trans e2) _ fun H3 e3 => hr H3 ((e.trans e2).trans e3) H3 (Ex.refl H3) Q fun H4 e4 => q H4 ((e2.trans e3).ex e4)
theorem et_test (h : Ew Z te σ H (.bl b)) : Et Z (tTest te) σ H b := fun H1 e _ q => h H1 e _ fun H2 e2 => ⟨b, rfl, q H2 e2⟩
theorem et_not (h : Et Z tt σ H b) : Et Z (tNot tt) σ H (!b) := fun H1 e _ q => h H1 e _ fun H2 e2 => q H2 e2
theorem et_and (h : Et Z tt σ H b) (k : b = true → Et Z tu σ H c) : Et Z (tAnd tt tu) σ H (b && c) := fun H1 e Q q => h H1 e _ fun H2 e2 => by
  cases b with
  | true => exact k rfl H2 (e.trans e2) Q fun H3 e3 => q H3 (e2.trans e3)
  | false => exact q H2 e2
theorem et_or (h : Et Z tt σ H b) (k : b = false → Et Z tu σ H c) : Et Z (tOr tt tu) σ H (b || c) := fun H1 e Q q => h H1 e _ fun H2 e2 => by
  cases b with
  | true => exact q H2 e2
  | false => exact k rfl H2 (e.trans e2) Q fun H3 e3 => q H3 (e2.trans e3)
theorem ew_is (h : Ew Z te σ H x) (e : x = v) : Ew Z te σ H v := e ▸ h
theorem s_ret (o : Ok Z H) (h : Ew Z te σ H v) (k : ∀ H1, R Z H H1 → D.rt v H1) : tRet te D σ H := h H (.refl o) _ k
theorem q_when {tu : TS} (o : Ok Z H) (h : Et Z tt σ H b) (h1 : b = true → ∀ H1, R Z H H1 → tu { D with nx := tz D } σ H1) (h2 : b = false → ∀ H1, R Z H H1 → tz D σ H1) : tSeq (tIfS tt tu tNext) tz D σ H := h H (.refl o) _ fun H1 r => by
  cases b with
  | true => exact h1 rfl H1 r
  | false => exact h2 rfl H1 r
theorem ew_andV {a : Bool} (h : Ew Z ta σ H (.bl a)) (k : a = true → Ew Z tb σ H (.bl b)) : Ew Z (tAndV ta tb) σ H (.bl (a && b)) := fun H1 r Q q => h H1 r _ fun H2 r2 => ⟨a, rfl, by
  cases a with
  | false => exact q H2 r2
  | true => exact k rfl H2 (r.trans r2) Q fun H3 r3 => q H3 (r2.trans r3)⟩
theorem ew_orV {a : Bool} (h : Ew Z ta σ H (.bl a)) (k : a = false → Ew Z tb σ H (.bl b)) : Ew Z (tOrV ta tb) σ H (.bl (a || b)) := fun H1 r Q q => h H1 r _ fun H2 r2 => ⟨a, rfl, by
  cases a with
  | true => exact q H2 r2
  | false => exact k rfl H2 (r.trans r2) Q fun H3 r3 => q H3 (r2.trans r3)⟩
theorem ew_notV {a : Bool} (h : Ew Z ta σ H (.bl a)) : Ew Z (tNotV ta) σ H (.bl (!a)) := fun H1 r _ q => h H1 r _ fun H2 r2 => ⟨a, rfl, q H2 r2⟩
theorem et_B (h : Ew Z te σ H (.bl b)) : Et Z (tB te) σ H b := fun H1 r _ q => h H1 r _ fun H2 r2 => ⟨b, rfl, q H2 r2⟩
/-- a pot that is new, turned -/
theorem R.drop {T : List (Addr × Str)} {p : Addr} {H2 H3 : Hp} (r : R (Z0 T) H H2) (q : R (Zp T p) H2 H3) (n : Fr H p) : R (Z0 T) H H3 :=
  ⟨r.a, ⟨q.b.1, fun _ z => z.elim⟩, fun x o e t _ => q.st x o (r.st x o e t fun z => z) t (fr_ne n e t)⟩
end
end Rm
namespace Lw
open PySem PySem.Spec PyProof.Rows L2
/-- the def at f has the code object c -/
def CodeAt (K : PySem.W.Frag) (f c : Addr) : Prop := ∃ oc od fd osl, K.lookup f = some ⟨oc, od, .func fd, osl⟩ ∧ fd.code = .ref c
/-- fnG, the code object known -/
theorem fnGc {P : Program} {w : World} {K : PySem.W.Frag} {mg : Str → Option Value} {base : Heap} {CX : CXT} {x qual : Str} {params : Arguments} {body : List Stmt} {scope : Scope} {dvs : List V} {kws : List (Str × V)} {f c : Addr} {fd : FuncData} {N ps : List Str} {k : Nat} {sp : Sp}
    (C : CodeAt K f c) (F : FunD K x qual params body scope dvs kws f fd) (S : FnScope N ps scope) (len : ∀ vs H Q E, sp vs H Q E → vs.length = ps.length)
    (walk : ∀ (A : Around) (outer : List Env) (s : Shared) (H : Hp) (vs : List V) (Q : VK) (E : XK), A.guards = some [] → Room k (A.deeper (envOfC qual scope s.heap.objs.size f (.ref c))) → sp vs H Q E →
      ∃ t, PSs (cxOf CX P w K mg base N qual scope f (.ref c) A outer s H E) body t ∧ t { nx := fun _ H' => Q .non H', rt := Q } (start N vs) H) :
    FnG P w K mg base CX (k + 1) f fd ps sp := by
  obtain ⟨_, _, dV, kV, doc, pm, an, cdv, ct, osl, rfl, lk, hcd, _, _⟩ := F.ex
  obtain rfl : cdv = .ref c := by
    obtain ⟨_, _, fd2, _, e1, e2⟩ := C
    rw [lk] at e1
    cases e1
    exact e2
  refine ⟨len, ?_⟩
  intro A outer s H args us vs Q E hg hr e0 hb rv hsp
  have hsz : (us.length = ps.length) := by
    rw [← rv.length]
    exact len _ _ _ _ hsp
  have kIn : K.In s.heap := e0.mod.kin.keeps fun b o e => (e0.bs b o e).1
  have noL : s.heap.NoLimit := e0.mod.nolimit.keeps fun b o e => (e0.bs b o e).1
  refine codeAny_call_function hr.depth (kIn _ _ lk) rfl S.co S.gen rfl (PySem.W.codeRec_of kIn hcd) (hb _ _ _ _ ?_)
  refine wpAny_newFunctionEnv_cells S.kind ?_ ?_
  · rintro ⟨n, v⟩ hm
    cases S.par n (List.of_mem_zip hm).1 with
    | inl q => exact .inl q
    | inr q => exact .inr ⟨q, PySem.W.cellsFrom_some _ _ _ (.inl q)⟩
  · rintro env rfl s1 x
    refine ⟨noL.keeps x.toInCall.keep, codeAny_func ?_⟩
    obtain ⟨t, ht, hq⟩ := walk A outer s H vs Q E hg (hr.deeper _) hsp
    refine wpAny_mono (ht.run [] s1 (start N vs) H _ (inv_start S hr.hd e0 (len _ _ _ _ hsp) rv x) hq) (fun fl s2 hs => ?_) fun _ _ z => z
    cases fl with
    | ret u => exact match hs with
      | ⟨v, _, H', J, r, q⟩ => ⟨v, H', J.os, J.bare, J.base, J.hok, r, q⟩
    | next => exact match hs with
      | ⟨_, H', J, q⟩ => ⟨V.non, H', J.os, J.bare, J.base, J.hok, rfl, q⟩
    | brk => exact match hs with
      | ⟨_, _, _, q⟩ => q.elim
    | cont => exact match hs with
      | ⟨_, _, _, q⟩ => q.elim
end Lw
namespace Lw
open PySem PySem.Spec PyProof.Rows L2 LamX
/-! ### the law's call where tables of code objects stand -/
abbrev tab0 : Obj := { cls := .none, data := .fields #[] }
theorem lawGT {P : Program} {w : World} {K : PySem.W.Frag} {mg mb : Str → Option Value} {k : Nat} {fa a : Addr} {fd : FuncData} {x : Str} {sp : Sp} {s : Shared} {vs : List Value} {ns : List Int} (cs : List (Addr × Addr))
    (KX : K.In s.heap) (hns : s.heap.Ns mainGlobals mg) (hb : s.heap.Ns builtinsNs mb) (hbb : ∀ x : Str, x ≠ "__name__" → mb x = bootBuiltins x) (hlim : s.heap.NoLimit) (hgen : s.gens = #[])
    (tT : ∀ z ∈ cs, s.heap.get? z.2 = some tab0) (tK : ∀ z ∈ cs, K.lookup z.2 = none) (tC : ∀ z ∈ cs, PySem.W.CodeHd s.heap z.1 z.2)
    (bmod : ∃ (m : Addr) (o : Obj), mg "__builtins__" = some (.ref m) ∧ m ≠ builtinsNs ∧ s.heap.get? m = some o ∧ o.cls = .type "module" ∧ o.dict = some builtinsNs ∧ o.data = .plain)
    (ha : s.heap.get? a = some { cls := .type "list", data := .seq vs.toArray }) (hi : IntsAre vs ns) (hl : ns.length ≤ sizeLine) (hr : Room k callerA)
    (F : ∀ base : Heap, K.In base → base.Ns mainGlobals mg → (∀ z ∈ cs, TabB base mg z.1 z.2) → FnG P w K mg base CX0 k fa fd [x] sp) (hbind : ∀ (s : Shared) (u : Value), BindsTo s fd ⟨[u], []⟩ [(x, u)])
    (hsp : ∀ H : Hp, (∀ z ∈ cs, H z.2 = some (.tbl #[])) → SqL K H a (ns.map V.int) → sp [.ref a] H (fun v _ => v = .bl true) E0) :
    codeAny (model P w) callerA (.call (.ref fa) ⟨[.ref a], []⟩) (fun r s' => r = .ok (.ret (.bool true)) ∧ OldK s.heap s'.heap ∧ s'.os = s.os ∧ AllBare s'.gens) s := by
  have rv := vals_ints hi
  have at_ : ∀ b ∈ cs.map (·.2), s.heap.get? b = some tab0 := fun b hb => by
    obtain ⟨z, hz, rfl⟩ := List.mem_map.mp hb
    exact tT z hz
  have na : a ∉ cs.map (·.2) := fun z => by
    have q := at_ a z
    rw [ha] at q
    have q2 : Data.seq vs.toArray 0 = Data.fields #[] := congrArg Obj.data (Option.some.inj q)
    cases q2
  -- a heap H that tracks the tables and, at most, the script
  have go : ∀ H : Hp, (∀ b ∈ cs.map (·.2), H b = some (.tbl #[])) → SqL K H a (ns.map V.int) → HOk P w H s.heap →
      (∀ b u, H b = some u → b ∈ cs.map (·.2) ∨ (b = a ∧ K.lookup a = none ∧ ∃ o xs, u = .frz o (.lst xs))) →
      codeAny (model P w) callerA (.call (.ref fa) ⟨[.ref a], []⟩) (fun r s' => r = .ok (.ret (.bool true)) ∧ OldK s.heap s'.heap ∧ s'.os = s.os ∧ AllBare s'.gens) s := by
    intro H hT hS hok hH
    -- what is neither a list nor an empty record is not tracked
    have off : ∀ {b : Addr} {o : Obj}, s.heap.get? b = some o → (∀ xs n, o.data ≠ .seq xs n) → o.data ≠ .fields #[] → H b = none := fun {b o} e n1 n2 => by
      cases q : H b with
      | none => rfl
      | some u =>
        rcases hH b u q with z | ⟨z, _⟩
        · rw [at_ b z] at e
          cases e
          exact absurd rfl n2
        · rw [z, ha] at e
          cases e
          exact absurd rfl (n1 _ _)
    have offD : ∀ {b : Addr} {o : Obj} {es : Array DictEntry} {n : Nat}, s.heap.get? b = some o → o.data = .dict es n → H b = none := fun e d => off e (fun xs n z => by rw [d] at z; cases z) fun z => by rw [d] at z; cases z
    have nsB : ∀ {b : Addr} {m : Str → Option Value}, s.heap.Ns b m → (hidT s.heap H).Ns b m := fun {b m} z => by
      obtain ⟨o, es, n, e, d, r⟩ := z
      exact ⟨o, es, n, hidT_get e (offD e d), d, r⟩
    have KB : K.In (hidT s.heap H) := fun b o e => hidT_get (KX b o e) (by
      cases q : H b with
      | none => rfl
      | some u =>
        rcases hH b u q with z | ⟨rfl, n, _⟩
        · obtain ⟨y, hy, rfl⟩ := List.mem_map.mp z
          rw [tK y hy] at e
          cases e
        · rw [n] at e
          cases e)
    have md : Mod K mg (hidT s.heap H) := ⟨KB, nsB hns, ⟨mb, nsB hb, hbb⟩, by
      obtain ⟨m, z1, z2⟩ := hlim
      exact ⟨m, nsB z1, z2⟩⟩
    have e0 : Env0 P w K mg (hidT s.heap H) callerA [] s H := ⟨rfl, md, fun b o e => of_hidT e, Nat.le_of_eq (hidT_size _ _), trivial, fun b z => absurd z (List.not_mem_nil), hok, .of_eq hgen⟩
    have TB : ∀ z ∈ cs, TabB (hidT s.heap H) mg z.1 z.2 := fun z hz => by
      refine ⟨?_, ?_, fun y => ?_⟩
      · obtain ⟨o, us, f1, f2, f3, f4, f5, f6, f7, c1, c2, c3, c4, r⟩ := tC z hz
        refine ⟨o, us, f1, f2, f3, f4, f5, f6, f7, hidT_get c1 (off c1 (fun xs n y => by rw [c3] at y; cases y) fun y => ?_), c2, c3, c4, r⟩
        rw [c3] at y
        injection y with y
        rw [y] at c4
        exact absurd c4 (by simp)
      · obtain ⟨m, o, b1, b2, b3, b4, b5, b6⟩ := bmod
        have m1 : m ≠ mainGlobals := fun y => by
          obtain ⟨o2, es, n, e, d, _⟩ := hns
          rw [y, e] at b3
          cases b3
          rw [d] at b6
          cases b6
        have m2 : m ≠ z.2 := fun y => by
          rw [y, tT z hz] at b3
          cases b3
          cases b6
        exact ⟨m, o, b1, b2, m1, m2, hidT_get b3 (off b3 (fun xs n y => by rw [b6] at y; cases y) fun y => by rw [b6] at y; cases y), b4, b5, b6⟩
      · obtain ⟨o2, es, n, e, d, _⟩ := hns
        rw [y, tT z hz] at e
        cases e
        cases d
    refine codeAny_mono ((F _ KB (nsB hns) TB).go (vs := [.ref a]) (us := [.ref a]) rfl hr e0 (hbind s (.ref a)) (.cons rfl .nil) (hsp H (fun z hz => hT _ (List.mem_map.mpr ⟨z, hz, rfl⟩)) hS)) fun r s2 h => ?_
    cases r with
    | error er => exact h.elim
    | ok fl =>
      cases fl with
      | next => exact h.elim
      | brk => exact h.elim
      | cont => exact h.elim
      | ret u =>
        obtain ⟨v, H2, os, bare, un, hok2, rv2, rfl⟩ := h
        obtain rfl : u = Value.bool true := rv2
        have old : ∀ b o, b ∉ cs.map (·.2) → s.heap.get? b = some o → s2.heap.get? b = some o := fun b o n e => by
          cases q : H b with
          | none => exact un.keep b o e q List.not_mem_nil List.not_mem_nil
          | some u =>
            rcases hH b u q with z | ⟨rfl, _, ob, xs, rfl⟩
            · exact absurd z n
            · have z1 := (hok b _ q).1
              have z2 := (hok2 b _ (un.frzs b ob _ q)).1
              rw [z1] at e
              cases e
              exact z2
        have more : ∀ b ∈ cs.map (·.2), ∃ us : Array Value, s2.heap.get? b = some { cls := .none, data := .fields us } := fun b hb => by
          obtain ⟨us, z⟩ := un.tbls b #[] (hT b hb)
          exact ⟨_, hok2 b _ z⟩
        refine ⟨rfl, ⟨fun b o e => ?_, fun b o e => ?_⟩, os, bare⟩
        · by_cases hb : b ∈ cs.map (·.2)
          · obtain ⟨us, z⟩ := more b hb
            rw [at_ b hb] at e
            cases e
            obtain ⟨y, hy, rfl⟩ := List.mem_map.mp hb
            exact .inr (.inl ⟨((tC y hy).tab (tT y hy)).isCodeTable, rfl, #[], us, rfl, by rw [Array.empty_append]; exact z⟩)
          · exact .inl (old b o hb e)
        · by_cases hb : b ∈ cs.map (·.2)
          · obtain ⟨us, z⟩ := more b hb
            exact ⟨_, z⟩
          · exact ⟨o, old b o hb e⟩
  cases hk : K.lookup a with
  | some o =>
    have e := KX a o hk
    rw [ha] at e
    cases e
    refine go (fun b => if b ∈ cs.map (·.2) then some (.tbl #[]) else none) (fun b hb => if_pos hb) (.inr ⟨_, vs.toArray, _, hk, rfl, rfl, rfl, by rw [List.size_toArray, hi.length]; exact hl, by simpa using rv⟩) (fun b u z => ?_) (fun b u z => ?_)
    · by_cases q : b ∈ cs.map (·.2)
      · have z2 := (if_pos q).symm.trans z
        cases z2
        exact at_ b q
      · have z2 := (if_neg q).symm.trans z
        cases z2
    · by_cases q : b ∈ cs.map (·.2)
      · exact .inl q
      · have z2 := (if_neg q).symm.trans z
        cases z2
  | none =>
    refine go (fun b => if b ∈ cs.map (·.2) then some (.tbl #[]) else scr a { cls := .type "list", data := .seq vs.toArray } ns b) (fun b hb => if_pos hb) (.inl (.inr ⟨_, (if_neg na).trans scr_at⟩)) (fun b u z => ?_) (fun b u z => ?_)
    · by_cases q : b ∈ cs.map (·.2)
      · have z2 := (if_pos q).symm.trans z
        cases z2
        exact at_ b q
      · have z2 := (if_neg q).symm.trans z
        by_cases y : b = a
        · subst y
          rw [scr_at] at z2
          cases z2
          exact ⟨ha, by rw [List.length_map]; exact hl, vs, _, rv, ha⟩
        · rw [scr_off y] at z2
          cases z2
    · by_cases q : b ∈ cs.map (·.2)
      · exact .inl q
      · have z2 := (if_neg q).symm.trans z
        by_cases y : b = a
        · subst y
          rw [scr_at] at z2
          cases z2
          exact .inr ⟨rfl, hk, _, _, rfl⟩
        · rw [scr_off y] at z2
          cases z2
/-- the end of a law's row, tables of code objects among the facts that the head tells -/
theorem walkGT {l : PySem.W.OpenLaw} {n k : Nat} {q : Program} {loose : List Str} {XP : (Str → Option Value) → Heap → Prop} {YP : World → Heap → Prop} {d : DefRec} {x : Str}
    (hn : l.most = some n) (hn2 : n ≤ sizeLine) (hdf : d.params.defaults = []) (hr : Room k callerA)
    (F : ∀ (w : World) (mg : Str → Option Value) (fa : Addr) (h : Heap), YP w h → h.Ns mainGlobals mg → mg d.name = some (.ref fa) →
      ∃ (K : PySem.W.Frag) (fd : FuncData) (sp : Sp) (cs : List (Addr × Addr)), K.In h ∧ (∀ z ∈ cs, h.get? z.2 = some tab0) ∧ (∀ z ∈ cs, K.lookup z.2 = none) ∧ (∀ z ∈ cs, PySem.W.CodeHd h z.1 z.2) ∧ (∀ (s : Shared) (u : Value), BindsTo s fd ⟨[u], []⟩ [(x, u)]) ∧
        (∀ (H : Hp) (a : Addr) (ns : List Int), ns.length ≤ n → (∀ z ∈ cs, H z.2 = some (.tbl #[])) → SqL K H a (ns.map V.int) → sp [.ref a] H (fun v _ => v = .bl true) E0) ∧
        ∀ base : Heap, K.In base → base.Ns mainGlobals mg → (∀ z ∈ cs, TabB base mg z.1 z.2) → FnG l.prog w K mg base CX0 k fa fd [x] sp) :
    PySem.W.WalkO q loose XP YP l.row.toRowW d [] (fun f vs => PySem.call f vs) := by
  refine Att.attach_call hn hdf fun w s₀ s₁ mg mb fa o pm cd doc a vs ns G Y ho hd hcd hmg hobj hints hlen hg => ?_
  obtain ⟨K, fd, sp, cs, KX, t1, t2, t3, hb, hsp, hF⟩ := F w mg fa _ Y G.T.g hmg
  exact lawGT cs KX G.T.g G.T.b G.T.builtins G.T.nolimit hg t1 t2 t3 G.T.bmain hobj hints (Nat.le_trans hlen hn2) hr hF hb fun H hT hS => hsp H a ns hlen hT hS
/-- the code object of a def, as the head tells it -/
theorem codeAt_of {K : PySem.W.Frag} {x qual : Str} {ps : Arguments} {body : List Stmt} {sc : Scope} {dvs : List V} {kws : List (Str × V)} {fd : FuncData} {p : Str × Option Str} (F : FunD K x qual ps body sc dvs kws (He.fAd K p) fd) : CodeAt K (He.fAd K p) (He.codeOf K p) := by
  obtain ⟨oc, od, dV, kV, doc, pm, an, cdv, ct, osl, rfl, lk, hcd, _, _⟩ := F.ex
  obtain ⟨c, rfl⟩ := He.codeIn_ref hcd
  exact ⟨_, _, _, _, lk, (congrArg Value.ref (He.codeOf_eq lk rfl)).symm⟩
end Lw
namespace Lw
open PySem PySem.Spec PyProof.Rows L2 Evl
/-! ### a def of the top that may let errors out -/
def CalO (P : Program) (w : World) (K : PySem.W.Frag) (mg : Str → Option Value) (base : Heap) (CX : CXT) (k : Nat) (x : Str) (ps : List Str) (sp : Sp) : Prop :=
  ∃ f fd, mg x = some (.ref f) ∧ PySem.W.keepIn K (.ref f) = true ∧ Binds K fd ps [] ∧ (∀ (ws : List Value) (s : Shared), ws.length = ps.length → BindsTo s fd ⟨[], ps.reverse.zip ws⟩ (ps.zip ws.reverse)) ∧ FnOk P w K mg base CX k f fd ps sp
def tCallRE (sp : Sp) (E : XK) (tk : TA) : TE := fun σ H Q => tk σ H fun vs H1 => sp vs.reverse H1 Q E
section
variable {X : Cx} {CX : CXT} {k : Nat} {x : Str} {ps : List Str} {sp : Sp} {p pos : Pos} {e : Expr} {es : List Expr} {kws : List Keyword} {t tk : TA} {E : XK}
theorem pe_calO (C : CalO X.prog X.w X.K X.mg X.base CX k x ps sp) {j : Nat} (hr : Room j X.A) (hx : Passes CX X E) (ha : PA X (e :: es) t) (hj : k ≤ j := by decide) (hg : Gl X x := by rfl) (hdb : (x == ("__debug__" : Str)) = false := by decide)
    (he : starEach (e :: es) X.env = (false, eval e X.env) :: starEach es X.env := by rfl) (hpl : (backTo pos (starEach es X.env)).any (·.1) = false := by rfl) : PE X (.Call (.Name x p) (e :: es) [] pos) (tCall sp [] E t) := by
  obtain ⟨f, fd, hm, hk, hb, _, F⟩ := C
  exact pe_call F (hr.mono hj) hg hm hk hb .nil hx ha hdb he hpl
theorem pe_calOR (C : CalO X.prog X.w X.K X.mg X.base CX k x ps sp) {j : Nat} (hr : Room j X.A) (hx : Passes CX X E) (hkw : PK X kws tk) (hj : k ≤ j := by decide) (hg : Gl X x := by rfl) (hdb : (x == ("__debug__" : Str)) = false := by decide)
    (hall : (backToKw pos (keywordEach kws X.env)).all (·.1.isSome) = true := by rfl) (hks : (backToKw pos (keywordEach kws X.env)).filterMap (·.1) = ps.reverse := by rfl)
    (hpl : ((backTo pos (starEach [] X.env)).any (·.1) || (backToKw pos (keywordEach kws X.env)).any (·.1.isNone)) = false := by rfl) : PE X (.Call (.Name x p) [] kws pos) (tCallRE sp E tk) := by
  obtain ⟨f, fd, hm, hk, _, hb, F⟩ := C
  constructor
  intro pins s σ H Q I h
  refine wpAny_Call_Name_kw (ld_glob I hg hm ?_ hdb)
  refine PySem.W.callWith_KW0 (h₀ := X.base) I.ok.mod.kin hk hall ?_ hpl
  refine thn (hkw.run pos pins s σ H _ I h) fun ws s2 hh => ?_
  obtain ⟨zs, H2, I2, rz, q⟩ := hh
  refine ⟨I2.kIn, ?_⟩
  rw [hks]
  have hl : zs.length = ps.length := by
    have z := F.len _ _ _ _ q
    rw [List.length_reverse] at z
    exact z
  refine wpAny_call (codeAny_mono (F.run _ _ _ _ _ _ _ _ _ (hr.mono hj) I2.env0 (hb ws s2 (rz.length.symm.trans hl)) (Vals.reverse rz) q) fun r s3 hq => ?_)
  cases r with
  | error er => exact hx pins σ _ s2 er s3 I2 hq
  | ok fl =>
    cases fl with
    | ret u => exact I2.after hq
    | next => exact hq.elim
    | brk => exact hq.elim
    | cont => exact hq.elim
end
section
variable {P : Program} {w : World} {K : PySem.W.Frag} {mg : Str → Option Value} {base : Heap} {CX : CXT} {x qual : Str} {params : Arguments} {body : List Stmt} {scope : Scope} {dvs : List V} {kws : List (Str × V)} {f c : Addr} {fd : FuncData} {N ps : List Str} {k : Nat} {sp : Sp}
/-- a def by its body -/
theorem fnO (F : FunD K x qual params body scope dvs kws f fd) (S : FnScope N ps scope) (len : ∀ vs H Q E, sp vs H Q E → vs.length = ps.length)
    (walk : ∀ (cdv : Value) (A : Around) (outer : List Env) (s : Shared) (H : Hp) (vs : List V) (Q : VK) (E : XK), Room k (A.deeper (envOfC qual scope s.heap.objs.size f cdv)) → sp vs H Q E →
      ∃ t, PSs (cxOf CX P w K mg base N qual scope f cdv A outer s H E) body t ∧ t { nx := fun _ H' => Q .non H', rt := Q } (start N vs) H) : FnOk P w K mg base CX (k + 1) f fd ps sp := by
  obtain ⟨_, _, dV, kV, doc, pm, an, cdv, ct, osl, rfl, lk, hcd, _, _⟩ := F.ex
  exact fn_of lk hcd S len (walk cdv)
/-- .. its code object known -/
theorem fnOc (C : CodeAt K f c) (F : FunD K x qual params body scope dvs kws f fd) (S : FnScope N ps scope) (len : ∀ vs H Q E, sp vs H Q E → vs.length = ps.length)
    (walk : ∀ (A : Around) (outer : List Env) (s : Shared) (H : Hp) (vs : List V) (Q : VK) (E : XK), Room k (A.deeper (envOfC qual scope s.heap.objs.size f (.ref c))) → sp vs H Q E →
      ∃ t, PSs (cxOf CX P w K mg base N qual scope f (.ref c) A outer s H E) body t ∧ t { nx := fun _ H' => Q .non H', rt := Q } (start N vs) H) : FnOk P w K mg base CX (k + 1) f fd ps sp := by
  obtain ⟨_, _, dV, kV, doc, pm, an, cdv, ct, osl, rfl, lk, hcd, _, _⟩ := F.ex
  obtain rfl : cdv = .ref c := by
    obtain ⟨_, _, fd2, _, e1, e2⟩ := C
    rw [lk] at e1
    cases e1
    exact e2
  exact fn_of lk hcd S len walk
end
/-! ### raise C(e) -/
/-- C.__init__(self, f): self.f = f -/
def spIx (f : Str) (C : Addr) : Sp := fun vs H Q _ => ∃ (a : Addr) (y : V), vs = [.ref a, y] ∧ H a = some (exo a C none) ∧ ∀ dx, H dx = none → dx ≠ a → Q .non (upd (upd H dx (exd dx [(f, y)])) a (exo a C (some dx)))
/-- a class of the top whose instances keep one value, and are raised -/
structure XRz (P : Program) (w : World) (K : PySem.W.Frag) (mg : Str → Option Value) (base : Heap) (k : Nat) (x : Str) (C : Addr) (f : Str) : Prop where
  g : mg x = some (.ref C)
  ox : OexC K C
  ini : ∃ fI fd, PySem.W.findIn K (.ref C) "__init__" = some (some (.ref fI)) ∧ PySem.W.typeIn K (.ref fI) = some (.type "function") ∧ FnOk P w K mg base CX0 k fI fd ["self", f] (spIx f C) ∧ Binds K fd ["self", f] []
/-- an error of the class at C goes out, with v; all else stands -/
def Rz (C : Addr) (f : Str) (v : V) (H : Hp) (E : XK) : Prop := ∀ d H', Ex H H' → H' d = some (.xd [(f, v)]) → E (.ref C) (some d) H'
def tRz (C : Addr) (f : Str) (W : WX) (te : TE) : TS := fun _ σ H => te σ H fun v H1 => Rz C f v H1 fun cls d H' => W cls d σ H'
theorem PE.wk {X : Cx} {e : Expr} {te : TE} (he : PE X e te) : PE X e (fun σ H Q => ∃ R : VK, te σ H R ∧ ∀ v H1, R v H1 → Q v H1) :=
  ⟨fun pins s σ H Q I h => by
    obtain ⟨R, h, m⟩ := h
    refine wpAny_mono (he.run pins s σ H R I h) (fun u s1 hh => ?_) (fun _ _ z => z)
    obtain ⟨x, H1, I1, r1, q1⟩ := hh
    exact ⟨x, H1, I1, r1, m _ _ q1⟩⟩
theorem ps_rz {X : Cx} {W : WX} {k : Nat} {x : Str} {C : Addr} {f : Str} {e : Expr} {te : TE} {p pos pos' : Pos} (T : XRz X.prog X.w X.K X.mg X.base k x C f) {j : Nat} (hr : Room j X.A) (hc : X.calm = true) (tk : Takes X W) (he : PE X e te) (hj : k + 1 ≤ j := by decide)
    (hg : Gl X x := by rfl) (hdb : (x == ("__debug__" : Str)) = false := by decide) (h1 : starEach [e] X.env = (false, eval e X.env) :: starEach [] X.env := by rfl) (h2 : (backTo pos (starEach [] X.env)).any (·.1) = false := by rfl) :
    PS X (.Raise (some (.Call (.Name x p) [e] [] pos)) none pos') (tRz C f W te) := by
  obtain ⟨fI, fd, hi, ti, F, hb⟩ := T.ini
  have z := ps_raise (pos := pos') hc tk (pmk_oex (p := p) (pos := pos) T.ox hi ti F (hr.mono hj) hb .nil pass0 hg T.g (pa_cons (PE.wk he) pa_nil h1) hdb h1 h2)
  refine ⟨fun pins s σ H D I h => z.run pins s σ H D I ⟨_, h, fun v H1 r => ⟨by show 1 ≤ 1000; decide, fun a na => ⟨a, v, rfl, upd_same, fun dx nd ne => ⟨rfl, dx, [(f, v)], upd_same, ?_, ?_, ?_⟩⟩⟩⟩⟩
  · rw [upd_ne ne, upd_same]
  · by_cases q : dx = a
    · exact absurd q ne
    · rw [upd_ne q] at nd
      exact nd
  · have nd' : H1 dx = none := by
      rw [upd_ne ne] at nd
      exact nd
    refine r dx _ (fun b o eb => ?_) upd_same
    have n1 : b ≠ dx := ne_of_none eb nd'
    have n2 : b ≠ a := ne_of_none eb na
    rw [upd_ne n1, del_ne n2, upd_ne n2, upd_ne n1, upd_ne n2]
    exact eb
end Lw
namespace Lw
open PySem PySem.Spec PyProof.Rows L2 Evl
open LwX (XC XF)
/-! ### try: .. except C1 as n: .. except C2 as n: ..; what comes behind the clauses that are told is never reached -/
abbrev HS := Addr → Value → Option Addr → TS
def offD (i : Nat) (D : Ends) : Ends := { nx := fun σ H => D.nx (σ.set i none) H, rt := D.rt, bk := fun σ H => D.bk (σ.set i none) H, ct := fun σ H => D.ct (σ.set i none) H }
def wA (K : PySem.W.Frag) (i : Nat) (D : Ends) : List (Value × HS) → WX
  | [] => fun _ _ _ _ => False
  | q :: r => fun cls d σ H => ∃ b, PySem.W.exmOne K cls q.1 = some b ∧ (b = true → ∀ a, H a = none → q.2 a cls d (offD i D) (σ.set i (some (.ref a))) H) ∧ (b = false → wA K i D r cls d σ H)
inductive HdA (X : Cx) (n : Str) : List ExceptHandler → List (Value × HS) → Prop
  | rest (l : List ExceptHandler) : HdA X n l []
  | cons {x : Str} {cv : Value} {th : HS} {st : Stmt} {ss : List Stmt} {p1 p2 : Pos} {l : List ExceptHandler} {r : List (Value × HS)} (named : Names X x cv)
      (body : ∀ (a : Addr) (ob : Obj) (cls : Value) (d : Option Addr) (pn : List (Addr × Obj)), Zc cls d ob → (∃ vs, ob.data = .fields vs) → PSs (X.suite a ((a, ob) :: pn)) (st :: ss) (th a cls d)) (more : HdA X n l r) :
      HdA X n (.ExceptHandler (some (.Name x p1)) (some n) (st :: ss) p2 :: l) ((cv, th) :: r)
theorem ps_tryA {X : Cx} {n : Str} {i : Nat} {bd : List Stmt} {h0 : ExceptHandler} {hl : List ExceptHandler} {r0 : List (Value × HS)} {pos : Pos} {tb : WX → TS} (st : X.stack = X.env :: X.outer) (lf : X.env.frame = some X.env.locals) (nd : X.N.Nodup) (ni : X.N[i]? = some n) (nl : X.env.kindOf n = some .local)
    (hb : ∀ (W : WX) (pn : List (Addr × Obj)) (xe : Value → Shared → Prop), Takes (X.tr pn xe) W → PassesOwn (model X.prog X.w) X.A X.env xe → PSs (X.tr pn xe) bd (tb W)) (hh : HdA X n (h0 :: hl) r0) :
    PS X (.Try bd (h0 :: hl) [] [] pos) (fun D σ H => tb (wA X.K i D r0) D σ H) := by
  constructor
  intro pins s σ H D I h
  have ok := I.ok
  have fr : X.A.frames = some (X.env :: X.outer) := by rw [ok.frames, st]
  have lo : Loc X.env.scope n := .inl nl
  refine wpAny_Try_except ?_
  have run := (hb (wA X.K i D r0) (X.pn ++ pins) (fun e s1 => wpAny (model X.prog X.w) X.A (noteFrame e X.env) (fun _ s2 => wpAny (model X.prog X.w) X.A (setFlight e none) (fun _ s3 =>
    wpAny (model X.prog X.w) X.A (handleBy e X.env (h0 :: hl)) (SP X pins D) X.xe s3) X.xe s2) X.xe s1) (fun u s2 xx => ?_) PassesOwn.looking).run [] s σ H D (I.toTry _) h
  · refine wpAny_mono run (fun f s1 z => ?_) (fun _ _ z => z)
    rcases f with _ | _ | _ | u
    · obtain ⟨σ2, H2, J2, q2⟩ := z
      exact wpAny_execs_nil ⟨σ2, H2, J2.ofTry ok, q2⟩
    all_goals first
      | (obtain ⟨σ2, H2, J2, q2⟩ := z; exact ⟨σ2, H2, J2.ofTry ok, q2⟩)
      | (obtain ⟨v2, σ2, H2, J2, r2, q2⟩ := z; exact ⟨v2, σ2, H2, J2.ofTry ok, r2, q2⟩)
  · obtain ⟨a, B, sI, pin2, τ, G, cls, d, rfl, J0, nb, up, sky, na, os, ag, w⟩ := xx
    have J : Inv X pins τ G sI := J0.ofTry ok
    rw [show (X.tr (X.pn ++ pins) _).stack = X.env :: X.outer from st] at sky
    show wpAny (model X.prog X.w) X.A (noteFrame (.ref a) X.env) _ _ _
    refine Sky.land Zc.steady fr lf sky fun h3 fl up3 => ?_
    have away : ∀ {h : Heap} {o : Obj} {vs : Array Value}, h.FunFrames B (X.env :: X.outer) → h.get? a = some o → o.data = .fields vs → a ∉ frs (X.env :: X.outer) := fun {h o vs} ff e y m => by
      obtain ⟨_, o2, e2, no⟩ := ff.mem m
      rw [e] at e2
      cases e2
      exact no _ y
    obtain ⟨o3, v3, e3, z3, d3⟩ := fl.there
    have out := away fl.2.2.1 e3 d3
    have aL : a ≠ X.env.locals := fun y => out (List.mem_filterMap.mpr ⟨X.env, List.mem_cons_self, by rw [lf, y]⟩)
    have aF : a ∉ X.fs := fun y => by
      obtain ⟨e, me, q⟩ := List.mem_filterMap.mp y
      exact out (List.mem_filterMap.mpr ⟨e, List.mem_cons_of_mem _ me, q⟩)
    have J3 : Inv X pins τ G { s2 with heap := h3 } := J.landed nb fl.1 (up.trans up3) os ag
    have S3 := J3.suite e3 d3 na aL aF
    clear h hb
    suffices go : ∀ (l : List ExceptHandler) (r : List (Value × HS)), HdA X n l r → wA X.K i D r cls d τ G → wpAny (model X.prog X.w) X.A (handleBy (.ref a) X.env l) (SP X pins D) X.xe { s2 with heap := h3 } from go _ _ hh w
    intro l r hk
    induction hk with
    | rest l => exact fun y => y.elim
    | @cons x cv th st ss p1 p2 l r named body more ih =>
      intro y
      obtain ⟨b, hm, yes, no⟩ := y
      refine wpAny_handleBy_cons (codeAny_handlers_test ?_) (by intro q; cases q)
      have look : PySem.W.Looks (model X.prog X.w) h3 (typeOf (.ref a)) cls := fun A Q E s k q => wpAny_typeOf_ref (k _ _ e3) (by rw [z3.1]; exact q)
      have asks := PySem.W.exm_one (M := model X.prog X.w) J3.kIn look hm
      have name : ∀ {Q E : Value → Shared → Prop}, Q cv { s2 with heap := h3 } → wpAny (model X.prog X.w) (X.A.mark (some (.ref a))) (eval (.Name x p1) X.env) Q E { s2 with heap := h3 } := fun {Q E} q => by
        obtain ⟨g1, g2, g3 | ⟨g3, g4, g5⟩⟩ := named
        · exact ld_glob (X := X.suite a ((a, o3) :: (X.pn ++ pins))) S3 g1 g3 q g2
        · exact ld_blt (X := X.suite a ((a, o3) :: (X.pn ++ pins))) S3 g1 g3 g4 q g5 g2
      refine name (asks.here ?_)
      cases b with
      | false => exact ih (no rfl)
      | true =>
        refine codeAny_handlers_suite_as (HandSPX.lands_againZ fl fun h4 fl4 up4 => ?_)
        obtain ⟨o4, v4, e4, z4, d4⟩ := fl4.there
        have J4 : Inv X pins τ G { s2 with heap := h4 } := J.landed nb fl4.1 ((up.trans up3).trans up4) os ag
        refine store_ok (X := X.suite a ((a, o4) :: (X.pn ++ pins))) (v := .ref a) (J4.suite e4 d4 na aL aF) nd ni lo rfl (fun s5 S5 => ?_) (.inr nl)
        refine wpAny_mono ((body a o4 cls d (X.pn ++ pins) z4 ⟨_, d4⟩).run [] s5 _ G _ S5 (yes rfl a na)) (fun f s6 z => ?_) (fun _ _ z => False.elim z)
        have close : ∀ {τ6 : L2.St} {H6 : Hp} {Q : Shared → Prop}, Inv (X.suite a ((a, o4) :: (X.pn ++ pins))) [] τ6 H6 s6 → (∀ s7, Inv X pins (τ6.set i none) H6 s7 → Q s7) →
            wpAny (model X.prog X.w) X.A (do bindName X.env n .none; unbindBehindTheSuite X.env n p2) (fun _ s7 => Q s7) X.xe s6 := fun {τ6 H6 Q} S6 q => gone_ok (S6.unsuite ok) nd ni nl q
        rcases f with _ | _ | _ | u
        all_goals first
          | (obtain ⟨τ6, H6, S6, q6⟩ := z; exact close S6 fun s7 J7 => ⟨_, _, J7, q6⟩)
          | (obtain ⟨v6, τ6, H6, S6, r6, q6⟩ := z; exact close S6 fun s7 J7 => ⟨_, _, _, J7, r6, q6⟩)
/-! ### isinstance(e, c) of the caught one -/
def rIsC (K : PySem.W.Frag) (cls : Value) (d : Option Addr) (a : Addr) : List V → Hp → VK → Prop := fun xs H Q => ∃ (D dd : Addr) (fs : List (Str × V)) (c : V) (cv : Value) (b : Bool), xs = [.ref a, c] ∧ cls = .ref D ∧ d = some dd ∧ H dd = some (.xd fs) ∧ XC K D ∧
  (∀ u, RelV c u → u = cv) ∧ PySem.W.kitOne K (.ref D) cv = some b ∧ Q (.bl b) H
theorem call_isC {X : Cx} {a : Addr} {cls : Value} {d : Option Addr} {ob : Obj} {pn : List (Addr × Obj)} (hz : Zc cls d ob) (hf : ∃ vs, ob.data = .fields vs) : CallR (X.suite a ((a, ob) :: pn)) (.builtin "isinstance") (rIsC X.K cls d a) := by
  intro pins s σ H xs us Q I r h
  obtain ⟨D, dd, fs, c, cv, b, rfl, rfl, rfl, hd, T, hcv, e, q⟩ := h
  cases r with
  | cons rx rr =>
    cases rr with
    | cons rt rr =>
      cases rr
      cases rx
      have ec := hcv _ rt
      subst ec
      obtain ⟨hget, _⟩ := I.pin (a, ob) (List.mem_append.mpr (.inl List.mem_cons_self))
      obtain ⟨vs, hv⟩ := hf
      have hx : ObjOk X.prog X.w H s.heap dd (.xd fs) := I.hok dd _ hd
      obtain ⟨mA, hns, _⟩ := hx
      obtain ⟨od, ho, _⟩ := lookIn_ns hns
      have J : PySem.W.InstAt s.heap a ob D (some od) := ⟨hget, hz.1, by unfold PySem.W.notCls; rw [hv] <;> rfl, by rw [hz.2]; exact ho⟩
      have hcl : (PySem.W.clsIn X.K D).isSome = true := by
        obtain ⟨cd, hc, _⟩ := PySem.W.any_some T.hd
        rw [hc]
        rfl
      exact PySem.W.kia_one (PySem.W.kitx_exc hcl T.ga T.gg T.sub T.cl T.gt T.tk T.mo) I.kIn J e (fun z => nomatch z) fun tk => ⟨.bl b, H, I.kept (t' := tk) fun _ _ z => z, rfl, q⟩
/-- a suite that is never reached -/
theorem pss_dead {X : Cx} {ss : List Stmt} : PSs X ss (fun _ _ _ => False) := ⟨fun _ _ _ _ _ _ z => z.elim⟩
end Lw
namespace Lw
open PySem PySem.Spec PyProof.Rows L2 Evl
/-- wherever H is kept, v is read as d, and repr shows it so -/
def Sw (P : Program) (w : World) (H : Hp) (v : V) (d : PyData) : Prop :=
  ∀ h : Heap, HOk P w H h → ∀ u : Value, RelV v u → (∃ as, Reads h u d as) ∧ ∃ bs, ReadAtMost h d.depth bs ∧ ReprK P w bs h d.depth u d.shown
section
variable {P : Program} {w : World} {H : Hp}
theorem sw_of {v : V} {d : PyData} (r : Rw P w H v d) (hs : d.showable = true) (hz : d.shown.length ≤ sizeLine) : Sw P w H v d := fun h hok u q => by
  obtain ⟨as, r1, r2⟩ := r h hok u q
  exact ⟨⟨as, r1⟩, ReprK.of_reads r1 hs r2 hz⟩
theorem sw_all {h : Heap} (hok : HOk P w H h) : ∀ {vs : List V} {ds : List PyData} {us : List Value}, Paired (Sw P w H) vs ds → Vals vs us →
    (∃ as, ReadsAll h us ds as) ∧ ∃ bs, ReadAtMost h (PyData.depthAll ds) bs ∧ ReprAllK P w bs h (PyData.depthAll ds) us (PyData.shownAll ds)
  | _, _, _, .nil, .nil => ⟨⟨_, .nil⟩, [], (fun _ z => nomatch z), by simp only [PyData.shownAll]; exact .nil⟩
  | _, _, _, .cons (b := d) (l₂ := ds) r t, .cons q s => by
    obtain ⟨⟨as, r1⟩, b1, m1, k1⟩ := r h hok _ q
    obtain ⟨⟨bs, r2⟩, b2, m2, k2⟩ := sw_all hok t s
    refine ⟨⟨_, .cons r1 r2⟩, b1 ++ b2, ?_, ?_⟩
    · simp only [PyData.depthAll]
      exact (m1.mono (Nat.le_max_left _ _)).append (m2.mono (Nat.le_max_right _ _))
    · simp only [PyData.depthAll, PyData.shownAll]
      exact .cons ((k1.more fun b z => List.mem_append_left _ z).level_le (Nat.le_max_left _ _)) (k2.more_le (fun b z => List.mem_append_right _ z) (Nat.le_max_right _ _))
theorem sw_lst {a : Addr} {vs : List V} {ds : List PyData} (e : H a = some (.lst vs)) (hp : Paired (Sw P w H) vs ds) : Sw P w H (.ref a) (.list ds) := fun h hok u q => by
  cases (show u = Value.ref a from q)
  obtain ⟨_, its, n, rv, ho⟩ : vs.length ≤ sizeLine ∧ ∃ (its : List Value) (n : Nat), Vals vs its ∧ h.get? a = some { cls := .type "list", data := .seq its.toArray n } := hok a _ e
  obtain ⟨⟨as, ra⟩, bs, hb, hk⟩ := sw_all hok hp rv
  have rd : Reads h (.ref a) (.list ds) _ := .list ho rfl rfl (by simpa using ra)
  refine ⟨⟨_, rd⟩, a :: bs, ?_, ?_⟩
  · exact ReadAtMost.cons rd (by simp only [PyData.depth]; omega) hb
  · have na : a ∉ bs := not_mem_of_deeper rd (by simp only [PyData.depth]; omega) hb
    simp only [PyData.depth, PyData.shown]
    cases its with
    | nil =>
      cases rv
      cases hp
      simp only [PyData.shownAll, listText_nil]
      exact (ReprK.listEmpty ho rfl rfl)
    | cons x l => exact ReprK.list ho rfl rfl na (by simpa using hk.length_eq) (fun i y z => hk.item i y (by simpa using z))
end
def rReprS (P : Program) (w : World) : List V → Hp → VK → Prop := fun xs H Q => ∃ (p : Addr) (vs : List V) (ds : List PyData), xs = [.ref p] ∧ H p = some (.lst vs) ∧ Paired (Sw P w H) vs ds ∧
  (listText (PyData.shownAll ds)).length ≤ sizeLine ∧ PyData.depthAll ds ≤ 40 ∧ Q (.str (listText (PyData.shownAll ds))) H
theorem call_reprS {P : Program} {w : World} {X : Cx} (gd : X.A.guards = some []) (hu : X.A.units + 64 < cLine) (hP : X.prog = P := by rfl) (hw : X.w = w := by rfl) : CallR X (.builtin "repr") (rReprS P w) := by
  subst hP hw
  intro pins s σ H xs us Q I r h
  obtain ⟨p, vs, ds, rfl, e, hp, hz, hd, q⟩ := h
  cases r with
  | cons rx rr =>
    cases rr
    cases rx
    obtain ⟨_, its, n, rv, ho⟩ : vs.length ≤ sizeLine ∧ ∃ (its : List Value) (n : Nat), Vals vs its ∧ s.heap.get? p = some { cls := .type "list", data := .seq its.toArray n } := I.hok p _ e
    obtain ⟨⟨as, ra⟩, bs, hb, hk⟩ := sw_all I.hok hp rv
    have na : p ∉ bs := not_mem_of_deeper (.list ho rfl rfl ra) (by simp only [PyData.depth]; omega) hb
    have ty : s.TypeIs (.ref p) "list" := ⟨_, ho, rfl⟩
    refine call_repr_slot (by omega) ty F.slot_list_repr.toG ?_
    have out : ∀ h2 u tk, (∀ b o, s.heap.get? b = some o → h2.get? b = some o) → EP X pins σ Q (.str (listText (PyData.shownAll ds)) u) { s with heap := h2, toks := tk } :=
      fun h2 u tk k => ⟨.str (listText (PyData.shownAll ds)), H, I.kept k, ⟨u, rfl⟩, q⟩
    cases its with
    | nil =>
      cases rv
      cases hp
      simp only [PyData.shownAll, listText_nil] at out
      exact call_list_repr_empty ty ho rfl ⟨_, _, rfl, out s.heap _ _ fun _ _ z => z⟩
    | cons x l =>
      exact call_list_reprK ho rfl rfl na (by simpa using hk.length_eq) (fun i y z => hk.item i y (by simpa using z)) gd (fun b _ => Clear.nil b) (by show X.A.units + 1 + _ < cLine; omega) (fun _ _ z => z) (fun h2 u tk k => ⟨_, _, rfl, out h2 u tk k⟩) hz
end Lw
namespace Lw
open PySem PySem.Spec PyProof.Rows L2 Evl TL
/-! ### a dict of words -/
theorem dc_it {J : It} {n : Nat} {G : Hp → Prop} {Y : Nat → Hp → V → Hp → Prop} (wk : Walk J n G Y) {g : TG} {tk tv : TE} {ws : List Nat} {σ : L2.St} {H1 : Hp} {D : Addr} {Qd : Hp → Prop} (Pv : Nat → Hp → Prop) (h0 : Pv 0 (upd H1 D (.dT []))) (hG : ∀ i H, i ≤ n → Pv i H → G H)
    (hs : ∀ i x H H2, i < n → Pv i H → Y i H x H2 → g x (wipe σ ws) H2 fun τ H3 => wipe τ ws = wipe σ ws ∧ tk τ H3 fun y H4 => tv τ H4 fun z H5 => ∃ kvs k b, y = .ref b ∧ H5 b = some (.tup (k.map kV)) ∧ H5 D = some (.dT kvs) ∧ kvs.length < sizeLine ∧ Pv (i + 1) (upd H5 D (.dT (putK kvs k z)))) (hd : ∀ H, Pv n H → Qd H) :
    ∃ W : Nat → Nat → Hp → Prop, (∃ m, W 0 m (upd H1 D (.dT []))) ∧ ∀ i m H, W i m H → (J.stop i H ∧ Qd H) ∨ (J.go i H ∧ ∃ N : Hp → Prop, (∀ H2, N H2 → ∃ l, l < m ∧ W (i + 1) l H2) ∧ ∀ x H2, J.yld i H x H2 → g x (wipe σ ws) H2 fun τ H3 => wipe τ ws = wipe σ ws ∧
      tk τ H3 fun y H4 => tv τ H4 fun z H5 => ∃ kvs k b, y = .ref b ∧ H5 b = some (.tup (k.map kV)) ∧ H5 D = some (.dT kvs) ∧ kvs.length < sizeLine ∧ N (upd H5 D (.dT (putK kvs k z)))) := by
  refine ⟨fun i m H => i + m = n ∧ Pv i H, ⟨n, Nat.zero_add n, h0⟩, ?_⟩
  rintro i m H ⟨e, p⟩
  have le : i ≤ n := by omega
  rcases Nat.lt_or_eq_of_le le with lt | rfl
  · exact .inr ⟨wk.goes i H lt (hG i H le p), Pv (i + 1), fun H2 q => ⟨m - 1, by omega, by omega, q⟩, fun x H2 y => hs i x H H2 lt p (wk.yields i H x H2 lt (hG i H le p) y)⟩
  · exact .inl ⟨wk.stops H (hG i H le p), hd H p⟩
/-- a word as a key -/
def kw (ys : List Str) : List L2.Key := ys.map Sum.inr
theorem kw_inj : ∀ {xs ys : List Str}, kw xs = kw ys → xs = ys
  | [], [], _ => rfl
  | [], _ :: _, h => nomatch h
  | _ :: _, [], h => nomatch h
  | x :: xs, y :: ys, h => by
    have h2 : (Sum.inr x : L2.Key) :: kw xs = Sum.inr y :: kw ys := h
    injection h2 with a b
    rw [Sum.inr.inj a, kw_inj b]
theorem kw_val (ys : List Str) : (kw ys).map kV = ys.map V.str := by
  unfold kw
  rw [List.map_map]
  rfl
/-- the different ones, in the sequence of their first places -/
def addW (ds : List (List Str)) (w : List Str) : List (List Str) := if w ∈ ds then ds else ds ++ [w]
def uniq (ws : List (List Str)) : List (List Str) := ws.foldl addW []
def dk (ds : List (List Str)) : List (List L2.Key × V) := ds.map fun w => (kw w, V.bl true)
theorem any_dk (ds : List (List Str)) (w : List Str) : ((dk ds).any fun kv => decide (kv.1 = kw w)) = decide (w ∈ ds) := by
  unfold dk
  rw [List.any_map, Bool.eq_iff_iff, List.any_eq_true, decide_eq_true_iff]
  constructor
  · rintro ⟨x, h1, h2⟩
    rw [← kw_inj (of_decide_eq_true h2)]
    exact h1
  · intro h
    exact ⟨w, h, decide_eq_true rfl⟩
theorem put_dk (ds : List (List Str)) (w : List Str) : putK (dk ds) (kw w) (.bl true) = dk (addW ds w) := by
  unfold putK addW
  rw [any_dk]
  by_cases h : w ∈ ds
  · rw [if_pos (decide_eq_true h), if_pos h]
    unfold dk
    rw [List.map_map]
    refine List.map_congr_left fun x _ => ?_
    show (if kw x = kw w then (kw x, V.bl true) else (kw x, V.bl true)) = _
    split <;> rfl
  · rw [if_neg (by rw [decide_eq_false h]; decide), if_neg h]
    unfold dk
    rw [List.map_append]
    rfl
theorem uniq_succ {ws : List (List Str)} {i : Nat} {w : List Str} (h : ws[i]? = some w) : uniq (ws.take (i + 1)) = addW (uniq (ws.take i)) w := by
  obtain ⟨hi, e⟩ := List.getElem?_eq_some_iff.mp h
  rw [← List.take_concat_get hi, e, List.concat_eq_append]
  unfold uniq
  rw [List.foldl_append]
  rfl
theorem addW_mem {ds : List (List Str)} {w u : List Str} : u ∈ addW ds w ↔ u ∈ ds ∨ u = w := by
  unfold addW
  split
  · rename_i h
    exact ⟨.inl, fun z => z.elim id fun e => e ▸ h⟩
  · rw [List.mem_append, List.mem_singleton]
theorem uniq_mem {ws : List (List Str)} {u : List Str} : u ∈ uniq ws ↔ u ∈ ws := by
  have key : ∀ (ws ds : List (List Str)), u ∈ ws.foldl addW ds ↔ u ∈ ds ∨ u ∈ ws := fun ws => by
    induction ws with
    | nil => intro ds; simp
    | cons w ws ih =>
      intro ds
      rw [List.foldl_cons, ih, addW_mem, List.mem_cons, or_assoc]
  unfold uniq
  rw [key]
  simp
theorem addW_nodup {ds : List (List Str)} {w : List Str} (h : ds.Nodup) : (addW ds w).Nodup := by
  unfold addW
  split
  · exact h
  · rename_i n
    rw [List.nodup_append]
    refine ⟨h, by simp, fun a ha b hb e => n ?_⟩
    rw [← List.mem_singleton.mp hb, ← e]
    exact ha
theorem uniq_nodup (ws : List (List Str)) : (uniq ws).Nodup := by
  have key : ∀ (ws ds : List (List Str)), ds.Nodup → (ws.foldl addW ds).Nodup := fun ws => by
    induction ws with
    | nil => intro ds h; exact h
    | cons w ws ih => intro ds h; exact ih _ (addW_nodup h)
  exact key ws [] List.nodup_nil
theorem uniq_len (ws : List (List Str)) : (uniq ws).length ≤ ws.length := by
  have key : ∀ (ws ds : List (List Str)), (ws.foldl addW ds).length ≤ ds.length + ws.length := fun ws => by
    induction ws with
    | nil => intro ds; exact Nat.le_refl _
    | cons w ws ih =>
      intro ds
      have h1 := ih (addW ds w)
      have h2 : (addW ds w).length ≤ ds.length + 1 := by
        unfold addW
        split
        · omega
        · rw [List.length_append]
          exact Nat.le_refl _
      rw [List.foldl_cons, List.length_cons]
      omega
  have z := key ws []
  rw [List.length_nil, Nat.zero_add] at z
  exact z
section
variable {K : PySem.W.Frag} {σ : L2.St} {H : Hp} {te : TE} {ws : List (List Str)}
theorem paired_at {α β : Type} {S : α → β → Prop} : ∀ {xs : List α} {ys : List β} {i : Nat} {x : α}, Paired S xs ys → xs[i]? = some x → ∃ y, ys[i]? = some y ∧ S x y
  | _, _, 0, _, .cons r _, e => ⟨_, rfl, by cases e; exact r⟩
  | _, _, i + 1, _, .cons _ t, e => paired_at (i := i) t e
/-- the dict of the different words of a list or a tuple -/
theorem dcWords {j : Nat} (h : EvSW K te σ H ws) (hz : ws.length ≤ 100000) (hw : ∀ x, wipe ((wipe σ [j]).set j (some x)) [j] = wipe σ [j]) (hj : ∀ x, ((wipe σ [j]).set j (some x))[j]? = some (some x)) {Q : VK}
    (q : ∀ D H2, H D = none → Ex H H2 → H2 D = some (.dT (dk (uniq ws))) → Q (.ref D) H2) : tDcT (iSeqS K te) (gName j) (tVar j) (tC (.bl true)) [j] σ H Q := h H (Ex.refl H) _ fun l H1 e1 hl => by
  -- over a walk of the words' places
  have go : ∀ (us : List V) (J : It) (G : Hp → Prop), Paired (Wd K H1) us ws → Walk J us.length G (YAt us) → (∀ H2, Ex H1 H2 → G H2) → ∀ D, H1 D = none → ∃ W : Nat → Nat → Hp → Prop, (∃ m, W 0 m (upd H1 D (.dT []))) ∧ ∀ i m H, W i m H →
      (J.stop i H ∧ Q (.ref D) H) ∨ (J.go i H ∧ ∃ N : Hp → Prop, (∀ H2, N H2 → ∃ l, l < m ∧ W (i + 1) l H2) ∧ ∀ x H2, J.yld i H x H2 → gName j x (wipe σ [j]) H2 fun τ H3 => wipe τ [j] = wipe σ [j] ∧
        tVar j τ H3 fun y H4 => tC (.bl true) τ H4 fun z H5 => ∃ kvs k b, y = .ref b ∧ H5 b = some (.tup (k.map kV)) ∧ H5 D = some (.dT kvs) ∧ kvs.length < sizeLine ∧ N (upd H5 D (.dT (putK kvs k z)))) := fun us J G hp wk hG D hD => by
    have len := Paired.length hp
    refine dc_it wk (fun i H2 => Ex H1 H2 ∧ H2 D = some (.dT (dk (uniq (ws.take i))))) ⟨Ex.new hD, upd_same⟩ (fun i H2 _ p => hG H2 p.1) (fun i x H2 H3 hi p y => ?_) fun H2 p => ?_
    · obtain ⟨rfl, hx⟩ := y
      obtain ⟨w, hw2, a, rfl, ha⟩ := paired_at hp hx
      refine ⟨hw _, _, hj _, dk (uniq (ws.take i)), kw w, a, rfl, by rw [kw_val]; exact p.1 _ _ ha, p.2, ?_, Ex.mut p.1 hD, ?_⟩
      · have h1 := uniq_len (ws.take i)
        rw [List.length_take] at h1
        unfold dk
        rw [List.length_map]
        exact sz_lt (by omega)
      · rw [put_dk, uniq_succ hw2]
        exact upd_same
    · obtain ⟨p1, p2⟩ := p
      rw [len, List.take_length] at p2
      exact q D H2 (fresh_back e1 hD) (e1.trans p1) p2
  rcases hl with ⟨us, h1, h2⟩ | ⟨us, h1, h2⟩
  · exact ⟨l, rfl, .inl ⟨us, SqL.of h1, go us _ _ h2 walk_list fun H2 e => ex_l e (SqL.of h1)⟩⟩
  · exact ⟨l, rfl, .inr ⟨us, SqT.of h1, go us _ _ h2 walk_tup fun H2 e => ex_t e (SqT.of h1)⟩⟩
theorem q_asgDc {i j : Nat} {tz : TS} {D : Ends} (h : EvSW K te σ H ws) (hz : ws.length ≤ 100000) (hw : ∀ x, wipe ((wipe σ [j]).set j (some x)) [j] = wipe σ [j]) (hj : ∀ x, ((wipe σ [j]).set j (some x))[j]? = some (some x))
    (k : ∀ a H2, H a = none → Ex H H2 → H2 a = some (.dT (dk (uniq ws))) → tz D (σ.set i (some (.ref a))) H2) : tSeq (tAsg (tDcT (iSeqS K te) (gName j) (tVar j) (tC (.bl true)) [j]) (gName i)) tz D σ H := dcWords (Q := fun v H2 => tz D (σ.set i (some v)) H2) h hz hw hj k
end
end Lw
namespace K11
open PySem PySem.Spec PyProof.Rows L2 Lw Evl LamX
open LwX (XC XF)
def topS (i : Nat) : Stmt := PySem.Challenge.pw_wakesayings_k11_words_refused.main.body.getD i (.Pass ⟨0, 0, 0, 0⟩)
structure Tx (P : Program) (w : World) (K : PySem.W.Frag) (mg : Str → Option Value) (base : Heap) : Prop where
  m_len : mg "len" = none
  m_range : mg "range" = none
  m_abs : mg "abs" = none
  m_max : mg "max" = none
  m_min : mg "min" = none
  m_int : mg "int" = none
  m_divmod : mg "divmod" = none
  m_all : mg "all" = none
  m_isinstance : mg "isinstance" = none
  m_enumerate : mg "enumerate" = none
  m_repr : mg "repr" = none
  m_list : mg "list" = none
  m_tuple : mg "tuple" = none
  m_sorted : mg "sorted" = none
  m_str : mg "str" = none
  g_MOST_SIGNS : ∃ t, mg "MOST_SIGNS" = some (.int 8 t)
  g_MOST_IN_WORD : ∃ t, mg "MOST_IN_WORD" = some (.int 3 t)
  g_EMPTY_TEXT : ∃ t, mg "EMPTY_TEXT" = some (.str "-" t)
section
variable {P : Program} {w : World} {K : PySem.W.Frag} {mg : Str → Option Value} {base : Heap}
abbrev s_draw : Stmt := topS 28
theorem sc_draw : FnScope ["_law_pot_here", "_law_size", "_law_digit"] ["_law_pot_here", "_law_size"] (defScope s_draw) := ⟨rfl, rfl, rfl, by decide +kernel, rfl, by decide +kernel, by decide +kernel⟩
theorem ok_draw {f : Addr} {fd : FuncData} (F : FunD K "_law_draw" "_law_draw" (defArgs s_draw) (defBody s_draw) (defScope s_draw) [] [] f fd) (T : Tx P w K mg base)  : FnG P w K mg base CX0 1 f fd ["_law_pot_here", "_law_size"] spDraw := by
  refine fnG F sc_draw (fun vs H Q E h => ?_) (fun cdv A outer s H vs Q E gd hr h => ?_)
  · obtain ⟨p, n, rfl, _⟩ := h
    rfl
  · skip
    refine ⟨_, PSs.nox ((pss_cons (ps_if (pt_cmpR op_gt (pe_ix (ix_listK (K := K)) (pv 0) pe_int (fun _ _ => rfl)) pe_int (nomark _)) (pss_cons (ps_asg (pe_callB call_divmod (by rfl) T.m_divmod (by decide +kernel) (pa_cons (pe_ix (ix_listK (K := K)) (pv 0) pe_int (fun _ _ => rfl)) (pa_cons (pv 1) pa_nil))) (pg_tup (n := 2) rfl (pgs_cons (pg_sub (pv 0) pe_int set_list) (pgs_cons (pg_name (i := 2) sc_draw.nd rfl (by first | exact Or.inl rfl | exact Or.inr rfl)) pgs_nil))))
      (pss_one (ps_ret (pv 2)))) pss_nil)
      (pss_cons (ps_asg (pe_op op_mod (pe_callTy call_int1 (by rfl) T.m_int (by decide +kernel) (pa_cons (pe_op op_add (pe_op op_mul (pe_ix (ix_listK (K := K)) (pv 0) pe_int (fun _ _ => rfl)) pe_int) pe_int) pa_nil)) pe_int) (pg_sub (pv 0) pe_int set_list))
      (pss_one (ps_ret (pe_op op_mod (pe_callTy call_int1 (by rfl) T.m_int (by decide +kernel) (pa_cons (pe_op op_fdiv (pe_op op_mod (pe_callTy call_int1 (by rfl) T.m_int (by decide +kernel) (pa_cons (pe_op op_mul (pe_ix (ix_listK (K := K)) (pv 0) pe_int (fun _ _ => rfl)) (pe_ix (ix_listK (K := K)) (pv 0) pe_int (fun _ _ => rfl))) pa_nil)) pe_int) pe_int) pa_nil)) (pv 1))))))), ?_⟩
    obtain ⟨p, n, rfl, ⟨i, j, e, i0, j0, j1⟩, hn, hn2, q⟩ := h
    refine ⟨_, rfl, p, _, _, _, rfl, rfl, SqL.of e, rfl, _, _, rfl, rfl, _, rfl, ite2 (fun hc => ?_) (fun hc => ?_)⟩
    · have ci : 0 < i := of_decide_eq_true hc
      refine ⟨_, rfl, p, _, _, _, rfl, rfl, SqL.of e, rfl, _, rfl, _, _, rfl, ⟨hn, hn2⟩, fun t ht => ?_⟩
      have e1 : (upd H t (.tup [.int (i / n), .int (i % n)])) p = some (.lst [.int i, .int j]) := by
        rw [upd_ne (ne_of_none e ht)]
        exact e
      refine ⟨t, _, rfl, SqT.of upd_same, rfl, _, _, rfl, _, rfl, p, _, 0, 0, rfl, rfl, e1, rfl, _, _, rfl, rfl, _, rfl, ?_⟩
      refine q _ _ (Int.emod_nonneg _ (by omega)) (Int.emod_lt_of_pos _ hn) ⟨fun a o na ea => ?_, i / n, j, upd_same, Int.ediv_nonneg i0 (by omega), j0, j1⟩
      rw [upd_ne na, upd_ne (ne_of_none ea ht)]
      exact ea
    · refine ⟨_, rfl, p, _, _, _, rfl, rfl, SqL.of e, rfl, _, _, rfl, rfl, .inr ⟨by decide, by decide⟩, _, _, rfl, rfl, .inl ⟨_, rfl, _, _, rfl, rfl, (by show (0 : Int) < 2147483587; decide), _, rfl, p, _, 1, 1, rfl, rfl, e, rfl, ?_⟩⟩
      have e1 : ∀ k : Int, (upd H p (.lst [.int i, .int k])) p = some (.lst [.int i, .int k]) := fun k => upd_same
      have b0 : 0 ≤ (j * 48271 + 12161) % 2147483587 := Int.emod_nonneg _ (by decide)
      have b1 : (j * 48271 + 12161) % 2147483587 < 2147483587 := Int.emod_lt_of_pos _ (by decide)
      refine ⟨_, rfl, p, _, _, _, rfl, rfl, SqL.of (e1 _), rfl, _, rfl, p, _, _, _, rfl, rfl, SqL.of (e1 _), rfl, _, _, rfl, rfl, .inl ⟨by omega, by omega⟩, .inl ⟨_, rfl, _, _, rfl, rfl, (by show (0 : Int) < 2147483549; decide), _, _, rfl, rfl, ⟨by decide, by decide⟩, .inl ⟨_, rfl, _, rfl, _, _, rfl, rfl, hn, ?_⟩⟩⟩
      refine q _ _ (Int.emod_nonneg _ (by omega)) (Int.emod_lt_of_pos _ hn) ⟨fun a o na ea => ?_, i, _, upd_same, i0, b0, by omega⟩
      rw [upd_ne na]
      exact ea

abbrev s_pick : Stmt := topS 29
theorem sc_pick : FnScope ["_law_pot_here", "_law_some"] ["_law_pot_here", "_law_some"] (defScope s_pick) := ⟨rfl, rfl, rfl, by decide +kernel, rfl, by decide +kernel, by decide +kernel⟩
theorem ok_pick {f : Addr} {fd : FuncData} (F : FunD K "_law_pick" "_law_pick" (defArgs s_pick) (defBody s_pick) (defScope s_pick) [] [] f fd) (T : Tx P w K mg base) (d_law_draw : Cal P w K mg base CX0 1 "_law_draw" ["_law_pot_here", "_law_size"] spDraw) : FnG P w K mg base CX0 2 f fd ["_law_pot_here", "_law_some"] (spPick K) := by
  refine fnG F sc_pick (fun vs H Q E h => ?_) (fun cdv A outer s H vs Q E gd hr h => ?_)
  · obtain ⟨p, l, xs, rfl, _⟩ := h
    rfl
  · skip
    refine ⟨_, PSs.nox ((pss_one (ps_ret (pe_ix (ix_listK (K := K)) (pv 1) (pe_cal d_law_draw gd hr (pa_cons (pv 0) (pa_cons (pe_callB (call_lenK (K := K)) (by rfl) T.m_len (by decide +kernel) (pa_cons (pv 1) pa_nil)) pa_nil))) (fun _ _ => rfl))))), ?_⟩
    obtain ⟨p, l, xs, rfl, hp, hl, hne, h0, h1, q⟩ := h
    refine ⟨_, rfl, _, rfl, _, rfl, l, _, rfl, .inl (SqL.of hl), p, _, rfl, hp, by omega, by omega, fun d H' d0 d1 x => ?_⟩
    obtain ⟨v, a1, a2⟩ := atI_mem d0 d1
    exact ⟨l, _, _, v, rfl, rfl, SqL.of (x.1 _ _ hne hl), a1, q v H' a2 x⟩

abbrev s_pot : Stmt := topS 27
theorem sc_pot : FnScope ["_law_script", "_law_k", "_law_cell"] ["_law_script", "_law_k"] (defScope s_pot) := ⟨rfl, rfl, rfl, by decide +kernel, rfl, by decide +kernel, by decide +kernel⟩
theorem ok_pot {f : Addr} {fd : FuncData} (F : FunD K "_law_pot" "_law_pot" (defArgs s_pot) (defBody s_pot) (defScope s_pot) [] [] f fd) (T : Tx P w K mg base)  : FnG P w K mg base CX0 1 f fd ["_law_script", "_law_k"] (spPot K) := by
  refine fnG F sc_pot (fun vs H Q E h => ?_) (fun cdv A outer s H vs Q E gd hr h => ?_)
  · obtain ⟨a, ns, k, rfl, _⟩ := h
    rfl
  · skip
    refine ⟨_, PSs.nox ((pss_cons (ps_set (i := 2) sc_pot.nd rfl (by first | exact Or.inl rfl | exact Or.inr rfl) (pe_op op_add (pe_op op_mul pe_int (pv 1)) pe_int))
      (Evl.pss_cut (ps_if (pt_cmpR op_lt (pv 1) (pe_callB (call_lenK (K := K)) (by rfl) T.m_len (by decide +kernel) (pa_cons (pv 0) pa_nil)) (nomark _)) (pss_one (ps_set (i := 2) sc_pot.nd rfl (by first | exact Or.inl rfl | exact Or.inr rfl) (pe_callB call_abs (by rfl) T.m_abs (by decide +kernel) (pa_cons (pe_ix (ix_listK (K := K)) (pv 0) (pv 1) (fun _ _ => rfl)) pa_nil)))) pss_nil)
      (pss_one (ps_ret (pe_lst (pa_cons (pe_callB (call_max2 rfl) (by rfl) T.m_max (by decide +kernel) (pa_cons pe_int (pa_cons (pe_op op_sub (pv 2) (pe_op op_pow pe_int pe_int)) pa_nil))) (pa_cons (pe_op op_add (pe_op op_mod (pe_op op_mul (pe_callTy call_int1 (by rfl) T.m_int (by decide +kernel) (pa_cons (pe_op op_add (pe_op op_mod (pe_callTy call_int1 (by rfl) T.m_int (by decide +kernel) (pa_cons (pv 2) pa_nil)) pe_int) pe_int) pa_nil)) (pe_op op_pow (pe_op op_add (pe_op op_mul pe_int (pv 1)) pe_int) pe_int)) pe_int) pe_int) pa_nil)))))))), ?_⟩
    obtain ⟨a, ns, k, rfl, hS, hn, k0, k1, q⟩ := h
    refine ⟨_, rfl, _, _, rfl, rfl, .inr ⟨by omega, by omega⟩, _, _, rfl, rfl, ?_⟩
    refine ⟨fun σ' H' => ∃ c : Int, 0 ≤ c ∧ σ' = [some (.ref a), some (.int k), some (.int c)] ∧ H' = H, ?_, ?_⟩
    · refine ⟨_, rfl, _, rfl, a, _, rfl, .inl hS, _, _, rfl, rfl, _, rfl, ite2 (fun hc => ?_) (fun _ => ⟨37 * k + 11, by omega, rfl, rfl⟩)⟩
      have hk : k < ((ns.map V.int).length : Int) := of_decide_eq_true hc
      obtain ⟨m, rfl⟩ := Int.eq_ofNat_of_zero_le k0
      have hm : m < (ns.map V.int).length := by omega
      have hm' : m < ns.length := by rw [List.length_map] at hm; exact hm
      have g : atI (ns.map V.int) (m : Int) = some (.int ns[m]) := by
        refine atI_nat ?_
        rw [List.getElem?_map, List.getElem?_eq_getElem hm']
        rfl
      refine ⟨_, rfl, _, rfl, a, _, _, _, rfl, rfl, hS, g, _, rfl, _, ?_, rfl, rfl⟩
      split <;> omega
    · rintro σ' H' ⟨c, c0, rfl, rfl⟩
      have b1 : 0 ≤ (c % 2147483549 + 13) * (2 * k + 3) ^ (3 : Int).toNat % 2147483477 := Int.emod_nonneg _ (by decide)
      have b2 : (c % 2147483549 + 13) * (2 * k + 3) ^ (3 : Int).toNat % 2147483477 < 2147483477 := Int.emod_lt_of_pos _ (by decide)
      have b3 := Int.emod_lt_of_pos c (b := 2147483549) (by decide)
      have b4 := Int.emod_nonneg c (b := 2147483549) (by decide)
      refine ⟨_, rfl, _, _, rfl, rfl, ⟨by decide, by decide, by decide⟩, _, _, rfl, rfl, _, _, rfl, ?_⟩
      refine ⟨_, rfl, .inl ⟨_, rfl, _, _, rfl, rfl, (by show (0 : Int) < 2147483549; decide), _, _, rfl, rfl, .inl ⟨_, rfl, _, rfl, _, _, rfl, rfl, .inr ⟨by omega, by omega⟩, _, _, rfl, rfl, ?_⟩⟩⟩
      refine ⟨_, _, rfl, rfl, ⟨by decide, by decide, by omega⟩, _, _, rfl, rfl, .inl ⟨by omega, by omega⟩, _, _, rfl, rfl, (by show (0 : Int) < 2147483477; decide), _, _, rfl, rfl, (by show 2 ≤ sizeLine; decide), fun p hp => ?_⟩
      refine q _ _ hp (fun b o e => by rw [upd_ne (ne_of_none e hp)]; exact e) ⟨_, _, upd_same, ?_, by omega, by omega⟩
      split <;> omega

def ABC : Str := Str.ofString "abcdefghijklmnopqrstuvwxyz"
theorem abc_at {d : Int} (h0 : 0 ≤ d) (h1 : d < 26) : atI ABC.cps.toList d = some (97 + d.toNat) := by
  obtain ⟨n, rfl⟩ := Int.eq_ofNat_of_zero_le h0
  have hn : n < 26 := by omega
  have e : ABC.cps.toList = (List.range 26).map (97 + ·) := by decide +kernel
  refine atI_nat ?_
  rw [e, List.getElem?_map, List.getElem?_range hn]
  rfl
/-- a lot of different letters -/
def spSigns : Sp := fun vs H Q _ => ∃ (p : Addr) (n : Nat), vs = [.ref p, .int (n : Int)] ∧ Po p H ∧ n ≤ 8 ∧
  ∀ (l : Addr) (xs : List Str) (H' : Hp), H l = none → l ≠ p → Xp p H H' → H' l = some (.lst (xs.map V.str)) → xs.length = n → (∀ x ∈ xs, isL x = true) → xs.Nodup → Q (.ref l) H'
abbrev s_signs : Stmt := topS 30
theorem sc_signs : FnScope ["_law_pot_here", "_law_amount", "_law_alphabet", "_law_found", "_law_sign", "_law_turn", "_law_spare", "_law_k"] ["_law_pot_here", "_law_amount"] (defScope s_signs) := ⟨rfl, rfl, rfl, by decide +kernel, rfl, by decide +kernel, by decide +kernel⟩
theorem ok_signs {f : Addr} {fd : FuncData} (F : FunD K "_law_signs" "_law_signs" (defArgs s_signs) (defBody s_signs) (defScope s_signs) [] [] f fd) (T : Tx P w K mg base) (d_law_draw : Cal P w K mg base CX0 1 "_law_draw" ["_law_pot_here", "_law_size"] spDraw) (d_law_pick : Cal P w K mg base CX0 2 "_law_pick" ["_law_pot_here", "_law_some"] (spPick K)) : FnG P w K mg base CX0 3 f fd ["_law_pot_here", "_law_amount"] spSigns := by
  refine fnG F sc_signs (fun vs H Q E h => ?_) (fun cdv A outer s H vs Q E gd hr h => ?_)
  · obtain ⟨p, n, rfl, _⟩ := h
    rfl
  · skip
    refine ⟨_, PSs.nox ((pss_cons (ps_asg (pe_tup (pa_cons pe_str (pa_cons (pe_lst pa_nil) pa_nil))) (pg_tup (n := 2) rfl (pgs_cons (pg_name (i := 2) sc_signs.nd rfl (by first | exact Or.inl rfl | exact Or.inr rfl)) (pgs_cons (pg_name (i := 3) sc_signs.nd rfl (by first | exact Or.inl rfl | exact Or.inr rfl)) pgs_nil))))
      (pss_cons (ps_while PassesOwn.never (pt_cmpR op_lt (pe_callB (call_lenK (K := K)) (by rfl) T.m_len (by decide +kernel) (pa_cons (pv 3) pa_nil)) (pv 1) (nomark _)) (pss_cons (ps_set (i := 4) sc_signs.nd rfl (by first | exact Or.inl rfl | exact Or.inr rfl) (pe_joinK (K := K) pe_str (pe_lc (own := [("_law_turn", 5)]) (g := gName 5) (tt := tYes) rfl sc_signs.nd (pi_range1 (by rfl) T.m_range (pa_cons (pe_cal d_law_pick gd hr (pa_cons (pv 0) (pa_cons (pe_lst (pa_cons pe_int (pa_cons pe_int (pa_cons pe_int (pa_cons pe_int (pa_cons pe_int (pa_cons pe_int pa_nil))))))) pa_nil))) pa_nil)) (blkOk_by (own := [("_law_turn", 5)]) (N := ["_law_pot_here", "_law_amount", "_law_alphabet", "_law_found", "_law_sign", "_law_turn", "_law_spare", "_law_k"]) (sc := defScope s_signs) (by decide +kernel)) (fun _ _ _ _ _ => pg_name (i := 5) sc_signs.nd rfl (Or.inl rfl)) (fun _ _ _ _ _ => pts_nil) (fun _ _ _ _ _ => (pe_ix ix_str (pv 2) (pe_cal d_law_draw gd hr (pa_cons (pv 0) (pa_cons pe_int pa_nil))) (fun _ _ => rfl))))))
      (Evl.pss_cut (ps_if (PW.pt (pw_and (pt_cmpR (op_neDK (K := K) hr.units) (pv 3) (pe_lst pa_nil) (nomark _)) (pw_and (pt_cmpR op_eq (pe_cal d_law_draw gd hr (pa_cons (pv 0) (pa_cons pe_int pa_nil))) pe_int (nomark _)) (pw_and1 (pt_cmpR op_lt (pe_callB call_len_str (by rfl) T.m_len (by decide +kernel) (pa_cons (pe_ix (ix_listK (K := K)) (pv 3) (pe_un un_neg pe_int) (fun _ _ => rfl)) pa_nil)) pe_int (nomark _)))))) (pss_one (ps_set (i := 4) sc_signs.nd rfl (by first | exact Or.inl rfl | exact Or.inr rfl) (pe_op op_add_str (pe_ix (ix_listK (K := K)) (pv 3) (pe_un un_neg pe_int) (fun _ _ => rfl)) (pe_ix ix_str (pv 2) (pe_cal d_law_draw gd hr (pa_cons (pv 0) (pa_cons pe_int pa_nil))) (fun _ _ => rfl))))) pss_nil)
      (pss_one (ps_for PassesOwn.never rfl (pi_listK (K := K) (pe_op op_cat (pe_lst (pa_cons (pv 4) pa_nil)) (pe_lc (own := [("_law_k", 7)]) (g := gName 7) (tt := tYes) rfl sc_signs.nd (pi_range1 (by rfl) T.m_range (pa_cons (pe_op op_add (pv 1) pe_int) pa_nil)) (blkOk_by (own := [("_law_k", 7)]) (N := ["_law_pot_here", "_law_amount", "_law_alphabet", "_law_found", "_law_sign", "_law_turn", "_law_spare", "_law_k"]) (sc := defScope s_signs) (by decide +kernel)) (fun _ _ _ _ _ => pg_name (i := 7) sc_signs.nd rfl (Or.inl rfl)) (fun _ _ _ _ _ => pts_nil) (fun _ _ _ _ _ => (pe_ix ix_str (pv 2) (pv 7) (fun _ _ => rfl)))))) (pg_name (i := 6) sc_signs.nd rfl (by first | exact Or.inl rfl | exact Or.inr rfl)) (pss_one (ps_if (pt_cmpR (op_notInK (K := K)) (pv 6) (pv 3) (by rfl)) (pss_cons (ps_expr (pe_bm PySem.F.plainAttrs_list PySem.F.slot_list_append PySem.F.type_list_append mt_append (pv 3) (pa_cons (pv 6) pa_nil)))
      (pss_one ps_break)) pss_nil)))))))
      (pss_one (ps_ret (pv 3)))))), ?_⟩
    obtain ⟨p, n, rfl, hp, hn, q⟩ := h
    refine ⟨Nat.zero_le _, fun l hl => ⟨(by show 2 ≤ sizeLine; decide), fun t ht => ⟨t, _, rfl, SqT.of upd_same, rfl, _, _, rfl, _, _, rfl, rfl, ?_⟩⟩⟩
    have x0 : Xp p H (upd (upd H l (.lst [])) t (.tup [.str ABC, .ref l])) := (Xp.new hp hl).snew ht
    have lp : l ≠ p := fun e => by
      obtain ⟨o, ho⟩ := hp.some
      rw [e, ho] at hl
      cases hl
    have hl0 : (upd (upd H l (.lst [])) t (.tup [.str ABC, .ref l])) l = some (.lst []) := by
      rw [upd_ne (ne_of_none upd_same ht)]
      exact upd_same
    refine ⟨fun m σ H' => ∃ (xs : List Str) (a b c d : Option V), σ = [some (.ref p), some (.int (n : Int)), some (.str ABC), some (.ref l), a, b, c, d] ∧ Xp p H H' ∧ H' l = some (.lst (xs.map V.str)) ∧ (∀ x ∈ xs, isL x = true) ∧ xs.Nodup ∧ xs.length + m = n, ⟨n, [], _, _, _, _, rfl, x0, hl0, fun x z => absurd z List.not_mem_nil, List.nodup_nil, Nat.zero_add n⟩, ?_⟩
    rintro m σ H' ⟨xs, a, b, c, d, rfl, x, hx, hL, hN, hm⟩
    refine ⟨_, rfl, l, _, rfl, .inl (SqL.of hx), _, rfl, _, _, rfl, rfl, _, rfl, tt_if (fun z => ?_) (fun z => ?_)⟩
    · have z := of_decide_eq_true z
      rw [List.length_map] at z
      have hxl : xs.length ≤ 8 := by omega
      refine ⟨fun σ' H2 => ∃ (ys : List Str) (a b c d : Option V), σ' = [some (.ref p), some (.int (n : Int)), some (.str ABC), some (.ref l), a, b, c, d] ∧ Xp p H H2 ∧ H2 l = some (.lst (ys.map V.str)) ∧ (∀ x ∈ ys, isL x = true) ∧ ys.Nodup ∧ ys.length + (m - 1) = n, fun σ' H2 y => ⟨m - 1, by omega, y⟩, ?_⟩
      refine ⟨⟨_, rfl⟩, _, rfl, (by show 6 ≤ sizeLine; decide), fun r hr' => ?_⟩
      have rp : r ≠ p := fun e => by
        obtain ⟨o, ho⟩ := x.2.some
        rw [e, ho] at hr'
        cases hr'
      have xr := x.snew (o := .lst [.int 1, .int 1, .int 1, .int 2, .int 3, .int 8]) hr'
      have lr : l ≠ r := ne_of_none hx hr'
      refine ⟨p, r, _, rfl, xr.2, upd_same, rp, (by show 0 < 6; decide), (by show 6 < 100000; decide), fun v H1 hv x1 => ?_⟩
      have hk : ∃ k : Nat, v = .int (k : Int) ∧ 1 ≤ k ∧ k ≤ 8 := by
        simp only [List.mem_cons, List.not_mem_nil, or_false] at hv
        rcases hv with rfl | rfl | rfl | rfl | rfl | rfl
        · exact ⟨1, rfl, by decide, by decide⟩
        · exact ⟨1, rfl, by decide, by decide⟩
        · exact ⟨1, rfl, by decide, by decide⟩
        · exact ⟨2, rfl, by decide, by decide⟩
        · exact ⟨3, rfl, by decide, by decide⟩
        · exact ⟨8, rfl, by decide, by decide⟩
      obtain ⟨k, rfl, k1, k8⟩ := hk
      have hx1 : H1 l = some (.lst (xs.map V.str)) := x1.1 _ _ lp (by rw [upd_ne lr]; exact hx)
      refine ⟨_, rfl, by omega, by omega, fun D hD => ?_⟩
      have lD : l ≠ D := ne_of_none hx1 hD
      have pD : p ≠ D := by
        obtain ⟨o, ho⟩ := x1.2.some
        exact ne_of_none ho hD
      refine lc_range (lo := 0) (n := k) (fun i H2 => ∃ cs : List Nat, cs.length = i ∧ (∀ c ∈ cs, 97 ≤ c ∧ c ≤ 122) ∧ Xp p H H2 ∧ H2 l = some (.lst (xs.map V.str)) ∧ H2 D = some (.lst ((cs.map sgn).map V.str))) ⟨[], rfl, fun c z => absurd z List.not_mem_nil, (xr.trans x1).snew hD, by rw [upd_ne lD]; exact hx1, upd_same⟩ (fun i H2 hi hP => ?_) (fun H2 hP => ?_)
      · obtain ⟨cs, hc, hcs, y, yl, yD⟩ := hP
        refine ⟨rfl, ?_⟩
        unfold tYes
        dsimp only
        try rw [if_pos rfl]
        refine ⟨_, rfl, _, rfl, p, _, rfl, y.2, by decide, by decide, fun d H3 d0 d1 y3 => ?_⟩
        refine ⟨ABC, d, _, rfl, rfl, (by show 26 ≤ sizeLine; decide), abc_at d0 d1, (cs.map sgn).map V.str, y3.1 _ _ pD.symm yD, by rw [List.length_map, List.length_map]; exact sz_lt (by omega), cs ++ [97 + d.toNat], ?_, ?_, ?_, ?_, ?_⟩
        · rw [List.length_append, hc]
          rfl
        · intro c hcc
          rcases List.mem_append.mp hcc with w | w
          · exact hcs c w
          · cases List.mem_singleton.mp w
            omega
        · exact (y.trans y3).own ((xr.trans x1).back hD) pD.symm
        · rw [upd_ne lD]
          exact y3.1 _ _ lp yl
        · rw [upd_same, List.map_append, List.map_append]
          rfl
      · obtain ⟨cs, hc, hcs, y, yl, yD⟩ := hP
        have hsum : ((cs.map sgn).map (·.length)).sum + (cs.map sgn).length * (Str.ofString "").length ≤ 16777216 := by
          rw [sum_sgn, List.length_map, show (Str.ofString "").length = 0 from rfl]
          omega
        refine ⟨_, D, cs.map sgn, rfl, rfl, .inl (SqL.of yD), hsum, ?_⟩
        rw [TL.join_eq]
        have hsg := isL_join hcs (by omega) (by omega)
        generalize Str.join (Str.ofString "") (cs.map sgn) = sg at hsg
        clear yD hsum hD lD pD hcs hc cs
        refine ⟨fun σ' H3 => ∃ (sg : Str) (b c d : Option V), σ' = [some (.ref p), some (.int (n : Int)), some (.str ABC), some (.ref l), some (.str sg), b, c, d] ∧ isL sg = true ∧ Xp p H H3 ∧ H3 l = some (.lst (xs.map V.str)), ?_, ?_⟩
        · have last : xs ≠ [] → ∃ s, s ∈ xs ∧ atI (xs.map V.str) (-1) = some (.str s) := atI_end
          refine ⟨_, rfl, Nat.zero_le _, fun e0 he0 => ⟨.list (xs.map PyData.str), .list [], .lst (SqL.of (by rw [upd_ne (ne_of_none yl he0)]; exact yl)) (dpa_str xs), .lst (SqL.of upd_same) .nil, shaped_strs (fun x hx => strOk_of (hL x hx)), rfl, _, rfl, tt_if (fun hb => ?_) (fun _ => ?_)⟩⟩
          · have hne : xs ≠ [] := fun e => by
              subst e
              revert hb
              decide
            have y1 := y.snew (o := .lst []) he0
            have yl1 : (upd H2 e0 (.lst [])) l = some (.lst (xs.map V.str)) := by rw [upd_ne (ne_of_none yl he0)]; exact yl
            refine ⟨_, rfl, p, _, rfl, y1.2, by decide, by decide, fun d4 H4 d0 d1 x4 => ⟨rfl, _, rfl, tt_if (fun _ => ?_) (fun _ => ?_)⟩⟩
            · have yl4 := x4.1 _ _ lp yl1
              obtain ⟨s, hs, at_⟩ := last hne
              refine ⟨_, rfl, 1, rfl, l, _, _, _, rfl, rfl, SqL.of yl4, at_, s, rfl, sz_of (Nat.le_trans (isL_len (hL s hs)).2 (by decide)), _, _, rfl, rfl, _, rfl, tt_if (fun h8 => ?_) (fun _ => ?_)⟩
              · have h8 := of_decide_eq_true h8
                refine ⟨_, rfl, 1, rfl, l, _, _, _, rfl, rfl, SqL.of yl4, at_, _, rfl, _, rfl, p, _, rfl, x4.2, by decide, by decide, fun d5 H5 e0 e1 x5 => ⟨ABC, d5, _, rfl, rfl, (by show 26 ≤ sizeLine; decide), abc_at e0 e1, s, _, rfl, rfl, ?_, ?_⟩⟩
                · have := (isL_len (hL s hs)).2
                  rw [show (Str.length ⟨#[97 + d5.toNat]⟩ : Nat) = 1 from rfl]
                  exact sz_of (by omega)
                · exact ⟨s ++ sgn (97 + d5.toNat), _, _, _, rfl, isL_app (hL s hs) (by omega) (by omega) (by omega), (y1.trans x4).trans x5, x5.1 _ _ lp yl4⟩
              · exact ⟨sg, _, _, _, rfl, hsg, y1.trans x4, yl4⟩
            · exact ⟨sg, _, _, _, rfl, hsg, y1.trans x4, x4.1 _ _ lp yl1⟩
          · exact ⟨sg, _, _, _, rfl, hsg, y.snew he0, by rw [upd_ne (ne_of_none yl he0)]; exact yl⟩
        · rintro σ' H3 ⟨sg, b, c, d, rfl, hsg, x, hx⟩
          refine ⟨_, rfl, Nat.succ_le_of_lt (by decide), fun q1 hq1 => ?_⟩
          have x1 := x.snew (o := .lst [.str sg]) hq1
          have hx1 : (upd H3 q1 (.lst [.str sg])) l = some (.lst (xs.map V.str)) := by rw [upd_ne (ne_of_none hx hq1)]; exact hx
          refine ⟨_, rfl, _, _, rfl, rfl, _, rfl, by omega, by omega, fun D hD => ?_⟩
          have hn1 : ((n : Int) + 1).toNat = n + 1 := by omega
          have hq1D : q1 ≠ D := ne_of_none upd_same hD
          refine lc_range (lo := 0) (n := ((n : Int) + 1).toNat) (fun i H4 => Xp p H H4 ∧ H4 l = some (.lst (xs.map V.str)) ∧ H4 q1 = some (.lst [.str sg]) ∧ H4 D = some (.lst ((firsts i).map V.str))) ⟨x1.snew hD, by rw [upd_ne (ne_of_none hx1 hD)]; exact hx1, by rw [upd_ne hq1D]; exact upd_same, upd_same⟩ (fun i H4 hi hP => ?_) (fun H4 hP => ?_)
          · obtain ⟨y, yl, yq, yD⟩ := hP
            refine ⟨rfl, ?_⟩
            unfold tYes
            dsimp only
            try rw [if_pos rfl]
            refine ⟨_, rfl, _, rfl, ABC, (0 : Int) + (i : Int), _, rfl, rfl, (by show 26 ≤ sizeLine; decide), abc_at (by omega) (by omega), (firsts i).map V.str, yD, by rw [List.length_map, firsts_len]; exact sz_lt (by omega), y.own (x1.back hD) (fun e => ?_), ?_, ?_, ?_⟩
            · obtain ⟨o, ho⟩ := x1.2.some
              rw [e, ho] at hD
              cases hD
            · rw [upd_ne (ne_of_none hx1 hD)]; exact yl
            · rw [upd_ne hq1D]; exact yq
            · rw [upd_same, firsts_succ, List.map_append]
              have e : ((0 : Int) + (i : Int)).toNat = i := by omega
              rw [e]
              rfl
          · rw [hn1] at hP
            obtain ⟨y, yl, yq, yD⟩ := hP
            refine ⟨q1, D, _, _, rfl, rfl, yq, yD, by rw [List.length_map, firsts_len]; exact sz_of (by show 1 + (n + 1) ≤ 100000; omega), fun r hr => ⟨r, rfl, ⟨_, SqL.of upd_same⟩, ?_⟩⟩
            have lr : l ≠ r := ne_of_none yl hr
            refine for_list (xs := (sg :: firsts (n + 1)).map V.str) (fun i σ H5 => ∃ e g c, σ = [some (.ref p), some (.int (n : Int)), some (.str ABC), some (.ref l), some (.str sg), c, e, g] ∧ Xp p H H5 ∧ H5 l = some (.lst (xs.map V.str)) ∧ H5 r = some (.lst ((sg :: firsts (n + 1)).map V.str)) ∧ ∀ j s, j < i → (sg :: firsts (n + 1))[j]? = some s → s ∈ xs)
              ⟨_, _, _, rfl, y.snew hr, by rw [upd_ne lr]; exact yl, upd_same, fun j s hj _ => absurd hj (Nat.not_lt_zero j)⟩ (fun i σ H5 _ hP => ?_) (fun i v σ H5 hv hP => ?_) (fun σ H5 hP => ?_)
            · obtain ⟨_, _, _, _, _, _, z, _⟩ := hP
              exact SqL.of z
            · obtain ⟨e, g, c, rfl, w, wl, wr, hall⟩ := hP
              obtain ⟨s, hs, rfl⟩ : ∃ s, (sg :: firsts (n + 1))[i]? = some s ∧ v = .str s := by
                rw [List.getElem?_map] at hv
                cases q : (sg :: firsts (n + 1))[i]? with
                | none =>
                  rw [q] at hv
                  cases hv
                | some s =>
                  rw [q] at hv
                  exact ⟨s, rfl, (Option.some.inj hv).symm⟩
              refine ⟨_, rfl, _, rfl, l, _, rfl, .inl (SqL.of wl), rfl, flat_str xs, _, rfl, tt_if (fun hb => ?_) (fun hb => ?_)⟩
              · have ns : s ∉ xs := fun z => by
                  rw [if_pos rfl, inV_str, decide_eq_true z] at hb
                  cases hb
                have hsL : isL s = true := by
                  rcases List.mem_cons.mp (List.mem_of_getElem? hs) with z | z
                  · rw [z]; exact hsg
                  · exact firsts_isL (by omega) z
                refine ⟨_, rfl, .inl ⟨rfl, _, SqL.of wl⟩, _, rfl, l, _, _, rfl, rfl, wl, by rw [List.length_map]; exact sz_lt (by omega), ?_⟩
                refine ⟨xs ++ [s], _, _, _, _, rfl, w.own hl lp, ?_, ?_, ?_, ?_⟩
                · rw [upd_same, List.map_append]
                  rfl
                · intro u hu
                  rcases List.mem_append.mp hu with z | z
                  · exact hL u z
                  · cases List.mem_singleton.mp z
                    exact hsL
                · exact List.nodup_append.mpr ⟨hN, List.nodup_cons.mpr ⟨List.not_mem_nil, List.nodup_nil⟩, fun u hu v hv e => ns (by cases List.mem_singleton.mp hv; rw [← e]; exact hu)⟩
                · rw [List.length_append]
                  show xs.length + 1 + (m - 1) = n
                  omega
              · refine ⟨_, _, _, rfl, w, wl, wr, fun j t hj ht => ?_⟩
                rcases Nat.lt_succ_iff_lt_or_eq.mp hj with z | z
                · exact hall j t z ht
                · subst z
                  rw [hs] at ht
                  cases ht
                  rw [if_pos rfl, inV_str] at hb
                  by_cases z : s ∈ xs
                  · exact z
                  · rw [decide_eq_false z] at hb
                    cases hb
            · obtain ⟨e, g, c, rfl, w, wl, wr, hall⟩ := hP
              have sub : ∀ s ∈ firsts (n + 1), s ∈ xs := fun s hs => by
                obtain ⟨j, hj⟩ := List.getElem?_of_mem (List.mem_cons_of_mem sg hs)
                refine hall j s ?_ hj
                have := (List.getElem?_eq_some_iff.mp hj).1
                rw [List.length_map]
                exact this
              have z := nodup_le (firsts_nodup (n + 1)) sub
              rw [firsts_len] at z
              omega
    · have z := of_decide_eq_false z
      rw [List.length_map] at z
      have e : m = 0 := by omega
      exact ⟨_, rfl, q l xs H' hl lp x hx (by omega) hL hN⟩

def spRow (K : PySem.W.Frag) : Sp := fun vs H Q _ => ∃ (p l : Addr) (xs : List Str), vs = [.ref p, .ref l] ∧ Po p H ∧ H l = some (.lst (xs.map V.str)) ∧ l ≠ p ∧ 0 < xs.length ∧ xs.length ≤ 8 ∧
  ∀ v ys H', Xp p H H' → Wd K H' v ys → ys.length ≤ 3 → (∀ y ∈ ys, y ∈ xs) → Q v H'
abbrev s_row : Stmt := topS 31
theorem sc_row : FnScope ["_law_pot_here", "_law_signs_here", "_law_turn"] ["_law_pot_here", "_law_signs_here"] (defScope s_row) := ⟨rfl, rfl, rfl, by decide +kernel, rfl, by decide +kernel, by decide +kernel⟩
theorem ok_row {f : Addr} {fd : FuncData} (F : FunD K "_law_row" "_law_row" (defArgs s_row) (defBody s_row) (defScope s_row) [] [] f fd) (T : Tx P w K mg base) (d_law_draw : Cal P w K mg base CX0 1 "_law_draw" ["_law_pot_here", "_law_size"] spDraw) (d_law_pick : Cal P w K mg base CX0 2 "_law_pick" ["_law_pot_here", "_law_some"] (spPick K)) : FnG P w K mg base CX0 3 f fd ["_law_pot_here", "_law_signs_here"] (spRow K) := by
  refine fnG F sc_row (fun vs H Q E h => ?_) (fun cdv A outer s H vs Q E gd hr h => ?_)
  · obtain ⟨p, l, xs, rfl, _⟩ := h
    rfl
  · skip
    refine ⟨_, PSs.nox ((pss_one (ps_ret (pe_callTy call_tuple_of (by rfl) T.m_tuple (by decide +kernel) (pa_cons (pe_lc (own := [("_law_turn", 2)]) (g := gName 2) (tt := tYes) rfl sc_row.nd (pi_range1 (by rfl) T.m_range (pa_cons (pe_cal d_law_draw gd hr (pa_cons (pv 0) (pa_cons pe_int pa_nil))) pa_nil)) (blkOk_by (own := [("_law_turn", 2)]) (N := ["_law_pot_here", "_law_signs_here", "_law_turn"]) (sc := defScope s_row) (by decide +kernel)) (fun _ _ _ _ _ => pg_name (i := 2) sc_row.nd rfl (Or.inl rfl)) (fun _ _ _ _ _ => pts_nil) (fun _ _ _ _ _ => (pe_cal d_law_pick gd hr (pa_cons (pv 0) (pa_cons (pv 1) pa_nil))))) pa_nil))))), ?_⟩
    obtain ⟨p, l, xs, rfl, hp, hl, lp, hx0, hx8, q⟩ := h
    refine ⟨_, rfl, p, _, rfl, hp, by decide, by decide, fun d H1 d0 d1 x1 => ⟨_, rfl, by omega, by omega, fun D hD => ?_⟩⟩
    have hl1 := x1.1 _ _ lp hl
    have lD : l ≠ D := ne_of_none hl1 hD
    have pD : p ≠ D := by
      obtain ⟨o, ho⟩ := x1.2.some
      exact ne_of_none ho hD
    refine lc_range (lo := 0) (n := d.toNat) (fun i H2 => Xp p H1 H2 ∧ ∃ ys : List Str, H2 D = some (.lst (ys.map V.str)) ∧ ys.length = i ∧ ∀ y ∈ ys, y ∈ xs) ⟨(Xp.refl x1.2).snew hD, [], upd_same, rfl, fun y hy => absurd hy List.not_mem_nil⟩ (fun i H2 hi hP => ?_) (fun H2 hP => ?_)
    · obtain ⟨y, ys, hy, hyl, hys⟩ := hP
      refine ⟨rfl, ?_⟩
      unfold tYes
      dsimp only
      try rw [if_pos rfl]
      refine ⟨_, rfl, _, rfl, p, l, _, rfl, y.2, y.1 _ _ lp hl1, lp, by rw [List.length_map]; exact hx0, by rw [List.length_map]; omega, fun v H3 hv x3 => ?_⟩
      obtain ⟨u, hu, rfl⟩ := List.mem_map.mp hv
      refine ⟨ys.map V.str, x3.1 _ _ pD.symm hy, by rw [List.length_map]; exact sz_lt (by omega), (y.trans x3).own hD pD.symm, ys ++ [u], ?_, ?_, ?_⟩
      · rw [upd_same, List.map_append]
        rfl
      · rw [List.length_append, hyl]
        rfl
      · intro z hz
        rcases List.mem_append.mp hz with q | q
        · exact hys z q
        · cases List.mem_singleton.mp q
          exact hu
    · obtain ⟨y, ys, hy, hyl, hys⟩ := hP
      refine ⟨D, ys.map V.str, rfl, .inl ⟨SqL.of hy, fun t ht => ?_⟩⟩
      exact q (.ref t) ys _ ((x1.trans y).snew ht) ⟨t, rfl, upd_same⟩ (by omega) hys

end
end K11
namespace K11
open PySem PySem.Spec PyProof.Rows L2 Lw Evl LamX
open LwX (XC XF)
theorem call_isiTK {X : Cx} {K : PySem.W.Frag} (h : X.K = K := by rfl) : CallR X (.builtin "isinstance") (rIsiT K) := h ▸ call_isiT
section
variable {P : Program} {w : World} {K : PySem.W.Frag} {mg : Str → Option Value} {base : Heap}
def spLetter (K : PySem.W.Frag) : Sp := fun vs H Q _ => ∃ (v : V) (b : Bool), vs = [v] ∧ LB K H v b ∧ ∀ H', Ex H H' → Q (.bl b) H'
abbrev s_is_letter : Stmt := topS 18
theorem sc_is_letter : FnScope ["value", "sign"] ["value"] (defScope s_is_letter) := ⟨rfl, rfl, rfl, by decide +kernel, rfl, by decide +kernel, by decide +kernel⟩
theorem ok_is_letter {f : Addr} {fd : FuncData} (F : FunD K "is_letter" "is_letter" (defArgs s_is_letter) (defBody s_is_letter) (defScope s_is_letter) [] [] f fd) (T : Tx P w K mg base)  : FnOk P w K mg base CX0 1 f fd ["value"] (spLetter K) := by
  refine fnO F sc_is_letter (fun vs H Q E h => ?_) (fun cdv A outer s H vs Q E hr h => ?_)
  · obtain ⟨v, b, rfl, _⟩ := h
    rfl
  · skip
    refine ⟨_, PSs.nox ((pss_cons (ps_if (PW.pt (pw_or (pt_not (pt_val (pe_callB (call_isiK1 (K := K)) (by rfl) T.m_isinstance (by decide +kernel) (pa_cons (pv 0) (pa_cons (pe_bltn (v := .ty "str") (by rfl) T.m_str (by decide +kernel) rfl) pa_nil))))) (pw_or1 (pt_not (pt_chain op_le op_le pe_int (pe_callB call_len_str (by rfl) T.m_len (by decide +kernel) (pa_cons (pv 0) pa_nil)) (pe_glob (v := .int 8) (by rfl) T.g_MOST_SIGNS.choose_spec ⟨_, rfl⟩)))))) (pss_one (ps_ret pe_bl)) pss_nil)
      (pss_one (ps_ret (pe_callB (cr_allK (K := K)) (by rfl) T.m_all (by decide +kernel) (pa_cons (pe_lc (own := [("sign", 1)]) (g := gName 1) (tt := tYes) rfl sc_is_letter.nd (pi_str (pv 0)) (blkOk_by (own := [("sign", 1)]) (N := ["value", "sign"]) (sc := defScope s_is_letter) (by decide +kernel)) (fun _ _ _ _ _ => pg_name (i := 1) sc_is_letter.nd rfl (Or.inl rfl)) (fun _ _ _ _ _ => pts_nil) (fun _ _ _ _ _ => (pe_chain op_le_str op_le_str pe_str (pv 1) pe_str))) pa_nil)))))), ?_⟩
    obtain ⟨v, b, rfl, hb, q⟩ := h
    cases hb with
    | str s hs =>
      have e1 : isL s = ((decide ((1 : Int) ≤ (s.length : Int)) && decide ((s.length : Int) ≤ 8)) && s.cps.toList.all fun c => decide (97 ≤ c) && decide (c ≤ 122)) := by
        rw [isL_app0]
        congr 1
        congr 1
        · exact decide_eq_decide.mpr (by omega)
        · exact decide_eq_decide.mpr (by omega)
      refine q_when (b := !true || !(decide ((1 : Int) ≤ (s.length : Int)) && decide ((s.length : Int) ≤ 8))) (et_or (et_not (et_B (ev_isi (ev_var rfl) (fun _ _ => .base (.str s)) rfl))) (fun _ => et_not (et_chainI ev_c (ev_lenS (ev_var rfl) hs) ev_c))) (fun z H1 e => ?_) (fun z H1 e => ?_)
      · refine s_ret ev_c fun H2 e2 => ?_
        have : isL s = false := by
          rw [e1]
          cases q : (decide ((1 : Int) ≤ (s.length : Int)) && decide ((s.length : Int) ≤ 8)) with
          | false => rfl
          | true =>
            rw [q] at z
            cases z
        rw [← this]
        exact q H2 (e.trans e2)
      · have hc : (decide ((1 : Int) ≤ (s.length : Int)) && decide ((s.length : Int) ≤ 8)) = true := by
          cases q : (decide ((1 : Int) ≤ (s.length : Int)) && decide ((s.length : Int) ≤ 8)) with
          | true => rfl
          | false =>
            rw [q] at z
            cases z
        have e2 : isL s = (s.cps.toList.map fun c => decide (97 ≤ c) && decide (c ≤ 122)).all id := by
          rw [e1, hc, List.all_map]
          rfl
        refine s_ret (ev_all (bs := s.cps.toList.map fun c => decide (97 ≤ c) && decide (c ≤ 122)) (el_lcS (fun i => .bl ((fun c => decide (97 ≤ c) && decide (c ≤ 122)) (s.cps.toList.getD i 0))) (ev_var rfl) (by have := len_cps s; have h8 := of_decide_eq_true (Bool.and_eq_true_iff.mp hc).2; simp only [Array.length_toList] at this; omega) (fun _ => rfl) (fun i c H2 e2 hc2 => ?_)) ?_) fun H2 e3 => ?_
        · have z := ev_chainS (σ := (wipe (L2.start [Str.ofString "value", Str.ofString "sign"] [V.str s]) (List.map (fun x => x.snd) [(Str.ofString "sign", 1)])).set 1 (some (.str ⟨#[c]⟩))) (H := H2) (ta := tC (.str "a")) (tb := tVar 1) (tc := tC (.str "z")) (a := sgn 97) (b := sgn c) (c := sgn 122) ev_c (ev_var rfl) ev_c
          rw [leS_sgn, leS_sgn] at z
          have hg : s.cps.toList.getD i 0 = c := by
            rw [List.getD_eq_getElem?_getD, Array.getElem?_toList, hc2]
            rfl
          show Ev _ _ _ (V.bl (decide (97 ≤ s.cps.toList.getD i 0) && decide (s.cps.toList.getD i 0 ≤ 122)))
          rw [hg]
          exact z
        · have z := range_get s.cps.toList 0 (fun c => V.bl (decide (97 ≤ c) && decide (c ≤ 122)))
          rw [Array.length_toList] at z
          rw [List.map_map]
          exact z
        · rw [← e2]
          exact q H2 (e.trans e3)
    | oth ht hn =>
      refine q_when (b := !false || false) (et_or (et_not (et_B (ev_isi (ev_var rfl) (fun _ e => tyx_mono e ht) hn))) (fun z => by cases z)) (fun _ H1 e => ?_) (fun z => by cases z)
      exact s_ret ev_c fun H2 e2 => q H2 (e.trans e2)

def spWord (K : PySem.W.Frag) : Sp := fun vs H Q _ => ∃ (v : V) (b : Bool), vs = [v] ∧ WB K H v b ∧ ∀ H', Ex H H' → Q (.bl b) H'
theorem ev_letter {σ : L2.St} {H : Hp} {te : TE} {v : V} {b : Bool} (h : Ev te σ H v) (hb : LB K H v b) : Ev (tCall (spLetter K) [] E0 (tCons te tNil)) σ H (.bl b) :=
  ev_call (ea_cons h ea_nil) fun H1 e Q q E => ⟨v, b, rfl, lb_mono e hb, q⟩
abbrev s_is_word : Stmt := topS 19
theorem sc_is_word : FnScope ["value", "part"] ["value"] (defScope s_is_word) := ⟨rfl, rfl, rfl, by decide +kernel, rfl, by decide +kernel, by decide +kernel⟩
theorem ok_is_word {f : Addr} {fd : FuncData} (F : FunD K "is_word" "is_word" (defArgs s_is_word) (defBody s_is_word) (defScope s_is_word) [] [] f fd) (T : Tx P w K mg base) (dis_letter : CalO P w K mg base CX0 1 "is_letter" ["value"] (spLetter K)) : FnOk P w K mg base CX0 2 f fd ["value"] (spWord K) := by
  refine fnO F sc_is_word (fun vs H Q E h => ?_) (fun cdv A outer s H vs Q E hr h => ?_)
  · obtain ⟨v, b, rfl, _⟩ := h
    rfl
  · skip
    refine ⟨_, PSs.nox ((pss_cons (ps_if (PW.pt (pw_or (pt_not (pt_val (pe_callB (call_isiK1 (K := K)) (by rfl) T.m_isinstance (by decide +kernel) (pa_cons (pv 0) (pa_cons (pe_bltn (v := .ty "tuple") (by rfl) T.m_tuple (by decide +kernel) rfl) pa_nil))))) (pw_or1 (pt_cmpR op_gt (pe_callB (call_lenK (K := K)) (by rfl) T.m_len (by decide +kernel) (pa_cons (pv 0) pa_nil)) (pe_glob (v := .int 3) (by rfl) T.g_MOST_IN_WORD.choose_spec ⟨_, rfl⟩) (nomark _))))) (pss_one (ps_ret pe_bl)) pss_nil)
      (pss_one (ps_ret (pe_callB (cr_allK (K := K)) (by rfl) T.m_all (by decide +kernel) (pa_cons (pe_lc (own := [("part", 1)]) (g := gName 1) (tt := tYes) rfl sc_is_word.nd (pi_tupK (K := K) (pv 0)) (blkOk_by (own := [("part", 1)]) (N := ["value", "part"]) (sc := defScope s_is_word) (by decide +kernel)) (fun _ _ _ _ _ => pg_name (i := 1) sc_is_word.nd rfl (Or.inl rfl)) (fun _ _ _ _ _ => pts_nil) (fun _ _ _ _ _ => (pe_calO dis_letter hr pass0 (pa_cons (pv 1) pa_nil)))) pa_nil)))))), ?_⟩
    obtain ⟨v, b, rfl, hb, q⟩ := h
    cases hb with
    | @tup a vs bs h ht hl hb =>
      refine q_when (b := !true || decide ((vs.length : Int) > 3)) (et_or (et_not (et_B (ev_isi (ev_var rfl) (fun _ e => tyx_mono e ht) rfl))) (fun _ => et_test (ev_op (ev_lenT (ev_var rfl) h) ev_c rv_I0))) (fun z H1 e => ?_) (fun z H1 e => ?_)
      · refine s_ret ev_c fun H2 e2 => ?_
        have h3 : ¬ vs.length ≤ 3 := by
          have z2 : decide ((vs.length : Int) > 3) = true := z
          have := of_decide_eq_true z2
          omega
        have z := q H2 (e.trans e2)
        rw [decide_eq_false h3] at z
        exact z
      · have h3 : vs.length ≤ 3 := by
          have z2 : decide ((vs.length : Int) > 3) = false := z
          have := of_decide_eq_false z2
          omega
        refine s_ret (ev_all (bs := bs) (el_lcT (fun i => .bl (bs.getD i false)) (ev_var rfl) (ex_t e h) hl (fun _ => rfl) (fun i x H2 e2 hx => ?_)) ?_) fun H2 e3 => ?_
        · obtain ⟨y, hy, r⟩ := paired_get hb hx
          have hg : bs.getD i false = y := by
            rw [List.getD_eq_getElem?_getD, hy]
            rfl
          show Ev _ _ _ (V.bl (bs.getD i false))
          rw [hg]
          exact ev_letter (ev_var rfl) (lb_mono (e.trans e2) r)
        · rw [Paired.length hb]
          exact range_get bs false V.bl
        · have z := q H2 (e.trans e3)
          rw [decide_eq_true h3] at z
          exact z
    | oth ht hn =>
      refine q_when (b := !false || false) (et_or (et_not (et_B (ev_isi (ev_var rfl) (fun _ e => tyx_mono e ht) hn))) (fun z => by cases z)) (fun _ H1 e => ?_) (fun z => by cases z)
      exact s_ret ev_c fun H2 e2 => q H2 (e.trans e2)

theorem wbv_mono {H H1 : Hp} {v : V} {b : Bool} (e : Ex H H1) (h : WB K H v b) : WB K H1 v b := by
  cases h with
  | tup h ht hl hb => exact .tup (ex_t e h) (tyx_mono e ht) hl (paired_mono (fun _ _ r => lb_mono e r) hb)
  | oth ht hn => exact .oth (tyx_mono e ht) hn
theorem ev_word {σ : L2.St} {H : Hp} {te : TE} {v : V} {b : Bool} (h : Ev te σ H v) (hb : WB K H v b) : Ev (tCall (spWord K) [] E0 (tCons te tNil)) σ H (.bl b) :=
  ev_call (ea_cons h ea_nil) fun H1 e Q q E => ⟨v, b, rfl, wbv_mono e hb, q⟩
/-- is_list of any value -/
def spIsList (K : PySem.W.Frag) : Sp := fun vs H Q _ => ∃ (v : V) (t : String) (b : Bool), vs = [v] ∧ TyX K H v (.type t) ∧ PySem.W.kitAny K (.type t) [.type "list", .type "tuple"] = some b ∧ ∀ H', Ex H H' → Q (.bl b) H'
abbrev s_is_list : Stmt := topS 1
theorem sc_is_list : FnScope ["value"] ["value"] (defScope s_is_list) := ⟨rfl, rfl, rfl, by decide +kernel, rfl, by decide +kernel, by decide +kernel⟩
theorem ok_is_list {f : Addr} {fd : FuncData} (F : FunD K "is_list" "is_list" (defArgs s_is_list) (defBody s_is_list) (defScope s_is_list) [] [] f fd) (T : Tx P w K mg base)  : FnOk P w K mg base CX0 1 f fd ["value"] (spIsList K) := by
  refine fnO F sc_is_list (fun vs H Q E h => ?_) (fun cdv A outer s H vs Q E hr h => ?_)
  · obtain ⟨v, t, b, rfl, _⟩ := h
    rfl
  · skip
    refine ⟨_, PSs.nox ((pss_one (ps_ret (pe_callB (call_isiTK (K := K)) (by rfl) T.m_isinstance (by decide +kernel) (pa_cons (pv 0) (pa_cons (pe_tup (pa_cons (pe_bltn (v := .ty "list") (by rfl) T.m_list (by decide +kernel) rfl) (pa_cons (pe_bltn (v := .ty "tuple") (by rfl) T.m_tuple (by decide +kernel) rfl) pa_nil))) pa_nil)))))), ?_⟩
    obtain ⟨v, t, b, rfl, ht, hc, q⟩ := h
    refine ⟨_, rfl, (by show 2 ≤ sizeLine; decide), fun p hp => ?_⟩
    exact ⟨v, p, [.ty "list", .ty "tuple"], .type t, [.type "list", .type "tuple"], b, rfl, upd_same, .cons (.ty _) (.cons (.ty _) .nil), tyx_mono (Ex.new hp) ht, hc, q _ (Ex.new hp)⟩

theorem ev_isList {σ : L2.St} {H : Hp} {te : TE} {v : V} {t : String} {b : Bool} (h : Ev te σ H v) (ht : TyX K H v (.type t)) (hc : PySem.W.kitAny K (.type t) [.type "list", .type "tuple"] = some b) : Ev (tCall (spIsList K) [] E0 (tCons te tNil)) σ H (.bl b) :=
  ev_call (ea_cons h ea_nil) fun H1 e Q q E => ⟨v, t, b, rfl, tyx_mono e ht, hc, q⟩
def spNeed (K : PySem.W.Frag) (CW : Addr) : Sp := fun vs H Q E => ∃ (v : V) (b : Bool), vs = [v] ∧ WB K H v b ∧ (b = true → ∀ H', Ex H H' → Q .non H') ∧ (b = false → Rz CW "value" v H E)
theorem rz_ex {C : Addr} {f : Str} {v : V} {H H1 : Hp} {E : XK} (e : Ex H H1) (h : Rz C f v H E) : Rz C f v H1 E := fun d H' e' hd => h d H' (e.trans e') hd
variable {CW CT CS : Addr}
abbrev s_need_word : Stmt := topS 20
theorem sc_need_word : FnScope ["value"] ["value"] (defScope s_need_word) := ⟨rfl, rfl, rfl, by decide +kernel, rfl, by decide +kernel, by decide +kernel⟩
theorem ok_need_word {f : Addr} {fd : FuncData} (F : FunD K "need_word" "need_word" (defArgs s_need_word) (defBody s_need_word) (defScope s_need_word) [] [] f fd) (T : Tx P w K mg base) (xInvalidWord : XRz P w K mg base 1 "InvalidWord" CW "value") (dis_word : CalO P w K mg base CX0 2 "is_word" ["value"] (spWord K)) : FnOk P w K mg base (L2.CX P w) 3 f fd ["value"] (spNeed K CW) := by
  refine fnO F sc_need_word (fun vs H Q E h => ?_) (fun cdv A outer s H vs Q E hr h => ?_)
  · obtain ⟨v, b, rfl, _⟩ := h
    rfl
  · skip
    refine ⟨_, (pss_one (ps_if (pt_not (pt_val (pe_calO dis_word hr pass0 (pa_cons (pv 0) pa_nil)))) (pss_one (ps_rz xInvalidWord hr rfl (takes_of rfl rfl rfl rfl) (pv 0))) pss_nil)), ?_⟩
    obtain ⟨v, b, rfl, hb, q, x⟩ := h
    exact s_when (b := !b) (et_not (et_B (ev_word (ev_var rfl) hb))) (fun z H1 e => ⟨v, rfl, rz_ex e (x (by cases b <;> simp_all))⟩) (fun z H1 e => q (by cases b <;> simp_all) H1 e)

def spBegin (K : PySem.W.Frag) (CW : Addr) : Sp := fun vs H Q E => ∃ (v : V) (b : Bool), vs = [v] ∧ WB K H v b ∧ (b = true → ∃ ys, Wd K H v ys ∧ ys.length ≤ 3 ∧ ∀ l H', H l = none → Ex H H' → LW K H' l (begs ys) → Q (.ref l) H') ∧ (b = false → Rz CW "value" v H E)
abbrev s_beginnings : Stmt := topS 21
theorem sc_beginnings : FnScope ["word", "many"] ["word"] (defScope s_beginnings) := ⟨rfl, rfl, rfl, by decide +kernel, rfl, by decide +kernel, by decide +kernel⟩
theorem ok_beginnings {f : Addr} {fd : FuncData} (F : FunD K "beginnings" "beginnings" (defArgs s_beginnings) (defBody s_beginnings) (defScope s_beginnings) [] [] f fd) (T : Tx P w K mg base) (dneed_word : CalO P w K mg base (L2.CX P w) 3 "need_word" ["value"] (spNeed K CW)) : FnOk P w K mg base (L2.CX P w) 4 f fd ["word"] (spBegin K CW) := by
  refine fnO F sc_beginnings (fun vs H Q E h => ?_) (fun cdv A outer s H vs Q E hr h => ?_)
  · obtain ⟨v, b, rfl, _⟩ := h
    rfl
  · skip
    refine ⟨_, (pss_cons (ps_expr (pe_calO dneed_word hr (passes_call (takes_of rfl rfl rfl rfl) fun _ _ _ _ h => h) (pa_cons (pv 0) pa_nil)))
      (pss_one (ps_ret (pe_lc (own := [("many", 1)]) (g := gName 1) (tt := tYes) rfl sc_beginnings.nd (pi_range1 (by rfl) T.m_range (pa_cons (pe_op op_add (pe_callB (call_lenK (K := K)) (by rfl) T.m_len (by decide +kernel) (pa_cons (pv 0) pa_nil)) pe_int) pa_nil)) (blkOk_by (own := [("many", 1)]) (N := ["word", "many"]) (sc := defScope s_beginnings) (by decide +kernel)) (fun _ _ _ _ _ => pg_name (i := 1) sc_beginnings.nd rfl (Or.inl rfl)) (fun _ _ _ _ _ => pts_nil) (fun _ _ _ _ _ => (pe_slice (sl_tupAK (K := K)) (pv 0) po_none (po_some (pv 1)))))))), ?_⟩
    obtain ⟨v, b, rfl, hb, q, x⟩ := h
    refine ⟨_, rfl, v, b, rfl, hb, fun z H1 e1 => ?_, x⟩
    obtain ⟨ys, hv, h3, q⟩ := q z
    refine s_retLW (ws := begs ys) (elw_R1 (n := ys.length + 1) (fun i => ys.take i) (ea_cons (ev_op (ev_lenW (ev_var rfl) (wd_mono e1 hv)) ev_c rv_I0) ea_nil) (by omega) (fun _ => rfl) (fun i H2 e2 hi => ew_to (ew_of (ev_var rfl) (wd_mono (e1.trans e2) hv)) eo_none (eo_some (ev_var rfl)) (by omega))) fun l H2 hl e2 hL => q l H2 (fresh_back e1 hl) (e1.trans e2) hL

def spJoined (K : PySem.W.Frag) (CW : Addr) : Sp := fun vs H Q E => ∃ (v u : V) (b : Bool), vs = [v, u] ∧ WB K H v b ∧ (b = false → Rz CW "value" v H E) ∧ (b = true → ∃ c, WB K H u c ∧ (c = false → Rz CW "value" u H E) ∧
  (c = true → ∃ xs ys, Wd K H v xs ∧ Wd K H u ys ∧ xs.length ≤ 3 ∧ ys.length ≤ 3 ∧ ∀ r H', Ex H H' → Wd K H' r (xs ++ ys) → ∃ d, WB K H' r d ∧ (d = false → Rz CW "value" r H' E) ∧ (d = true → ∀ H2, Ex H' H2 → Q r H2)))
abbrev s_joined : Stmt := topS 23
theorem sc_joined : FnScope ["word", "next_word", "both"] ["word", "next_word"] (defScope s_joined) := ⟨rfl, rfl, rfl, by decide +kernel, rfl, by decide +kernel, by decide +kernel⟩
theorem ok_joined {f : Addr} {fd : FuncData} (F : FunD K "joined" "joined" (defArgs s_joined) (defBody s_joined) (defScope s_joined) [] [] f fd) (T : Tx P w K mg base) (dneed_word : CalO P w K mg base (L2.CX P w) 3 "need_word" ["value"] (spNeed K CW)) : FnOk P w K mg base (L2.CX P w) 4 f fd ["word", "next_word"] (spJoined K CW) := by
  refine fnO F sc_joined (fun vs H Q E h => ?_) (fun cdv A outer s H vs Q E hr h => ?_)
  · obtain ⟨v, u, b, rfl, _⟩ := h
    rfl
  · skip
    refine ⟨_, (pss_cons (ps_expr (pe_calO dneed_word hr (passes_call (takes_of rfl rfl rfl rfl) fun _ _ _ _ h => h) (pa_cons (pv 0) pa_nil)))
      (pss_cons (ps_expr (pe_calO dneed_word hr (passes_call (takes_of rfl rfl rfl rfl) fun _ _ _ _ h => h) (pa_cons (pv 1) pa_nil)))
      (pss_cons (ps_set (i := 2) sc_joined.nd rfl (by first | exact Or.inl rfl | exact Or.inr rfl) (pe_op (op_catAK (K := K)) (pv 0) (pv 1)))
      (pss_cons (ps_expr (pe_calO dneed_word hr (passes_call (takes_of rfl rfl rfl rfl) fun _ _ _ _ h => h) (pa_cons (pv 2) pa_nil)))
      (pss_one (ps_ret (pv 2))))))), ?_⟩
    obtain ⟨v, u, b, rfl, hb, xb, h⟩ := h
    refine ⟨_, rfl, v, b, rfl, hb, fun z H1 e1 => ?_, xb⟩
    obtain ⟨c, hc, xc, h⟩ := h z
    refine ⟨_, rfl, u, c, rfl, wbv_mono e1 hc, fun z H2 e2 => ?_, fun z => rz_ex e1 (xc z)⟩
    obtain ⟨xs, ys, hv, hu, h1, h2, h⟩ := h z
    refine q_asgW (ew_cat (ew_of (ev_var rfl) (wd_mono (e1.trans e2) hv)) (ew_of (ev_var rfl) (wd_mono (e1.trans e2) hu)) (by omega)) fun r H3 e3 hr3 => ?_
    obtain ⟨d, hd, xd, q⟩ := h r H3 ((e1.trans e2).trans e3) hr3
    exact ⟨_, rfl, r, d, rfl, hd, fun z H4 e4 => s_ret (ev_var rfl) fun H5 e5 => q z H5 (e4.trans e5), xd⟩

def spTextW (K : PySem.W.Frag) (CW : Addr) : Sp := fun vs H Q E => ∃ (v : V) (b : Bool), vs = [v] ∧ WB K H v b ∧ (b = true → ∃ ys, Wd K H v ys ∧ isW ys = true ∧ ∀ H', Ex H H' → Q (.str (tx ys)) H') ∧ (b = false → Rz CW "value" v H E)
abbrev s_text_of_word : Stmt := topS 24
theorem sc_text_of_word : FnScope ["word"] ["word"] (defScope s_text_of_word) := ⟨rfl, rfl, rfl, by decide +kernel, rfl, by decide +kernel, by decide +kernel⟩
theorem ok_text_of_word {f : Addr} {fd : FuncData} (F : FunD K "text_of_word" "text_of_word" (defArgs s_text_of_word) (defBody s_text_of_word) (defScope s_text_of_word) [] [] f fd) (T : Tx P w K mg base) (dneed_word : CalO P w K mg base (L2.CX P w) 3 "need_word" ["value"] (spNeed K CW)) : FnOk P w K mg base (L2.CX P w) 4 f fd ["word"] (spTextW K CW) := by
  refine fnO F sc_text_of_word (fun vs H Q E h => ?_) (fun cdv A outer s H vs Q E hr h => ?_)
  · obtain ⟨v, b, rfl, _⟩ := h
    rfl
  · skip
    refine ⟨_, (pss_cons (ps_expr (pe_calO dneed_word hr (passes_call (takes_of rfl rfl rfl rfl) fun _ _ _ _ h => h) (pa_cons (pv 0) pa_nil)))
      (pss_one (ps_ret (pe_ifExp (pt_truthK (K := K) (pv 0)) (pe_joinK (K := K) pe_str (pv 0)) (pe_glob (v := .str "-") (by rfl) T.g_EMPTY_TEXT.choose_spec ⟨_, rfl⟩))))), ?_⟩
    obtain ⟨v, b, rfl, hb, q, x⟩ := h
    refine ⟨_, rfl, v, b, rfl, hb, fun z H1 e1 => ?_, x⟩
    obtain ⟨ys, hv, hw, q⟩ := q z
    refine s_ret (v := .str (tx ys)) (ev_if (b := !ys.isEmpty) (et_truW (ev_var rfl) (wd_mono e1 hv)) (fun hb => ?_) (fun hb => ?_)) fun H2 e2 => q H2 (e1.trans e2)
    · rw [tx_ne (by cases ys with
        | nil => cases hb
        | cons y ys => exact fun z => nomatch z)]
      exact ev_joinW (ew_of (ev_var rfl) (wd_mono e1 hv)) hw
    · cases ys with
      | nil => exact ev_c
      | cons y ys => cases hb

theorem wb_any {H : Hp} {v : V} {ys : List Str} (h : Wd K H v ys) (hn : ys.length ≤ 1000) (hl : ∀ y ∈ ys, y.length ≤ 1000) : WB K H v (isW ys) := by
  obtain ⟨a, rfl, e⟩ := h
  have z : WB K H (.ref a) (decide ((ys.map V.str).length ≤ 3) && (ys.map isL).all id) := .tup (SqT.of e) (tyx_tup (SqT.of e)) (by rw [List.length_map]; omega) (by
    clear e hn
    induction ys with
    | nil => exact .nil
    | cons y ys ih => exact .cons (.str y (by have := hl y (List.mem_cons_self ..); omega)) (ih fun x hx => hl x (List.mem_cons_of_mem _ hx)))
  have e2 : (decide ((ys.map V.str).length ≤ 3) && (ys.map isL).all id) = isW ys := by
    unfold isW
    rw [List.length_map, List.all_map]
    rfl
  rw [e2] at z
  exact z
/-- read_word of a text, of another value -/
def spRead (K : PySem.W.Frag) (CT : Addr) : Sp := fun vs H Q E => ∃ v : V, vs = [v] ∧
  ((∃ t : String, TyX K H v (.type t) ∧ kitB t "str" = some false ∧ Rz CT "line" (.int 1) H E) ∨
   (v = .str "-" ∧ ∀ r H', Ex H H' → Wd K H' r [] → Q r H') ∨
   (∃ (s : Str) (ys : List Str), v = .str s ∧ s ≠ "-" ∧ s.length ≤ 1000 ∧ Txt.split s "." = ys ∧ ys.length ≤ 1000 ∧ (∀ y ∈ ys, y.length ≤ 1000) ∧ (isW ys = true → ∀ r H', Ex H H' → Wd K H' r ys → Q r H') ∧ (isW ys = false → Rz CT "line" (.int 1) H E)))
abbrev s_read_word : Stmt := topS 25
theorem sc_read_word : FnScope ["text", "word"] ["text"] (defScope s_read_word) := ⟨rfl, rfl, rfl, by decide +kernel, rfl, by decide +kernel, by decide +kernel⟩
theorem ok_read_word {f : Addr} {fd : FuncData} (F : FunD K "read_word" "read_word" (defArgs s_read_word) (defBody s_read_word) (defScope s_read_word) [] [] f fd) (T : Tx P w K mg base) (xInvalidText : XRz P w K mg base 1 "InvalidText" CT "line") (dis_word : CalO P w K mg base CX0 2 "is_word" ["value"] (spWord K)) : FnOk P w K mg base (L2.CX P w) 3 f fd ["text"] (spRead K CT) := by
  refine fnO F sc_read_word (fun vs H Q E h => ?_) (fun cdv A outer s H vs Q E hr h => ?_)
  · obtain ⟨v, rfl, _⟩ := h
    rfl
  · skip
    refine ⟨_, (pss_cons (ps_if (pt_not (pt_val (pe_callB (call_isiK1 (K := K)) (by rfl) T.m_isinstance (by decide +kernel) (pa_cons (pv 0) (pa_cons (pe_bltn (v := .ty "str") (by rfl) T.m_str (by decide +kernel) rfl) pa_nil))))) (pss_one (ps_rz xInvalidText hr rfl (takes_of rfl rfl rfl rfl) pe_int)) pss_nil)
      (pss_cons (ps_if (pt_cmpR op_eq (pv 0) (pe_glob (v := .str "-") (by rfl) T.g_EMPTY_TEXT.choose_spec ⟨_, rfl⟩) (nomark _)) (pss_one (ps_ret (pe_tup pa_nil))) pss_nil)
      (pss_cons (ps_set (i := 1) sc_read_word.nd rfl (by first | exact Or.inl rfl | exact Or.inr rfl) (pe_callTy call_tuple_of (by rfl) T.m_tuple (by decide +kernel) (pa_cons (pe_split (pv 0) pe_str) pa_nil)))
      (pss_cons (ps_if (pt_not (pt_val (pe_calO dis_word hr pass0 (pa_cons (pv 1) pa_nil)))) (pss_one (ps_rz xInvalidText hr rfl (takes_of rfl rfl rfl rfl) pe_int)) pss_nil)
      (pss_one (ps_ret (pv 1))))))), ?_⟩
    obtain ⟨v, rfl, h⟩ := h
    rcases h with ⟨t, ht, hn, x⟩ | ⟨rfl, q⟩ | ⟨s, ys, rfl, ne, hz, hs, hy, hyl, q, x⟩
    · exact q_when (b := !false) (et_not (et_B (ev_isi (ev_var rfl) (fun _ e => tyx_mono e ht) hn))) (fun _ H1 e => rz_ex e x) (fun z => by cases z)
    · refine q_when (b := !true) (et_not (et_B (ev_isi (ev_var rfl) (fun _ _ => .base (.str _)) rfl))) (fun z => by cases z) (fun _ H1 e1 => ?_)
      refine q_when (b := decide ((V.str "-") = V.str "-")) (et_test (ev_op (ev_var rfl) ev_c (rv_eq rfl))) (fun hb H2 e2 => ?_) (fun hb => absurd rfl (of_decide_eq_false hb))
      exact ⟨Nat.zero_le _, fun p hp => q _ _ ((e1.trans e2).trans (Ex.new hp)) ⟨p, rfl, upd_same⟩⟩
    · refine q_when (b := !true) (et_not (et_B (ev_isi (ev_var rfl) (fun _ _ => .base (.str _)) rfl))) (fun z => by cases z) (fun _ H1 e1 => ?_)
      refine q_when (b := decide ((V.str s) = V.str "-")) (et_test (ev_op (ev_var rfl) ev_c (rv_eq rfl))) (fun hb => absurd (of_decide_eq_true hb) (fun z => ne (by injection z))) (fun hb H2 e2 => ?_)
      refine ⟨_, rfl, ⟨_, rfl⟩, s, ".", rfl, rfl, rfl, sz_of (by omega), ?_⟩
      rw [hs]
      intro p hp
      refine ⟨p, ys.map V.str, rfl, .inl ⟨SqL.of upd_same, fun l hl => ?_⟩⟩
      have x2 : Ex H2 (upd (upd H2 p (.lst (ys.map V.str))) l (.tup (ys.map V.str))) := (Ex.new hp).trans (Ex.new hl)
      have hv : Wd K (upd (upd H2 p (.lst (ys.map V.str))) l (.tup (ys.map V.str))) (.ref l) ys := ⟨l, rfl, upd_same⟩
      refine q_when (b := !(isW ys)) (et_not (et_B (ev_word (ev_var rfl) (wb_any hv hy hyl)))) (fun z H3 e3 => ?_) (fun z H3 e3 => ?_)
      · exact rz_ex (((e1.trans e2).trans x2).trans e3) (x (by cases h : isW ys <;> simp_all))
      · exact s_ret (ev_var rfl) fun H4 e4 => q (by cases h : isW ys <;> simp_all) _ H4 ((((e1.trans e2).trans x2).trans e3).trans e4) (wd_mono (e3.trans e4) hv)

end
end K11
namespace K11
open PySem PySem.Spec PyProof.Rows L2 Lw Evl LamX
open Rm (R Ok Z0 Zp Fr)
open LwX (XC XF)
theorem keysW {K : PySem.W.Frag} {H : Hp} : ∀ {ds : List (List Str)} {bs : List Addr}, IsKeys H (dk ds) bs → Paired (Wd K H) (bs.map V.ref) ds
  | [], _, .nil => .nil
  | d :: ds, _, .cons r t => .cons ⟨_, rfl, by rw [← kw_val]; exact r⟩ (keysW t)
theorem esw_either {K : PySem.W.Frag} {te : TE} {σ : L2.St} {H : Hp} {l : Addr} {ws : List (List Str)} (h : Ev te σ H (.ref l)) (hl : LW K H l ws ∨ TW K H l ws) : EvSW K te σ H ws := fun H1 e Q q => h H1 e _ fun H2 e2 => q l H2 e2 (hl.imp (lw_mono (e.trans e2)) fun ⟨us, h1, h2⟩ => ⟨us, (e.trans e2) _ _ h1, paired_mono (fun _ _ r => wd_mono (e.trans e2) r) h2⟩)
section
variable {P : Program} {w : World} {K : PySem.W.Frag} {mg : Str → Option Value} {base : Heap} {CS : Addr}
/-- in_order of any value -/
def spOrder (K : PySem.W.Frag) (T : List (Addr × Str)) (CS : Addr) : Sp := fun vs H Q E => ∃ v : V, vs = [v] ∧ Tabs T H ∧
  ((∃ t : String, TyX K H v (.type t) ∧ PySem.W.kitAny K (.type t) [.type "list", .type "tuple"] = some false ∧ Rz CS "position" .non H E) ∨
   (∃ (l : Addr) (us : List V) (bs : List Bool), v = .ref l ∧ (H l = some (.lst us) ∨ H l = some (.tup us)) ∧ us.length ≤ 1000 ∧ Paired (WB K H) us bs ∧
     (∀ i : Nat, bs[i]? = some false → (∀ j, j < i → bs[j]? = some true) → Rz CS "position" (.int (i : Int)) H E) ∧
     ((∀ b ∈ bs, b = true) → ∃ ws, Paired (Wd K H) us ws ∧ ∀ r H', R (Z0 T) H H' → Q r H')))
variable {TT : List (Addr × Str)} {c0 P0 : Addr}
abbrev s_in_order : Stmt := topS 22
theorem sc_in_order : FnScope ["words", "position", "word", "different"] ["words"] (defScope s_in_order) := ⟨rfl, rfl, rfl, by decide +kernel, rfl, by decide +kernel, by decide +kernel⟩
theorem ok_in_order {f : Addr} {fd : FuncData} (F : FunD K "in_order" "in_order" (defArgs s_in_order) (defBody s_in_order) (defScope s_in_order) [] [] f fd) (T : Tx P w K mg base) (hC : CodeAt K f c0) (TB : TabB base mg c0 P0) (hmT : (P0, ("in_order.<locals>.<lambda>" : Str)) ∈ TT) (huT : ∀ z ∈ TT, z.1 = P0 → z.2 = ("in_order.<locals>.<lambda>" : Str)) (xInvalidWords : XRz P w K mg base 1 "InvalidWords" CS "position") (dis_list : CalO P w K mg base CX0 1 "is_list" ["value"] (spIsList K)) (dis_word : CalO P w K mg base CX0 2 "is_word" ["value"] (spWord K)) : FnOk P w K mg base (L2.CX P w) 3 f fd ["words"] (spOrder K TT CS) := by
  refine fnOc hC F sc_in_order (fun vs H Q E h => ?_) (fun A outer s H vs Q E hr h => ?_)
  · obtain ⟨v, rfl, _⟩ := h
    rfl
  · skip
    refine ⟨_, (pss_cons (ps_if (pt_not (pt_val (pe_calO dis_list hr pass0 (pa_cons (pv 0) pa_nil)))) (pss_one (ps_rz xInvalidWords hr rfl (takes_of rfl rfl rfl rfl) pe_non)) pss_nil)
      (pss_cons (ps_for (passes_of rfl) rfl (pi_enumSK (K := K) (by rfl) T.m_enumerate (pa_cons (pv 0) pa_nil)) (pg_tup (n := 2) rfl (pgs_cons (pg_name (i := 1) sc_in_order.nd rfl (by first | exact Or.inl rfl | exact Or.inr rfl)) (pgs_cons (pg_name (i := 2) sc_in_order.nd rfl (by first | exact Or.inl rfl | exact Or.inr rfl)) pgs_nil))) (pss_one (ps_if (pt_not (pt_val (pe_calO dis_word hr pass0 (pa_cons (pv 2) pa_nil)))) (pss_one (ps_rz xInvalidWords hr rfl (takes_of rfl rfl rfl rfl) (pv 1))) pss_nil)))
      (pss_cons (ps_setDcT (i := 3) (own := [("word", 2)]) (g := gName 2) (Nat.lt_of_le_of_lt (Nat.le_add_right _ 64) hr.units) rfl sc_in_order.nd rfl rfl (swD rfl rfl rfl (by decide +kernel)) (pi_seqS (K := K) (pv 0)) (blkOk_by (own := [("word", 2)]) (N := ["words", "position", "word", "different"]) (sc := defScope s_in_order) (by decide +kernel)) (fun _ _ _ _ _ => pg_name (i := 2) sc_in_order.nd rfl (Or.inl rfl)) (fun _ _ _ _ _ => (pv 2)) (fun _ _ _ _ _ => pe_bl))
      (pss_one (ps_ret (pe_sortRow (T := TT) (c := c0) (P := P0) (K := K) (by rfl) T.m_sorted T.m_len (pe_callTy (call_list_dT rfl) (by rfl) T.m_list (by decide +kernel) (pa_cons (pv 3) pa_nil)) TB rfl hmT huT hr.depth hr.units ⟨rfl, rfl, rfl, by decide +kernel, by decide +kernel, rfl, rfl⟩ rfl (by decide) (fun _ _ _ _ _ _ => rfl))))))), ?_⟩
    obtain ⟨v, rfl, ht, h⟩ := h
    rcases h with ⟨t, hty, hk, x⟩ | ⟨l, us, bs, rfl, hl, hz, hp, x, q⟩
    · exact q_when (b := !false) (et_not (et_B (ev_isList (ev_var rfl) hty hk))) (fun _ H1 e1 => rz_ex e1 x) (fun z => by cases z)
    obtain ⟨t, hty, hk⟩ : ∃ t, TyX K H (.ref l) (.type t) ∧ PySem.W.kitAny K (.type t) [.type "list", .type "tuple"] = some true := by
      rcases hl with h1 | h1
      · exact ⟨"list", .base (.lst h1), rfl⟩
      · exact ⟨"tuple", tyx_tup (SqT.of h1), rfl⟩
    refine q_when (b := !true) (et_not (et_B (ev_isList (ev_var rfl) hty hk))) (fun z => by cases z) fun _ H1 e1 => ?_
    have done : (∀ j, j < us.length → bs[j]? = some true) → ∀ b ∈ bs, b = true := fun h b hb => by
      obtain ⟨i, hi, rfl⟩ := List.getElem_of_mem hb
      have z := h i (by rw [Paired.length hp]; exact hi)
      rw [List.getElem?_eq_getElem hi] at z
      exact Option.some.inj z
    have fin : ∀ a b H2, Ex H H2 → (∀ b ∈ bs, b = true) → tSeq (tAsg (tDcT (iSeqS K (tVar 0)) (gName 2) (tVar 2) (tC (V.bl true)) [2]) (gName 3)) (tRet (tSortRow K TT P0 (tCB (fun xs H Q => ∃ d kvs, xs = [V.ref d] ∧ Rd H d (HO.dT kvs) ∧ ∀ (p : Addr) (bs : List Addr), H p = none → IsKeys H kvs bs → Q (V.ref p) (upd H p (HO.lst (List.map V.ref bs)))) (tCons (tVar 3) tNil)))) { nx := fun _ H' => Q .non H', rt := Q } [some (.ref l), a, b, none] H2 := fun a b H2 e2 all => by
      obtain ⟨ws, hws, q⟩ := q all
      have lz := Paired.length hws
      have sw : LW K H2 l ws ∨ TW K H2 l ws := hl.imp (fun h => ⟨us, e2 _ _ h, paired_mono (fun _ _ r => wd_mono e2 r) hws⟩) fun h => ⟨us, e2 _ _ h, paired_mono (fun _ _ r => wd_mono e2 r) hws⟩
      exact q_asgDc (K := K) (ws := ws) (i := 3) (j := 2) (σ := [some (.ref l), a, b, none]) (esw_either (ev_var rfl) sw) (by omega) (fun _ => rfl) (fun _ => rfl) fun D H3 hD e3 hd => ⟨_, rfl, D, dk (uniq ws), rfl, .inl hd, fun p bs hp hk => by
        have e4 : Ex H (upd H3 p (.lst (bs.map V.ref))) := (e2.trans e3).trans (Ex.new hp)
        have le := uniq_len ws
        refine ⟨ht.ext e4, p, uniq ws, rfl, ⟨_, upd_same, paired_mono (fun _ _ r => wd_mono (Ex.new hp) r) (keysW hk)⟩, by omega, fun r H5 x5 t5 hr hL => ?_⟩
        have o4 : Ok (Z0 TT) (upd H3 p (.lst (bs.map V.ref))) := ⟨ht.ext e4, fun _ z => z.elim⟩
        exact q _ H5 ((R.of (Z := Z0 TT) ⟨ht, fun _ z => z.elim⟩ e4).trans (Rm.R.lamP o4 hmT x5 t5))⟩
    rcases hl with h1 | h1
    · refine ⟨_, rfl, l, rfl, .inl ⟨us, SqL.of (e1 _ _ h1), for_it walk_enum (fun i σ H2 => ∃ a b, σ = [some (.ref l), a, b, none] ∧ Ex H1 H2 ∧ ∀ j, j < i → bs[j]? = some true) ⟨_, _, rfl, Ex.refl H1, fun j z => absurd z (Nat.not_lt_zero _)⟩ (fun _ _ H2 _ p => ex_l p.choose_spec.choose_spec.2.1 (SqL.of (e1 _ _ h1))) (fun i x2 σ H2 H3 hi p y => ?_) fun σ H2 p => ?_⟩⟩
      · obtain ⟨a, b, rfl, e2, pr⟩ := p
        obtain ⟨T, xi, xv, rfl, hT, rfl, hi1, hv1⟩ := y
        obtain ⟨c, hc, hb⟩ := paired_at hp hv1
        have e3 : Ex H1 (upd H2 T (.tup [xi, xv])) := e2.trans (Ex.new hT)
        obtain rfl : xi = .int (i : Int) := (Option.some.inj hi1).symm
        refine ⟨T, _, rfl, SqT.of upd_same, rfl, _, _, rfl, _, _, rfl, rfl, ?_⟩
        refine s_when (b := !c) (et_not (et_B (ev_word (ev_var rfl) (wbv_mono (e1.trans e3) hb)))) (fun z H5 e5 => ⟨_, rfl, rz_ex ((e1.trans e3).trans e5) (x i (by cases c <;> simp_all) pr)⟩) fun z H5 e5 => ⟨_, _, rfl, e3.trans e5, fun j hj => ?_⟩
        by_cases q : j < i
        · exact pr j q
        · obtain rfl : j = i := by omega
          cases c <;> simp_all
      · obtain ⟨a, b, rfl, e2, pr⟩ := p
        exact fin a b H2 (e1.trans e2) (done pr)
    · refine ⟨_, rfl, l, rfl, .inr ⟨us, SqT.of (e1 _ _ h1), for_it walkEnumT (fun i σ H2 => ∃ a b, σ = [some (.ref l), a, b, none] ∧ Ex H1 H2 ∧ ∀ j, j < i → bs[j]? = some true) ⟨_, _, rfl, Ex.refl H1, fun j z => absurd z (Nat.not_lt_zero _)⟩ (fun _ _ H2 _ p => ex_t p.choose_spec.choose_spec.2.1 (SqT.of (e1 _ _ h1))) (fun i x2 σ H2 H3 hi p y => ?_) fun σ H2 p => ?_⟩⟩
      · obtain ⟨a, b, rfl, e2, pr⟩ := p
        obtain ⟨T, xi, xv, rfl, hT, rfl, hi1, hv1⟩ := y
        obtain ⟨c, hc, hb⟩ := paired_at hp hv1
        have e3 : Ex H1 (upd H2 T (.tup [xi, xv])) := e2.trans (Ex.new hT)
        obtain rfl : xi = .int (i : Int) := (Option.some.inj hi1).symm
        refine ⟨T, _, rfl, SqT.of upd_same, rfl, _, _, rfl, _, _, rfl, rfl, ?_⟩
        refine s_when (b := !c) (et_not (et_B (ev_word (ev_var rfl) (wbv_mono (e1.trans e3) hb)))) (fun z H5 e5 => ⟨_, rfl, rz_ex ((e1.trans e3).trans e5) (x i (by cases c <;> simp_all) pr)⟩) fun z H5 e5 => ⟨_, _, rfl, e3.trans e5, fun j hj => ?_⟩
        by_cases q : j < i
        · exact pr j q
        · obtain rfl : j = i := by omega
          cases c <;> simp_all
      · obtain ⟨a, b, rfl, e2, pr⟩ := p
        exact fin a b H2 (e1.trans e2) (done pr)

end
end K11
namespace K11
open PySem PySem.Spec PyProof.Rows L2 Lw Evl LamX
open LwX (XC XF)
/-- what the top tells of the classes that are raised -/
structure Cls (K : PySem.W.Frag) (mg : Str → Option Value) (CW CS CT CK : Addr) : Prop where
  gW : mg "InvalidWord" = some (.ref CW)
  gS : mg "InvalidWords" = some (.ref CS)
  gT : mg "InvalidText" = some (.ref CT)
  gK : mg "WakeError" = some (.ref CK)
  gV : mg "ValueError" = none
  fW : XfC K CW
  fS : XfC K CS
  fT : XfC K CT
  nW : PySem.W.findIn K (.ref CW) "value" = some none
  nS : PySem.W.findIn K (.ref CS) "position" = some none
  nT : PySem.W.findIn K (.ref CT) "line" = some none
  xW : XC K CW
  xS : XC K CS
  xT : XC K CT
  kW : PySem.W.kitOne K (.ref CW) (.ref CK) = some true
  kS : PySem.W.kitOne K (.ref CS) (.ref CK) = some true
  kT : PySem.W.kitOne K (.ref CT) (.ref CK) = some true
  vW : PySem.W.kitOne K (.ref CW) (.type "ValueError") = some true
  vS : PySem.W.kitOne K (.ref CS) (.type "ValueError") = some true
  vT : PySem.W.kitOne K (.ref CT) (.type "ValueError") = some true
  mWW : PySem.W.exmOne K (.ref CW) (.ref CW) = some true
  mSW : PySem.W.exmOne K (.ref CS) (.ref CW) = some false
  mSS : PySem.W.exmOne K (.ref CS) (.ref CS) = some true
  mTW : PySem.W.exmOne K (.ref CT) (.ref CW) = some false
  mTS : PySem.W.exmOne K (.ref CT) (.ref CS) = some false
  mTT : PySem.W.exmOne K (.ref CT) (.ref CT) = some true
theorem takes_len {X : Cx} {W : WX} (t : Takes X W) : Takes X (fun cls d σ H => σ.length = X.N.length → W cls d σ H) := fun u s' x => by
  obtain ⟨a, B, sI, pins, σ, H, cls, d, e, I, nb, up, sky, na, os, ag, w⟩ := x
  exact t u s' ⟨a, B, sI, pins, σ, H, cls, d, e, I, nb, up, sky, na, os, ag, w I.len⟩
abbrev s_told : Stmt := topS 32
abbrev Ntold : List Str := ["_law_deed", "_law_told_here", "e"]
theorem sc_told : FnScope Ntold ["_law_deed"] (defScope s_told) := ⟨rfl, rfl, rfl, by decide +kernel, rfl, by decide +kernel, by decide +kernel⟩
/-- what is told of an error that comes out -/
def Err (CW CS CT : Addr) (Q : VK) : XK := fun cls d H => ∃ (C : Addr) (f nm : Str) (v : V) (dd : Addr), ((C = CW ∧ f = "value" ∧ nm = "word") ∨ (C = CS ∧ f = "position" ∧ nm = "words") ∨ (C = CT ∧ f = "line" ∧ nm = "text")) ∧
  cls = .ref C ∧ d = some dd ∧ H dd = some (.xd [(f, v)]) ∧ ∀ l, H l = none → Q (.ref l) (upd H l (.lst [.str nm, v, .bl true]))
def TTold (CW CS CT : Addr) : (XK → Hp → VK → Prop) → Hp → VK → Prop := fun tl H Q => ∀ l, H l = none → tl (Err CW CS CT Q) (upd H l (.lst [.str "told"])) fun _ H1 => Q (.ref l) H1
section
variable {X : Cx} {K : PySem.W.Frag} {CW CS CT CK : Addr}
theorem told_gives {g : Addr} {cdg : Value} {q : Str} (C : Cls X.K X.mg CW CS CT CK) (mi : X.mg "isinstance" = none) : GivesTo X Ntold "_law_told" (defScope s_told) g cdg (defBody s_told) "_law_deed" q (TTold CW CS CT) := by
  intro f c1 s H Q tl act hc h
  refine ⟨_, (pss_cons (ps_set (i := 1) sc_told.nd rfl (by first | exact Or.inl rfl | exact Or.inr rfl) (pe_lst (pa_cons pe_str pa_nil)))
    (pss_cons (ps_tryA (i := 2) (tb := fun W D σ H => ∃ Ech : XK, (∀ cls d σ' H', Ech cls d H' → σ'.length = 3 → W cls d σ' H') ∧ σ[0]? = some (some (.ref f)) ∧ H c1 = some (CodeO c1 q) ∧ tl Ech H fun _ H1 => D.nx σ H1) rfl rfl sc_told.nd rfl rfl (fun W pn xe tk _ => ⟨fun pins s2 σ H2 D I h2 => ?_⟩)
      (.cons ⟨rfl, by decide, .inl C.gW⟩ (fun a ob cls d pn hz hf => (pss_one (ps_set (i := 1) sc_told.nd rfl (by first | exact Or.inl rfl | exact Or.inr rfl) (pe_lst (pa_cons pe_str (pa_cons (pe_xf C.fW C.nW hz hf (pv 2)) (pa_cons (pe_and (pe_callB (call_isC hz hf) (by rfl) mi (by decide +kernel) (pa_cons (pv 2) (pa_cons (pe_glob (v := .ref CK) (by rfl) C.gK rfl) pa_nil))) (pe_one (pe_callB (call_isC hz hf) (by rfl) mi (by decide +kernel) (pa_cons (pv 2) (pa_cons (pe_bltn (v := .ty "ValueError") (by rfl) C.gV (by decide +kernel) rfl) pa_nil))))) pa_nil)))))))
      (.cons ⟨rfl, by decide, .inl C.gS⟩ (fun a ob cls d pn hz hf => (pss_one (ps_set (i := 1) sc_told.nd rfl (by first | exact Or.inl rfl | exact Or.inr rfl) (pe_lst (pa_cons pe_str (pa_cons (pe_xf C.fS C.nS hz hf (pv 2)) (pa_cons (pe_and (pe_callB (call_isC hz hf) (by rfl) mi (by decide +kernel) (pa_cons (pv 2) (pa_cons (pe_glob (v := .ref CK) (by rfl) C.gK rfl) pa_nil))) (pe_one (pe_callB (call_isC hz hf) (by rfl) mi (by decide +kernel) (pa_cons (pv 2) (pa_cons (pe_bltn (v := .ty "ValueError") (by rfl) C.gV (by decide +kernel) rfl) pa_nil))))) pa_nil)))))))
      (.cons ⟨rfl, by decide, .inl C.gT⟩ (fun a ob cls d pn hz hf => (pss_one (ps_set (i := 1) sc_told.nd rfl (by first | exact Or.inl rfl | exact Or.inr rfl) (pe_lst (pa_cons pe_str (pa_cons (pe_xf C.fT C.nT hz hf (pv 2)) (pa_cons (pe_and (pe_callB (call_isC hz hf) (by rfl) mi (by decide +kernel) (pa_cons (pv 2) (pa_cons (pe_glob (v := .ref CK) (by rfl) C.gK rfl) pa_nil))) (pe_one (pe_callB (call_isC hz hf) (by rfl) mi (by decide +kernel) (pa_cons (pv 2) (pa_cons (pe_bltn (v := .ty "ValueError") (by rfl) C.gV (by decide +kernel) rfl) pa_nil))))) pa_nil)))))))
      (.rest _)))))
    (pss_one (ps_ret (pv 1))))), ?_⟩
  · obtain ⟨Ech, hW, h1, h3, h4⟩ := h2
    exact (pss_one (ps_expr (act _ pn xe Ech _ _ (takes_len tk) fun cls d σ' H' e l => hW cls d σ' H' e l))).run pins s2 σ H2 D I ⟨h1, h3, h4⟩
  · refine ⟨(by show 1 ≤ sizeLine; decide), fun l hl => ⟨Err CW CS CT Q, fun cls d σ' H' hE hlen => ?_, rfl, ?_, ?_⟩⟩
    · obtain ⟨x, y, z, rfl⟩ : ∃ x y z, σ' = [x, y, z] := by
        match σ', hlen with
        | [x, y, z], _ => exact ⟨x, y, z, rfl⟩
      obtain ⟨D, f2, nm, v, dd, hc2, rfl, rfl, hd, q2⟩ := hE
      rcases hc2 with ⟨rfl, rfl, rfl⟩ | ⟨rfl, rfl, rfl⟩ | ⟨rfl, rfl, rfl⟩
      · exact ⟨true, C.mWW, fun _ a na => ⟨_, rfl, rfl, rfl, dd, _, v, rfl, hd, rfl, _, rfl, _, dd, _, _, _, true, rfl, rfl, rfl, hd, C.xW, fun u e => e, C.kW, true, rfl, _, rfl, _, dd, _, _, _, true, rfl, rfl, rfl, hd, C.xW, fun u e => e, C.vW, (by show 3 ≤ sizeLine; decide), fun l2 hl2 => ⟨_, rfl, q2 l2 hl2⟩⟩, fun e => by cases e⟩
      · exact ⟨false, C.mSW, fun e => (by cases e), fun _ => ⟨true, C.mSS, fun _ a na => ⟨_, rfl, rfl, rfl, dd, _, v, rfl, hd, rfl, _, rfl, _, dd, _, _, _, true, rfl, rfl, rfl, hd, C.xS, fun u e => e, C.kS, true, rfl, _, rfl, _, dd, _, _, _, true, rfl, rfl, rfl, hd, C.xS, fun u e => e, C.vS, (by show 3 ≤ sizeLine; decide), fun l2 hl2 => ⟨_, rfl, q2 l2 hl2⟩⟩, fun e => by cases e⟩⟩
      · exact ⟨false, C.mTW, fun e => (by cases e), fun _ => ⟨false, C.mTS, fun e => (by cases e), fun _ => ⟨true, C.mTT, fun _ a na => ⟨_, rfl, rfl, rfl, dd, _, v, rfl, hd, rfl, _, rfl, _, dd, _, _, _, true, rfl, rfl, rfl, hd, C.xT, fun u e => e, C.kT, true, rfl, _, rfl, _, dd, _, _, _, true, rfl, rfl, rfl, hd, C.xT, fun u e => e, C.vT, (by show 3 ≤ sizeLine; decide), fun l2 hl2 => ⟨_, rfl, q2 l2 hl2⟩⟩, fun e => by cases e⟩⟩⟩
    · rw [upd_ne (ne_of_none hc hl)]
      exact hc
    · refine (congrArg (fun z => tl (Err CW CS CT Q) (upd H l (.lst [.str "told"])) z) (funext fun _ => funext fun H1 => propext ⟨fun y => ?_, fun y => ?_⟩)).mp (h l hl)
      · exact ⟨_, rfl, y⟩
      · obtain ⟨v, e, y⟩ := y
        cases e
        exact y
end
end K11
namespace K11
open PySem PySem.Spec PyProof.Rows L2 Lw Evl LamX
open LwX (XC XF)
/-! ### what the head tells of the classes -/
def refsOk (K : PySem.W.Frag) (C : Addr) : Bool := (PySem.W.clsIn K C).any fun cd => PySem.HandSPX.refsVE (cd.mro.drop 1)
def oneB (K : PySem.W.Frag) (x f : Str) : Bool := (He.Fa.glo x).ok K && (LwX.xcB K (He.ga K x) && (PySem.W.excInitIn K (He.ga K x) (LwX.bmOf "ValueError") "ValueError.__new__" && (refsOk K (He.ga K x) && (LwX.xfB K (He.ga K x) f && (He.Fa.meth x "__init__").ok K))))
def kB (K : PySem.W.Frag) (x : Str) : Bool := decide (PySem.W.kitOne K (.ref (He.ga K x)) (.ref (He.ga K "WakeError")) = some true) && decide (PySem.W.kitOne K (.ref (He.ga K x)) (.type "ValueError") = some true)
def mB (K : PySem.W.Frag) (x y : Str) (b : Bool) : Bool := decide (PySem.W.exmOne K (.ref (He.ga K x)) (.ref (He.ga K y)) = some b)
def relB (K : PySem.W.Frag) : Bool := (He.Fa.glo "WakeError").ok K && (kB K "InvalidWord" && (kB K "InvalidWords" && (kB K "InvalidText" && (mB K "InvalidWord" "InvalidWord" true && (mB K "InvalidWords" "InvalidWord" false && (mB K "InvalidWords" "InvalidWords" true && (mB K "InvalidText" "InvalidWord" false && (mB K "InvalidText" "InvalidWords" false && mB K "InvalidText" "InvalidText" true))))))))
section
variable {P : Program} {w : World} {K : PySem.W.Frag} {mg : Str → Option Value} {base h : Heap} {C fI : Addr} {fd : FuncData} {qual x f : Str} {params : Arguments} {scope : Scope}
structure OneF (K : PySem.W.Frag) (mg : Str → Option Value) (x f : Str) : Prop where
  g : mg x = some (.ref (He.ga K x))
  xc : XC K (He.ga K x)
  ox : OexC K (He.ga K x)
  xf : XF K (He.ga K x) f
  me : Meth K (He.ga K x) "__init__" (He.fAd K (x, some "__init__"))
theorem oex_of (X : K.In h) (T : XC K C) (q : PySem.W.excInitIn K C (LwX.bmOf "ValueError") "ValueError.__new__" = true) (r : refsOk K C = true) : OexC K C := by
  obtain ⟨nm, N, qn, bs, bm, hdct, sn, sub, ab, col, dd, k0, k1, k2, k3, k5, hC, _⟩ := PySem.W.excInit_of X q
  obtain ⟨cd, hcd, hh⟩ := PySem.W.any_some T.hd
  have lk : ∃ o, K.lookup C = some o := by
    cases e : K.lookup C with
    | some o => exact ⟨o, rfl⟩
    | none =>
      unfold PySem.W.clsIn at hcd
      rw [e] at hcd
      cases hcd
  obtain ⟨o, ho⟩ := lk
  have e := X C o ho
  rw [hC] at e
  have e2 := Option.some.inj e
  subst e2
  have c2 : PySem.W.clsIn K C = some { name := nm, bases := bs, mro := .ref C :: bm, ns := N, qualname := qn, hasDict := hdct, slotNames := sn, subclasses := sub, abstract := ab, collection := col, hasDel := false } := by
    unfold PySem.W.clsIn
    rw [ho] <;> rfl
  rw [c2] at hcd
  cases hcd
  have hd : hdct = true := hh
  subst hd
  unfold refsOk at r
  rw [c2] at r
  have r2 : PySem.HandSPX.refsVE bm = true := r
  exact ⟨⟨nm, qn, N, bs, bm, sn, sub, ab, col, dd, k0, k1, k2, k3, k5, ho, r2⟩, T.sa, T.sub, T.ty, T.kp⟩
theorem one_ok (X : K.In h) (G : h.Ns mainGlobals mg) (e : oneB K x f = true) : OneF K mg x f := by
  obtain ⟨e1, e⟩ := He.ba e
  obtain ⟨e2, e⟩ := He.ba e
  obtain ⟨e3, e⟩ := He.ba e
  obtain ⟨e4, e⟩ := He.ba e
  obtain ⟨e5, e6⟩ := He.ba e
  have T := LwX.xc_ok e2
  exact ⟨He.glo_ok X G e1, T, oex_of X T e3 e4, LwX.xf_ok e5, He.meth_ok e6⟩
theorem cls_ok (X : K.In h) (G : h.Ns mainGlobals mg) (W : OneF K mg "InvalidWord" "value") (S : OneF K mg "InvalidWords" "position") (T : OneF K mg "InvalidText" "line") (nV : mg "ValueError" = none) (e : relB K = true) :
    Cls K mg (He.ga K "InvalidWord") (He.ga K "InvalidWords") (He.ga K "InvalidText") (He.ga K "WakeError") := by
  obtain ⟨gk, e⟩ := He.ba e
  obtain ⟨a1, e⟩ := He.ba e
  obtain ⟨a2, e⟩ := He.ba e
  obtain ⟨a3, e⟩ := He.ba e
  obtain ⟨b1, e⟩ := He.ba e
  obtain ⟨b2, e⟩ := He.ba e
  obtain ⟨b3, e⟩ := He.ba e
  obtain ⟨b4, e⟩ := He.ba e
  obtain ⟨b5, b6⟩ := He.ba e
  obtain ⟨k1, v1⟩ := He.ba a1
  obtain ⟨k2, v2⟩ := He.ba a2
  obtain ⟨k3, v3⟩ := He.ba a3
  have xf : ∀ {x f : Str}, OneF K mg x f → XfC K (He.ga K x) := fun o => ⟨o.xc.ga, o.xc.gg, o.xc.sub, o.xc.hd⟩
  exact ⟨W.g, S.g, T.g, He.glo_ok X G gk, nV, xf W, xf S, xf T, W.xf.no, S.xf.no, T.xf.no, W.xc, S.xc, T.xc, of_decide_eq_true k1, of_decide_eq_true k2, of_decide_eq_true k3, of_decide_eq_true v1, of_decide_eq_true v2, of_decide_eq_true v3,
    of_decide_eq_true b1, of_decide_eq_true b2, of_decide_eq_true b3, of_decide_eq_true b4, of_decide_eq_true b5, of_decide_eq_true b6⟩
theorem initO {q1 q2 q3 q4 : Pos} (F : FunD K "__init__" qual params [.Assign [.Attribute (.Name "self" q1) f q2] (.Name f q3) q4] scope [] [] fI fd) (S : FnScope ["self", f] ["self", f] scope) (T : OexC K C) (no : PySem.W.findIn K (.ref C) f = some none)
    (l1 : scope.names.lookup ("self" : Str) = some .local) (l2 : scope.names.lookup f = some .local) (n1 : (f == ("__debug__" : Str)) = false) (n2 : (f == ("__classdict__" : Str)) = false) : FnOk P w K mg base CX0 1 fI fd ["self", f] (spIx f C) := by
  refine fnO F S (fun vs H Q E h => ?_) (fun cdv A' outer s H vs Q E hr h => ?_)
  · obtain ⟨a, v, rfl, _⟩ := h
    rfl
  · obtain ⟨a, v, rfl, ha, q⟩ := h
    refine ⟨_, PSs.nox (pss_one (ps_ost (pv 0 rfl (.inl l1)) (pv 1 rfl (.inl l2) n1 n2))), ?_⟩
    exact ⟨v, rfl, .ref a, rfl, a, C, rfl, T, no, .inl ⟨ha, fun dx hd ne => q dx hd ne⟩⟩
theorem xrz {q1 q2 q3 q4 : Pos} (F : FunD K "__init__" qual params [.Assign [.Attribute (.Name "self" q1) f q2] (.Name f q3) q4] scope [] [] (He.fAd K (x, some "__init__")) fd) (S : FnScope ["self", f] ["self", f] scope)
    (l1 : scope.names.lookup ("self" : Str) = some .local) (l2 : scope.names.lookup f = some .local) (n1 : (f == ("__debug__" : Str)) = false) (n2 : (f == ("__classdict__" : Str)) = false)
    (hb : ∀ (kV doc pm : Value) (an : Option Addr) (cdv ct : Value) (us : List Value), us.length = 2 →
      bindArgs (PySem.W.fnOf "__init__" qual params [.Assign [.Attribute (.Name "self" q1) f q2] (.Name f q3) q4] scope .none kV doc pm an cdv ct) ⟨us, []⟩ = pure ((["self", f] : List Str).zip us)) (o : OneF K mg x f) : XRz P w K mg base 1 x (He.ga K x) f :=
  ⟨o.g, o.ox, _, _, o.me.at_, eq_of_beq o.me.fn, initO F S o.ox o.xf.no l1 l2 n1 n2, F.bindsN hb⟩
end
end K11
namespace K11H
open PySem PySem.Spec PyProof.Rows L2 Lw Evl
open K11

def dF0 : He.DefD := ⟨("_law_draw", none), "_law_draw", "_law_draw", defArgs (topS 28), defBody (topS 28), defScope (topS 28), [], []⟩
def dF1 : He.DefD := ⟨("_law_pick", none), "_law_pick", "_law_pick", defArgs (topS 29), defBody (topS 29), defScope (topS 29), [], []⟩
def dF2 : He.DefD := ⟨("_law_pot", none), "_law_pot", "_law_pot", defArgs (topS 27), defBody (topS 27), defScope (topS 27), [], []⟩
def dF3 : He.DefD := ⟨("_law_signs", none), "_law_signs", "_law_signs", defArgs (topS 30), defBody (topS 30), defScope (topS 30), [], []⟩
def dF4 : He.DefD := ⟨("_law_row", none), "_law_row", "_law_row", defArgs (topS 31), defBody (topS 31), defScope (topS 31), [], []⟩
def dF5 : He.DefD := ⟨("is_letter", none), "is_letter", "is_letter", defArgs (topS 18), defBody (topS 18), defScope (topS 18), [], []⟩
def dF6 : He.DefD := ⟨("is_word", none), "is_word", "is_word", defArgs (topS 19), defBody (topS 19), defScope (topS 19), [], []⟩
def dF7 : He.DefD := ⟨("is_list", none), "is_list", "is_list", defArgs (topS 1), defBody (topS 1), defScope (topS 1), [], []⟩
def dF8 : He.DefD := ⟨("need_word", none), "need_word", "need_word", defArgs (topS 20), defBody (topS 20), defScope (topS 20), [], []⟩
def dF9 : He.DefD := ⟨("beginnings", none), "beginnings", "beginnings", defArgs (topS 21), defBody (topS 21), defScope (topS 21), [], []⟩
def dF10 : He.DefD := ⟨("joined", none), "joined", "joined", defArgs (topS 23), defBody (topS 23), defScope (topS 23), [], []⟩
def dF11 : He.DefD := ⟨("text_of_word", none), "text_of_word", "text_of_word", defArgs (topS 24), defBody (topS 24), defScope (topS 24), [], []⟩
def dF12 : He.DefD := ⟨("read_word", none), "read_word", "read_word", defArgs (topS 25), defBody (topS 25), defScope (topS 25), [], []⟩
def dF13 : He.DefD := ⟨("in_order", none), "in_order", "in_order", defArgs (topS 22), defBody (topS 22), defScope (topS 22), [], []⟩
def dF14 : He.DefD := ⟨("_law_no_rows", none), "_law_no_rows", "_law_no_rows", defArgs (topS 33), defBody (topS 33), defScope (topS 33), [], []⟩
def dF15 : He.DefD := ⟨("_law_no_texts", none), "_law_no_texts", "_law_no_texts", defArgs (topS 34), defBody (topS 34), defScope (topS 34), [], []⟩
def dF16 : He.DefD := ⟨("_law_words_right", none), "_law_words_right", "_law_words_right", defArgs (topS 35), defBody (topS 35), defScope (topS 35), [], []⟩
def dF17 : He.DefD := ⟨("_law_long_right", none), "_law_long_right", "_law_long_right", defArgs (topS 36), defBody (topS 36), defScope (topS 36), [], []⟩
def dF18 : He.DefD := ⟨("_law_texts_right", none), "_law_texts_right", "_law_texts_right", defArgs (topS 38), defBody (topS 38), defScope (topS 38), [], []⟩
def dF19 : He.DefD := ⟨("_law_lots_right", none), "_law_lots_right", "_law_lots_right", defArgs (topS 37), defBody (topS 37), defScope (topS 37), [], []⟩
def dF20 : He.DefD := ⟨("_law_right", none), "_law_right", "_law_right", defArgs (topS 39), defBody (topS 39), defScope (topS 39), [], []⟩
def dF21 : He.DefD := ⟨("law", none), "law", "law", defArgs (topS 40), defBody (topS 40), defScope (topS 40), [], []⟩
def dF22 : He.DefD := ⟨("_law_told", none), "_law_told", "_law_told", defArgs (topS 32), defBody (topS 32), defScope (topS 32), [], []⟩
def dF23 : He.DefD := ⟨("InvalidWord", some "__init__"), "__init__", "InvalidWord.__init__", defArgs (inClass (topS 5) 0), defBody (inClass (topS 5) 0), defScope (inClass (topS 5) 0), [], []⟩
def dF24 : He.DefD := ⟨("InvalidWords", some "__init__"), "__init__", "InvalidWords.__init__", defArgs (inClass (topS 6) 0), defBody (inClass (topS 6) 0), defScope (inClass (topS 6) 0), [], []⟩
def dF25 : He.DefD := ⟨("InvalidText", some "__init__"), "__init__", "InvalidText.__init__", defArgs (inClass (topS 9) 0), defBody (inClass (topS 9) 0), defScope (inClass (topS 9) 0), [], []⟩
def fn : List He.DefD := [dF0, dF1, dF2, dF3, dF4, dF5, dF6, dF7, dF8, dF9, dF10, dF11, dF12, dF13, dF14, dF15, dF16, dF17, dF18, dF19, dF20, dF21, dF22, dF23, dF24, dF25]
def fa : List He.Fa := [.glo "_law_draw", .glo "_law_pick", .glo "_law_pot", .glo "_law_signs", .glo "_law_row", .glo "is_letter", .glo "is_word", .glo "is_list", .glo "need_word", .glo "beginnings", .glo "joined", .glo "text_of_word", .glo "read_word", .glo "in_order", .glo "_law_no_rows", .glo "_law_no_texts", .glo "_law_words_right", .glo "_law_long_right", .glo "_law_texts_right", .glo "_law_lots_right", .glo "_law_right", .glo "law", .glo "_law_told", .free "len", .free "range", .free "abs", .free "max", .free "min", .free "int", .free "divmod", .free "all", .free "isinstance", .free "enumerate", .free "repr", .free "list", .free "tuple", .free "sorted", .free "str", .free "ValueError", .int "MOST_SIGNS" (8), .int "MOST_IN_WORD" (3), .str "EMPTY_TEXT" "-"]
def tf : List He.Defn := [("in_order", none), ("_law_words_right", none), ("_law_long_right", none), ("_law_lots_right", none), ("_law_texts_right", none), ("_law_right", none)]
def LL : List (He.Defn × Str) := [(("in_order", none), "in_order.<locals>.<lambda>"), (("_law_words_right", none), "_law_words_right.<locals>.<lambda>"), (("_law_long_right", none), "_law_long_right.<locals>.<lambda>"), (("_law_lots_right", none), "_law_lots_right.<locals>.<lambda>"), (("_law_texts_right", none), "_law_texts_right.<locals>.<lambda>"), (("_law_right", none), "_law_right.<locals>.<lambda>")]
def ex (K : PySem.W.Frag) : Bool := oneB K "InvalidWord" "value" && (oneB K "InvalidWords" "position" && (oneB K "InvalidText" "line" && (relB K && decide ((LL.map fun e => (He.cT K e.1).2).Nodup))))
abbrev R : PySem.W.OpenRow := PySem.W.OpenLaw.row PySem.Challenge.rw_wakesayings_k11_words_refused
abbrev hk : PySem.W.Hook := He.hookX 6 fa fn [] tf ex
def ob (s : PySem.W.SharedT) : He.AlX := He.obsX 6 fa fn [] tf ex (HandSHeadRun.getT s)
theorem ob_eq (s : PySem.W.SharedT) : ob s = hk.obs s.abs := He.obsX_eq (HandSHeadRun.getT_eq s)
def loose0 : List PySem.Str := ["is_list", "WakeError", "InvalidLetter", "InvalidWord", "InvalidWords", "InvalidNumber", "InvalidFront", "InvalidText", "MissingError", "UnknownLetter", "LimitError", "TooMany", "is_letter", "is_word", "need_word", "beginnings", "in_order", "joined", "text_of_word", "read_word", "_law_pot", "_law_draw", "_law_pick", "_law_signs", "_law_row", "_law_told", "_law_no_rows", "_law_no_texts", "_law_words_right", "_law_long_right"]
def loose1 : List PySem.Str := ["_law_lots_right", "_law_texts_right", "_law_right", "MOST_SIGNS", "MOST_IN_WORD", "EMPTY_TEXT"]
def loose : List PySem.Str := loose0 ++ loose1
set_option maxHeartbeats 0 in
theorem run (w : World) : HandSHeadRun.RunEq R (PySem.W.view R.prog [40]) hk ob 12000 loose w := by
  intro os
  kernel_rfl
end K11H
namespace K11
open PySem PySem.Spec PyProof.Rows L2 Lw Evl LamX
open Rm (R Ok Z0 Zp Fr fr_none fr_ne nt_lst nt_tup nt_dK NT Zn)
open LwX (XC XF)
/-! ### _law_told(lambda: ..) -/
def ToldD (K : PySem.W.Frag) (mg : Str → Option Value) : Prop := ∃ g fd, mg "_law_told" = some (.ref g) ∧ PySem.W.keepIn K (.ref g) = true ∧ FunD K "_law_told" "_law_told" (defArgs s_told) (defBody s_told) (defScope s_told) [] [] g fd ∧ Binds K fd ["_law_deed"] []
theorem pe_told {X : Cx} {CW CS CT CK c P : Addr} {T : List (Addr × Str)} {params : Arguments} {body : Expr} {scope : Scope} {t : XK → TE} {p lpos pos : Pos} {j k : Nat} (D : ToldD X.K X.mg) (C : Cls X.K X.mg CW CS CT CK) (mi : X.mg "isinstance" = none)
    (TB : TabB X.base X.mg c P) (hcode : X.env.code = .ref c) (hmT : (P, X.env.qual ++ "<lambda>") ∈ T) (hu : ∀ p ∈ T, p.1 = P → p.2 = X.env.qual ++ "<lambda>") (hr : Room j X.A) (L : LamS X.env.scope scope) (hdef : defaultsOf params X.env = ([], []))
    (hbind : ∀ (q : Str) (cl : List (Str × Addr)) (pm cv ctv : Value), bindArgs (PySem.W.kla_fn "<lambda>" q params body scope cl pm cv ctv) ⟨[], []⟩ = pure [])
    (hbody : ∀ (A : Around) (outer : List Env) (s : Shared) (H : Hp) (E : XK) (f c' : Addr), Room k (A.deeper (lamEnv X scope s.heap.objs.size f c')) → PE (lamCx X A outer s H E scope f c') body (t E)) (hj : k + 2 ≤ j := by decide) (hg : Gl X "_law_told" := by rfl) :
    PE X (.Call (.Name "_law_told" p) [.Lambda params body scope lpos] [] pos) (tLam T (TTold CW CS CT) t) := by
  obtain ⟨g, fd, hm, hk, F, hb⟩ := D
  obtain ⟨_, _, dV, kV, doc, pm, an, cdv, ct, osl, rfl, lk, hcd, _, _⟩ := F.ex
  exact pe_lamcall hg hm hk lk hcd hb sc_told rfl (.inl rfl) (told_gives C mi) TB hcode hmT hu (hr.mono hj) L hdef hbind hbody
/-! ### new lists -/
section
variable {Z : Zn} {σ : L2.St} {H H0 : Hp} {te ta tb : TE} {vs us : List V} {v : V} {K : PySem.W.Frag}
def El (Z : Zn) (te : TE) (σ : L2.St) (H : Hp) (vs : List V) : Prop := ∀ H1, R Z H H1 → ∀ Q : VK, (∀ l H2, Fr H1 l → R Z H1 H2 → H2 l = some (.lst vs) → Q (.ref l) H2) → te σ H1 Q
theorem el_of (h : ∀ H1, R Z H H1 → EvL te σ H1 vs) : El Z te σ H vs := fun H1 r Q q => h H1 r H1 (Ex.refl H1) Q fun l H2 n e hl => q l H2 (fr_none n) (.of r.b e) hl
theorem El.mono {H1 : Hp} (h : El Z te σ H vs) (r : R Z H H1) : El Z te σ H1 vs := fun H2 r2 => h H2 (r.trans r2)
variable {CW CS CT C : Addr} {f nm : Str} {t : XK → TE}
/-- the call lets an error out -/
theorem el_err (hc : (C = CW ∧ f = "value" ∧ nm = "word") ∨ (C = CS ∧ f = "position" ∧ nm = "words") ∨ (C = CT ∧ f = "line" ∧ nm = "text")) (h : ∀ H1, R Z H H1 → ∀ E Q, Rz C f v H1 E → t E σ H1 Q) : El Z (tLam Z.T (TTold CW CS CT) t) σ H [.str nm, v, .bl true] :=
  fun H1 r Q q => ⟨r.b.1, fun H2 e t2 l hl => by
    have r2 : R Z H1 H2 := .lam r.b e t2
    have r3 : R Z H1 (upd H2 l (.lst [.str "told"])) := r2.new hl
    refine h _ (r.trans r3) _ _ fun d H3 e3 hd => ⟨C, f, nm, v, d, hc, rfl, rfl, hd, fun l2 hl2 => ?_⟩
    have r4 := r3.ex e3
    exact q l2 _ (r4.fr (fr_none hl2)) (r4.new hl2) upd_same⟩
/-- the call is let -/
theorem el_told (h : ∀ H1, R Z H H1 → ∀ E Q, (∀ v H2, R Z H1 H2 → Q v H2) → t E σ H1 Q) : El Z (tLam Z.T (TTold CW CS CT) t) σ H [.str "told"] :=
  fun H1 r Q q => ⟨r.b.1, fun H2 e t2 l hl => by
    have r2 : R Z H1 H2 := .lam r.b e t2
    have r3 : R Z H1 (upd H2 l (.lst [.str "told"])) := r2.new hl
    have fl : Fr H1 l := r2.fr (fr_none hl)
    exact h _ (r.trans r3) _ _ fun v H3 r4 => q l H3 fl (r3.trans r4) (r4.lst upd_same (r.b.fresh fl))⟩
/-- [..] -/
theorem one_lst (h : El Z te σ H vs) (o : Ok Z H) {Q : VK} (k : ∀ r l H1, Fr H r → Fr H l → r ≠ l → R Z H H1 → H1 r = some (.lst vs) → H1 l = some (.lst [.ref r]) → Q (.ref l) H1) : tLst (tCons te tNil) σ H Q :=
  h H (.refl o) _ fun r H1 fr r1 hr => ⟨(by show 1 ≤ sizeLine; decide), fun l hl => by
    have n : r ≠ l := ne_of_none hr hl
    exact k r l _ fr (r1.fr (fr_none hl)) n (r1.new hl) (by rw [upd_ne n]; exact hr) upd_same⟩
/-- l.append(..) -/
theorem q_appR {tj : TE} {D : Ends} {tz : TS} {l : Addr} (hj : ∀ H1 (Q : VK), Q (.ref l) H1 → tj σ H1 Q) (r0 : R Z H0 H) (fl : Fr H0 l) (hu : H l = some (.lst us)) (h : El Z te σ H vs) (hz : us.length < 100000)
    (k : ∀ r H1, Fr H0 r → r ≠ l → R Z H0 H1 → (∀ x o, x ≠ l → H x = some o → NT o → ¬ Z.M x → H1 x = some o) → H1 r = some (.lst vs) → H1 l = some (.lst (us ++ [.ref r])) → tz D σ H1) : tSeq (tDrop (tBM K "list" rAppend tj (tCons te tNil))) tz D σ H := by
  refine hj H _ ⟨.inl ⟨rfl, _, SqL.of hu⟩, h H (.refl r0.b) _ fun r H1 fr r1 hr => ?_⟩
  have n : r ≠ l := (fr_ne fr hu nt_lst).symm
  have hu1 := r1.lst hu (r0.a.fresh fl)
  refine ⟨l, us, .ref r, rfl, rfl, hu1, sz_lt hz, ?_⟩
  exact k r _ (r0.fr fr) n (.mut (r0.trans r1) fl hu1 trivial) (fun x o nx ex nt nm => by rw [upd_ne nx]; exact r1.st x o ex nt nm) (by rw [upd_ne n]; exact hr) upd_same
end
end K11
namespace K11
open PySem PySem.Spec PyProof.Rows L2 Lw Evl LamX
open Rm (R Ok Z0 Zp Fr fr_none fr_ne nt_lst nt_tup nt_dK NT Zn)
open LwX (XC XF)
/-! ### values that are no words, no texts: what they show, whatever is made later -/
def Sok (d : PyData) : Prop := d.shown.length ≤ 2500 ∧ d.depth ≤ 10
/-- what holds wherever some new objects stand -/
def Ft (H0 H : Hp) (G : Hp → Prop) : Prop := ∃ S : List (Addr × HO), (∀ q ∈ S, H0 q.1 = none ∧ NT q.2 ∧ H q.1 = some q.2) ∧ ∀ H2 : Hp, (∀ q ∈ S, H2 q.1 = some q.2) → G H2
section
variable {P : Program} {w : World} {K : PySem.W.Frag} {σ : L2.St} {H H0 H1 H2 : Hp} {te ta tb tr : TE} {tA tR : TA} {v : V} {G G2 : Hp → Prop} {d : PyData} {n m i : Nat}
theorem ft_now (h : Ft H0 H G) : G H := by
  obtain ⟨S, h1, h2⟩ := h
  exact h2 H fun q hq => (h1 q hq).2.2
theorem ft_pure (h : ∀ H2, G H2) : Ft H0 H G := ⟨[], fun _ z => absurd z List.not_mem_nil, fun H2 _ => h H2⟩
theorem ft_up (e : Ex H H1) (h : Ft H0 H G) : Ft H0 H1 G := by
  obtain ⟨S, h1, h2⟩ := h
  exact ⟨S, fun q hq => ⟨(h1 q hq).1, (h1 q hq).2.1, e _ _ (h1 q hq).2.2⟩, h2⟩
theorem ft_dn (e : Ex H0 H1) (h : Ft H1 H G) : Ft H0 H G := by
  obtain ⟨S, h1, h2⟩ := h
  exact ⟨S, fun q hq => ⟨fresh_back e (h1 q hq).1, (h1 q hq).2⟩, h2⟩
theorem ft_and (h : Ft H0 H G) (k : Ft H0 H G2) : Ft H0 H fun H2 => G H2 ∧ G2 H2 := by
  obtain ⟨S, h1, h2⟩ := h
  obtain ⟨U, k1, k2⟩ := k
  exact ⟨S ++ U, fun q hq => (List.mem_append.mp hq).elim (h1 q) (k1 q), fun H2 z => ⟨h2 H2 fun q hq => z q (List.mem_append_left _ hq), k2 H2 fun q hq => z q (List.mem_append_right _ hq)⟩⟩
theorem ft_imp (h : Ft H0 H G) (k : ∀ H2, G H2 → G2 H2) : Ft H0 H G2 := by
  obtain ⟨S, h1, h2⟩ := h
  exact ⟨S, h1, fun H2 z => k H2 (h2 H2 z)⟩
/-- one object more -/
theorem ft_new {a : Addr} {o : HO} (h : Ft H0 H G) (e : Ex H0 H) (na : H a = none) (nt : NT o) : Ft H0 (upd H a o) fun H2 => H2 a = some o ∧ G H2 := by
  obtain ⟨S, h1, h2⟩ := h
  refine ⟨(a, o) :: S, fun q hq => ?_, fun H2 z => ⟨z _ (List.mem_cons_self ..), h2 H2 fun q hq => z q (List.mem_cons_of_mem _ hq)⟩⟩
  rcases List.mem_cons.mp hq with y | y
  · rw [y]
    exact ⟨fresh_back e na, nt, upd_same⟩
  · obtain ⟨z1, z2, z3⟩ := h1 q y
    refine ⟨z1, z2, ?_⟩
    rw [upd_ne (ne_of_none z3 na)]
    exact z3
/-- a part of a tuple; a value in the place of a word -/
def GB (P : Program) (w : World) (K : PySem.W.Frag) (d : PyData) (b : Bool) (v : V) (H : Hp) : Prop := Sw P w H v d ∧ LB K H v b
def GA (P : Program) (w : World) (K : PySem.W.Frag) (d : PyData) (v : V) (H : Hp) : Prop := Sw P w H v d ∧ WB K H v false
def EO (te : TE) (σ : L2.St) (H0 : Hp) (G : V → Hp → Prop) : Prop := ∀ H1, Ex H0 H1 → ∀ Q : VK, (∀ v H2, Ex H1 H2 → Ft H1 H2 (G v) → Q v H2) → te σ H1 Q
abbrev PG (P : Program) (w : World) (K : PySem.W.Frag) (dbs : List (PyData × Bool)) (vs : List V) (H : Hp) : Prop := Paired (fun v (p : PyData × Bool) => GB P w K p.1 p.2 v H) vs dbs
def EB (P : Program) (w : World) (K : PySem.W.Frag) (ta : TA) (σ : L2.St) (H0 : Hp) (dbs : List (PyData × Bool)) : Prop := ∀ H1, Ex H0 H1 → ∀ Q : List V → Hp → Prop, (∀ vs H2, Ex H1 H2 → Ft H1 H2 (PG P w K dbs vs) → Q vs H2) → ta σ H1 Q
theorem eb_nil' : EB P w K tNil σ H [] := fun H1 e Q q => q [] H1 (Ex.refl H1) (ft_pure fun _ => .nil)
theorem eb_cons' {b : Bool} {dbs : List (PyData × Bool)} (h : EO te σ H (GB P w K d b)) (hr : EB P w K tR σ H dbs) : EB P w K (tCons te tR) σ H ((d, b) :: dbs) := fun H1 e Q q =>
  h H1 e _ fun v H2 e2 f2 => hr H2 (e.trans e2) _ fun vs H3 e3 f3 => q (v :: vs) H3 (e2.trans e3) (ft_imp (ft_and (ft_up e3 f2) (ft_dn e2 f3)) fun _ z => .cons z.1 z.2)
theorem sw_tup {a : Addr} {vs : List V} {ds : List PyData} (e : H a = some (.tup vs)) (hp : Paired (Sw P w H) vs ds) : Sw P w H (.ref a) (.tuple ds) := fun h hok u q => by
  cases (show u = Value.ref a from q)
  obtain ⟨_, its, rv, o, ho, hc, n, hd⟩ : vs.length ≤ sizeLine ∧ ∃ its : List Value, Vals vs its ∧ IsTup h a its.toArray := hok a _ e
  obtain ⟨⟨as, ra⟩, bs, hb, hk⟩ := sw_all hok hp rv
  have rd : Reads h (.ref a) (.tuple ds) _ := .tuple ho hc hd (by simpa using ra)
  refine ⟨⟨_, rd⟩, a :: bs, ?_, ?_⟩
  · exact ReadAtMost.cons rd (by simp only [PyData.depth]; omega) hb
  · have na : a ∉ bs := not_mem_of_deeper rd (by simp only [PyData.depth]; omega) hb
    simp only [PyData.depth, PyData.shown]
    exact ReprK.tuple ho hc hd na (by simpa using hk)
theorem pg_sw {dbs : List (PyData × Bool)} : ∀ {vs : List V}, PG P w K dbs vs H → Paired (Sw P w H) vs (dbs.map (·.1)) := fun {vs} h => by
  induction h with
  | nil => exact .nil
  | cons r t ih => exact .cons r.1 ih
theorem pg_lb {dbs : List (PyData × Bool)} : ∀ {vs : List V}, PG P w K dbs vs H → Paired (LB K H) vs (dbs.map (·.2)) := fun {vs} h => by
  induction h with
  | nil => exact .nil
  | cons r t ih => exact .cons r.2 ih
variable {dbs : List (PyData × Bool)}
theorem ga_tup {a : Addr} {vs : List V} (e : H a = some (.tup vs)) (h : PG P w K dbs vs H) (hn : dbs.length ≤ 40000) (hb : (decide (dbs.length ≤ 3) && dbs.all (·.2)) = false) : GA P w K (.tuple (dbs.map (·.1))) (.ref a) H := by
  refine ⟨sw_tup e (pg_sw h), ?_⟩
  have l := Paired.length h
  have z : WB K H (.ref a) (decide (vs.length ≤ 3) && (dbs.map (·.2)).all id) := .tup (SqT.of e) (tyx_tup (SqT.of e)) (by omega) (pg_lb h)
  rw [l, List.all_map, show (dbs.all ((id : Bool → Bool) ∘ fun x => x.2)) = dbs.all (·.2) from rfl, hb] at z
  exact z
theorem eo_tup (h : EB P w K tA σ H dbs) (hn : dbs.length ≤ 40000) (hb : (decide (dbs.length ≤ 3) && dbs.all (·.2)) = false) : EO (tTup tA) σ H (GA P w K (.tuple (dbs.map (·.1)))) := fun H1 e Q q =>
  h H1 e _ fun vs H2 e2 f2 => ⟨sz_of (by rw [Paired.length (ft_now f2)]; omega), fun a na => q _ _ (e2.trans (Ex.new na)) (ft_imp (ft_new f2 e2 na nt_tup) fun H3 z => ga_tup z.1 z.2 hn hb)⟩
theorem eo_lst (h : EB P w K tA σ H dbs) (hn : dbs.length ≤ 40000) : EO (tLst tA) σ H (GA P w K (.list (dbs.map (·.1)))) := fun H1 e Q q =>
  h H1 e _ fun vs H2 e2 f2 => ⟨sz_of (by rw [Paired.length (ft_now f2)]; omega), fun a na => q _ _ (e2.trans (Ex.new na)) (ft_imp (ft_new f2 e2 na nt_lst) fun H3 z => ⟨sw_lst z.1 (pg_sw z.2), .oth (t := "list") (.base (.lst z.1)) rfl⟩)⟩
theorem ei_tup (h : EB P w K tA σ H dbs) (hn : dbs.length ≤ 40000) : EO (tTup tA) σ H (GB P w K (.tuple (dbs.map (·.1))) false) := fun H1 e Q q =>
  h H1 e _ fun vs H2 e2 f2 => ⟨sz_of (by rw [Paired.length (ft_now f2)]; omega), fun a na => q _ _ (e2.trans (Ex.new na)) (ft_imp (ft_new f2 e2 na nt_tup) fun H3 z => ⟨sw_tup z.1 (pg_sw z.2), .oth (t := "tuple") (.base (.tup z.1)) rfl⟩)⟩
theorem ei_lst (h : EB P w K tA σ H dbs) (hn : dbs.length ≤ 40000) : EO (tLst tA) σ H (GB P w K (.list (dbs.map (·.1))) false) := fun H1 e Q q =>
  h H1 e _ fun vs H2 e2 f2 => ⟨sz_of (by rw [Paired.length (ft_now f2)]; omega), fun a na => q _ _ (e2.trans (Ex.new na)) (ft_imp (ft_new f2 e2 na nt_lst) fun H3 z => ⟨sw_lst z.1 (pg_sw z.2), .oth (t := "list") (.base (.lst z.1)) rfl⟩)⟩
theorem eo_dnew : EO tDNewK σ H (GA P w K (.dict [])) := fun H1 e Q q => fun p hp => q _ _ (Ex.new hp) (ft_imp (ft_new (G := fun _ => True) (ft_pure fun _ => trivial) (Ex.refl H1) hp nt_dK) fun H3 z => ⟨sw_of (rw_dk (ds := []) z.1 rfl) rfl (by show (2 : Nat) ≤ sizeLine; decide), .oth (t := "dict") (.base (.dK z.1)) rfl⟩)
theorem eo_ev {G : V → Hp → Prop} (h : Ev te σ H v) (hg : ∀ H2, G v H2) : EO te σ H G := fun H1 e Q q => h H1 e _ fun H2 e2 => q v H2 e2 (ft_pure hg)
/-! scalars -/
theorem ga_non (H : Hp) : GA P w K .none .non H := ⟨sw_of rw_non rfl (by show (4 : Nat) ≤ sizeLine; decide), .oth (t := "NoneType") (.base .non) rfl⟩
theorem ga_bl (b : Bool) (H : Hp) : GA P w K (.bool b) (.bl b) H := ⟨sw_of (rw_bl b) rfl (by cases b <;> decide +kernel), .oth (t := "bool") (.base (.bl b)) rfl⟩
theorem ga_int (i : Int) (H : Hp) (h : 0 ≤ i ∧ i ≤ 9) : GA P w K (.int i) (.int i) H := ⟨sw_of (rw_int i) (by
    obtain ⟨m, rfl⟩ := Int.eq_ofNat_of_zero_le h.1
    have : m ≤ 9 := by omega
    simp only [PyData.showable, decide_eq_true_eq]
    exact Nat.lt_of_le_of_lt (Nat.log2_le_self _) (by simp; omega)) (by
    obtain ⟨m, rfl⟩ := Int.eq_ofNat_of_zero_le h.1
    have : m ≤ 9 := by omega
    rcases (by omega : m = 0 ∨ m = 1 ∨ m = 2 ∨ m = 3 ∨ m = 4 ∨ m = 5 ∨ m = 6 ∨ m = 7 ∨ m = 8 ∨ m = 9) with rfl | rfl | rfl | rfl | rfl | rfl | rfl | rfl | rfl | rfl <;> decide +kernel), .oth (t := "int") (.base (.int i)) rfl⟩
/-- a text whose signs are all of the first plane -/
structure Tok' (s : Str) (n : Nat) : Prop where
  len : s.length ≤ n
  cps : ∀ c ∈ s.cps.toList, c < 65536
theorem tok_shown {s : Str} (h : Tok' s n) : (PyData.str s).shown.length ≤ 10 * n + 2 := by
  have z := PySem.StrLaws.reprText_len s fun c hc => Nat.lt_trans (h.cps c hc) (by decide)
  have := h.len
  simp only [PyData.shown]
  omega
theorem sw_str {s : Str} (h : Tok' s 100) (H : Hp) : Sw P w H (.str s) (.str s) := sw_of (rw_str s) rfl (Nat.le_trans (tok_shown h) (by decide))
theorem ga_str {s : Str} (h : Tok' s 100) (H : Hp) : GA P w K (.str s) (.str s) H := ⟨sw_str h H, .oth (t := "str") (.base (.str s)) rfl⟩
theorem gb_str {s : Str} {b : Bool} (h : Tok' s 100) (hb : isL s = b) (H : Hp) : GB P w K (.str s) b (.str s) H := by
  subst hb
  exact ⟨sw_str h H, .str s (by have := h.len; omega)⟩
theorem gb_of {v : V} (h : ∀ H, GA P w K d v H) (t : String) (ht : ∀ H, TyX K H v (.type t)) (hk : kitB t "str" = some false) (H : Hp) : GB P w K d false v H := ⟨(h H).1, .oth (ht H) hk⟩
end
end K11
namespace K11
open PySem PySem.Spec PyProof.Rows L2 Lw Evl LamX TL
open Rm (R Ok Z0 Zp Fr fr_none fr_ne nt_lst nt_tup nt_dK NT Zn)
open LwX (XC XF)
/-! ### texts made of a letter -/
def rMulX : R2 := fun x y H Q => ∃ (z : Str) (k : Int), x = .str z ∧ y = .int k ∧ 1 ≤ k ∧ k ≤ 9 ∧ z.length ≤ 8 ∧ Q (.str (Txt.mul z k)) H
theorem op_mulX {X : Cx} : OpR X (binaryOp .Mult) rMulX := by
  intro pins s σ H x y v u Q I rx ry h
  obtain ⟨z, k, rfl, rfl, k1, k9, hz, q⟩ := h
  obtain ⟨t, rfl⟩ := rx
  obtain ⟨t', rfl⟩ := ry
  refine SB.mul ⟨?_, fun _ _ => ?_, fun _ _ => ?_⟩ fun t' tk => ⟨.str (Txt.mul z k), H, I.tok _, ⟨_, rfl⟩, q⟩
  · rw [decide_eq_false (by omega), decide_eq_false (by omega)]
    rfl
  · have h8 : (8 : Int) ≤ (2 ^ 63 - 1) / k := Int.le_ediv_of_mul_le (by omega) (by omega)
    omega
  · refine short24 ?_
    have h2 : k.toNat ≤ 9 := by omega
    have h3 := Nat.mul_le_mul hz h2
    omega
/-- the first sign, nine times -/
def nine (c : Nat) : Str := ⟨#[c, c, c, c, c, c, c, c, c]⟩
theorem mul_nine (c : Nat) : Txt.mul ⟨#[c]⟩ 9 = nine c := rfl
theorem cut_one {s : Str} {c : Nat} {r : List Nat} (h : s.cps.toList = c :: r) : cutS s none (some 1) = ⟨#[c]⟩ := by
  have l : s.length = r.length + 1 := by
    show s.cps.size = _
    rw [← Array.length_toList, h]
    rfl
  unfold cutS
  have e1 : HT.sIx s.length 0 none = 0 := rfl
  have e2 : HT.sIx s.length s.length (some 1) = 1 := by
    unfold HT.sIx
    rw [l]
    simp
    try omega
  rw [e1, e2, h]
  rfl
/-- what is known of a letter -/
structure Let (s : Str) (c : Nat) (r : List Nat) : Prop where
  cps : s.cps.toList = c :: r
  len : r.length ≤ 7
  az : ∀ x ∈ c :: r, 97 ≤ x ∧ x ≤ 122
theorem let_of {s : Str} (h : isL s = true) : ∃ c r, Let s c r := by
  obtain ⟨⟨h1, h2⟩, h3⟩ := isL_iff.mp h
  cases e : s.cps.toList with
  | nil =>
    rw [e] at h1
    exact absurd h1 (by decide)
  | cons c r =>
    rw [e] at h2 h3
    exact ⟨c, r, e, by rw [List.length_cons] at h2; omega, h3⟩
theorem cps_app (a b : Str) : (a ++ b).cps.toList = a.cps.toList ++ b.cps.toList := by
  show (a.cps ++ b.cps).toList = _
  simp
section
variable {s : Str} {c : Nat} {r : List Nat}
theorem Let.lenS (h : Let s c r) : s.length ≤ 8 := by
  show s.cps.size ≤ 8
  rw [← Array.length_toList, h.cps, List.length_cons]
  have := h.len
  omega
theorem Let.tok (h : Let s c r) : Tok' s 8 := ⟨h.lenS, fun x hx => by
  rw [h.cps] at hx
  have := h.az x hx
  omega⟩
theorem tok_mono {n m : Nat} (h : Tok' s n) (hm : n ≤ m) : Tok' s m := ⟨Nat.le_trans h.len hm, h.cps⟩
theorem tok_app {a b : Str} {n m : Nat} (h : Tok' a n) (k : Tok' b m) : Tok' (a ++ b) (n + m) := ⟨by
  have := h.len
  have := k.len
  rw [len_app]
  omega, fun x hx => by
  rw [cps_app] at hx
  exact (List.mem_append.mp hx).elim (h.cps x) (k.cps x)⟩
theorem tok_c {s : Str} {n : Nat} (h : (decide (s.length ≤ n) && s.cps.toList.all fun c => decide (c < 65536)) = true) : Tok' s n := by
  obtain ⟨h1, h2⟩ := Bool.and_eq_true_iff.mp h
  exact ⟨of_decide_eq_true h1, fun c hc => of_decide_eq_true (List.all_eq_true.mp h2 c hc)⟩
theorem Let.nine (h : Let s c r) : Tok' (nine c) 9 := ⟨by show (9 : Nat) ≤ 9; decide, fun x hx => by
  have := h.az c (List.mem_cons_self ..)
  have e : x = c := by simpa [K11.nine] using hx
  omega⟩
theorem nine_not (c : Nat) : isL (nine c) = false := by
  unfold isL
  rfl
theorem up_toList (h : Let s c r) : (Txt.upper s).cps.toList = (c - 32) :: r.map up1 := by
  rw [upper_ascii fun x hx => by
    rw [h.cps] at hx
    have := h.az x hx
    omega]
  show (s.cps.map up1).toList = _
  rw [Array.toList_map, h.cps, List.map_cons]
  have := h.az c (List.mem_cons_self ..)
  rw [show up1 c = c - 32 from if_pos this]
theorem Let.upTok (h : Let s c r) : Tok' (Txt.upper s) 24 := ⟨Nat.le_trans (len_upper s) (by have := h.lenS; omega), fun x hx => by
  rw [up_toList h] at hx
  have a := h.az c (List.mem_cons_self ..)
  rcases List.mem_cons.mp hx with rfl | hx
  · omega
  · obtain ⟨y, hy, rfl⟩ := List.mem_map.mp hx
    have b := h.az y (List.mem_cons_of_mem _ hy)
    unfold up1
    split <;> omega⟩
theorem not_letter {s : Str} {x : Nat} (hx : x ∈ s.cps.toList) (h : ¬ (97 ≤ x ∧ x ≤ 122)) : isL s = false := by
  cases e : isL s with
  | false => rfl
  | true => exact absurd ((isL_iff.mp e).2 x hx) h
theorem Let.upNot (h : Let s c r) : isL (Txt.upper s) = false := not_letter (x := c - 32) (by rw [up_toList h]; exact List.mem_cons_self ..) (by
  have a := h.az c (List.mem_cons_self ..)
  omega)
theorem app_not {a b : Str} {x : Nat} (hx : x ∈ b.cps.toList) (h : ¬ (97 ≤ x ∧ x ≤ 122)) : isL (a ++ b) = false := not_letter (x := x) (by rw [cps_app]; exact List.mem_append_right _ hx) h
theorem app_not' {a b : Str} {x : Nat} (hx : x ∈ a.cps.toList) (h : ¬ (97 ≤ x ∧ x ≤ 122)) : isL (a ++ b) = false := not_letter (x := x) (by rw [cps_app]; exact List.mem_append_left _ hx) h
end
end K11
namespace K11
open PySem PySem.Spec PyProof.Rows L2 Lw Evl LamX TL
open Rm (R Ok Z0 Zp Fr fr_none fr_ne nt_lst nt_tup nt_dK NT Zn)
open LwX (XC XF)
/-! ### lists of such values -/
/-- a kind of value that stands while heaps grow -/
structure Up (B : Hp → Hp → V → Prop) : Prop where
  up : ∀ {H0 H H1 : Hp} {v : V}, Ex H H1 → B H0 H v → B H0 H1 v
  dn : ∀ {H0 H H1 : Hp} {v : V}, Ex H0 H1 → B H1 H v → B H0 H v
section
variable {P : Program} {w : World} {K : PySem.W.Frag} {B : Hp → Hp → V → Prop} {σ : L2.St} {H H0 H1 : Hp} {te ta tb : TE} {tA tR : TA} {v : V} {n m i : Nat}
def EA (B : Hp → Hp → V → Prop) (ta : TA) (σ : L2.St) (H0 : Hp) (n : Nat) : Prop := ∀ H1, Ex H0 H1 → ∀ Q : List V → Hp → Prop, (∀ vs H2, Ex H1 H2 → vs.length = n → (∀ v ∈ vs, B H1 H2 v) → Q vs H2) → ta σ H1 Q
theorem ea0 : EA B tNil σ H 0 := fun H1 e Q q => q [] H1 (Ex.refl H1) rfl fun _ z => absurd z List.not_mem_nil
theorem ea1 (U : Up B) (h : ∀ H1, Ex H H1 → ∀ Q : VK, (∀ v H2, Ex H1 H2 → B H1 H2 v → Q v H2) → te σ H1 Q) (hr : EA B tR σ H n) : EA B (tCons te tR) σ H (n + 1) := fun H1 e Q q =>
  h H1 e _ fun v H2 e2 f2 => hr H2 (e.trans e2) _ fun vs H3 e3 hl f3 => q (v :: vs) H3 (e2.trans e3) (by rw [List.length_cons, hl]) fun u hu => by
    rcases List.mem_cons.mp hu with rfl | hu
    · exact U.up e3 f2
    · exact U.dn e2 (f3 u hu)
/-- a list of n of them, new since H0 -/
def OL (B : Hp → Hp → V → Prop) (H0 H : Hp) (r : Addr) (n : Nat) : Prop := ∃ vs, H r = some (.lst vs) ∧ vs.length = n ∧ ∀ v ∈ vs, B H0 H v
theorem ol_up (U : Up B) {r : Addr} (e : Ex H H1) (h : OL B H0 H r n) : OL B H0 H1 r n := by
  obtain ⟨vs, h1, h2, h3⟩ := h
  exact ⟨vs, e _ _ h1, h2, fun v hv => U.up e (h3 v hv)⟩
def EL (B : Hp → Hp → V → Prop) (te : TE) (σ : L2.St) (H0 H : Hp) (n : Nat) : Prop := ∀ H1, Ex H H1 → ∀ Q : VK, (∀ r H2, H1 r = none → Ex H1 H2 → OL B H0 H2 r n → Q (.ref r) H2) → te σ H1 Q
theorem el_lst' (U : Up B) (h : EA B tA σ H n) (e0 : Ex H0 H) (hn : n ≤ 1000) : EL B (tLst tA) σ H0 H n := fun H1 e Q q =>
  h H1 e _ fun vs H2 e2 hl f => ⟨sz_of (by omega), fun p hp => q p _ (fresh_back e2 hp) (e2.trans (Ex.new hp)) ⟨vs, upd_same, hl, fun v hv => U.up (Ex.new hp) (U.dn (e0.trans e) (f v hv))⟩⟩
theorem el_cat' (U : Up B) {a : Addr} (ha : Ev ta σ H (.ref a)) (hl : OL B H0 H a n) (hb : EL B tb σ H0 H m) (hz : n + m ≤ 1000) : EL B (tOp rCat ta tb) σ H0 H (n + m) := fun H1 e Q q => ha H1 e _ fun H2 e2 => hb H2 (e.trans e2) _ fun r H3 hr e3 hR => by
  obtain ⟨vs, v1, v2, v3⟩ := ol_up U ((e.trans e2).trans e3) hl
  obtain ⟨us, u1, u2, u3⟩ := hR
  refine ⟨a, r, vs, us, rfl, rfl, v1, u1, sz_of (by omega), fun t ht => q t _ (fresh_back (e2.trans e3) ht) ((e2.trans e3).trans (Ex.new ht)) ⟨vs ++ us, upd_same, by rw [List.length_append, v2, u2], fun v hv => ?_⟩⟩
  rcases List.mem_append.mp hv with hv | hv
  · exact U.up (Ex.new ht) (v3 v hv)
  · exact U.up (Ex.new ht) (u3 v hv)
theorem q_asgEL {tz : TS} {D : Ends} (h : EL B te σ H0 H n) (k : ∀ r H1, H r = none → Ex H H1 → OL B H0 H1 r n → tz D (σ.set i (some (.ref r))) H1) : tSeq (tAsg te (gName i)) tz D σ H := h H (Ex.refl H) _ k
/-- what is no word: it shows as d -/
def OW (P : Program) (w : World) (K : PySem.W.Frag) (H0 H : Hp) (v : V) : Prop := ∃ d, Sok d ∧ Ft H0 H (GA P w K d v)
theorem up_ow : Up (OW P w K) := ⟨fun e ⟨d, h1, h2⟩ => ⟨d, h1, ft_up e h2⟩, fun e ⟨d, h1, h2⟩ => ⟨d, h1, ft_dn e h2⟩⟩
theorem ow_of {d : PyData} (h : EO te σ H (GA P w K d)) (hd : Sok d) : ∀ H1, Ex H H1 → ∀ Q : VK, (∀ v H2, Ex H1 H2 → OW P w K H1 H2 v → Q v H2) → te σ H1 Q := fun H1 e Q q => h H1 e Q fun v H2 e2 f => q v H2 e2 ⟨d, hd, f⟩
/-- what is no word's text -/
def BT (K : PySem.W.Frag) (v : V) (H : Hp) : Prop := (∃ t : String, TyX K H v (.type t) ∧ kitB t "str" = some false) ∨
  ∃ (s : Str) (ys : List Str), v = .str s ∧ s ≠ "-" ∧ s.length ≤ 1000 ∧ Txt.split s "." = ys ∧ ys.length ≤ 1000 ∧ (∀ y ∈ ys, y.length ≤ 1000) ∧ isW ys = false
def OT (K : PySem.W.Frag) (H0 H : Hp) (v : V) : Prop := Ft H0 H (BT K v)
theorem up_ot : Up (OT K) := ⟨fun e h => ft_up e h, fun e h => ft_dn e h⟩
theorem dict_len {s : Str} (h : Tok' s 8) : (PyData.dict [(.str s, .int 1)]).shown.length ≤ 100 := by
  have a := tok_shown h
  have z := dictText_len_le (PyData.shownKv [(.str s, .int 1)])
  have e : (PyData.int 1).shown.length ≤ 1 := by decide +kernel
  simp only [PyData.shown, PyData.shownKv, List.map_cons, List.map_nil, List.sum_cons, List.sum_nil, List.length_cons, List.length_nil] at z a e ⊢
  rw [len_app, len_app, show Str.length ": " = 2 from rfl] at z
  omega
/-! sizes of what is shown -/
def Sz (n k : Nat) (d : PyData) : Prop := d.shown.length ≤ n ∧ d.depth ≤ k
theorem sz_up {n k n' k' : Nat} {d : PyData} (h : Sz n k d) (a : n ≤ n') (b : k ≤ k') : Sz n' k' d := ⟨Nat.le_trans h.1 a, Nat.le_trans h.2 b⟩
theorem sz_sum {n k : Nat} : ∀ {ds : List PyData}, (∀ d ∈ ds, Sz n k d) → ((PyData.shownAll ds).map (·.length)).sum ≤ n * ds.length ∧ (PyData.shownAll ds).length = ds.length ∧ PyData.depthAll ds ≤ k
  | [], _ => ⟨by simp [PyData.shownAll], by simp [PyData.shownAll], by simp [PyData.depthAll]⟩
  | d :: ds, h => by
    obtain ⟨a, b, c⟩ := sz_sum fun x hx => h x (List.mem_cons_of_mem _ hx)
    obtain ⟨h1, h2⟩ := h d (List.mem_cons_self ..)
    refine ⟨?_, by simp [PyData.shownAll, b], by simp only [PyData.depthAll]; omega⟩
    simp only [PyData.shownAll, List.map_cons, List.sum_cons, List.length_cons, Nat.mul_succ]
    omega
theorem sz_lst {n k m : Nat} {ds : List PyData} (h : ∀ d ∈ ds, Sz n k d) (hm : n * ds.length + 2 * ds.length + 3 ≤ m) : Sz m (k + 1) (.list ds) := by
  obtain ⟨a, b, c⟩ := sz_sum h
  have z := listText_len_le (PyData.shownAll ds)
  exact ⟨by simp only [PyData.shown]; omega, by simp only [PyData.depth]; omega⟩
theorem sz_tup {n k m : Nat} {ds : List PyData} (h : ∀ d ∈ ds, Sz n k d) (hm : n * ds.length + 2 * ds.length + 3 ≤ m) : Sz m (k + 1) (.tuple ds) := by
  obtain ⟨a, b, c⟩ := sz_sum h
  have z := tupleText_len_le (PyData.shownAll ds)
  exact ⟨by simp only [PyData.shown]; omega, by simp only [PyData.depth]; omega⟩
theorem sz_str {s : Str} {n : Nat} (h : Tok' s n) (hn : n ≤ 30) : Sz 302 0 (.str s) := ⟨Nat.le_trans (tok_shown h) (by omega), by simp [PyData.depth]⟩
theorem sz_non : Sz 302 0 .none := ⟨by decide +kernel, by simp [PyData.depth]⟩
theorem sz_bl (b : Bool) : Sz 302 0 (.bool b) := ⟨by cases b <;> decide +kernel, by simp [PyData.depth]⟩
theorem sz_int (i : Int) (h : 0 ≤ i ∧ i ≤ 9) : Sz 302 0 (.int i) := ⟨by
    obtain ⟨m, rfl⟩ := Int.eq_ofNat_of_zero_le h.1
    have : m ≤ 9 := by omega
    rcases (by omega : m = 0 ∨ m = 1 ∨ m = 2 ∨ m = 3 ∨ m = 4 ∨ m = 5 ∨ m = 6 ∨ m = 7 ∨ m = 8 ∨ m = 9) with rfl | rfl | rfl | rfl | rfl | rfl | rfl | rfl | rfl | rfl <;> decide +kernel, by simp [PyData.depth]⟩
theorem sok_of {n k : Nat} {d : PyData} (h : Sz n k d) (a : n ≤ 2500) (b : k ≤ 10) : Sok d := ⟨Nat.le_trans h.1 a, Nat.le_trans h.2 b⟩
theorem eo_dict1 {s : Str} (ht : Tok' s 8) (hk : Ev ta σ H (.str s)) (hv : Ev tb σ H (.int 1)) : EO (tDisp [(ta, tb)]) σ H (GA P w K (.dict [(.str s, .int 1)])) := fun H1 e Q q => fun p hp => hk _ (e.trans (Ex.new hp)) _ fun H2 e2 => hv _ ((e.trans (Ex.new hp)).trans e2) _ fun H3 e3 => by
  have e13 : Ex H1 (upd H3 p (.dK [(.inr s, .int 1)])) := Ex.mut (((Ex.new hp).trans e2).trans e3) hp
  refine ⟨e3 _ _ (e2 _ _ upd_same), [(.inr s, .int 1)], rfl, (by show 1 ≤ 15; decide), q _ _ e13 ⟨[(p, .dK [(.inr s, .int 1)])], fun q hq => ?_, fun H4 z => ?_⟩⟩
  · rw [List.mem_singleton.mp hq]
    exact ⟨hp, nt_dK, upd_same⟩
  · have z := z _ (List.mem_singleton.mpr rfl)
    refine ⟨sw_of (rw_dk (ds := [.int 1]) z rfl) (by rw [PyData.showable]; simp only [List.zipWith, PyData.showableKv, kD, PyData.showable, Bool.and_true, Bool.true_and, decide_eq_true_eq]; decide +kernel) ?_, .oth (t := "dict") (.base (.dK z)) rfl⟩
    exact Nat.le_trans (dict_len ht) (by decide)
theorem ev_addX {a b : Str} (ha : Ev ta σ H (.str a)) (hb : Ev tb σ H (.str b)) (hz : a.length + b.length ≤ 1000) : Ev (tOp (fun x y H Q => ∃ i j, x = V.str i ∧ y = V.str j ∧ i.length + j.length ≤ sizeLine ∧ Q (.str (i ++ j)) H) ta tb) σ H (.str (a ++ b)) := fun H1 e Q q =>
  ha H1 e _ fun H2 e2 => hb H2 (e.trans e2) _ fun H3 e3 => ⟨a, b, rfl, rfl, sz_of (by omega), q H3 (e2.trans e3)⟩
theorem ev_nine {s : Str} {c : Nat} {r : List Nat} (h : Let s c r) {to th : TO} (ha : Ev ta σ H (.str s)) (h1 : EvO to σ H none) (h2 : EvO th σ H (some 1)) : Ev (tOp rMulX (tSl rSlS ta to th) (tC (.int 9))) σ H (.str (nine c)) := fun H1 e Q q =>
  ha H1 e _ fun H2 e2 => h1 H2 (e.trans e2) _ fun H3 e3 => h2 H3 ((e.trans e2).trans e3) _ fun H4 e4 => by
    refine ⟨s, rfl, sz_of (by have := h.lenS; omega), ?_⟩
    rw [cut_one h.cps]
    exact ⟨⟨#[c]⟩, 9, rfl, rfl, by decide, by decide, by show (1 : Nat) ≤ 8; decide, by rw [mul_nine]; exact q H4 ((e2.trans e3).trans e4)⟩
theorem ev_up {s : Str} (ha : Ev ta σ H (.str s)) (hz : s.length ≤ 1000) : Ev (tM0 (fun x xs H Q => ∃ a, x = V.str a ∧ xs = [] ∧ a.length ≤ 5592405 ∧ Q (.str (Txt.upper a)) H) ta) σ H (.str (Txt.upper s)) := fun H1 e Q q =>
  ha H1 e _ fun H2 e2 => ⟨⟨s, rfl⟩, s, rfl, rfl, by omega, q H2 e2⟩
/-- the values that are no words -/
def spNoRows (P : Program) (w : World) (K : PySem.W.Frag) : Sp := fun vs H Q _ => ∃ (l : Addr) (xs : List Str), vs = [.ref l] ∧ H l = some (.lst (xs.map V.str)) ∧ 0 < xs.length ∧ (∀ x ∈ xs, isL x = true) ∧ ∀ r H', H r = none → Ex H H' → OL (OW P w K) H H' r 23 → Q (.ref r) H'
variable {mg : Str → Option Value} {base : Heap}
abbrev s_no_rows : Stmt := topS 33
theorem sc_no_rows : FnScope ["_law_signs_here", "_law_one", "_law_found"] ["_law_signs_here"] (defScope s_no_rows) := ⟨rfl, rfl, rfl, by decide +kernel, rfl, by decide +kernel, by decide +kernel⟩
theorem ok_no_rows {f : Addr} {fd : FuncData} (F : FunD K "_law_no_rows" "_law_no_rows" (defArgs s_no_rows) (defBody s_no_rows) (defScope s_no_rows) [] [] f fd) (T : Tx P w K mg base)  : FnG P w K mg base CX0 1 f fd ["_law_signs_here"] (spNoRows P w K) := by
  refine fnG F sc_no_rows (fun vs H Q E h => ?_) (fun cdv A outer s H vs Q E gd hr h => ?_)
  · obtain ⟨l, xs, rfl, _⟩ := h
    rfl
  · skip
    refine ⟨_, PSs.nox ((pss_cons (ps_set (i := 1) sc_no_rows.nd rfl (by first | exact Or.inl rfl | exact Or.inr rfl) (pe_ix (ix_listK (K := K)) (pv 0) pe_int (fun _ _ => rfl)))
      (pss_cons (ps_set (i := 2) sc_no_rows.nd rfl (by first | exact Or.inl rfl | exact Or.inr rfl) (pe_lst (pa_cons pe_non (pa_cons pe_bl (pa_cons pe_int (pa_cons pe_int (pa_cons pe_str (pa_cons (pv 1) (pa_cons pe_str (pa_cons (pe_lst pa_nil) (pa_cons (pe_lst (pa_cons (pv 1) pa_nil)) (pa_cons pe_dnewK (pa_cons (pe_disp (pps_cons (pv 1) pe_int pps_nil) (by rfl) (by rfl) (fun z => by cases z) (by decide)) (pa_cons (pe_tup (pa_cons (pe_upper (pv 1)) pa_nil)) (pa_cons (pe_tup (pa_cons pe_str pa_nil)) (pa_cons (pe_tup (pa_cons (pe_op op_add_str (pv 1) pe_str) pa_nil)) (pa_cons (pe_tup (pa_cons pe_non pa_nil)) pa_nil)))))))))))))))))
      (pss_cons (ps_set (i := 2) sc_no_rows.nd rfl (by first | exact Or.inl rfl | exact Or.inr rfl) (pe_op op_cat (pv 2) (pe_lst (pa_cons (pe_tup (pa_cons pe_int pa_nil)) (pa_cons (pe_tup (pa_cons pe_bl pa_nil)) (pa_cons (pe_tup (pa_cons (pe_tup (pa_cons (pv 1) pa_nil)) pa_nil)) (pa_cons (pe_tup (pa_cons (pe_lst (pa_cons (pv 1) pa_nil)) pa_nil)) (pa_cons (pe_tup (pa_cons (pv 1) (pa_cons (pv 1) (pa_cons (pv 1) (pa_cons (pv 1) pa_nil))))) (pa_cons (pe_tup (pa_cons (pv 1) (pa_cons pe_non pa_nil))) pa_nil)))))))))
      (pss_one (ps_ret (pe_op op_cat (pv 2) (pe_lst (pa_cons (pe_tup (pa_cons (pe_op op_mulX (pe_slice sl_str (pv 1) po_none (po_some pe_int)) pe_int) pa_nil)) (pa_cons (pe_tup (pa_cons (pv 1) (pa_cons pe_str pa_nil))) pa_nil)))))))))), ?_⟩
    obtain ⟨l, xs, rfl, hl, hx0, hx, q⟩ := h
    have h0 : xs[0]? = some xs[0] := List.getElem?_eq_getElem hx0
    have hL := hx xs[0] (List.getElem_mem hx0)
    generalize xs[0] = s at h0 hL
    obtain ⟨c, r, hs⟩ := let_of hL
    have tk := hs.tok
    have t30 : Tok' s 30 := tok_mono tk (by decide)
    refine q_asg (v := .str s) (ev_op (ev_var rfl) ev_c (rv_ixL (SqL.of hl) (show atI (xs.map V.str) ((0 : Nat) : Int) = some (.str s) from atI_nat (by rw [List.getElem?_map, h0]; rfl)))) fun H1 e1 => ?_
    have one : ∀ {x : Option V} {H' : Hp}, Ev (tVar 1) [some (.ref l), some (.str s), x] H' (.str s) := ev_var rfl
    have gs : ∀ {x : Option V} {H' : Hp}, EO (tVar 1) [some (.ref l), some (.str s), x] H' (GB P w K (.str s) true) := eo_ev one (gb_str (tok_mono tk (by decide)) hL)
    have zs : Sz 302 0 (.str s) := sz_str t30 (Nat.le_refl _)
    have z1 : ∀ {d : PyData}, Sz 302 0 d → ∀ x ∈ [d], Sz 302 0 x := fun h x hx => by rw [List.mem_singleton.mp hx]; exact h
    have con : ∀ {y : Str} {x : Option V} {H' : Hp}, Tok' y 30 → EO (tC (.str y)) [some (.ref l), some (.str s), x] H' (GA P w K (.str y)) := fun h => eo_ev ev_c (ga_str (tok_mono h (by decide)))
    refine q_asgEL (B := OW P w K) (H0 := H) (n := 15) (el_lst' up_ow
      (ea1 up_ow (ow_of (eo_ev ev_c ga_non) (sok_of sz_non (by decide) (by decide)))
      (ea1 up_ow (ow_of (eo_ev ev_c (ga_bl true)) (sok_of (sz_bl true) (by decide) (by decide)))
      (ea1 up_ow (ow_of (eo_ev ev_c fun H => ga_int 0 H (by decide)) (sok_of (sz_int 0 (by decide)) (by decide) (by decide)))
      (ea1 up_ow (ow_of (eo_ev ev_c fun H => ga_int 3 H (by decide)) (sok_of (sz_int 3 (by decide)) (by decide) (by decide)))
      (ea1 up_ow (ow_of (con (tok_c (by decide +kernel))) (sok_of (sz_str (n := 30) (tok_c (by decide +kernel)) (Nat.le_refl _)) (by decide) (by decide)))
      (ea1 up_ow (ow_of (eo_ev one (ga_str (tok_mono tk (by decide)))) (sok_of zs (by decide) (by decide)))
      (ea1 up_ow (ow_of (con (tok_c (by decide +kernel))) (sok_of (sz_str (n := 30) (tok_c (by decide +kernel)) (Nat.le_refl _)) (by decide) (by decide)))
      (ea1 up_ow (ow_of (eo_lst (dbs := []) eb_nil' (by decide)) (sok_of (sz_lst (n := 302) (k := 0) (m := 2000) (fun _ z => absurd z List.not_mem_nil) (by decide)) (by decide) (by decide)))
      (ea1 up_ow (ow_of (eo_lst (dbs := [(.str s, true)]) (eb_cons' gs eb_nil') (Nat.le_of_ble_eq_true rfl)) (sok_of (sz_lst (m := 2000) (z1 zs) (Nat.le_of_ble_eq_true rfl)) (by decide) (by decide)))
      (ea1 up_ow (ow_of eo_dnew ⟨by decide +kernel, by decide +kernel⟩)
      (ea1 up_ow (ow_of (eo_dict1 tk one ev_c) ⟨Nat.le_trans (dict_len tk) (by decide), by simp [PyData.depth, PyData.depthKv]⟩)
      (ea1 up_ow (ow_of (eo_tup (dbs := [(.str (Txt.upper s), false)]) (eb_cons' (eo_ev (ev_up one (by have := tk.len; omega)) (gb_str (tok_mono hs.upTok (by decide)) hs.upNot)) eb_nil') (Nat.le_of_ble_eq_true rfl) rfl) (sok_of (sz_tup (m := 2000) (z1 (sz_str hs.upTok (by decide))) (Nat.le_of_ble_eq_true rfl)) (by decide) (by decide)))
      (ea1 up_ow (ow_of (eo_tup (dbs := [(.str "", false)]) (eb_cons' (eo_ev ev_c (gb_str (tok_c (by decide +kernel)) (by decide +kernel))) eb_nil') (Nat.le_of_ble_eq_true rfl) rfl) (sok_of (sz_tup (m := 2000) (z1 (sz_str (n := 30) (tok_c (by decide +kernel)) (Nat.le_refl _))) (Nat.le_of_ble_eq_true rfl)) (by decide) (by decide)))
      (ea1 up_ow (ow_of (eo_tup (dbs := [(.str (s ++ " "), false)]) (eb_cons' (eo_ev (ev_addX one ev_c (by have := tk.len; show s.length + 1 ≤ 1000; omega)) (gb_str (tok_mono (tok_app (m := 1) tk (tok_c (by decide +kernel))) (by decide)) (app_not (x := 32) (by decide +kernel) (by decide)))) eb_nil') (Nat.le_of_ble_eq_true rfl) rfl) (sok_of (sz_tup (m := 2000) (z1 (sz_str (n := 9) (tok_app (m := 1) tk (tok_c (by decide +kernel))) (by decide))) (Nat.le_of_ble_eq_true rfl)) (by decide) (by decide)))
      (ea1 up_ow (ow_of (eo_tup (dbs := [(.none, false)]) (eb_cons' (eo_ev ev_c (gb_of ga_non "NoneType" (fun _ => .base .non) rfl)) eb_nil') (Nat.le_of_ble_eq_true rfl) rfl) (sok_of (sz_tup (m := 2000) (z1 sz_non) (Nat.le_of_ble_eq_true rfl)) (by decide) (by decide)))
      ea0))))))))))))))) e1 (by decide)) fun r1 H2 hr1 e2 o1 => ?_
    refine q_asgEL (B := OW P w K) (H0 := H) (n := 21) (el_cat' (n := 15) (m := 6) up_ow (ev_var rfl) o1 (el_lst' up_ow
      (ea1 up_ow (ow_of (eo_tup (dbs := [(.int 1, false)]) (eb_cons' (eo_ev ev_c (gb_of (fun H => ga_int 1 H (by decide)) "int" (fun _ => .base (.int 1)) rfl)) eb_nil') (Nat.le_of_ble_eq_true rfl) rfl) (sok_of (sz_tup (m := 2000) (z1 (sz_int 1 (by decide))) (Nat.le_of_ble_eq_true rfl)) (by decide) (by decide)))
      (ea1 up_ow (ow_of (eo_tup (dbs := [(.bool true, false)]) (eb_cons' (eo_ev ev_c (gb_of (ga_bl true) "bool" (fun _ => .base (.bl true)) rfl)) eb_nil') (Nat.le_of_ble_eq_true rfl) rfl) (sok_of (sz_tup (m := 2000) (z1 (sz_bl true)) (Nat.le_of_ble_eq_true rfl)) (by decide) (by decide)))
      (ea1 up_ow (ow_of (eo_tup (dbs := [(.tuple [.str s], false)]) (eb_cons' (ei_tup (dbs := [(.str s, true)]) (eb_cons' gs eb_nil') (Nat.le_of_ble_eq_true rfl)) eb_nil') (Nat.le_of_ble_eq_true rfl) rfl) (sok_of (sz_tup (n := 400) (k := 1) (m := 2000) (fun x hx => by rw [List.mem_singleton.mp hx]; exact sz_tup (z1 zs) (Nat.le_of_ble_eq_true rfl)) (Nat.le_of_ble_eq_true rfl)) (by decide) (by decide)))
      (ea1 up_ow (ow_of (eo_tup (dbs := [(.list [.str s], false)]) (eb_cons' (ei_lst (dbs := [(.str s, true)]) (eb_cons' gs eb_nil') (Nat.le_of_ble_eq_true rfl)) eb_nil') (Nat.le_of_ble_eq_true rfl) rfl) (sok_of (sz_tup (n := 400) (k := 1) (m := 2000) (fun x hx => by rw [List.mem_singleton.mp hx]; exact sz_lst (z1 zs) (Nat.le_of_ble_eq_true rfl)) (Nat.le_of_ble_eq_true rfl)) (by decide) (by decide)))
      (ea1 up_ow (ow_of (eo_tup (dbs := [(.str s, true), (.str s, true), (.str s, true), (.str s, true)]) (eb_cons' gs (eb_cons' gs (eb_cons' gs (eb_cons' gs eb_nil')))) (Nat.le_of_ble_eq_true rfl) rfl) (sok_of (sz_tup (n := 302) (k := 0) (m := 2000) (fun x hx => by
          have e : x = .str s := by simpa using hx
          rw [e]
          exact zs) (Nat.le_of_ble_eq_true rfl)) (by decide) (by decide)))
      (ea1 up_ow (ow_of (eo_tup (dbs := [(.str s, true), (.none, false)]) (eb_cons' gs (eb_cons' (eo_ev ev_c (gb_of ga_non "NoneType" (fun _ => .base .non) rfl)) eb_nil')) (Nat.le_of_ble_eq_true rfl) rfl) (sok_of (sz_tup (n := 302) (k := 0) (m := 2000) (fun x hx => by
          rcases List.mem_cons.mp hx with e | hx
          · rw [e]
            exact zs
          · rw [List.mem_singleton.mp hx]
            exact sz_non) (Nat.le_of_ble_eq_true rfl)) (by decide) (by decide)))
      ea0)))))) (e1.trans e2) (by decide)) (by decide)) fun r2 H3 hr2 e3 o2 => ?_
    refine el_cat' (B := OW P w K) (H0 := H) (n := 21) (m := 2) up_ow (ev_var rfl) o2 (el_lst' up_ow
      (ea1 up_ow (ow_of (eo_tup (dbs := [(.str (nine c), false)]) (eb_cons' (eo_ev (ev_nine hs one eo_none (eo_some ev_c)) (gb_str (tok_mono hs.nine (by decide)) (nine_not c))) eb_nil') (Nat.le_of_ble_eq_true rfl) rfl) (sok_of (sz_tup (m := 2000) (z1 (sz_str hs.nine (by decide))) (Nat.le_of_ble_eq_true rfl)) (by decide) (by decide)))
      (ea1 up_ow (ow_of (eo_tup (dbs := [(.str s, true), (.str "a.b", false)]) (eb_cons' gs (eb_cons' (eo_ev ev_c (gb_str (tok_c (by decide +kernel)) (by decide +kernel))) eb_nil')) (Nat.le_of_ble_eq_true rfl) rfl) (sok_of (sz_tup (n := 302) (k := 0) (m := 2000) (fun x hx => by
          rcases List.mem_cons.mp hx with e | hx
          · rw [e]
            exact zs
          · rw [List.mem_singleton.mp hx]
            exact sz_str (n := 30) (tok_c (by decide +kernel)) (Nat.le_refl _)) (Nat.le_of_ble_eq_true rfl)) (by decide) (by decide)))
      ea0)) ((e1.trans e2).trans e3) (by decide)) (by decide) H3 (Ex.refl H3) _ fun r3 H4 hr3 e4 o3 => q r3 H4 (fresh_back ((e1.trans e2).trans e3) hr3) (((e1.trans e2).trans e3).trans e4) o3

end
end K11
namespace K11
open PySem PySem.Spec PyProof.Rows L2 Lw Evl LamX TL
open Rm (R Ok Z0 Zp Fr fr_none fr_ne nt_lst nt_tup nt_dK NT Zn)
open LwX (XC XF)
/-! ### texts that are not those of words -/
theorem s_ext {a b : Str} (h : a.cps.toList = b.cps.toList) : a = b := by
  obtain ⟨⟨x⟩⟩ := a
  obtain ⟨⟨y⟩⟩ := b
  have h : x = y := h
  rw [h]
theorem c_dot : ("." : Str).cps.toList = [46] := rfl
theorem c_dots : (".." : Str).cps.toList = [46, 46] := rfl
theorem c_emp : ("" : Str).cps.toList = [] := rfl
theorem c_one : ("1" : Str).cps.toList = [49] := rfl
theorem c_done : (".1" : Str).cps.toList = [46, 49] := rfl
section
variable {P : Program} {w : World} {K : PySem.W.Frag} {σ : L2.St} {H H0 H1 : Hp} {te ta tb : TE} {tA tR : TA} {n m i : Nat} {s : Str} {c : Nat} {r : List Nat}
theorem bt_of {s : Str} (ys : List Str) (hs : Str.join "." ys = s) (ne : ys ≠ []) (nd : ∀ p ∈ ys, 46 ∉ p.cps.toList) (hl : s.length ≤ 1000) (hyl : ∀ y ∈ ys, y.length ≤ 1000) (hyn : ys.length ≤ 1000) (hx : s ≠ "-") (bad : isW ys = false) (H : Hp) : BT K (.str s) H := by
  have z := split_join (y := ".") (s := 46) (S := []) rfl (by decide +kernel) ne nd
  rw [TL.join_eq, hs] at z
  exact .inr ⟨s, ys, rfl, hx, hl, z, hyn, hyl, bad⟩
theorem ne_dash {s : Str} {x : Nat} (hx : x ∈ s.cps.toList) (h : x ≠ 45) : s ≠ "-" := fun e => by
  rw [e] at hx
  have e2 : x = 45 := by
    have : ("-" : Str).cps.toList = [45] := rfl
    rw [this] at hx
    exact List.mem_singleton.mp hx
  exact h e2
/-- one part, without a dot, that is no letter -/
theorem bt_one {s : Str} {n : Nat} (h : Tok' s n) (hn : n ≤ 30) (nd : 46 ∉ s.cps.toList) (hx : s ≠ "-") (bad : isL s = false) (H : Hp) : BT K (.str s) H :=
  bt_of [s] rfl (fun z => by cases z) (fun p hp => by rw [List.mem_singleton.mp hp]; exact nd) (show s.length ≤ 1000 by have := h.len; omega) (fun y hy => by rw [List.mem_singleton.mp hy]; have := h.len; omega) (by show (1 : Nat) ≤ 1000; decide) hx (by unfold isW; simp [bad]) H
/-- a part that is no letter, or too many -/
theorem isw_bad {ys : List Str} (y : Str) (hy : y ∈ ys) (h : isL y = false) : isW ys = false := by
  cases e : isW ys with
  | false => rfl
  | true =>
    have := (isW_iff.mp e).2 y hy
    rw [h] at this
    cases this
theorem Let.nodot (h : Let s c r) : 46 ∉ s.cps.toList := fun z => by
  rw [h.cps] at z
  have := h.az 46 z
  omega
theorem nine_nodot (h : Let s c r) : 46 ∉ (nine c).cps.toList := fun z => by
  have e : (46 : Nat) = c := by simpa [K11.nine] using z
  have := h.az c (List.mem_cons_self ..)
  omega
theorem Let.upNodot (h : Let s c r) : 46 ∉ (Txt.upper s).cps.toList := fun z => by
  rw [up_toList h] at z
  have a := h.az c (List.mem_cons_self ..)
  rcases List.mem_cons.mp z with e | z
  · omega
  · obtain ⟨y, hy, e⟩ := List.mem_map.mp z
    have b := h.az y (List.mem_cons_of_mem _ hy)
    have e2 : up1 y = y - 32 := if_pos b
    omega
theorem app_nodot {a b : Str} (h : 46 ∉ a.cps.toList) (k : 46 ∉ b.cps.toList) : 46 ∉ (a ++ b).cps.toList := fun z => by
  rw [cps_app] at z
  exact (List.mem_append.mp z).elim h k
theorem app_ne {a b : Str} {x : Nat} (hx : x ∈ b.cps.toList) (h : x ≠ 45) : a ++ b ≠ "-" := ne_dash (x := x) (by rw [cps_app]; exact List.mem_append_right _ hx) h
theorem app_ne' {a b : Str} {x : Nat} (hx : x ∈ a.cps.toList) (h : x ≠ 45) : a ++ b ≠ "-" := ne_dash (x := x) (by rw [cps_app]; exact List.mem_append_left _ hx) h
/-- a part without a dot -/
def Pt (p : Str) : Prop := 46 ∉ p.cps.toList ∧ p.length ≤ 30
/-- the second part is empty, or no letter .. -/
theorem bt_parts {s : Str} {n : Nat} (ys : List Str) (hs : Str.join "." ys = s) (h : Tok' s n) (hn : n ≤ 60) (nd : ∀ p ∈ ys, Pt p) (hyn : 1 ≤ ys.length ∧ ys.length ≤ 4) (hx : s ≠ "-") (bad : isW ys = false) (H : Hp) : BT K (.str s) H :=
  bt_of ys hs (fun z => by rw [z] at hyn; exact absurd hyn.1 (by decide)) (fun p hp => (nd p hp).1) (by have := h.len; omega) (fun p hp => by have := (nd p hp).2; omega) (by omega) hx bad H
theorem bt_ty {v : V} (t : String) (h : ∀ H, TyX K H v (.type t)) (hk : kitB t "str" = some false) (H : Hp) : BT K v H := .inl ⟨t, h H, hk⟩
def spNoTexts (K : PySem.W.Frag) : Sp := fun vs H Q _ => ∃ (l : Addr) (xs : List Str), vs = [.ref l] ∧ H l = some (.lst (xs.map V.str)) ∧ 0 < xs.length ∧ (∀ x ∈ xs, isL x = true) ∧ ∀ r H', H r = none → Ex H H' → OL (OT K) H H' r 30 → Q (.ref r) H'
theorem ot_of {G : V → Hp → Prop} (h : EO te σ H G) (k : ∀ v H, G v H → BT K v H) : ∀ H1, Ex H H1 → ∀ Q : VK, (∀ v H2, Ex H1 H2 → OT K H1 H2 v → Q v H2) → te σ H1 Q := fun H1 e Q q => h H1 e Q fun v H2 e2 f => q v H2 e2 (ft_imp f fun H3 => k v H3)
theorem ot_ev {v : V} (h : Ev te σ H v) (k : ∀ H, BT K v H) : ∀ H1, Ex H H1 → ∀ Q : VK, (∀ v H2, Ex H1 H2 → OT K H1 H2 v → Q v H2) → te σ H1 Q := fun H1 e Q q => h H1 e Q fun H2 e2 => q v H2 e2 (ft_pure k)
variable {mg : Str → Option Value} {base : Heap}
theorem mem1 {p a : Str} (h : p ∈ [a]) (x : Pt a) : Pt p := by rw [List.mem_singleton.mp h]; exact x
theorem mem2 {p a b : Str} (h : p ∈ [a, b]) (x : Pt a) (y : Pt b) : Pt p := (List.mem_cons.mp h).elim (fun e => e ▸ x) fun h => mem1 h y
theorem mem3 {p a b d : Str} (h : p ∈ [a, b, d]) (x : Pt a) (y : Pt b) (z : Pt d) : Pt p := (List.mem_cons.mp h).elim (fun e => e ▸ x) fun h => mem2 h y z
theorem mem4 {p a b d f : Str} (h : p ∈ [a, b, d, f]) (x : Pt a) (y : Pt b) (z : Pt d) (u : Pt f) : Pt p := (List.mem_cons.mp h).elim (fun e => e ▸ x) fun h => mem3 h y z u
variable {dbs : List (PyData × Bool)}
theorem et_tup (h : EB P w K tA σ H dbs) (hn : dbs.length ≤ 40000) : EO (tTup tA) σ H (BT K) := fun H1 e Q q =>
  h H1 e _ fun vs H2 e2 f2 => ⟨sz_of (by rw [Paired.length (ft_now f2)]; omega), fun a na => q _ _ (e2.trans (Ex.new na)) (ft_imp (ft_new f2 e2 na nt_tup) fun H3 z => .inl ⟨"tuple", .base (.tup z.1), rfl⟩)⟩
theorem et_lst (h : EB P w K tA σ H dbs) (hn : dbs.length ≤ 40000) : EO (tLst tA) σ H (BT K) := fun H1 e Q q =>
  h H1 e _ fun vs H2 e2 f2 => ⟨sz_of (by rw [Paired.length (ft_now f2)]; omega), fun a na => q _ _ (e2.trans (Ex.new na)) (ft_imp (ft_new f2 e2 na nt_lst) fun H3 z => .inl ⟨"list", .base (.lst z.1), rfl⟩)⟩
theorem et_dnew : EO tDNewK σ H (BT K) := fun H1 e Q q => fun p hp => q _ _ (Ex.new hp) (ft_imp (ft_new (G := fun _ => True) (ft_pure fun _ => trivial) (Ex.refl H1) hp nt_dK) fun H3 z => .inl ⟨"dict", .base (.dK z.1), rfl⟩)
abbrev s_no_texts : Stmt := topS 34
theorem sc_no_texts : FnScope ["_law_signs_here", "_law_one", "_law_found"] ["_law_signs_here"] (defScope s_no_texts) := ⟨rfl, rfl, rfl, by decide +kernel, rfl, by decide +kernel, by decide +kernel⟩
theorem ok_no_texts {f : Addr} {fd : FuncData} (F : FunD K "_law_no_texts" "_law_no_texts" (defArgs s_no_texts) (defBody s_no_texts) (defScope s_no_texts) [] [] f fd) (T : Tx P w K mg base)  : FnG P w K mg base CX0 1 f fd ["_law_signs_here"] (spNoTexts K) := by
  refine fnG F sc_no_texts (fun vs H Q E h => ?_) (fun cdv A outer s H vs Q E gd hr h => ?_)
  · obtain ⟨l, xs, rfl, _⟩ := h
    rfl
  · skip
    refine ⟨_, PSs.nox ((pss_cons (ps_set (i := 1) sc_no_texts.nd rfl (by first | exact Or.inl rfl | exact Or.inr rfl) (pe_ix (ix_listK (K := K)) (pv 0) pe_int (fun _ _ => rfl)))
      (pss_cons (ps_set (i := 2) sc_no_texts.nd rfl (by first | exact Or.inl rfl | exact Or.inr rfl) (pe_lst (pa_cons pe_str (pa_cons pe_str (pa_cons pe_str (pa_cons pe_str (pa_cons pe_str (pa_cons pe_str (pa_cons pe_str (pa_cons pe_str (pa_cons (pe_op op_add_str (pv 1) pe_str) (pa_cons (pe_op op_add_str pe_str (pv 1)) (pa_cons (pe_op op_add_str (pe_op op_add_str (pv 1) pe_str) (pv 1)) (pa_cons (pe_upper (pv 1)) pa_nil))))))))))))))
      (pss_cons (ps_set (i := 2) sc_no_texts.nd rfl (by first | exact Or.inl rfl | exact Or.inr rfl) (pe_op op_cat (pv 2) (pe_lst (pa_cons (pe_op op_add_str (pv 1) pe_str) (pa_cons (pe_op op_add_str (pe_op op_add_str (pe_op op_add_str (pe_op op_add_str (pe_op op_add_str (pe_op op_add_str (pv 1) pe_str) (pv 1)) pe_str) (pv 1)) pe_str) (pv 1)) (pa_cons (pe_op op_add_str (pv 1) pe_str) (pa_cons (pe_op op_add_str (pv 1) pe_str) (pa_cons (pe_op op_add_str (pv 1) pe_str) (pa_cons (pe_op op_add_str pe_str (pv 1)) pa_nil)))))))))
      (pss_cons (ps_set (i := 2) sc_no_texts.nd rfl (by first | exact Or.inl rfl | exact Or.inr rfl) (pe_op op_cat (pv 2) (pe_lst (pa_cons pe_str (pa_cons (pe_op op_add_str (pv 1) pe_str) (pa_cons (pe_op op_mulX (pe_slice sl_str (pv 1) po_none (po_some pe_int)) pe_int) (pa_cons (pe_op op_add_str (pe_op op_add_str (pv 1) pe_str) (pe_op op_mulX (pe_slice sl_str (pv 1) po_none (po_some pe_int)) pe_int)) pa_nil)))))))
      (pss_one (ps_ret (pe_op op_cat (pv 2) (pe_lst (pa_cons pe_non (pa_cons pe_bl (pa_cons pe_int (pa_cons (pe_lst pa_nil) (pa_cons (pe_lst (pa_cons (pv 1) pa_nil)) (pa_cons (pe_tup (pa_cons (pv 1) pa_nil)) (pa_cons (pe_tup pa_nil) (pa_cons pe_dnewK pa_nil))))))))))))))))), ?_⟩
    obtain ⟨l, xs, rfl, hl, hx0, hx, q⟩ := h
    have h0 : xs[0]? = some xs[0] := List.getElem?_eq_getElem hx0
    have hL := hx xs[0] (List.getElem_mem hx0)
    generalize xs[0] = s at h0 hL
    obtain ⟨c, r, hs⟩ := let_of hL
    have tk := hs.tok
    have a97 := hs.az c (List.mem_cons_self ..)
    have nc : c ≠ 45 := by omega
    refine q_asg (v := .str s) (ev_op (ev_var rfl) ev_c (rv_ixL (SqL.of hl) (show atI (xs.map V.str) ((0 : Nat) : Int) = some (.str s) from atI_nat (by rw [List.getElem?_map, h0]; rfl)))) fun H1 e1 => ?_
    have one : ∀ {x : Option V} {H' : Hp}, Ev (tVar 1) [some (.ref l), some (.str s), x] H' (.str s) := ev_var rfl
    have gs : ∀ {x : Option V} {H' : Hp}, EO (tVar 1) [some (.ref l), some (.str s), x] H' (GB P w K (.str s) true) := eo_ev one (gb_str (tok_mono tk (by decide)) hL)
    refine q_asgEL (B := OT K) (H0 := H) (n := 12) (el_lst' up_ot
      (ea1 up_ot (ot_ev ev_c (bt_parts (n := 30) [""] rfl (tok_c (by decide +kernel)) (by decide) (fun p hp => by unfold Pt; revert p; decide +kernel) (by decide) (by decide +kernel) (by decide +kernel)))
      (ea1 up_ot (ot_ev ev_c (bt_parts (n := 30) ["", ""] rfl (tok_c (by decide +kernel)) (by decide) (fun p hp => by unfold Pt; revert p; decide +kernel) (by decide) (by decide +kernel) (by decide +kernel)))
      (ea1 up_ot (ot_ev ev_c (bt_parts (n := 30) ["", "", ""] rfl (tok_c (by decide +kernel)) (by decide) (fun p hp => by unfold Pt; revert p; decide +kernel) (by decide) (by decide +kernel) (by decide +kernel)))
      (ea1 up_ot (ot_ev ev_c (bt_parts (n := 30) ["-", ""] rfl (tok_c (by decide +kernel)) (by decide) (fun p hp => by unfold Pt; revert p; decide +kernel) (by decide) (by decide +kernel) (by decide +kernel)))
      (ea1 up_ot (ot_ev ev_c (bt_parts (n := 30) ["", "-"] rfl (tok_c (by decide +kernel)) (by decide) (fun p hp => by unfold Pt; revert p; decide +kernel) (by decide) (by decide +kernel) (by decide +kernel)))
      (ea1 up_ot (ot_ev ev_c (bt_parts (n := 30) ["--"] rfl (tok_c (by decide +kernel)) (by decide) (fun p hp => by unfold Pt; revert p; decide +kernel) (by decide) (by decide +kernel) (by decide +kernel)))
      (ea1 up_ot (ot_ev ev_c (bt_parts (n := 30) [" -"] rfl (tok_c (by decide +kernel)) (by decide) (fun p hp => by unfold Pt; revert p; decide +kernel) (by decide) (by decide +kernel) (by decide +kernel)))
      (ea1 up_ot (ot_ev ev_c (bt_parts (n := 30) ["- "] rfl (tok_c (by decide +kernel)) (by decide) (fun p hp => by unfold Pt; revert p; decide +kernel) (by decide) (by decide +kernel) (by decide +kernel)))
      (ea1 up_ot (ot_ev (ev_addX one ev_c (by have := tk.len; show s.length + 1 ≤ 1000; omega)) (bt_parts (n := 9) [s, ""] (s_ext (by simp [Str.join, cps_app, c_dot, c_emp])) (tok_app (m := 1) tk (tok_c (by decide +kernel))) (by decide) (fun p hp => mem2 hp ⟨hs.nodot, by have := hs.lenS; omega⟩ ⟨by decide +kernel, by decide +kernel⟩) ⟨(Nat.le_of_ble_eq_true rfl), (Nat.le_of_ble_eq_true rfl)⟩ (app_ne (x := 46) (by decide +kernel) (by decide)) (isw_bad "" (by simp) (by decide +kernel))))
      (ea1 up_ot (ot_ev (ev_addX ev_c one (by have := tk.len; show 1 + s.length ≤ 1000; omega)) (bt_parts (n := 9) ["", s] (s_ext (by simp [Str.join, cps_app, c_dot, c_emp])) (tok_app (n := 1) (tok_c (by decide +kernel)) tk) (by decide) (fun p hp => mem2 hp ⟨by decide +kernel, by decide +kernel⟩ ⟨hs.nodot, by have := hs.lenS; omega⟩) ⟨(Nat.le_of_ble_eq_true rfl), (Nat.le_of_ble_eq_true rfl)⟩ (app_ne' (x := 46) (by decide +kernel) (by decide)) (isw_bad "" (by simp) (by decide +kernel))))
      (ea1 up_ot (ot_ev (ev_addX (ev_addX one ev_c (by have := tk.len; show s.length + 2 ≤ 1000; omega)) one (by have := tk.len; rw [len_app]; show s.length + 2 + s.length ≤ 1000; omega)) (bt_parts (n := 18) [s, "", s] (s_ext (by simp [Str.join, cps_app, c_dot, c_dots, c_emp])) (tok_app (n := 10) (tok_app (m := 2) tk (tok_c (by decide +kernel))) tk) (by decide) (fun p hp => mem3 hp ⟨hs.nodot, by have := hs.lenS; omega⟩ ⟨by decide +kernel, by decide +kernel⟩ ⟨hs.nodot, by have := hs.lenS; omega⟩) ⟨(Nat.le_of_ble_eq_true rfl), (Nat.le_of_ble_eq_true rfl)⟩ (app_ne (x := c) (by rw [hs.cps]; exact List.mem_cons_self ..) nc) (isw_bad "" (by simp) (by decide +kernel))))
      (ea1 up_ot (ot_ev (ev_up one (by have := tk.len; omega)) (bt_one hs.upTok (by decide) hs.upNodot (ne_dash (x := c - 32) (by rw [up_toList hs]; exact List.mem_cons_self ..) (by omega)) hs.upNot))
      ea0)))))))))))) e1 (by decide)) fun r1 H2 hr1 e2 o1 => ?_
    refine q_asgEL (B := OT K) (H0 := H) (n := 18) (el_cat' (n := 12) (m := 6) up_ot (ev_var rfl) o1 (el_lst' up_ot
      (ea1 up_ot (ot_ev (ev_addX one ev_c (by have := tk.len; show s.length + 1 ≤ 1000; omega)) (bt_one (n := 9) (tok_app (m := 1) tk (tok_c (by decide +kernel))) (by decide) (app_nodot hs.nodot (by decide +kernel)) (app_ne' (x := c) (by rw [hs.cps]; exact List.mem_cons_self ..) nc) (app_not (x := 10) (by decide +kernel) (by decide))))
      (ea1 up_ot (ot_ev (ev_addX (ev_addX (ev_addX (ev_addX (ev_addX (ev_addX one ev_c (by have := tk.len; show s.length + 1 ≤ 1000; omega)) one (by have := tk.len; have e1 : Str.length "." = 1 := rfl; simp only [len_app, e1]; omega)) ev_c (by have := tk.len; have e1 : Str.length "." = 1 := rfl; simp only [len_app, e1]; omega)) one (by have := tk.len; have e1 : Str.length "." = 1 := rfl; simp only [len_app, e1]; omega)) ev_c (by have := tk.len; have e1 : Str.length "." = 1 := rfl; simp only [len_app, e1]; omega)) one (by have := tk.len; have e1 : Str.length "." = 1 := rfl; simp only [len_app, e1]; omega)) (bt_parts (n := 35) [s, s, s, s] (s_ext (by simp [Str.join, cps_app, c_dot])) (tok_app (n := 27) (m := 8) (tok_app (n := 26) (m := 1) (tok_app (n := 18) (m := 8) (tok_app (n := 17) (m := 1) (tok_app (n := 9) (m := 8) (tok_app (n := 8) (m := 1) tk (tok_c (n := 1) (by decide +kernel))) tk) (tok_c (n := 1) (by decide +kernel))) tk) (tok_c (n := 1) (by decide +kernel))) tk) (by decide) (fun p hp => mem4 hp ⟨hs.nodot, by have := hs.lenS; omega⟩ ⟨hs.nodot, by have := hs.lenS; omega⟩ ⟨hs.nodot, by have := hs.lenS; omega⟩ ⟨hs.nodot, by have := hs.lenS; omega⟩) ⟨(Nat.le_of_ble_eq_true rfl), (Nat.le_of_ble_eq_true rfl)⟩ (app_ne (x := c) (by rw [hs.cps]; exact List.mem_cons_self ..) nc) (by unfold isW; rfl)))
      (ea1 up_ot (ot_ev (ev_addX one ev_c (by have := tk.len; show s.length + 1 ≤ 1000; omega)) (bt_one (n := 9) (tok_app (m := 1) tk (tok_c (by decide +kernel))) (by decide) (app_nodot hs.nodot (by decide +kernel)) (app_ne' (x := c) (by rw [hs.cps]; exact List.mem_cons_self ..) nc) (app_not (x := 32) (by decide +kernel) (by decide))))
      (ea1 up_ot (ot_ev (ev_addX one ev_c (by have := tk.len; show s.length + 1 ≤ 1000; omega)) (bt_one (n := 9) (tok_app (m := 1) tk (tok_c (by decide +kernel))) (by decide) (app_nodot hs.nodot (by decide +kernel)) (app_ne' (x := c) (by rw [hs.cps]; exact List.mem_cons_self ..) nc) (app_not (x := 44) (by decide +kernel) (by decide))))
      (ea1 up_ot (ot_ev (ev_addX one ev_c (by have := tk.len; show s.length + 1 ≤ 1000; omega)) (bt_one (n := 9) (tok_app (m := 1) tk (tok_c (by decide +kernel))) (by decide) (app_nodot hs.nodot (by decide +kernel)) (app_ne' (x := c) (by rw [hs.cps]; exact List.mem_cons_self ..) nc) (app_not (x := 45) (by decide +kernel) (by decide))))
      (ea1 up_ot (ot_ev (ev_addX ev_c one (by have := tk.len; show 1 + s.length ≤ 1000; omega)) (bt_one (n := 9) (tok_app (n := 1) (tok_c (by decide +kernel)) tk) (by decide) (app_nodot (by decide +kernel) hs.nodot) (app_ne (x := c) (by rw [hs.cps]; exact List.mem_cons_self ..) nc) (app_not' (x := 45) (by decide +kernel) (by decide))))
      ea0)))))) (e1.trans e2) (by decide)) (by decide)) fun r2 H3 hr2 e3 o2 => ?_
    refine q_asgEL (B := OT K) (H0 := H) (n := 22) (el_cat' (n := 18) (m := 4) up_ot (ev_var rfl) o2 (el_lst' up_ot
      (ea1 up_ot (ot_ev ev_c (bt_parts (n := 30) ["1"] rfl (tok_c (by decide +kernel)) (by decide) (fun p hp => by unfold Pt; revert p; decide +kernel) (by decide) (by decide +kernel) (by decide +kernel)))
      (ea1 up_ot (ot_ev (ev_addX one ev_c (by have := tk.len; show s.length + 2 ≤ 1000; omega)) (bt_parts (n := 10) [s, "1"] (s_ext (by simp [Str.join, cps_app, c_dot, c_one, c_done])) (tok_app (m := 2) tk (tok_c (by decide +kernel))) (by decide) (fun p hp => mem2 hp ⟨hs.nodot, by have := hs.lenS; omega⟩ ⟨by decide +kernel, by decide +kernel⟩) ⟨(Nat.le_of_ble_eq_true rfl), (Nat.le_of_ble_eq_true rfl)⟩ (app_ne (x := 46) (by decide +kernel) (by decide)) (isw_bad "1" (by simp) (by decide +kernel))))
      (ea1 up_ot (ot_ev (ev_nine hs one eo_none (eo_some ev_c)) (bt_one hs.nine (by decide) (nine_nodot hs) (ne_dash (x := c) (by simp [K11.nine]) nc) (nine_not c)))
      (ea1 up_ot (ot_ev (ev_addX (ev_addX one ev_c (by have := tk.len; show s.length + 1 ≤ 1000; omega)) (ev_nine hs one eo_none (eo_some ev_c)) (by have := tk.len; have := hs.nine.len; have e1 : Str.length "." = 1 := rfl; simp only [len_app, e1]; omega)) (bt_parts (n := 18) [s, nine c] (s_ext (by simp [Str.join, cps_app, c_dot])) (tok_app (n := 9) (m := 9) (tok_app (n := 8) (m := 1) tk (tok_c (n := 1) (by decide +kernel))) hs.nine) (by decide) (fun p hp => mem2 hp ⟨hs.nodot, by have := hs.lenS; omega⟩ ⟨nine_nodot hs, by have := hs.nine.len; omega⟩) ⟨(Nat.le_of_ble_eq_true rfl), (Nat.le_of_ble_eq_true rfl)⟩ (app_ne' (x := 46) (by rw [cps_app]; exact List.mem_append_right _ (by decide +kernel)) (by decide)) (isw_bad (nine c) (by simp) (nine_not c))))
      ea0)))) ((e1.trans e2).trans e3) (by decide)) (by decide)) fun r3 H4 hr3 e4 o3 => ?_
    refine el_cat' (B := OT K) (H0 := H) (n := 22) (m := 8) up_ot (ev_var rfl) o3 (el_lst' up_ot
      (ea1 up_ot (ot_ev ev_c (bt_ty "NoneType" (fun _ => .base .non) rfl))
      (ea1 up_ot (ot_ev ev_c (bt_ty "bool" (fun _ => .base (.bl true)) rfl))
      (ea1 up_ot (ot_ev ev_c (bt_ty "int" (fun _ => .base (.int 0)) rfl))
      (ea1 up_ot (ot_of (et_lst (P := P) (w := w) eb_nil' (Nat.le_of_ble_eq_true rfl)) fun v H g => g)
      (ea1 up_ot (ot_of (et_lst (eb_cons' gs eb_nil') (Nat.le_of_ble_eq_true rfl)) fun v H g => g)
      (ea1 up_ot (ot_of (et_tup (eb_cons' gs eb_nil') (Nat.le_of_ble_eq_true rfl)) fun v H g => g)
      (ea1 up_ot (ot_of (et_tup (P := P) (w := w) eb_nil' (Nat.le_of_ble_eq_true rfl)) fun v H g => g)
      (ea1 up_ot (ot_of et_dnew fun v H g => g)
      ea0)))))))) (((e1.trans e2).trans e3).trans e4) (by decide)) (by decide) H4 (Ex.refl H4) _ fun r4 H5 hr4 e5 o4 => q r4 H5 (fresh_back (((e1.trans e2).trans e3).trans e4) hr4) ((((e1.trans e2).trans e3).trans e4).trans e5) o4

end
end K11
namespace K11
open PySem PySem.Spec PyProof.Rows L2 Lw Evl LamX TL
open Rm (R Ok Z0 Zp Fr fr_none fr_ne nt_lst nt_tup nt_dK NT Zn)
open LwX (XC XF)
/-! ### what cases tell -/
section
variable {P : Program} {w : World} {K : PySem.W.Frag} {Z : Zn} {σ : L2.St} {H H0 H1 : Hp} {te ta tb : TE} {tt : TT} {tri : List V} {v : V} {l : Addr} {n j : Nat} {ds : List PyData} {d : PyData} {nm : Str}
theorem th_of (o : Ok Z H0) (h : OW P w K H0 H v) : ∃ d, Sok d ∧ ∀ H2, R Z H H2 → GA P w K d v H2 := by
  obtain ⟨d, hd, S, h1, h2⟩ := h
  exact ⟨d, hd, fun H2 r => h2 H2 fun q hq => r.st _ _ (h1 q hq).2.2 (h1 q hq).2.1 (o.fresh (fr_none (h1 q hq).1))⟩
def Cs (H0 H : Hp) (l : Addr) (n : Nat) (tri : List V) : Prop := Fr H0 l ∧ ∃ rs, H l = some (.lst rs) ∧ rs.length = n ∧ ∀ r ∈ rs, ∃ a, r = .ref a ∧ a ≠ l ∧ Fr H0 a ∧ H a = some (.lst tri)
theorem cs_R (o : Ok Z H0) (r : R Z H H1) (h : Cs H0 H l n tri) : Cs H0 H1 l n tri := by
  obtain ⟨f, rs, h1, h2, h3⟩ := h
  exact ⟨f, rs, r.lst h1 (o.fresh f), h2, fun x hx => by
    obtain ⟨a, e, ne, fa, ha⟩ := h3 x hx
    exact ⟨a, e, ne, fa, r.lst ha (o.fresh fa)⟩⟩
theorem q_cs1 {tz : TS} {D : Ends} {i : Nat} (h : El Z te σ H tri) (r0 : R Z H0 H) (k : ∀ l H1, R Z H0 H1 → Cs H0 H1 l 1 tri → tz D (σ.set i (some (.ref l))) H1) : tSeq (tAsg (tLst (tCons te tNil)) (gName i)) tz D σ H := by
  unfold tSeq tAsg
  exact one_lst h r0.b fun r l H1 fr fl ne r1 hr hl => k l H1 (r0.trans r1) ⟨r0.fr fl, [.ref r], hl, rfl, fun x hx => ⟨r, List.mem_singleton.mp hx, ne, r0.fr fr, hr⟩⟩
theorem q_csA {tj : TE} {tz : TS} {D : Ends} (hj : ∀ H1 (Q : VK), Q (.ref l) H1 → tj σ H1 Q) (h : El Z te σ H tri) (r0 : R Z H0 H) (c : Cs H0 H l n tri) (hn : n ≤ 1000) (k : ∀ H1, R Z H0 H1 → Cs H0 H1 l (n + 1) tri → tz D σ H1) : tSeq (tDrop (tBM K "list" rAppend tj (tCons te tNil))) tz D σ H := by
  obtain ⟨fl, rs, hu, hl, hr⟩ := c
  refine q_appR hj r0 fl hu h (by omega) fun r H1 fr ne r1 keep hr1 hl1 => k H1 r1 ⟨fl, rs ++ [.ref r], hl1, by rw [List.length_append, hl]; rfl, fun x hx => ?_⟩
  rcases List.mem_append.mp hx with z | z
  · obtain ⟨a, e, na, fa, ha⟩ := hr x z
    exact ⟨a, e, na, fa, keep _ _ na ha nt_lst (r0.a.fresh fa)⟩
  · exact ⟨r, List.mem_singleton.mp z, ne, fr, hr1⟩
/-- a list that shows ds -/
def Shl (P : Program) (w : World) (H : Hp) (l : Addr) (ds : List PyData) : Prop := ∃ rs, H l = some (.lst rs) ∧ Paired (Sw P w H) rs ds
def Els (P : Program) (w : World) (Z : Zn) (te : TE) (σ : L2.St) (H : Hp) (ds : List PyData) : Prop := ∀ H1, R Z H H1 → ∀ Q : VK, (∀ l H2, R Z H1 H2 → Shl P w H2 l ds → Q (.ref l) H2) → te σ H1 Q
theorem ew_repr (h : Els P w Z te σ H ds) (hz : (listText (PyData.shownAll ds)).length ≤ sizeLine) (hd : PyData.depthAll ds ≤ 40) : Rm.Ew Z (tCB (rReprS P w) (tCons te tNil)) σ H (.str (listText (PyData.shownAll ds))) := fun H1 r Q q => h H1 r _ fun l H2 r2 s => by
  obtain ⟨rs, h1, h2⟩ := s
  exact ⟨l, rs, ds, rfl, h1, h2, hz, hd, q H2 r2⟩
theorem els_var (h : ∀ H1, R Z H H1 → Shl P w H1 l ds) (hj : σ[j]? = some (some (.ref l))) : Els P w Z (tVar j) σ H ds := fun H1 r Q q => ⟨_, hj, q l H1 (.refl r.b) (h H1 r)⟩
def D3 (nm : Str) (d : PyData) : PyData := .list [.str nm, d, .bool true]
theorem sw_D3 {a : Addr} (e : H a = some (.lst [.str nm, v, .bl true])) (hn : Tok' nm 100) (hv : Sw P w H v d) : Sw P w H (.ref a) (D3 nm d) := sw_lst e (.cons (sw_str hn H) (.cons hv (.cons (sw_of (rw_bl true) rfl (by decide +kernel)) .nil)))
theorem sz_D3 (hn : Tok' nm 30) (hd : Sok d) : Sz 7600 11 (D3 nm d) := sz_lst (n := 2500) (k := 10) (fun x hx => by
    rcases List.mem_cons.mp hx with e | hx
    · rw [e]
      exact sz_up (sz_str hn (Nat.le_refl _)) (by decide) (by decide)
    · rcases List.mem_cons.mp hx with e | hx
      · rw [e]
        exact hd
      · rw [List.mem_singleton.mp hx]
        exact sz_up (sz_bl true) (by decide) (by decide)) (Nat.le_of_ble_eq_true rfl)
/-- n of them are short enough -/
theorem shown_ok {ds : List PyData} (h : ∀ d ∈ ds, Sz 7600 11 d) (hn : ds.length ≤ 100) : (listText (PyData.shownAll ds)).length ≤ sizeLine ∧ PyData.depthAll ds ≤ 40 := by
  obtain ⟨a, b, c⟩ := sz_sum h
  have z := listText_len_le (PyData.shownAll ds)
  have m : 7600 * ds.length ≤ 7600 * 100 := Nat.mul_le_mul_left _ hn
  rw [sizeLine_eq]
  exact ⟨by omega, by omega⟩
theorem paired_rep {α β : Type} {Rel : α → β → Prop} {b : β} : ∀ {xs : List α}, (∀ x ∈ xs, Rel x b) → Paired Rel xs (List.replicate xs.length b)
  | [], _ => .nil
  | x :: xs, h => by
    rw [List.length_cons, List.replicate_succ]
    exact .cons (h x (List.mem_cons_self ..)) (paired_rep fun y hy => h y (List.mem_cons_of_mem _ hy))
theorem cs_shl (c : Cs H0 H l n [.str nm, v, .bl true]) (hn : Tok' nm 100) (hv : Sw P w H v d) : Shl P w H l (List.replicate n (D3 nm d)) := by
  obtain ⟨_, rs, h1, h2, h3⟩ := c
  refine ⟨rs, h1, ?_⟩
  rw [← h2]
  exact paired_rep fun x hx => by
    obtain ⟨a, e, _, _, ha⟩ := h3 x hx
    rw [e]
    exact sw_D3 ha hn hv
/-- [due] * n -/
theorem els_rep {a : Addr} {m : Nat} (hj : Rm.Ew Z te σ H (.ref a)) (h : ∀ H1, R Z H H1 → Sw P w H1 (.ref a) d) (hm : m ≤ 100) : Els P w Z (tOp rRep (tLst (tCons te tNil)) (tC (.int (m : Int)))) σ H (List.replicate m d) := fun H1 r Q q =>
  hj H1 r _ fun H2 r2 => ⟨(by show 1 ≤ sizeLine; decide), fun p hp => ⟨p, (m : Int), [.ref a], rfl, rfl, upd_same, by omega, by omega, by
    show 1 * (m : Int).toNat ≤ sizeLine
    rw [Nat.one_mul, Int.toNat_natCast]
    exact sz_of (by omega), fun t ht => by
    rw [Int.toNat_natCast, flatten_rep1]
    have r3 := (r2.new (o := .lst [.ref a]) hp).new (o := .lst (List.replicate m (.ref a))) ht
    refine q t _ r3 ⟨_, upd_same, ?_⟩
    have z := paired_rep (Rel := Sw P w (upd (upd H2 p (.lst [.ref a])) t (.lst (List.replicate m (.ref a))))) (b := d) (xs := List.replicate m (V.ref a)) fun x hx => by
      rw [List.eq_of_mem_replicate hx]
      exact h _ (r.trans r3)
    rw [List.length_replicate] at z
    exact z⟩⟩
theorem et_neS {x y : Str} (ha : Rm.Ew Z ta σ H (.str x)) (hb : Rm.Ew Z tb σ H (.str y)) (e : x = y) : Rm.Et Z (tTest (tOp rNe ta tb)) σ H false := by
  subst e
  have z : Rm.Ew Z (tOp rNe ta tb) σ H (.bl (!decide (V.str x = V.str x))) := Rm.ew_op ha hb fun _ _ => rv_ne rfl
  rw [decide_eq_true rfl] at z
  exact Rm.et_test z
theorem s_whenR {b : Bool} {tu : TS} {D : Ends} (o : Ok Z H) (h : Rm.Et Z tt σ H b) (h1 : b = true → ∀ H1, R Z H H1 → tu D σ H1) (h2 : b = false → ∀ H1, R Z H H1 → D.nx σ H1) : tIfS tt tu tNext D σ H := h H (.refl o) _ fun H1 r => by
  cases b with
  | true => exact h1 rfl H1 r
  | false => exact h2 rfl H1 r
end
section
variable {P : Program} {w : World} {K : PySem.W.Frag} {mg : Str → Option Value} {base : Heap} {TT : List (Addr × Str)} {CW CS CT CK c0 P0 : Addr}
def spWordsR (P : Program) (w : World) (K : PySem.W.Frag) (T : List (Addr × Str)) : Sp := fun vs H Q _ => ∃ (p l : Addr) (xs : List Str) (v : V) (ys : List Str), vs = [.ref p, .ref l, v] ∧ Tabs T H ∧ H l = some (.lst (xs.map V.str)) ∧ 0 < xs.length ∧ (∀ x ∈ xs, isL x = true) ∧ Wd K H v ys ∧ isW ys = true ∧
  ∀ H', R (Z0 T) H H' → Q (.bl true) H'
abbrev s_words_right : Stmt := topS 35
theorem sc_words_right : FnScope ["_law_pot_here", "_law_signs_here", "_law_row_here", "_law_thing", "_law_due", "_law_cases"] ["_law_pot_here", "_law_signs_here", "_law_row_here"] (defScope s_words_right) := ⟨rfl, rfl, rfl, by decide +kernel, rfl, by decide +kernel, by decide +kernel⟩
theorem ok_words_right {f : Addr} {fd : FuncData} (F : FunD K "_law_words_right" "_law_words_right" (defArgs s_words_right) (defBody s_words_right) (defScope s_words_right) [] [] f fd) (T : Tx P w K mg base) (hC : CodeAt K f c0) (TB : TabB base mg c0 P0) (hmT : (P0, ("_law_words_right.<locals>.<lambda>" : Str)) ∈ TT) (huT : ∀ z ∈ TT, z.1 = P0 → z.2 = ("_law_words_right.<locals>.<lambda>" : Str)) (DT : ToldD K mg) (CC : Cls K mg CW CS CT CK) (d_law_no_rows : Cal P w K mg base CX0 1 "_law_no_rows" ["_law_signs_here"] (spNoRows P w K)) (dbeginnings : CalO P w K mg base (L2.CX P w) 4 "beginnings" ["word"] (spBegin K CW)) (dtext_of_word : CalO P w K mg base (L2.CX P w) 4 "text_of_word" ["word"] (spTextW K CW)) (djoined : CalO P w K mg base (L2.CX P w) 4 "joined" ["word", "next_word"] (spJoined K CW)) (dis_word : CalO P w K mg base CX0 2 "is_word" ["value"] (spWord K)) : FnG P w K mg base CX0 7 f fd ["_law_pot_here", "_law_signs_here", "_law_row_here"] (spWordsR P w K TT) := by
  refine fnGc hC F sc_words_right (fun vs H Q E h => ?_) (fun A outer s H vs Q E gd hr h => ?_)
  · obtain ⟨p, l, xs, v, ys, rfl, _⟩ := h
    rfl
  · skip
    refine ⟨_, PSs.nox ((pss_cons (ps_for PassesOwn.never rfl (pi_listK (K := K) (pe_cal d_law_no_rows gd hr (pa_cons (pv 1) pa_nil))) (pg_name (i := 3) sc_words_right.nd rfl (by first | exact Or.inl rfl | exact Or.inr rfl)) (pss_cons (ps_set (i := 4) sc_words_right.nd rfl (by first | exact Or.inl rfl | exact Or.inr rfl) (pe_lst (pa_cons pe_str (pa_cons (pv 3) (pa_cons pe_bl pa_nil)))))
      (pss_cons (ps_set (i := 5) sc_words_right.nd rfl (by first | exact Or.inl rfl | exact Or.inr rfl) (pe_lst (pa_cons (pe_told (k := 4) DT CC T.m_isinstance TB rfl hmT huT hr (lamS_by (sc := defScope s_words_right) (by decide +kernel)) rfl (fun _ _ _ _ _ => rfl) (fun A2 outer2 s2 H2 E2 f2 c2 hr => (pe_calO dbeginnings hr (passes_call (takes_of rfl rfl rfl rfl) fun _ _ _ _ h => h) (pa_cons (pv 3) pa_nil)))) pa_nil)))
      (pss_cons (ps_expr (pe_bm PySem.F.plainAttrs_list PySem.F.slot_list_append PySem.F.type_list_append mt_append (pv 5) (pa_cons (pe_told (k := 4) DT CC T.m_isinstance TB rfl hmT huT hr (lamS_by (sc := defScope s_words_right) (by decide +kernel)) rfl (fun _ _ _ _ _ => rfl) (fun A2 outer2 s2 H2 E2 f2 c2 hr => (pe_calOR dtext_of_word hr (passes_call (takes_of rfl rfl rfl rfl) fun _ _ _ _ h => h) (pk_cons (pv 3) pk_nil)))) pa_nil)))
      (pss_cons (ps_expr (pe_bm PySem.F.plainAttrs_list PySem.F.slot_list_append PySem.F.type_list_append mt_append (pv 5) (pa_cons (pe_told (k := 4) DT CC T.m_isinstance TB rfl hmT huT hr (lamS_by (sc := defScope s_words_right) (by decide +kernel)) rfl (fun _ _ _ _ _ => rfl) (fun A2 outer2 s2 H2 E2 f2 c2 hr => (pe_calO djoined hr (passes_call (takes_of rfl rfl rfl rfl) fun _ _ _ _ h => h) (pa_cons (pv 3) (pa_cons (pv 2) pa_nil))))) pa_nil)))
      (pss_cons (ps_expr (pe_bm PySem.F.plainAttrs_list PySem.F.slot_list_append PySem.F.type_list_append mt_append (pv 5) (pa_cons (pe_told (k := 4) DT CC T.m_isinstance TB rfl hmT huT hr (lamS_by (sc := defScope s_words_right) (by decide +kernel)) rfl (fun _ _ _ _ _ => rfl) (fun A2 outer2 s2 H2 E2 f2 c2 hr => (pe_calO djoined hr (passes_call (takes_of rfl rfl rfl rfl) fun _ _ _ _ h => h) (pa_cons (pv 2) (pa_cons (pv 3) pa_nil))))) pa_nil)))
      (pss_cons (ps_expr (pe_bm PySem.F.plainAttrs_list PySem.F.slot_list_append PySem.F.type_list_append mt_append (pv 5) (pa_cons (pe_told (k := 4) DT CC T.m_isinstance TB rfl hmT huT hr (lamS_by (sc := defScope s_words_right) (by decide +kernel)) rfl (fun _ _ _ _ _ => rfl) (fun A2 outer2 s2 H2 E2 f2 c2 hr => (pe_calO djoined hr (passes_call (takes_of rfl rfl rfl rfl) fun _ _ _ _ h => h) (pa_cons (pv 3) (pa_cons pe_non pa_nil))))) pa_nil)))
      (pss_cons (ps_expr (pe_bm PySem.F.plainAttrs_list PySem.F.slot_list_append PySem.F.type_list_append mt_append (pv 5) (pa_cons (pe_told (k := 4) DT CC T.m_isinstance TB rfl hmT huT hr (lamS_by (sc := defScope s_words_right) (by decide +kernel)) rfl (fun _ _ _ _ _ => rfl) (fun A2 outer2 s2 H2 E2 f2 c2 hr => (pe_calOR djoined hr (passes_call (takes_of rfl rfl rfl rfl) fun _ _ _ _ h => h) (pk_cons pe_str (pk_cons (pv 3) pk_nil))))) pa_nil)))
      (pss_one (ps_if (PW.pt (pw_or (pt_cmpR op_ne (pe_callB (call_reprS (P := P) (w := w) gd hr.units) (by rfl) T.m_repr (by decide +kernel) (pa_cons (pv 5) pa_nil)) (pe_callB (call_reprS (P := P) (w := w) gd hr.units) (by rfl) T.m_repr (by decide +kernel) (pa_cons (pe_op op_rep (pe_lst (pa_cons (pv 4) pa_nil)) pe_int) pa_nil)) (nomark _)) (pw_or1 (pt_val (pe_calO dis_word hr pass0 (pa_cons (pv 3) pa_nil)))))) (pss_one (ps_ret pe_bl)) pss_nil))))))))))
      (pss_one (ps_ret pe_bl)))), ?_⟩
    obtain ⟨p, l, xs, v, ys, rfl, ht, hl, hx0, hx, hv, hw, q⟩ := h
    have o : Ok (Z0 TT) H := ⟨ht, fun _ z => z.elim⟩
    refine ⟨_, rfl, l, xs, rfl, hl, hx0, hx, fun rl H1 hrl e1 ol => ?_⟩
    obtain ⟨vs, hvs, hvl, hob⟩ := ol
    have r1 : R (Z0 TT) H H1 := .of o e1
    refine ⟨rl, rfl, ⟨_, SqL.of hvs⟩, for_list (xs := vs) (fun i σ H2 => ∃ a b c, σ = [some (.ref p), some (.ref l), some v, a, b, c] ∧ R (Z0 TT) H1 H2) ⟨_, _, _, rfl, .refl r1.b⟩ (fun i σ H2 _ hP => ?_) (fun i u σ H2 hu hP => ?_) (fun σ H2 hP => ?_)⟩
    · obtain ⟨a, b, c, rfl, r2⟩ := hP
      exact SqL.of (r2.lst hvs fun z => z)
    · obtain ⟨a, b, c, rfl, r2⟩ := hP
      obtain ⟨d, hd, ga⟩ := th_of o (hob u (List.mem_of_getElem? hu))
      refine ⟨_, rfl, (by show 3 ≤ sizeLine; decide), fun ld hld => ?_⟩
      have r3 : R (Z0 TT) H1 (upd H2 ld (.lst [.str "word", u, .bl true])) := r2.new hld
      have hdue : (upd H2 ld (.lst [.str "word", u, .bl true])) ld = some (.lst [.str "word", u, .bl true]) := upd_same
      generalize upd H2 ld (.lst [.str "word", u, .bl true]) = H3 at r3 hdue
      have gu : ∀ H4, R (Z0 TT) H3 H4 → GA P w K d u H4 := fun H4 r => ga H4 (r3.trans r)
      have gv : ∀ H4, R (Z0 TT) H3 H4 → WB K H4 v true := fun H4 r => wb_word (Rm.wd_R ((r1.trans r3).trans r) hv) hw
      have tw : Tok' ("word" : Str) 30 := tok_c (by decide +kernel)
      have o3 := r3.b
      have e1 : El (Z0 TT) (tLam TT (TTold CW CS CT) fun E2 => tCall (spBegin K CW) [] E2 (tCons (tVar 3) tNil)) [some (.ref p), some (.ref l), some v, some u, some (.ref ld), c] H3 [.str "word", u, .bl true] := el_err (Z := Z0 TT) (.inl ⟨rfl, rfl, rfl⟩) fun H4 r E Q x => ⟨_, rfl, u, false, rfl, (gu H4 r).2, (fun z => by cases z), fun _ => x⟩
      refine q_cs1 e1 (.refl o3) fun lc H4 r4 c4 => ?_
      have e2 : El (Z0 TT) (tLam TT (TTold CW CS CT) fun E2 => tCallRE (spTextW K CW) E2 (tCons (tVar 3) tNil)) [some (.ref p), some (.ref l), some v, some u, some (.ref ld), some (.ref lc)] H3 [.str "word", u, .bl true] := el_err (Z := Z0 TT) (.inl ⟨rfl, rfl, rfl⟩) fun H4 r E Q x => ⟨_, rfl, u, false, rfl, (gu H4 r).2, (fun z => by cases z), fun _ => x⟩
      refine q_csA (fun H1 Q q => ⟨_, rfl, q⟩) (e2.mono r4) r4 c4 (by decide) fun H5 r5 c5 => ?_
      have e3 : El (Z0 TT) (tLam TT (TTold CW CS CT) fun E2 => tCall (spJoined K CW) [] E2 (tCons (tVar 3) (tCons (tVar 2) tNil))) [some (.ref p), some (.ref l), some v, some u, some (.ref ld), some (.ref lc)] H3 [.str "word", u, .bl true] := el_err (Z := Z0 TT) (.inl ⟨rfl, rfl, rfl⟩) fun H4 r E Q x => ⟨_, rfl, _, rfl, u, v, false, rfl, (gu H4 r).2, (fun _ => x), fun z => by cases z⟩
      refine q_csA (fun H1 Q q => ⟨_, rfl, q⟩) (e3.mono r5) r5 c5 (by decide) fun H6 r6 c6 => ?_
      have e4 : El (Z0 TT) (tLam TT (TTold CW CS CT) fun E2 => tCall (spJoined K CW) [] E2 (tCons (tVar 2) (tCons (tVar 3) tNil))) [some (.ref p), some (.ref l), some v, some u, some (.ref ld), some (.ref lc)] H3 [.str "word", u, .bl true] := el_err (Z := Z0 TT) (.inl ⟨rfl, rfl, rfl⟩) fun H4 r E Q x => ⟨_, rfl, _, rfl, v, u, true, rfl, gv H4 r, (fun z => by cases z), fun _ => ⟨false, (gu H4 r).2, (fun _ => x), fun z => by cases z⟩⟩
      refine q_csA (fun H1 Q q => ⟨_, rfl, q⟩) (e4.mono r6) r6 c6 (by decide) fun H7 r7 c7 => ?_
      have e5 : El (Z0 TT) (tLam TT (TTold CW CS CT) fun E2 => tCall (spJoined K CW) [] E2 (tCons (tVar 3) (tCons (tC .non) tNil))) [some (.ref p), some (.ref l), some v, some u, some (.ref ld), some (.ref lc)] H3 [.str "word", u, .bl true] := el_err (Z := Z0 TT) (.inl ⟨rfl, rfl, rfl⟩) fun H4 r E Q x => ⟨_, rfl, u, .non, false, rfl, (gu H4 r).2, (fun _ => x), fun z => by cases z⟩
      refine q_csA (fun H1 Q q => ⟨_, rfl, q⟩) (e5.mono r7) r7 c7 (by decide) fun H8 r8 c8 => ?_
      have e6 : El (Z0 TT) (tLam TT (TTold CW CS CT) fun E2 => tCallRE (spJoined K CW) E2 (tCons (tC (.str "x")) (tCons (tVar 3) tNil))) [some (.ref p), some (.ref l), some v, some u, some (.ref ld), some (.ref lc)] H3 [.str "word", u, .bl true] := el_err (Z := Z0 TT) (.inl ⟨rfl, rfl, rfl⟩) fun H4 r E Q x => ⟨_, rfl, u, .str "x", false, rfl, (gu H4 r).2, (fun _ => x), fun z => by cases z⟩
      refine q_csA (fun H1 Q q => ⟨_, rfl, q⟩) (e6.mono r8) r8 c8 (by decide) fun H9 r9 c9 => ?_
      obtain ⟨s1, s2⟩ := shown_ok (ds := List.replicate 6 (D3 "word" d)) (fun x hx => by rw [List.eq_of_mem_replicate hx]; exact sz_D3 tw hd) (by rw [List.length_replicate]; decide)
      have shC : ∀ H10, R (Z0 TT) H9 H10 → Shl P w H10 lc (List.replicate 6 (D3 "word" d)) := fun H10 r => cs_shl (cs_R o3 r c9) (tok_mono tw (by decide)) (gu H10 (r9.trans r)).1
      have shD : ∀ H10, R (Z0 TT) H9 H10 → Sw P w H10 (.ref ld) (D3 "word" d) := fun H10 r => sw_D3 ((r9.trans r).lst hdue fun z => z) (tok_mono tw (by decide)) (gu H10 (r9.trans r)).1
      refine s_whenR (b := false || false) r9.b (Rm.et_or (et_neS (ew_repr (els_var shC rfl) s1 s2) (ew_repr (els_rep (m := 6) (Rm.ew_of fun _ _ => ev_var rfl) shD (by decide)) s1 s2) rfl) (fun _ => Rm.et_B (Rm.ew_of fun H10 r => ev_word (ev_var rfl) (gu H10 (r9.trans r)).2))) (fun z => by cases z) (fun _ H10 r10 => ⟨_, _, _, rfl, (r3.trans r9).trans r10⟩)
    · obtain ⟨a, b, c, rfl, r2⟩ := hP
      exact q H2 (r1.trans r2)

end
end K11
namespace K11
open PySem PySem.Spec PyProof.Rows L2 Lw Evl LamX TL
open Rm (R Ok Z0 Zp Fr fr_none fr_ne nt_lst nt_tup nt_dK NT Zn)
open LwX (XC XF)
section
variable {P : Program} {w : World} {K : PySem.W.Frag} {Z : Zn} {σ : L2.St} {H H0 H1 : Hp} {te ta tb : TE} {tt : TT} {tri : List V} {v : V} {l : Addr} {n j : Nat} {ds : List PyData} {d : PyData} {nm f : Str} {CW CS CT C : Addr} {t : XK → TE}
/-- the error's value is made by the call -/
theorem el_errX (G : V → Hp → Prop) (hG : ∀ v H1 H2, R Z H1 H2 → G v H1 → G v H2) (hc : (C = CW ∧ f = "value" ∧ nm = "word") ∨ (C = CS ∧ f = "position" ∧ nm = "words") ∨ (C = CT ∧ f = "line" ∧ nm = "text"))
    (h : ∀ H1, R Z H H1 → ∀ E Q, (∀ v H2, R Z H1 H2 → G v H2 → Rz C f v H2 E) → t E σ H1 Q) : ∀ H1, R Z H H1 → ∀ Q : VK, (∀ l v H2, Fr H1 l → R Z H1 H2 → H2 l = some (.lst [.str nm, v, .bl true]) → G v H2 → Q (.ref l) H2) → tLam Z.T (TTold CW CS CT) t σ H1 Q :=
  fun H1 r Q q => ⟨r.b.1, fun H2 e t2 l hl => by
    have r2 : R Z H1 H2 := .lam r.b e t2
    have r3 : R Z H1 (upd H2 l (.lst [.str "told"])) := r2.new hl
    refine h _ (r.trans r3) _ _ fun v H3 r4 g d H4 e4 hd => ⟨C, f, nm, v, d, hc, rfl, rfl, hd, fun l2 hl2 => ?_⟩
    have r5 : R Z H3 H4 := .of r4.b e4
    have r6 := r5.new (o := .lst [.str nm, v, .bl true]) hl2
    exact q l2 v _ (((r3.trans r4).trans r5).fr (fr_none hl2)) ((r3.trans r4).trans r6) upd_same (hG _ _ _ r6 g)⟩
theorem els_if {b : Bool} (h : Rm.Et Z tt σ H b) (h1 : b = true → Els P w Z ta σ H ds) (h2 : b = false → Els P w Z tb σ H ds) : Els P w Z (tIf tt ta tb) σ H ds := fun H1 r Q q => h H1 r _ fun H2 r2 => by
  cases b with
  | true => exact h1 rfl H2 (r.trans r2) Q fun l H3 r3 s => q l H3 (r2.trans r3) s
  | false => exact h2 rfl H2 (r.trans r2) Q fun l H3 r3 s => q l H3 (r2.trans r3) s
/-- what a word shows, of any length -/
theorem wd_sw {v : V} {zs : List Str} (h : Wd K H v zs) (ht : ∀ z ∈ zs, Tok' z 8) : Sw P w H v (wD zs) := by
  obtain ⟨a, rfl, e⟩ := h
  refine sw_tup e ?_
  clear e
  induction zs with
  | nil => exact .nil
  | cons z zs ih => exact .cons (sw_str (tok_mono (ht z (List.mem_cons_self ..)) (by decide)) H) (ih fun y hy => ht y (List.mem_cons_of_mem _ hy))
theorem wd_sok {zs : List Str} (ht : ∀ z ∈ zs, Tok' z 8) (hn : zs.length ≤ 6) : Sok (wD zs) := by
  refine sok_of (sz_tup (n := 302) (k := 0) (m := 2000) (fun d hd => ?_) (by rw [List.length_map]; omega)) (by decide) (by decide)
  obtain ⟨z, hz, rfl⟩ := List.mem_map.mp hd
  exact sz_str (ht z hz) (by decide)
theorem tok_letter {s : Str} (h : isL s = true) : Tok' s 8 := by
  obtain ⟨c, r, k⟩ := let_of h
  exact k.tok
theorem sz_tri (hn : Tok' nm 30) (hd : Sok d) : ∀ x ∈ [PyData.str nm, d, .bool true], Sz 7600 11 x := fun x hx => by
  rcases List.mem_cons.mp hx with e | hx
  · rw [e]
    exact sz_up (sz_str hn (Nat.le_refl _)) (by decide) (by decide)
  · rcases List.mem_cons.mp hx with e | hx
    · rw [e]
      exact sz_up (n := 2500) (k := 10) hd (by decide) (by decide)
    · rw [List.mem_singleton.mp hx]
      exact sz_up (sz_bl true) (by decide) (by decide)
theorem tri_sw (hn : Tok' nm 100) (hv : Sw P w H v d) : Paired (Sw P w H) [.str nm, v, .bl true] [.str nm, d, .bool true] := .cons (sw_str hn H) (.cons hv (.cons (sw_of (rw_bl true) rfl (by decide +kernel)) .nil))
theorem els_told : Els P w Z (tLst (tCons (tC (.str "told")) tNil)) σ H [.str "told"] := fun H1 r Q q => ⟨(by show 1 ≤ sizeLine; decide), fun p hp => by
  have r3 : R Z H1 (upd H1 p (.lst [.str "told"])) := .of r.b (Ex.new hp)
  exact q p _ r3 ⟨_, upd_same, .cons (sw_str (tok_c (by decide +kernel)) _) .nil⟩⟩
theorem els_tri {te : TE} (hn : Tok' nm 100) (h : Rm.Ew Z te σ H v) (hv : ∀ H1, R Z H H1 → Sw P w H1 v d) : Els P w Z (tLst (tCons (tC (.str nm)) (tCons te (tCons (tC (.bl true)) tNil)))) σ H [.str nm, d, .bool true] := fun H1 r Q q =>
  h H1 r _ fun H2 r2 => ⟨(by show 3 ≤ sizeLine; decide), fun p hp => by
    have r3 : R Z H1 (upd H2 p (.lst [.str nm, v, .bl true])) := r2.new hp
    exact q p _ r3 ⟨_, upd_same, tri_sw hn (hv _ (r.trans r3))⟩⟩
theorem ew_eqS {x : Str} (ha : Rm.Ew Z ta σ H (.str x)) (hb : Rm.Ew Z tb σ H (.str x)) : Rm.Ew Z (tOp rEq ta tb) σ H (.bl true) :=
  Rm.ew_is (Rm.ew_op ha hb fun _ _ => rv_eq rfl) (by simp)
end
section
variable {P : Program} {w : World} {K : PySem.W.Frag} {mg : Str → Option Value} {base : Heap} {TT : List (Addr × Str)} {CW CS CT CK c0 P0 : Addr}
def spLong (K : PySem.W.Frag) (T : List (Addr × Str)) : Sp := fun vs H Q _ => ∃ (g v u : V) (xs ys : List Str), vs = [g, v, u] ∧ Tabs T H ∧ Wd K H v xs ∧ Wd K H u ys ∧ isW xs = true ∧ isW ys = true ∧ ∀ H', R (Z0 T) H H' → Q (.bl true) H'
abbrev s_long_right : Stmt := topS 36
theorem sc_long_right : FnScope ["_law_signs_here", "_law_row_here", "_law_other", "_law_both", "_law_told_here"] ["_law_signs_here", "_law_row_here", "_law_other"] (defScope s_long_right) := ⟨rfl, rfl, rfl, by decide +kernel, rfl, by decide +kernel, by decide +kernel⟩
theorem ok_long_right {f : Addr} {fd : FuncData} (F : FunD K "_law_long_right" "_law_long_right" (defArgs s_long_right) (defBody s_long_right) (defScope s_long_right) [] [] f fd) (T : Tx P w K mg base) (hC : CodeAt K f c0) (TB : TabB base mg c0 P0) (hmT : (P0, ("_law_long_right.<locals>.<lambda>" : Str)) ∈ TT) (huT : ∀ z ∈ TT, z.1 = P0 → z.2 = ("_law_long_right.<locals>.<lambda>" : Str)) (DT : ToldD K mg) (CC : Cls K mg CW CS CT CK) (djoined : CalO P w K mg base (L2.CX P w) 4 "joined" ["word", "next_word"] (spJoined K CW)) : FnG P w K mg base CX0 7 f fd ["_law_signs_here", "_law_row_here", "_law_other"] (spLong K TT) := by
  refine fnGc hC F sc_long_right (fun vs H Q E h => ?_) (fun A outer s H vs Q E gd hr h => ?_)
  · obtain ⟨g, v, u, xs, ys, rfl, _⟩ := h
    rfl
  · skip
    refine ⟨_, PSs.nox ((pss_cons (ps_set (i := 3) sc_long_right.nd rfl (by first | exact Or.inl rfl | exact Or.inr rfl) (pe_op (op_catAK (K := K)) (pv 1) (pv 2)))
      (pss_cons (ps_set (i := 4) sc_long_right.nd rfl (by first | exact Or.inl rfl | exact Or.inr rfl) (pe_told (k := 4) DT CC T.m_isinstance TB rfl hmT huT hr (lamS_by (sc := defScope s_long_right) (by decide +kernel)) rfl (fun _ _ _ _ _ => rfl) (fun A2 outer2 s2 H2 E2 f2 c2 hr => (pe_calO djoined hr (passes_call (takes_of rfl rfl rfl rfl) fun _ _ _ _ h => h) (pa_cons (pv 1) (pa_cons (pv 2) pa_nil))))))
      (pss_one (ps_ret (pe_cmpR op_eq (pe_callB (call_reprS (P := P) (w := w) gd hr.units) (by rfl) T.m_repr (by decide +kernel) (pa_cons (pv 4) pa_nil)) (pe_callB (call_reprS (P := P) (w := w) gd hr.units) (by rfl) T.m_repr (by decide +kernel) (pa_cons (pe_ifExp (pt_cmpR op_lt (pe_callB (call_lenK (K := K)) (by rfl) T.m_len (by decide +kernel) (pa_cons (pv 3) pa_nil)) pe_int (nomark _)) (pe_lst (pa_cons pe_str pa_nil)) (pe_lst (pa_cons pe_str (pa_cons (pv 3) (pa_cons pe_bl pa_nil))))) pa_nil)) (nomark _))))))), ?_⟩
    obtain ⟨g, v, u, xs, ys, rfl, ht, hv, hu, hx, hy, q⟩ := h
    have o : Ok (Z0 TT) H := ⟨ht, fun _ z => z.elim⟩
    obtain ⟨x3, xl⟩ := isW_iff.mp hx
    obtain ⟨y3, yl⟩ := isW_iff.mp hy
    refine q_asgW (ew_cat (ew_of (ev_var rfl) hv) (ew_of (ev_var rfl) hu) (by omega)) fun r H1 e1 hr => ?_
    have r1 : R (Z0 TT) H H1 := .of o e1
    have zl : ∀ z ∈ xs ++ ys, Tok' z 8 := fun z hz => (List.mem_append.mp hz).elim (fun h => tok_letter (xl z h)) fun h => tok_letter (yl z h)
    have hlen : (xs ++ ys).length = xs.length + ys.length := List.length_append
    have tw : Tok' ("word" : Str) 30 := tok_c (by decide +kernel)
    have sok := wd_sok zl (by omega)
    have wv : ∀ H2, R (Z0 TT) H1 H2 → WB K H2 v true := fun H2 r2 => wb_word (Rm.wd_R (r1.trans r2) hv) hx
    have wu : ∀ H2, R (Z0 TT) H1 H2 → WB K H2 u true := fun H2 r2 => wb_word (Rm.wd_R (r1.trans r2) hu) hy
    have fin : ∀ (l : Addr) (H2 : Hp) (ds : List PyData), R (Z0 TT) H1 H2 → (∀ d ∈ ds, Sz 7600 11 d) → ds.length ≤ 100 → (∀ H3, R (Z0 TT) H2 H3 → Shl P w H3 l ds) → ((decide (((xs ++ ys).length : Int) < 4) = true ∧ ds = [.str "told"]) ∨ (decide (((xs ++ ys).length : Int) < 4) = false ∧ ds = [.str "word", wD (xs ++ ys), .bool true])) →
        tRet (tOp rEq (tCB (rReprS P w) (tCons (tVar 4) tNil)) (tCB (rReprS P w) (tCons (tIf (tTest (tOp (rI0 fun i j => .bl (decide (i < j))) (tCB (rLenS K) (tCons (tVar 3) tNil)) (tC (.int 4)))) (tLst (tCons (tC (.str "told")) tNil)) (tLst (tCons (tC (.str "word")) (tCons (tVar 3) (tCons (tC (.bl true)) tNil))))) tNil))) { nx := fun _ H' => Q .non H', rt := Q } [some g, some v, some u, some r, some (.ref l)] H2 := fun l H2 ds r2 hs hn sh hd => by
      obtain ⟨s1, s2⟩ := shown_ok hs hn
      refine Rm.s_ret r2.b (ew_eqS (ew_repr (els_var sh rfl) s1 s2) (ew_repr (els_if (b := decide (((xs ++ ys).length : Int) < 4)) ?_ ?_ ?_) s1 s2)) fun H3 r3 => q H3 ((r1.trans r2).trans r3)
      · exact Rm.et_of fun H4 r4 => et_test (ev_op (ev_lenW (ev_var rfl) (Rm.wd_R (r2.trans r4) hr)) ev_c rv_I0)
      · intro z
        rcases hd with ⟨_, e⟩ | ⟨e, _⟩
        · rw [e]
          exact els_told
        · rw [e] at z
          cases z
      · intro z
        rcases hd with ⟨e, _⟩ | ⟨_, e⟩
        · rw [e] at z
          cases z
        · rw [e]
          exact els_tri (tok_mono tw (by decide)) (Rm.ew_of fun _ _ => ev_var rfl) fun H4 r4 => wd_sw (Rm.wd_R (r2.trans r4) hr) zl
    by_cases hc : xs.length + ys.length ≤ 3
    · have dc : decide (((xs ++ ys).length : Int) < 4) = true := decide_eq_true (by omega)
      have hz : isW (xs ++ ys) = true := isW_iff.mpr ⟨by omega, fun z hz => (List.mem_append.mp hz).elim (xl z) (yl z)⟩
      refine el_told (Z := Z0 TT) (fun H2 r2 E Q k => ?_) H1 (.refl r1.b) _ fun l H2 fl r2 hl => ?_
      · exact ⟨_, rfl, _, rfl, v, u, true, rfl, wv H2 r2, (fun z => by cases z), fun _ => ⟨true, wu H2 r2, (fun z => by cases z), fun _ => ⟨xs, ys, Rm.wd_R (r1.trans r2) hv, Rm.wd_R (r1.trans r2) hu, x3, y3, fun r' H3 e3 hr' => ⟨true, wb_word hr' hz, (fun z => by cases z), fun _ H4 e4 => k r' H4 (.of r2.b (e3.trans e4))⟩⟩⟩⟩
      · exact fin l H2 [.str "told"] r2 (fun d hd => by rw [List.mem_singleton.mp hd]; exact sz_up (sz_str (n := 30) (tok_c (by decide +kernel)) (Nat.le_refl _)) (by decide) (by decide)) (by decide) (fun H3 r3 => ⟨_, r3.lst hl (fun z => z), .cons (sw_str (tok_c (by decide +kernel)) _) .nil⟩) (.inl ⟨dc, rfl⟩)
    · have dc : decide (((xs ++ ys).length : Int) < 4) = false := decide_eq_false (by omega)
      have hz : isW (xs ++ ys) = false := by
        cases e : isW (xs ++ ys) with
        | false => rfl
        | true =>
          have := (isW_iff.mp e).1
          omega
      refine el_errX (Z := Z0 TT) (fun e H => Wd K H e (xs ++ ys)) (fun e H1 H2 r k => Rm.wd_R r k) (.inl ⟨rfl, rfl, rfl⟩) (fun H2 r2 E Q k => ?_) H1 (.refl r1.b) _ fun l e H2 fl r2 hl he => ?_
      · exact ⟨_, rfl, _, rfl, v, u, true, rfl, wv H2 r2, (fun z => by cases z), fun _ => ⟨true, wu H2 r2, (fun z => by cases z), fun _ => ⟨xs, ys, Rm.wd_R (r1.trans r2) hv, Rm.wd_R (r1.trans r2) hu, x3, y3, fun r' H3 e3 hr' => ⟨false, by
          have z := wb_any hr' (by omega) fun y hy => Nat.le_trans (zl y hy).len (by decide)
          rw [hz] at z
          exact z, fun _ => k r' H3 (.of r2.b e3) hr', fun z => by cases z⟩⟩⟩⟩
      · exact fin l H2 _ r2 (sz_tri tw sok) (Nat.le_of_ble_eq_true rfl) (fun H3 r3 => ⟨_, r3.lst hl (fun z => z), tri_sw (tok_mono tw (by decide)) (wd_sw (Rm.wd_R r3 he) zl)⟩) (.inr ⟨dc, rfl⟩)

end
end K11
namespace K11
open PySem PySem.Spec PyProof.Rows L2 Lw Evl LamX TL
open Rm (R Ok Z0 Zp Fr fr_none fr_ne nt_lst nt_tup nt_dK NT Zn)
open LwX (XC XF)
section
variable {P : Program} {w : World} {K : PySem.W.Frag} {Z : Zn} {σ : L2.St} {H H0 H1 : Hp} {te ta tb : TE} {tt : TT} {tri : List V} {v : V} {l : Addr} {n j : Nat} {ds : List PyData} {d : PyData} {nm f : Str} {CW CS CT C : Addr} {t : XK → TE}
theorem tx_of (o : Ok Z H0) (h : OT K H0 H v) : ∀ H2, R Z H H2 → BT K v H2 := by
  obtain ⟨S, h1, h2⟩ := h
  exact fun H2 r => h2 H2 fun q hq => r.st _ _ (h1 q hq).2.2 (h1 q hq).2.1 (o.fresh (fr_none (h1 q hq).1))
/-- [[..]] * m -/
theorem els_repL {m : Nat} (h : El Z te σ H tri) (hs : ∀ H1 a, R Z H H1 → H1 a = some (.lst tri) → Sw P w H1 (.ref a) d) (hm : m ≤ 100) : Els P w Z (tOp rRep (tLst (tCons te tNil)) (tC (.int (m : Int)))) σ H (List.replicate m d) := fun H1 r Q q =>
  h H1 r _ fun a H2 fa r2 ha => ⟨(by show 1 ≤ sizeLine; decide), fun p hp => ⟨p, (m : Int), [.ref a], rfl, rfl, upd_same, by omega, by omega, by
    show 1 * (m : Int).toNat ≤ sizeLine
    rw [Nat.one_mul, Int.toNat_natCast]
    exact sz_of (by omega), fun t ht => by
    rw [Int.toNat_natCast, flatten_rep1]
    have r3 := (r2.new (o := .lst [.ref a]) hp).new (o := .lst (List.replicate m (.ref a))) ht
    have ra : R Z H2 (upd (upd H2 p (.lst [.ref a])) t (.lst (List.replicate m (.ref a)))) := ((R.refl r2.b).new hp).new ht
    refine q t _ r3 ⟨_, upd_same, ?_⟩
    have z := paired_rep (Rel := Sw P w (upd (upd H2 p (.lst [.ref a])) t (.lst (List.replicate m (.ref a))))) (b := d) (xs := List.replicate m (V.ref a)) fun x hx => by
      rw [List.eq_of_mem_replicate hx]
      exact hs _ a (r.trans r3) (ra.lst ha (r.b.fresh fa))
    rw [List.length_replicate] at z
    exact z⟩⟩
theorem rd_bad {u : V} {E : XK} {Q : VK} (h : BT K u H) (x : Rz CT "line" (.int 1) H E) : spRead K CT [u] H Q E := by
  rcases h with ⟨t, h1, h2⟩ | ⟨s, ys, rfl, ne, hz, hs, hy, hyl, bad⟩
  · exact ⟨_, rfl, .inl ⟨t, h1, h2, x⟩⟩
  · exact ⟨_, rfl, .inr (.inr ⟨s, ys, rfl, ne, hz, hs, hy, hyl, (fun z => by rw [bad] at z; cases z), fun _ => x⟩)⟩
theorem rd_good {ys : List Str} {E : XK} {Q : VK} (hw : isW ys = true) (k : ∀ r H', Ex H H' → Q r H') : spRead K CT [.str (tx ys)] H Q E := by
  by_cases e : ys = []
  · subst e
    exact ⟨_, rfl, .inr (.inl ⟨rfl, fun r H' e _ => k r H' e⟩)⟩
  · obtain ⟨h3, hl⟩ := isW_iff.mp hw
    have z := word_len hw
    refine ⟨_, rfl, .inr (.inr ⟨tx ys, ys, rfl, tx_dash e hw, ?_, ?_, by omega, fun y hy => Nat.le_trans (tok_letter (hl y hy)).len (by decide), fun _ r H' e _ => k r H' e, fun z => by rw [hw] at z; cases z⟩)⟩
    · rw [tx_ne e]
      omega
    · rw [tx_ne e]
      exact split_word e hw
theorem ew_isTold (h : El Z te σ H [.str "told"]) : Rm.Ew Z (tOp (rEqD K) te (tLst (tCons (tC (.str "told")) tNil))) σ H (.bl true) := fun H1 r Q q =>
  h H1 r _ fun l H2 fl r2 hl => ⟨(by show 1 ≤ sizeLine; decide), fun p hp => by
    have r3 : R Z H2 (upd H2 p (.lst [.str "told"])) := (R.refl r2.b).new hp
    have hl3 := r3.lst hl (r.b.fresh fl)
    exact ⟨.list [.str "told"], .list [.str "told"], .lst (SqL.of hl3) (.cons (.str _) .nil), .lst (SqL.of upd_same) (.cons (.str _) .nil), by decide +kernel, by decide +kernel, q _ (r2.trans r3)⟩⟩
theorem ev_joinL {ys : List Str} (h : EvL te σ H (ys.map V.str)) (hz : (ys.map (·.length)).sum + ys.length ≤ 1000) : Ev (tM1 (rJoin K) (tC (.str ".")) te) σ H (.str (Str.join "." ys)) := fun H1 e Q q => ⟨⟨_, rfl⟩, h H1 e _ fun l H2 hl e2 hv => ⟨".", l, ys, rfl, rfl, .inl (SqL.of hv), by show _ + ys.length * 1 ≤ _; omega, by rw [TL.join_eq]; exact q H2 e2⟩⟩
end
section
variable {P : Program} {w : World} {K : PySem.W.Frag} {mg : Str → Option Value} {base : Heap} {TT : List (Addr × Str)} {CW CS CT CK c0 P0 : Addr}
def spTextsR (K : PySem.W.Frag) (T : List (Addr × Str)) : Sp := fun vs H Q _ => ∃ (l : Addr) (xs : List Str), vs = [.ref l] ∧ Tabs T H ∧ H l = some (.lst (xs.map V.str)) ∧ 0 < xs.length ∧ (∀ x ∈ xs, isL x = true) ∧ ∀ H', R (Z0 T) H H' → Q (.bl true) H'
abbrev s_texts_right : Stmt := topS 38
theorem sc_texts_right : FnScope ["_law_signs_here", "_law_odd", "_law_told_here", "_law_good", "_law_page"] ["_law_signs_here"] (defScope s_texts_right) := ⟨rfl, rfl, rfl, by decide +kernel, rfl, by decide +kernel, by decide +kernel⟩
theorem ok_texts_right {f : Addr} {fd : FuncData} (F : FunD K "_law_texts_right" "_law_texts_right" (defArgs s_texts_right) (defBody s_texts_right) (defScope s_texts_right) [] [] f fd) (T : Tx P w K mg base) (hC : CodeAt K f c0) (TB : TabB base mg c0 P0) (hmT : (P0, ("_law_texts_right.<locals>.<lambda>" : Str)) ∈ TT) (huT : ∀ z ∈ TT, z.1 = P0 → z.2 = ("_law_texts_right.<locals>.<lambda>" : Str)) (DT : ToldD K mg) (CC : Cls K mg CW CS CT CK) (d_law_no_texts : Cal P w K mg base CX0 1 "_law_no_texts" ["_law_signs_here"] (spNoTexts K)) (dread_word : CalO P w K mg base (L2.CX P w) 3 "read_word" ["text"] (spRead K CT)) : FnG P w K mg base CX0 7 f fd ["_law_signs_here"] (spTextsR K TT) := by
  refine fnGc hC F sc_texts_right (fun vs H Q E h => ?_) (fun A outer s H vs Q E gd hr h => ?_)
  · obtain ⟨l, xs, rfl, _⟩ := h
    rfl
  · skip
    refine ⟨_, PSs.nox ((pss_cons (ps_for PassesOwn.never rfl (pi_listK (K := K) (pe_cal d_law_no_texts gd hr (pa_cons (pv 0) pa_nil))) (pg_name (i := 1) sc_texts_right.nd rfl (by first | exact Or.inl rfl | exact Or.inr rfl)) (pss_cons (ps_set (i := 2) sc_texts_right.nd rfl (by first | exact Or.inl rfl | exact Or.inr rfl) (pe_lst (pa_cons (pe_told (k := 4) DT CC T.m_isinstance TB rfl hmT huT hr (lamS_by (sc := defScope s_texts_right) (by decide +kernel)) rfl (fun _ _ _ _ _ => rfl) (fun A2 outer2 s2 H2 E2 f2 c2 hr => (pe_calO dread_word hr (passes_call (takes_of rfl rfl rfl rfl) fun _ _ _ _ h => h) (pa_cons (pv 1) pa_nil)))) pa_nil)))
      (pss_cons (ps_expr (pe_bm PySem.F.plainAttrs_list PySem.F.slot_list_append PySem.F.type_list_append mt_append (pv 2) (pa_cons (pe_told (k := 4) DT CC T.m_isinstance TB rfl hmT huT hr (lamS_by (sc := defScope s_texts_right) (by decide +kernel)) rfl (fun _ _ _ _ _ => rfl) (fun A2 outer2 s2 H2 E2 f2 c2 hr => (pe_calOR dread_word hr (passes_call (takes_of rfl rfl rfl rfl) fun _ _ _ _ h => h) (pk_cons (pv 1) pk_nil)))) pa_nil)))
      (pss_one (ps_if (pt_cmpR op_ne (pe_callB (call_reprS (P := P) (w := w) gd hr.units) (by rfl) T.m_repr (by decide +kernel) (pa_cons (pv 2) pa_nil)) (pe_callB (call_reprS (P := P) (w := w) gd hr.units) (by rfl) T.m_repr (by decide +kernel) (pa_cons (pe_op op_rep (pe_lst (pa_cons (pe_lst (pa_cons pe_str (pa_cons pe_int (pa_cons pe_bl pa_nil)))) pa_nil)) pe_int) pa_nil)) (nomark _)) (pss_one (ps_ret pe_bl)) pss_nil)))))
      (pss_cons (ps_set (i := 3) sc_texts_right.nd rfl (by first | exact Or.inl rfl | exact Or.inr rfl) (pe_lst (pa_cons pe_str (pa_cons (pe_ix (ix_listK (K := K)) (pv 0) pe_int (fun _ _ => rfl)) (pa_cons (pe_op op_add_str (pe_op op_add_str (pe_ix (ix_listK (K := K)) (pv 0) (pe_un un_neg pe_int) (fun _ _ => rfl)) pe_str) (pe_ix (ix_listK (K := K)) (pv 0) pe_int (fun _ _ => rfl))) (pa_cons (pe_joinK (K := K) pe_str (pe_op op_rep (pe_lst (pa_cons (pe_ix (ix_listK (K := K)) (pv 0) pe_int (fun _ _ => rfl)) pa_nil)) pe_int)) pa_nil))))))
      (pss_one (ps_ret (pe_callB (cr_allK (K := K)) (by rfl) T.m_all (by decide +kernel) (pa_cons (pe_lc (own := [("_law_page", 4)]) (g := gName 4) (tt := tYes) rfl sc_texts_right.nd (pi_listK (K := K) (pv 3)) (blkOk_by (own := [("_law_page", 4)]) (N := ["_law_signs_here", "_law_odd", "_law_told_here", "_law_good", "_law_page"]) (sc := defScope s_texts_right) (by decide +kernel)) (fun _ _ _ _ _ => pg_name (i := 4) sc_texts_right.nd rfl (by first | exact Or.inl rfl | exact Or.inr rfl)) (fun _ _ _ _ _ => pts_nil) (fun _ _ _ _ _ => (pe_cmpR (op_eqDK (K := K) hr.units) (pe_told (k := 4) DT CC T.m_isinstance TB rfl hmT huT hr (lamS_by (by rfl)) rfl (fun _ _ _ _ _ => rfl) (fun A2 outer2 s2 H2 E2 f2 c2 hr => (pe_calO dread_word hr (passes_call (takes_of rfl rfl rfl rfl) fun _ _ _ _ h => h) (pa_cons (pv 4) pa_nil)))) (pe_lst (pa_cons pe_str pa_nil)) (nomark _)))) pa_nil))))))), ?_⟩
    obtain ⟨l, xs, rfl, ht, hl, hx0, hx, q⟩ := h
    have o : Ok (Z0 TT) H := ⟨ht, fun _ z => z.elim⟩
    refine ⟨_, rfl, l, xs, rfl, hl, hx0, hx, fun rl H1 hrl e1 ol => ?_⟩
    obtain ⟨vs, hvs, hvl, hob⟩ := ol
    have r1 : R (Z0 TT) H H1 := .of o e1
    have tt : Tok' ("text" : Str) 30 := tok_c (by decide +kernel)
    have sk : Sok (.int 1) := sok_of (sz_int 1 (by decide)) (by decide) (by decide)
    have s1w : ∀ H2, Sw P w H2 (.int 1) (.int 1) := fun H2 => (ga_int (K := K) 1 H2 (by decide)).1
    refine ⟨rl, rfl, ⟨_, SqL.of hvs⟩, for_list (xs := vs) (fun i σ H2 => ∃ a b, σ = [some (.ref l), a, b, none, none] ∧ R (Z0 TT) H1 H2) ⟨_, _, rfl, .refl r1.b⟩ (fun i σ H2 _ hP => ?_) (fun i u σ H2 hu hP => ?_) (fun σ H2 hP => ?_)⟩
    · obtain ⟨a, b, rfl, r2⟩ := hP
      exact SqL.of (r2.lst hvs fun z => z)
    · obtain ⟨a, b, rfl, r2⟩ := hP
      have bt : ∀ H3, R (Z0 TT) H2 H3 → BT K u H3 := fun H3 r => tx_of o (hob u (List.mem_of_getElem? hu)) H3 (r2.trans r)
      have e1 : El (Z0 TT) (tLam TT (TTold CW CS CT) fun E2 => tCall (spRead K CT) [] E2 (tCons (tVar 1) tNil)) [some (.ref l), some u, b, none, none] H2 [.str "text", .int 1, .bl true] := el_err (Z := Z0 TT) (.inr (.inr ⟨rfl, rfl, rfl⟩)) fun H4 r E Q x => ⟨_, rfl, rd_bad (bt H4 r) x⟩
      refine q_cs1 e1 (.refl r2.b) fun lc H4 r4 c4 => ?_
      have e2 : El (Z0 TT) (tLam TT (TTold CW CS CT) fun E2 => tCallRE (spRead K CT) E2 (tCons (tVar 1) tNil)) [some (.ref l), some u, some (.ref lc), none, none] H2 [.str "text", .int 1, .bl true] := el_err (Z := Z0 TT) (.inr (.inr ⟨rfl, rfl, rfl⟩)) fun H4 r E Q x => ⟨_, rfl, rd_bad (bt H4 r) x⟩
      refine q_csA (fun H1 Q q => ⟨_, rfl, q⟩) (e2.mono r4) r4 c4 (by decide) fun H5 r5 c5 => ?_
      obtain ⟨s1, s2⟩ := shown_ok (ds := List.replicate 2 (D3 "text" (.int 1))) (fun x hx => by rw [List.eq_of_mem_replicate hx]; exact sz_D3 tt sk) (by rw [List.length_replicate]; decide)
      have shC : ∀ H10, R (Z0 TT) H5 H10 → Shl P w H10 lc (List.replicate 2 (D3 "text" (.int 1))) := fun H10 r => cs_shl (cs_R r2.b r c5) (tok_mono tt (by decide)) (s1w H10)
      refine s_whenR (b := false) r5.b (et_neS (ew_repr (els_var shC rfl) s1 s2) (ew_repr (els_repL (m := 2) (tri := [.str "text", .int 1, .bl true]) (el_of fun _ _ => el_lst (ea_cons ev_c (ea_cons ev_c (ea_cons ev_c ea_nil))) (by show 3 ≤ 100000; decide)) (fun H6 a r ha => sw_D3 ha (tok_mono tt (by decide)) (s1w H6)) (by decide)) s1 s2) rfl) (fun z => by cases z) (fun _ H10 r10 => ⟨_, _, rfl, (r2.trans r5).trans r10⟩)
    · obtain ⟨a, b, rfl, r2⟩ := hP
      have hl2 := (r1.trans r2).lst hl (fun z => z)
      have h0 : xs[0]? = some xs[0] := List.getElem?_eq_getElem hx0
      have hL0 := hx xs[0] (List.getElem_mem hx0)
      generalize xs[0] = s0 at h0 hL0
      obtain ⟨s1, hs1, hat⟩ := atI_end (xs := xs) (fun z => by rw [z] at hx0; exact absurd hx0 (by decide))
      have hL1 := hx s1 hs1
      have t0 := (tok_letter hL0).len
      have t1 := (tok_letter hL1).len
      have one : ∀ {H' : Hp}, Ex H2 H' → Ev (tOp (rIxL K) (tVar 0) (tC (.int 0))) [some (.ref l), a, b, none, none] H' (.str s0) := fun e => ev_op (ev_var rfl) ev_c (rv_ixL (SqL.of (e _ _ hl2)) (show atI (xs.map V.str) ((0 : Nat) : Int) = some (.str s0) from atI_nat (by rw [List.getElem?_map, h0]; rfl)))
      have end_ : ∀ {H' : Hp}, Ex H2 H' → Ev (tOp (rIxL K) (tVar 0) (tUn (rU fun i => .int (-i)) (tC (.int 1)))) [some (.ref l), a, b, none, none] H' (.str s1) := fun e => ev_op (ev_var rfl) (fun H1 e1 Q q => ⟨1, rfl, q H1 (Ex.refl H1)⟩) (rv_ixL (SqL.of (e _ _ hl2)) hat)
      have ed : Str.length "." = 1 := rfl
      have w0 : isW [s0] = true := isW_iff.mpr ⟨by show 1 ≤ 3; decide, fun y hy => by rw [List.mem_singleton.mp hy]; exact hL0⟩
      have w1 : isW [s1, s0] = true := isW_iff.mpr ⟨by show 2 ≤ 3; decide, fun y hy => (List.mem_cons.mp hy).elim (fun e => e ▸ hL1) fun h => by rw [List.mem_singleton.mp h]; exact hL0⟩
      have w3 : isW (List.replicate 3 s0) = true := isW_iff.mpr ⟨by rw [List.length_replicate]; decide, fun y hy => by rw [List.eq_of_mem_replicate hy]; exact hL0⟩
      refine q_asgL (xs := [.str "-", .str s0, .str ((s1 ++ ".") ++ s0), .str (Str.join "." (List.replicate 3 s0))]) (el_lst (ea_cons ev_c (ea_cons (one (Ex.refl H2)) (ea_cons (ev_addX (ev_addX (end_ (Ex.refl H2)) ev_c (by rw [ed]; omega)) (one (Ex.refl H2)) (by rw [len_app, ed]; omega)) (ea_cons (ev_joinL (ys := List.replicate 3 s0) (by
          rw [List.map_replicate]
          exact el_rep1 (n := 3) (el_lst (ea_cons (one (Ex.refl H2)) ea_nil) (by show 1 ≤ 100000; decide)) (fun _ _ => ev_c) (by decide)) (by
          show ([s0, s0, s0].map (·.length)).sum + 3 ≤ 1000
          simp only [List.map_cons, List.map_nil, List.sum_cons, List.sum_nil]
          omega)) ea_nil)))) (by show 4 ≤ 100000; decide)) fun gl H3 hgl e3 hg => ?_
      have r3 : R (Z0 TT) H H3 := (r1.trans r2).ex e3
      have pages : ∀ x ∈ [V.str "-", V.str s0, V.str ((s1 ++ ".") ++ s0), V.str (Str.join "." (List.replicate 3 s0))], ∃ ys, x = .str (tx ys) ∧ isW ys = true := fun x hx => by
        rcases List.mem_cons.mp hx with e | hx
        · exact ⟨[], e, rfl⟩
        · rcases List.mem_cons.mp hx with e | hx
          · exact ⟨[s0], e, w0⟩
          · rcases List.mem_cons.mp hx with e | hx
            · exact ⟨[s1, s0], e, w1⟩
            · exact ⟨List.replicate 3 s0, List.mem_singleton.mp hx, w3⟩
      have hpl : [V.str "-", V.str s0, V.str ((s1 ++ ".") ++ s0), V.str (Str.join "." (List.replicate 3 s0))].length ≤ 4 := (by show 4 ≤ 4; decide)
      generalize [V.str "-", V.str s0, V.str ((s1 ++ ".") ++ s0), V.str (Str.join "." (List.replicate 3 s0))] = pgs at hg pages hpl
      refine ⟨_, rfl, gl, rfl, ⟨_, SqL.of hg⟩, fun D hD => lc_list (xs := pgs) (fun i H4 => R (Z0 TT) H3 H4 ∧ H4 D = some (.lst (List.replicate i (.bl true)))) ⟨(R.refl r3.b).new hD, upd_same⟩ (fun i H4 _ hP => SqL.of (hP.1.lst hg fun z => z)) (fun i x H4 hx4 hP => ?_) (fun H4 hP => ?_)⟩
      · obtain ⟨r4, hd⟩ := hP
        obtain ⟨ys, rfl, hyw⟩ := pages x (List.mem_of_getElem? hx4)
        have hi4 : i < pgs.length := (List.getElem?_eq_some_iff.mp hx4).1
        refine ⟨rfl, ?_⟩
        unfold tYes
        dsimp only
        try rw [if_pos rfl]
        refine ew_isTold (el_told (Z := Z0 TT) fun H5 r5 E Q k => ⟨_, rfl, rd_good hyw fun r H6 e6 => k r H6 (.of r5.b e6)⟩) H4 (.refl r4.b) _ fun H5 r5 => ⟨List.replicate i (.bl true), r5.lst hd (fun z => z), ?_, ?_, ?_⟩
        · rw [List.length_replicate]
          exact sz_lt (by omega)
        · exact Rm.R.mut (r4.trans r5) (fr_none hD) (r5.lst hd fun z => z) trivial
        · rw [upd_same, List.replicate_succ']
      · obtain ⟨r4, hd⟩ := hP
        refine ⟨D, List.replicate _ true, rfl, SqL.of (by rw [List.map_replicate]; exact hd), ?_⟩
        have z : ∀ n, (List.replicate n true).all id = true := fun n => by
          rw [List.all_replicate]
          cases n <;> rfl
        rw [z]
        exact q H4 (r3.trans r4)

end
end K11
namespace K11
open PySem PySem.Spec PyProof.Rows L2 Lw Evl LamX TL
/-- {k: v}, k a tuple -/
def tDisp1T (tk tv : TE) : TE := fun σ H Q => ∀ D, H D = none → tPairs [(tk, tv)] σ (upd H D (.dT [])) fun ps H2 => ∃ (b : Addr) (k : List L2.Key) (v : V), ps = [(.ref b, v)] ∧ H2 D = some (.dT []) ∧ H2 b = some (.tup (k.map kV)) ∧ Q (.ref D) (upd H2 D (.dT (putK [] k v)))
theorem pe_disp1T {X : Cx} {pos : Pos} {ke ve : Expr} {tk tv : TE} (hu : X.A.units < cLine) (h : PPs X pos [some ke] [ve] [(tk, tv)]) : PE X (.Dict [some ke] [ve] pos) (tDisp1T tk tv) := by
  constructor
  intro pins s σ H Q I q
  have hn := I.hok.fresh (Nat.le_refl s.heap.objs.size)
  have I1 := I.laid (a := s.heap.objs.size) (o := .dT []) (h' := s.heap.push { cls := .type "dict", data := .dict #[] }) (t' := s.toks) (fun _ _ q => Heap.get?_push_of_some _ q) (Nat.le_refl _) (dt_empty s.heap I.big)
  refine wpAny_Dict_any rfl rfl (fun z => nomatch z) (by show 1 ≤ 15; decide) (thn (h.run pins _ σ _ _ I1 (q _ hn)) fun ws s2 hh => ?_)
  obtain ⟨ps, H2, I2, rel, b, k, v, rfl, hD, hb, q2⟩ := hh
  cases rel with
  | @cons x y xs ys r t =>
    cases t
    obtain ⟨u1, u2⟩ := y
    obtain ⟨r1, r2⟩ := r
    obtain rfl : u1 = Value.ref b := r1
    unfold storeAll
    rw [List.forIn_cons]
    refine wpAny_bind (wpAny_bind (putT I2 hu hD hb (by show 0 < sizeLine; decide) r2 fun t I3 => wpAny_pure ?_))
    show wpAny _ _ (forIn [] _ _) _ _ _
    rw [List.forIn_nil]
    exact wpAny_pure ⟨.ref _, _, I3, rfl, q2⟩
def rTupleK (K : PySem.W.Frag) : List V → Hp → VK → Prop := fun xs H Q => ∃ p ys, xs = [V.ref p] ∧ ((SqL K H p ys ∧ ∀ l, H l = none → Q (V.ref l) (upd H l (.tup ys))) ∨ (SqT K H p ys ∧ Q (V.ref p) H))
theorem call_tupleK {X : Cx} {K : PySem.W.Frag} (h : X.K = K := by rfl) : CallR X (.type "tuple") (rTupleK K) := by
  subst h
  exact call_tuple_of
end K11
namespace K11
open PySem PySem.Spec PyProof.Rows L2 Lw Evl LamX TL
open Rm (R Ok Z0 Zp Fr fr_none fr_ne nt_lst nt_tup nt_dK NT Zn)
open LwX (XC XF)
section
variable {P : Program} {w : World} {K : PySem.W.Frag} {Z : Zn} {σ : L2.St} {H H0 H1 : Hp} {te ta tb : TE} {tt : TT} {tri us : List V} {u v : V} {l b : Addr} {n j m : Nat} {ds : List PyData} {d : PyData} {nm f : Str} {CW CS CT C : Addr} {t : XK → TE} {TT : List (Addr × Str)} {E : XK} {Q : VK}
/-! ### in_order's three ways -/
theorem rep_first {rest : List Bool} {i : Nat} (h : (List.replicate m true ++ false :: rest)[i]? = some false) (pr : ∀ j, j < i → (List.replicate m true ++ false :: rest)[j]? = some true) : i = m := by
  rcases Nat.lt_trichotomy i m with z | z | z
  · rw [List.getElem?_append_left (by rw [List.length_replicate]; exact z), List.getElem?_replicate, if_pos z] at h
    cases h
  · exact z
  · have y := pr m z
    rw [List.getElem?_append_right (by rw [List.length_replicate]; omega), List.length_replicate, Nat.sub_self] at y
    cases y
theorem ord_bad {rest : List Bool} (hu : H b = some (.lst us) ∨ H b = some (.tup us)) (ht : Tabs TT H) (hl : us.length ≤ 1000) (hp : Paired (WB K H) us (List.replicate m true ++ false :: rest)) (x : Rz CS "position" (.int (m : Int)) H E) : spOrder K TT CS [.ref b] H Q E :=
  ⟨_, rfl, ht, .inr ⟨b, us, _, rfl, hu, hl, hp, fun i hi pr => by rw [rep_first hi pr]; exact x, fun all => by
    have z := all false (List.mem_append_right _ (List.mem_cons_self ..))
    cases z⟩⟩
theorem ord_good {ws : List (List Str)} (hu : H b = some (.lst us) ∨ H b = some (.tup us)) (ht : Tabs TT H) (hl : us.length ≤ 1000) (hp : Paired (Wd K H) us ws) (hw : ∀ x ∈ ws, isW x = true) (k : ∀ r H', R (Z0 TT) H H' → Q r H') : spOrder K TT CS [.ref b] H Q E := by
  have all : Paired (WB K H) us (List.replicate us.length true) := by
    refine paired_rep fun v hv => ?_
    obtain ⟨i, hi, rfl⟩ := List.getElem_of_mem hv
    obtain ⟨y, hy, r⟩ := paired_at hp (List.getElem?_eq_getElem hi)
    exact wb_word r (hw y (List.mem_of_getElem? hy))
  have no : ∀ i : Nat, (List.replicate us.length true)[i]? = some false → False := fun i hi => by
    rw [List.getElem?_replicate] at hi
    split at hi <;> cases hi
  exact ⟨_, rfl, ht, .inr ⟨b, us, _, rfl, hu, hl, all, (fun i hi _ => (no i hi).elim), fun _ => ⟨ws, hp, k⟩⟩⟩
theorem ord_odd {ty : String} (h : TyX K H v (.type ty)) (hk : PySem.W.kitAny K (.type ty) [.type "list", .type "tuple"] = some false) (ht : Tabs TT H) (x : Rz CS "position" .non H E) : spOrder K TT CS [v] H Q E := ⟨_, rfl, ht, .inl ⟨ty, h, hk, x⟩⟩
/-- what is no list, no tuple -/
def NL (K : PySem.W.Frag) (v : V) (H : Hp) : Prop := ∃ ty : String, TyX K H v (.type ty) ∧ PySem.W.kitAny K (.type ty) [.type "list", .type "tuple"] = some false
def ON (K : PySem.W.Frag) (H0 H : Hp) (v : V) : Prop := Ft H0 H (NL K v)
theorem up_on : Up (ON K) := ⟨fun e h => ft_up e h, fun e h => ft_dn e h⟩
theorem nl_of (o : Ok Z H0) (h : ON K H0 H v) : ∀ H2, R Z H H2 → NL K v H2 := by
  obtain ⟨S, h1, h2⟩ := h
  exact fun H2 r => h2 H2 fun q hq => r.st _ _ (h1 q hq).2.2 (h1 q hq).2.1 (o.fresh (fr_none (h1 q hq).1))
theorem on_ev (h : Ev te σ H v) (k : ∀ H, NL K v H) : ∀ H1, Ex H H1 → ∀ Q : VK, (∀ v H2, Ex H1 H2 → ON K H1 H2 v → Q v H2) → te σ H1 Q := fun H1 e Q q => h H1 e Q fun H2 e2 => q v H2 e2 (ft_pure k)
theorem on_dnew : ∀ H1, Ex H H1 → ∀ Q : VK, (∀ v H2, Ex H1 H2 → ON K H1 H2 v → Q v H2) → tDNewK σ H1 Q := fun H1 e Q q => fun p hp => q _ _ (Ex.new hp) (ft_imp (ft_new (G := fun _ => True) (ft_pure fun _ => trivial) (Ex.refl H1) hp nt_dK) fun H3 z => ⟨"dict", .base (.dK z.1), rfl⟩)
theorem on_dT : ∀ H1, Ex H H1 → ∀ Q : VK, (∀ v H2, Ex H1 H2 → ON K H1 H2 v → Q v H2) → tDisp1T (tTup tNil) (tC (.int 1)) σ H1 Q := fun H1 e Q q => fun D hD => ⟨Nat.zero_le _, fun b hb => by
  have e2 : Ex H1 (upd (upd (upd H1 D (.dT [])) b (.tup [])) D (.dT (putK [] ([] : List L2.Key) (.int 1)))) := Ex.mut ((Ex.new hD).trans (Ex.new hb)) hD
  have ne : D ≠ b := ne_of_none upd_same hb
  exact ⟨b, [], .int 1, rfl, by rw [upd_ne ne]; exact upd_same, upd_same, q _ _ e2 ⟨[(D, .dT (putK [] ([] : List L2.Key) (.int 1)))], fun q hq => by
    rw [List.mem_singleton.mp hq]
    exact ⟨hD, Rm.nt_dT, upd_same⟩, fun H4 z => ⟨"dict", .base (.dT (z _ (List.mem_singleton.mpr rfl))), rfl⟩⟩⟩⟩
theorem on_dK {s : Str} (hk : Ev ta σ H (.str s)) : ∀ H1, Ex H H1 → ∀ Q : VK, (∀ v H2, Ex H1 H2 → ON K H1 H2 v → Q v H2) → tDisp [(ta, tTup tNil)] σ H1 Q := fun H1 e Q q => fun p hp => hk _ (e.trans (Ex.new hp)) _ fun H2 e2 => ⟨Nat.zero_le _, fun b hb => by
  have e13 : Ex H1 (upd (upd H2 b (.tup [])) p (.dK [(.inr s, .ref b)])) := Ex.mut (((Ex.new hp).trans e2).trans (Ex.new hb)) hp
  refine ⟨(Ex.new hb) _ _ (e2 _ _ upd_same), [(.inr s, .ref b)], rfl, (by show 1 ≤ 15; decide), q _ _ e13 ⟨[(p, .dK [(.inr s, .ref b)])], fun q hq => ?_, fun H4 z => ?_⟩⟩
  · rw [List.mem_singleton.mp hq]
    exact ⟨hp, nt_dK, upd_same⟩
  · exact ⟨"dict", .base (.dK (z _ (List.mem_singleton.mpr rfl))), rfl⟩⟩
/-! ### what the draws give -/
theorem ev_lenL {p : Addr} {xs : List V} (ha : Ev te σ H (.ref p)) (h : SqL K H p xs) : Ev (tCB (rLenS K) (tCons te tNil)) σ H (.int (xs.length : Int)) := fun H1 e Q q =>
  ha H1 e _ fun H2 e2 => ⟨p, xs, rfl, .inl (ex_l (e.trans e2) h), q H2 e2⟩
theorem el_take {to th : TO} (ha : Ev ta σ H (.ref b)) (hl : H b = some (.lst us)) (h1 : EvO to σ H none) (h2 : EvO th σ H (some (n : Int))) (hn : n ≤ us.length) : EvL (tSl (rSlL K) ta to th) σ H (us.take n) := fun H1 e Q q => by
  refine el_sl (K := K) (H := H1) (ha.mono e) (fun H2 e2 => h1 H2 (e.trans e2)) (fun H2 e2 => h2 H2 (e.trans e2)) (SqL.of (e _ _ hl)) H1 (Ex.refl H1) _ fun p H2 hp e2 h => ?_
  rw [cut_to us n hn] at h
  exact q p H2 hp e2 h
theorem el_drop {to th : TO} (ha : Ev ta σ H (.ref b)) (hl : H b = some (.lst us)) (h1 : EvO to σ H (some (n : Int))) (h2 : EvO th σ H none) (hn : n ≤ us.length) : EvL (tSl (rSlL K) ta to th) σ H (us.drop n) := fun H1 e Q q => by
  refine el_sl (K := K) (H := H1) (ha.mono e) (fun H2 e2 => h1 H2 (e.trans e2)) (fun H2 e2 => h2 H2 (e.trans e2)) (SqL.of (e _ _ hl)) H1 (Ex.refl H1) _ fun p H2 hp e2 h => ?_
  rw [cut_from us n hn] at h
  exact q p H2 hp e2 h
/-- pick(pot, [[], [None], [thing]]) -/
theorem pick3 {p : Addr} (o : Ok (Zp TT p) H) (hp : ∀ H1 (Q : VK), Q (.ref p) H1 → ta σ H1 Q) (hu : ∀ H1 (Q : VK), Q u H1 → tb σ H1 Q) {Q : VK} (k : ∀ a H' ts, R (Zp TT p) H H' → H' a = some (.lst ts) → (ts = [] ∨ ts = [.non] ∨ ts = [u]) → Q (.ref a) H') :
    tCall (spPick K) [] E0 (tCons ta (tCons (tLst (tCons (tLst tNil) (tCons (tLst (tCons (tC .non) tNil)) (tCons (tLst (tCons tb tNil)) tNil)))) tNil)) σ H Q := by
  refine hp H _ ⟨Nat.zero_le _, fun a1 h1 => ⟨(by show 1 ≤ sizeLine; decide), fun a2 h2 => hu _ _ ⟨(by show 1 ≤ sizeLine; decide), fun a3 h3 => ⟨(by show 3 ≤ sizeLine; decide), fun lo h4 => ?_⟩⟩⟩⟩
  have r1 : R (Zp TT p) H (upd H a1 (.lst [])) := (R.refl o).new h1
  have r2 := r1.new (o := .lst [.non]) h2
  have r3 := r2.new (o := .lst [u]) h3
  have r4 := r3.new (o := .lst [.ref a1, .ref a2, .ref a3]) h4
  have po := r4.b.2 p rfl
  have e1 : (upd H a1 (.lst [])) a1 = some (.lst []) := upd_same
  have n2 : a1 ≠ a2 := ne_of_none e1 h2
  have e2 : (upd (upd H a1 (.lst [])) a2 (.lst [.non])) a1 = some (.lst []) := by rw [upd_ne n2]; exact e1
  have n3 : a1 ≠ a3 := ne_of_none e2 h3
  have f2 : (upd (upd H a1 (.lst [])) a2 (.lst [.non])) a2 = some (.lst [.non]) := upd_same
  have m3 : a2 ≠ a3 := ne_of_none f2 h3
  have g1 : (upd (upd (upd H a1 (.lst [])) a2 (.lst [.non])) a3 (.lst [u])) a1 = some (.lst []) := by rw [upd_ne n3]; exact e2
  have g2 : (upd (upd (upd H a1 (.lst [])) a2 (.lst [.non])) a3 (.lst [u])) a2 = some (.lst [.non]) := by rw [upd_ne m3]; exact f2
  have g3 : (upd (upd (upd H a1 (.lst [])) a2 (.lst [.non])) a3 (.lst [u])) a3 = some (.lst [u]) := upd_same
  have np : ∀ {a : Addr} {o : HO}, (upd (upd (upd H a1 (.lst [])) a2 (.lst [.non])) a3 (.lst [u])) a = some o → ∀ {G : Hp}, G a = none → R (Zp TT p) G (upd (upd (upd H a1 (.lst [])) a2 (.lst [.non])) a3 (.lst [u])) → a ≠ p := fun {a o} _ {G} g r z => (r.a.fresh (fr_none g)) z
  have p1 : a1 ≠ p := np g1 h1 r3
  have p2 : a2 ≠ p := fun z => by
    rw [z] at h2
    exact (r1.b.fresh (fr_none h2)) rfl
  have p3 : a3 ≠ p := fun z => by
    rw [z] at h3
    exact (r2.b.fresh (fr_none h3)) rfl
  have p4 : lo ≠ p := fun z => by
    rw [z] at h4
    exact (r3.b.fresh (fr_none h4)) rfl
  refine ⟨p, lo, [.ref a1, .ref a2, .ref a3], rfl, po, upd_same, p4, (Nat.le_of_ble_eq_true rfl), (Nat.le_of_ble_eq_true rfl), fun v H' hv x => ?_⟩
  have r5 : R (Zp TT p) H H' := r4.trans (Rm.R.xp r4.b.1 po x)
  have at_ : ∀ {a : Addr} {ts : List V}, (upd (upd (upd H a1 (.lst [])) a2 (.lst [.non])) a3 (.lst [u])) a = some (.lst ts) → a ≠ p → H' a = some (.lst ts) := fun {a ts} e n => x.1 a _ n (by rw [upd_ne (ne_of_none e h4)]; exact e)
  rcases List.mem_cons.mp hv with e | hv
  · rw [e]
    exact k a1 H' _ r5 (at_ g1 p1) (.inl rfl)
  · rcases List.mem_cons.mp hv with e | hv
    · rw [e]
      exact k a2 H' _ r5 (at_ g2 p2) (.inr (.inl rfl))
    · rw [List.mem_singleton.mp hv]
      exact k a3 H' _ r5 (at_ g3 p3) (.inr (.inr rfl))
theorem pw_sw {ws : List (List Str)} (h : Paired (Wd K H) us ws) (hw : ∀ x ∈ ws, isW x = true) : Paired (Sw P w H) us (ws.map wD) := by
  induction h with
  | nil => exact .nil
  | cons r t ih => exact .cons (wd_sw r fun z hz => tok_letter ((isW_iff.mp (hw _ (List.mem_cons_self ..))).2 z hz)) (ih fun x hx => hw x (List.mem_cons_of_mem _ hx))
theorem pw_wb {ws : List (List Str)} (h : Paired (Wd K H) us ws) (hw : ∀ x ∈ ws, isW x = true) : Paired (WB K H) us (List.replicate us.length true) := by
  induction h with
  | nil => exact .nil
  | cons r t ih => exact .cons (wb_word r (hw _ (List.mem_cons_self ..))) (ih fun x hx => hw x (List.mem_cons_of_mem _ hx))
theorem pw_sz {ws : List (List Str)} (hw : ∀ x ∈ ws, isW x = true) : ∀ d ∈ ws.map wD, Sz 7600 11 d := fun d hd => by
  obtain ⟨x, hx, rfl⟩ := List.mem_map.mp hd
  obtain ⟨h3, hl⟩ := isW_iff.mp (hw x hx)
  exact sz_up (n := 2500) (k := 10) (wd_sok (fun z hz => tok_letter (hl z hz)) (by omega)) (by decide) (by decide)
/-- .. == [["told"], ["told"]] -/
theorem ew_eqTolds (h : ∀ H1, R Z H H1 → Cs H0 H1 l 2 [.str "told"]) (hj : σ[j]? = some (some (.ref l))) : Rm.Ew Z (tOp (rEqD K) (tVar j) (tLst (tCons (tLst (tCons (tC (.str "told")) tNil)) (tCons (tLst (tCons (tC (.str "told")) tNil)) tNil)))) σ H (.bl true) := fun H1 r Q q => by
  refine ⟨_, hj, (by show 1 ≤ sizeLine; decide), fun a1 h1 => ⟨(by show 1 ≤ sizeLine; decide), fun a2 h2 => ⟨(by show 2 ≤ sizeLine; decide), fun a3 h3 => ?_⟩⟩⟩
  have r1 : R Z H1 (upd H1 a1 (.lst [.str "told"])) := (R.refl r.b).new h1
  have r2 := r1.new (o := .lst [.str "told"]) h2
  have r3 := r2.new (o := .lst [.ref a1, .ref a2]) h3
  obtain ⟨_, rs, c1, c2, c3⟩ := h _ (r.trans r3)
  have n2 : a1 ≠ a2 := ne_of_none upd_same h2
  have g1 : (upd (upd H1 a1 (.lst [.str "told"])) a2 (.lst [.str "told"])) a1 = some (.lst [.str "told"]) := by rw [upd_ne n2]; exact upd_same
  have g2 : (upd (upd H1 a1 (.lst [.str "told"])) a2 (.lst [.str "told"])) a2 = some (.lst [.str "told"]) := upd_same
  have k1 : (upd (upd (upd H1 a1 (.lst [.str "told"])) a2 (.lst [.str "told"])) a3 (.lst [.ref a1, .ref a2])) a1 = some (.lst [.str "told"]) := by rw [upd_ne (ne_of_none g1 h3)]; exact g1
  have k2 : (upd (upd (upd H1 a1 (.lst [.str "told"])) a2 (.lst [.str "told"])) a3 (.lst [.ref a1, .ref a2])) a2 = some (.lst [.str "told"]) := by rw [upd_ne (ne_of_none g2 h3)]; exact g2
  have one : ∀ {a : Addr} {G : Hp}, G a = some (.lst [.str "told"]) → Dp K G (.ref a) (.list [.str "told"]) := fun e => .lst (SqL.of e) (.cons (.str _) .nil)
  match rs, c2, c1, c3 with
  | [x, y], _, c1, c3 =>
    obtain ⟨b1, rfl, _, _, d1⟩ := c3 x (List.mem_cons_self ..)
    obtain ⟨b2, rfl, _, _, d2⟩ := c3 y (List.mem_cons_of_mem _ (List.mem_cons_self ..))
    exact ⟨.list [.list [.str "told"], .list [.str "told"]], .list [.list [.str "told"], .list [.str "told"]], .lst (SqL.of c1) (.cons (one d1) (.cons (one d2) .nil)), .lst (SqL.of upd_same) (.cons (one k1) (.cons (one k2) .nil)), by decide +kernel, by decide +kernel, q _ r3⟩
/-- a told list, shown -/
theorem els_el {vs : List V} (h : El Z te σ H vs) (hs : ∀ H1, R Z H H1 → Paired (Sw P w H1) vs ds) : Els P w Z te σ H ds := fun H1 r Q q => h H1 r Q fun l H2 _ r2 hl => q l H2 r2 ⟨vs, hl, hs _ (r.trans r2)⟩
end
section
variable {P : Program} {w : World} {K : PySem.W.Frag} {mg : Str → Option Value} {base : Heap} {TT : List (Addr × Str)} {CW CS CT CK c0 P0 : Addr}
def spLotsR (K : PySem.W.Frag) (T : List (Addr × Str)) : Sp := fun vs H Q _ => ∃ (p l : Addr) (xs : List Str), vs = [.ref p, .ref l] ∧ Tabs T H ∧ Po p H ∧ l ≠ p ∧ H l = some (.lst (xs.map V.str)) ∧ 0 < xs.length ∧ xs.length ≤ 8 ∧ (∀ x ∈ xs, isL x = true) ∧ ∀ H', R (Zp T p) H H' → Q (.bl true) H'
abbrev s_lots_right : Stmt := topS 37
theorem sc_lots_right : FnScope ["_law_pot_here", "_law_signs_here", "_law_lot", "_law_turn", "_law_thing", "_law_at", "_law_bent", "_law_kept", "_law_told_here", "_law_odd"] ["_law_pot_here", "_law_signs_here"] (defScope s_lots_right) := ⟨rfl, rfl, rfl, by decide +kernel, rfl, by decide +kernel, by decide +kernel⟩
theorem ok_lots_right {f : Addr} {fd : FuncData} (F : FunD K "_law_lots_right" "_law_lots_right" (defArgs s_lots_right) (defBody s_lots_right) (defScope s_lots_right) [] [] f fd) (T : Tx P w K mg base) (hC : CodeAt K f c0) (TB : TabB base mg c0 P0) (hmT : (P0, ("_law_lots_right.<locals>.<lambda>" : Str)) ∈ TT) (huT : ∀ z ∈ TT, z.1 = P0 → z.2 = ("_law_lots_right.<locals>.<lambda>" : Str)) (DT : ToldD K mg) (CC : Cls K mg CW CS CT CK) (d_law_draw : Cal P w K mg base CX0 1 "_law_draw" ["_law_pot_here", "_law_size"] spDraw) (d_law_pick : Cal P w K mg base CX0 2 "_law_pick" ["_law_pot_here", "_law_some"] (spPick K)) (d_law_row : Cal P w K mg base CX0 3 "_law_row" ["_law_pot_here", "_law_signs_here"] (spRow K)) (d_law_no_rows : Cal P w K mg base CX0 1 "_law_no_rows" ["_law_signs_here"] (spNoRows P w K)) (din_order : CalO P w K mg base (L2.CX P w) 3 "in_order" ["words"] (spOrder K TT CS)) : FnG P w K mg base CX0 7 f fd ["_law_pot_here", "_law_signs_here"] (spLotsR K TT) := by
  refine fnGc hC F sc_lots_right (fun vs H Q E h => ?_) (fun A outer s H vs Q E gd hr h => ?_)
  · obtain ⟨p, l, xs, rfl, _⟩ := h
    rfl
  · skip
    refine ⟨_, PSs.nox ((pss_cons (ps_set (i := 2) sc_lots_right.nd rfl (by first | exact Or.inl rfl | exact Or.inr rfl) (pe_lc (own := [("_law_turn", 3)]) (g := gName 3) (tt := tYes) rfl sc_lots_right.nd (pi_range1 (by rfl) T.m_range (pa_cons (pe_cal d_law_draw gd hr (pa_cons (pv 0) (pa_cons pe_int pa_nil))) pa_nil)) (blkOk_by (own := [("_law_turn", 3)]) (N := ["_law_pot_here", "_law_signs_here", "_law_lot", "_law_turn", "_law_thing", "_law_at", "_law_bent", "_law_kept", "_law_told_here", "_law_odd"]) (sc := defScope s_lots_right) (by decide +kernel)) (fun _ _ _ _ _ => pg_name (i := 3) sc_lots_right.nd rfl (by first | exact Or.inl rfl | exact Or.inr rfl)) (fun _ _ _ _ _ => pts_nil) (fun _ _ _ _ _ => (pe_cal d_law_row gd hr (pa_cons (pv 0) (pa_cons (pv 1) pa_nil))))))
      (pss_cons (ps_for PassesOwn.never rfl (pi_listK (K := K) (pe_cal d_law_no_rows gd hr (pa_cons (pv 1) pa_nil))) (pg_name (i := 4) sc_lots_right.nd rfl (by first | exact Or.inl rfl | exact Or.inr rfl)) (pss_cons (ps_set (i := 5) sc_lots_right.nd rfl (by first | exact Or.inl rfl | exact Or.inr rfl) (pe_cal d_law_draw gd hr (pa_cons (pv 0) (pa_cons (pe_op op_add (pe_callB (call_lenK (K := K)) (by rfl) T.m_len (by decide +kernel) (pa_cons (pv 2) pa_nil)) pe_int) pa_nil))))
      (pss_cons (ps_set (i := 6) sc_lots_right.nd rfl (by first | exact Or.inl rfl | exact Or.inr rfl) (pe_op op_cat (pe_op op_cat (pe_op op_cat (pe_slice (sl_listK (K := K)) (pv 2) po_none (po_some (pv 5))) (pe_lst (pa_cons (pv 4) pa_nil))) (pe_slice (sl_listK (K := K)) (pv 2) (po_some (pv 5)) po_none)) (pe_cal d_law_pick gd hr (pa_cons (pv 0) (pa_cons (pe_lst (pa_cons (pe_lst pa_nil) (pa_cons (pe_lst (pa_cons pe_non pa_nil)) (pa_cons (pe_lst (pa_cons (pv 4) pa_nil)) pa_nil)))) pa_nil)))))
      (pss_cons (ps_set (i := 7) sc_lots_right.nd rfl (by first | exact Or.inl rfl | exact Or.inr rfl) (pe_callB (call_reprS (P := P) (w := w) gd hr.units) (by rfl) T.m_repr (by decide +kernel) (pa_cons (pv 6) pa_nil)))
      (pss_cons (ps_set (i := 8) sc_lots_right.nd rfl (by first | exact Or.inl rfl | exact Or.inr rfl) (pe_lst (pa_cons (pe_told (k := 4) DT CC T.m_isinstance TB rfl hmT huT hr (lamS_by (sc := defScope s_lots_right) (by decide +kernel)) rfl (fun _ _ _ _ _ => rfl) (fun A2 outer2 s2 H2 E2 f2 c2 hr => (pe_calO din_order hr (passes_call (takes_of rfl rfl rfl rfl) fun _ _ _ _ h => h) (pa_cons (pv 6) pa_nil)))) pa_nil)))
      (pss_cons (ps_expr (pe_bm PySem.F.plainAttrs_list PySem.F.slot_list_append PySem.F.type_list_append mt_append (pv 8) (pa_cons (pe_told (k := 4) DT CC T.m_isinstance TB rfl hmT huT hr (lamS_by (sc := defScope s_lots_right) (by decide +kernel)) rfl (fun _ _ _ _ _ => rfl) (fun A2 outer2 s2 H2 E2 f2 c2 hr => (pe_calOR din_order hr (passes_call (takes_of rfl rfl rfl rfl) fun _ _ _ _ h => h) (pk_cons (pe_callTy (call_tupleK (K := K)) (by rfl) T.m_tuple (by decide +kernel) (pa_cons (pv 6) pa_nil)) pk_nil)))) pa_nil)))
      (pss_one (ps_if (PW.pt (pw_or (pt_cmpR op_ne (pe_callB (call_reprS (P := P) (w := w) gd hr.units) (by rfl) T.m_repr (by decide +kernel) (pa_cons (pv 8) pa_nil)) (pe_callB (call_reprS (P := P) (w := w) gd hr.units) (by rfl) T.m_repr (by decide +kernel) (pa_cons (pe_op op_rep (pe_lst (pa_cons (pe_lst (pa_cons pe_str (pa_cons (pv 5) (pa_cons pe_bl pa_nil)))) pa_nil)) pe_int) pa_nil)) (nomark _)) (pw_or1 (pt_cmpR op_ne (pe_callB (call_reprS (P := P) (w := w) gd hr.units) (by rfl) T.m_repr (by decide +kernel) (pa_cons (pv 6) pa_nil)) (pv 7) (nomark _))))) (pss_one (ps_ret pe_bl)) pss_nil))))))))
      (pss_cons (ps_for PassesOwn.never rfl (pi_listK (K := K) (pe_lst (pa_cons pe_non (pa_cons pe_bl (pa_cons pe_int (pa_cons pe_str (pa_cons (pe_ix (ix_listK (K := K)) (pv 1) pe_int (fun _ _ => rfl)) (pa_cons pe_str (pa_cons pe_dnewK (pa_cons (pe_disp1T (Nat.lt_of_le_of_lt (Nat.le_add_right _ 64) hr.units) (pps_cons (pe_tup pa_nil) pe_int pps_nil)) (pa_cons (pe_disp (pps_cons (pe_ix (ix_listK (K := K)) (pv 1) pe_int (fun _ _ => rfl)) (pe_tup pa_nil) pps_nil) (by rfl) (by rfl) (fun z => by cases z) (by decide)) pa_nil))))))))))) (pg_name (i := 9) sc_lots_right.nd rfl (by first | exact Or.inl rfl | exact Or.inr rfl)) (pss_one (ps_if (pt_cmpR op_ne (pe_callB (call_reprS (P := P) (w := w) gd hr.units) (by rfl) T.m_repr (by decide +kernel) (pa_cons (pe_told (k := 4) DT CC T.m_isinstance TB rfl hmT huT hr (lamS_by (sc := defScope s_lots_right) (by decide +kernel)) rfl (fun _ _ _ _ _ => rfl) (fun A2 outer2 s2 H2 E2 f2 c2 hr => (pe_calO din_order hr (passes_call (takes_of rfl rfl rfl rfl) fun _ _ _ _ h => h) (pa_cons (pv 9) pa_nil)))) pa_nil)) (pe_callB (call_reprS (P := P) (w := w) gd hr.units) (by rfl) T.m_repr (by decide +kernel) (pa_cons (pe_lst (pa_cons pe_str (pa_cons pe_non (pa_cons pe_bl pa_nil)))) pa_nil)) (nomark _)) (pss_one (ps_ret pe_bl)) pss_nil)))
      (pss_cons (ps_set (i := 8) sc_lots_right.nd rfl (by first | exact Or.inl rfl | exact Or.inr rfl) (pe_lst (pa_cons (pe_told (k := 4) DT CC T.m_isinstance TB rfl hmT huT hr (lamS_by (sc := defScope s_lots_right) (by decide +kernel)) rfl (fun _ _ _ _ _ => rfl) (fun A2 outer2 s2 H2 E2 f2 c2 hr => (pe_calO din_order hr (passes_call (takes_of rfl rfl rfl rfl) fun _ _ _ _ h => h) (pa_cons (pv 2) pa_nil)))) pa_nil)))
      (pss_cons (ps_expr (pe_bm PySem.F.plainAttrs_list PySem.F.slot_list_append PySem.F.type_list_append mt_append (pv 8) (pa_cons (pe_told (k := 4) DT CC T.m_isinstance TB rfl hmT huT hr (lamS_by (sc := defScope s_lots_right) (by decide +kernel)) rfl (fun _ _ _ _ _ => rfl) (fun A2 outer2 s2 H2 E2 f2 c2 hr => (pe_calO din_order hr (passes_call (takes_of rfl rfl rfl rfl) fun _ _ _ _ h => h) (pa_cons (pe_callTy (call_tupleK (K := K)) (by rfl) T.m_tuple (by decide +kernel) (pa_cons (pv 2) pa_nil)) pa_nil)))) pa_nil)))
      (pss_one (ps_ret (pe_cmpR (op_eqDK (K := K) hr.units) (pv 8) (pe_lst (pa_cons (pe_lst (pa_cons pe_str pa_nil)) (pa_cons (pe_lst (pa_cons pe_str pa_nil)) pa_nil))) (nomark _)))))))))), ?_⟩
    obtain ⟨p, l, xs, rfl, ht, hp, lp, hl, hx0, hx8, hx, q⟩ := h
    refine ⟨_, rfl, p, 6, rfl, hp, by decide, by decide, fun d H1 d0 d1 x1 => ⟨_, rfl, by omega, by omega, fun D hD => ?_⟩⟩
    have hl1 := x1.1 _ _ lp hl
    have pD : p ≠ D := by
      obtain ⟨o, ho⟩ := x1.2.some
      exact ne_of_none ho hD
    refine lc_range (lo := 0) (n := d.toNat) (fun i H4 => Xp p H1 H4 ∧ ∃ us ws, H4 D = some (.lst us) ∧ Paired (Wd K H4) us ws ∧ (∀ x ∈ ws, isW x = true) ∧ ws.length = i) ⟨(Xp.refl x1.2).snew hD, [], [], upd_same, .nil, fun x hx => absurd hx List.not_mem_nil, rfl⟩ (fun i H4 hi hP => ?_) (fun H4 hP => ?_)
    · obtain ⟨y, us, ws, hu, hp2, hw, hi2⟩ := hP
      refine ⟨rfl, ?_⟩
      unfold tYes
      dsimp only
      try rw [if_pos rfl]
      have pl := Paired.length hp2
      refine ⟨_, rfl, _, rfl, p, l, xs, rfl, y.2, y.1 _ _ lp hl1, lp, hx0, hx8, fun v ys H5 x5 hv h3 hys => ⟨us, x5.1 _ _ pD.symm hu, sz_lt (by omega), (y.trans x5).own hD pD.symm, us ++ [v], ws ++ [ys], upd_same, ?_, ?_, ?_⟩⟩
      · have hu5 := x5.1 _ _ pD.symm hu
        exact paired_app (paired_mono (fun _ _ r => wd_upd hu5 (wd_xp y.2 x5 r)) hp2) (.cons (wd_upd hu5 hv) .nil)
      · intro x hx2
        rcases List.mem_append.mp hx2 with z | z
        · exact hw x z
        · rw [List.mem_singleton.mp z]
          exact isW_iff.mpr ⟨h3, fun y hy => hx y (hys y hy)⟩
      · rw [List.length_append, hi2]
        rfl
    obtain ⟨y, us, ws, hu, hp2, hw, hi2⟩ := hP
    have x04 := x1.trans y
    have r4 : R (Zp TT p) H H4 := Rm.R.xp ht hp x04
    have hl4 := y.1 _ _ lp hl1
    have wl : ws.length ≤ 5 := by omega
    have ul := Paired.length hp2
    have o4 := r4.b
    have nD : ¬ (Zp TT p).M D := fun z => pD z.symm
    refine ⟨_, rfl, l, xs, rfl, hl4, hx0, hx, fun rl H5 hrl e5 ol => ?_⟩
    obtain ⟨vs, hvs, hvl, hob⟩ := ol
    have r5 : R (Zp TT p) H4 H5 := .of o4 e5
    have nrl : ¬ (Zp TT p).M rl := o4.fresh (fr_none hrl)
    refine ⟨rl, rfl, ⟨_, SqL.of hvs⟩, for_list (xs := vs) (fun i σ H6 => ∃ a b c d e f, σ = [some (.ref p), some (.ref l), some (.ref D), a, b, c, d, e, f, none] ∧ R (Zp TT p) H5 H6) ⟨_, _, _, _, _, _, rfl, .refl r5.b⟩ (fun i σ H6 _ hP => ?_) (fun i u σ H6 hu6 hP => ?_) (fun σ H6 hP => ?_)⟩
    · obtain ⟨_, _, _, _, _, _, _, r6⟩ := hP
      exact SqL.of (r6.lst hvs nrl)
    · obtain ⟨a, b, c, d, e, f, rfl, r6⟩ := hP
      obtain ⟨dd, sok, ga⟩ := th_of o4 (hob u (List.mem_of_getElem? hu6))
      have hD6 := (r5.trans r6).lst hu nD
      refine ⟨_, rfl, ev_op (ev_lenL (ev_var rfl) (SqL.of hD6)) ev_c rv_I0 H6 (Ex.refl H6) _ fun H7 e7 => ⟨p, (us.length : Int) + 1, rfl, Rm.po_ex e7 (r6.b.2 p rfl), by omega, by omega, fun at_ H8 a0 a1 x8 => ?_⟩⟩
      obtain ⟨m, rfl⟩ := Int.eq_ofNat_of_zero_le a0
      have hm : m ≤ us.length := by omega
      have r7 : R (Zp TT p) H6 H7 := .of r6.b e7
      have r8 : R (Zp TT p) H5 H8 := (r6.trans r7).trans (Rm.R.xp r7.b.1 (r7.b.2 p rfl) x8)
      have hD8 := (r5.trans r8).lst hu nD
      have five : us.length ≤ 5 := by omega
      have hA : EvL (tOp rCat (tOp rCat (tSl (rSlL K) (tVar 2) tNoPart (tPart (tVar 5))) (tLst (tCons (tVar 4) tNil))) (tSl (rSlL K) (tVar 2) (tPart (tVar 5)) tNoPart)) [some (.ref p), some (.ref l), some (.ref D), a, some u, some (.int (m : Int)), c, d, e, none] H8 (us.take m ++ [u] ++ us.drop m) :=
        el_cat (el_cat (el_take (ev_var rfl) hD8 eo_none (eo_some (ev_var rfl)) hm) (el_lst (ea_cons (ev_var rfl) ea_nil) (by show 1 ≤ 100000; decide)) (by rw [List.length_take]; show _ + 1 ≤ _; omega)) (el_drop (ev_var rfl) hD8 (eo_some (ev_var rfl)) eo_none hm) (by rw [List.length_append, List.length_take, List.length_drop]; show _ + 1 + _ ≤ _; omega)
      refine hA H8 (Ex.refl H8) _ fun b0 H9 hb0 e9 hB0 => ?_
      have r9 : R (Zp TT p) H8 H9 := .of r8.b e9
      have nb0 : ¬ (Zp TT p).M b0 := r8.b.fresh (fr_none hb0)
      refine pick3 (TT := TT) (p := p) (u := u) r9.b (fun H1 Q q => ⟨_, rfl, q⟩) (fun H1 Q q => ⟨_, rfl, q⟩) fun a9 H10 ts r10 hts cts => ?_
      have tl1 : ts.length ≤ 1 := by rcases cts with rfl | rfl | rfl <;> simp
      have lF : (us.take m ++ [u] ++ us.drop m).length = us.length + 1 := by
        rw [List.length_append, List.length_append, List.length_take, List.length_drop]
        show min m us.length + 1 + _ = _
        omega
      have lB : (us.take m ++ [u] ++ us.drop m ++ ts).length ≤ 10 := by
        rw [List.length_append, lF]
        omega
      refine ⟨b0, a9, _, ts, rfl, rfl, r10.lst hB0 nb0, hts, sz_of (by rw [lF]; omega), fun tb htb => ?_⟩
      have r11 : R (Zp TT p) H5 (upd H10 tb (.lst (us.take m ++ [u] ++ us.drop m ++ ts))) := ((r8.trans r9).trans r10).new htb
      have hbt : (upd H10 tb (.lst (us.take m ++ [u] ++ us.drop m ++ ts))) tb = some (.lst (us.take m ++ [u] ++ us.drop m ++ ts)) := upd_same
      have nbt : ¬ (Zp TT p).M tb := r10.b.fresh (fr_none htb)
      generalize upd H10 tb (.lst (us.take m ++ [u] ++ us.drop m ++ ts)) = H11 at r11 hbt
      have o11 := r11.b
      have sn : Sok .none := sok_of sz_non (by decide) (by decide)
      obtain ⟨tds, hts1, hts2, hts3⟩ : ∃ tds, (∀ H', R (Zp TT p) H11 H' → Paired (Sw P w H') ts tds) ∧ (∀ d ∈ tds, Sz 7600 11 d) ∧ tds.length ≤ 1 := by
        rcases cts with rfl | rfl | rfl
        · exact ⟨[], fun _ _ => .nil, fun _ z => absurd z List.not_mem_nil, by decide⟩
        · exact ⟨[.none], fun H' _ => .cons (ga_non (K := K) H').1 .nil, fun d hd => by rw [List.mem_singleton.mp hd]; exact sz_up (n := 2500) (k := 10) sn (by decide) (by decide), by show 1 ≤ 1; decide⟩
        · exact ⟨[dd], fun H' r => .cons (ga H' (r11.trans r)).1 .nil, fun d hd => by rw [List.mem_singleton.mp hd]; exact sz_up (n := 2500) (k := 10) sok (by decide) (by decide), by show 1 ≤ 1; decide⟩
      have htf : ∀ H', R (Zp TT p) H11 H' → ∃ fl, Paired (WB K H') ts fl := fun H' r => by
        rcases cts with rfl | rfl | rfl
        · exact ⟨[], .nil⟩
        · exact ⟨[false], .cons (ga_non (P := P) (w := w) H').2 .nil⟩
        · exact ⟨[false], .cons (ga H' (r11.trans r)).2 .nil⟩
      have pw : ∀ H', R (Zp TT p) H11 H' → Paired (Wd K H') us ws := fun H' r => paired_mono (fun _ _ q => Rm.wd_R ((r5.trans r11).trans r) q) hp2
      have hbd : ∀ H', R (Zp TT p) H11 H' → H' tb = some (.lst (us.take m ++ [u] ++ us.drop m ++ ts)) := fun H' r => r.lst hbt nbt
      have flags : ∀ H', R (Zp TT p) H11 H' → ∃ rest, Paired (WB K H') (us.take m ++ [u] ++ us.drop m ++ ts) (List.replicate m true ++ false :: rest) := fun H' r => by
        obtain ⟨fl, hfl⟩ := htf H' r
        have w1 := pw_wb (pw H' r) hw
        have w2 := paired_take m w1
        have w3 := paired_drop m w1
        rw [List.take_replicate, Nat.min_eq_left hm] at w2
        refine ⟨(List.replicate us.length true).drop m ++ fl, ?_⟩
        have z := paired_app (paired_app (paired_app w2 (.cons (ga H' (r11.trans r)).2 .nil)) w3) hfl
        simpa [List.append_assoc] using z
      have shB : ∀ H', R (Zp TT p) H11 H' → Shl P w H' tb (((ws.map wD).take m ++ [dd] ++ (ws.map wD).drop m) ++ tds) := fun H' r => by
        have s1 := pw_sw (P := P) (w := w) (pw H' r) hw
        exact ⟨_, hbd H' r, paired_app (paired_app (paired_app (paired_take m s1) (.cons (ga H' (r11.trans r)).1 .nil)) (paired_drop m s1)) (hts1 H' r)⟩
      have szw := pw_sz hw
      obtain ⟨s1, s2⟩ := shown_ok (ds := ((ws.map wD).take m ++ [dd] ++ (ws.map wD).drop m) ++ tds) (fun x hx => by
        rcases List.mem_append.mp hx with hx | hx
        · rcases List.mem_append.mp hx with hx | hx
          · rcases List.mem_append.mp hx with hx | hx
            · exact szw x (List.mem_of_mem_take hx)
            · rw [List.mem_singleton.mp hx]
              exact sz_up (n := 2500) (k := 10) sok (by decide) (by decide)
          · exact szw x (List.mem_of_mem_drop hx)
        · exact hts2 x hx) (by
        rw [List.length_append, List.length_append, List.length_append, List.length_take, List.length_drop, List.length_map]
        show min m ws.length + 1 + _ + _ ≤ 100
        omega)
      refine ew_repr (els_var (σ := [some (.ref p), some (.ref l), some (.ref D), a, some u, some (.int (m : Int)), some (.ref tb), d, e, none]) (j := 6) shB rfl) s1 s2 H11 (.refl o11) _ fun H12 r12 => ?_
      have m9 : 0 ≤ (m : Int) ∧ (m : Int) ≤ 9 := by omega
      have tw : Tok' ("words" : Str) 30 := tok_c (by decide +kernel)
      have sm : Sok (.int (m : Int)) := sok_of (sz_int _ m9) (by decide) (by decide)
      have swm : ∀ H, Sw P w H (.int (m : Int)) (.int (m : Int)) := fun H => (ga_int (K := K) _ H m9).1
      have e1 : El (Zp TT p) (tLam TT (TTold CW CS CT) fun E2 => tCall (spOrder K TT CS) [] E2 (tCons (tVar 6) tNil)) [some (.ref p), some (.ref l), some (.ref D), a, some u, some (.int (m : Int)), some (.ref tb), some (.str (listText (PyData.shownAll (((ws.map wD).take m ++ [dd] ++ (ws.map wD).drop m) ++ tds)))), e, none] H12 [.str "words", .int (m : Int), .bl true] := el_err (Z := Zp TT p) (.inr (.inl ⟨rfl, rfl, rfl⟩)) fun H13 r E Q x => by
        obtain ⟨rest, hf⟩ := flags H13 (r12.trans r)
        exact ⟨_, rfl, ord_bad (.inl (hbd H13 (r12.trans r))) r.b.1 (by omega) hf x⟩
      unfold gName
      dsimp only
      refine q_cs1 e1 (.refl r12.b) fun lc H13 r13 c13 => ?_
      have e2 : El (Zp TT p) (tLam TT (TTold CW CS CT) fun E2 => tCallRE (spOrder K TT CS) E2 (tCons (tCB (rTupleK K) (tCons (tVar 6) tNil)) tNil)) [some (.ref p), some (.ref l), some (.ref D), a, some u, some (.int (m : Int)), some (.ref tb), some (.str (listText (PyData.shownAll (((ws.map wD).take m ++ [dd] ++ (ws.map wD).drop m) ++ tds)))), some (.ref lc), none] H12 [.str "words", .int (m : Int), .bl true] := el_err (Z := Zp TT p) (.inr (.inl ⟨rfl, rfl, rfl⟩)) fun H14 r E Q x => ⟨_, rfl, tb, _, rfl, .inl ⟨SqL.of (hbd H14 (r12.trans r)), fun t2 ht2 => by
          have r15 := (R.refl r.b).new (o := .tup (us.take m ++ [u] ++ us.drop m ++ ts)) ht2
          obtain ⟨rest, hf⟩ := flags _ ((r12.trans r).trans r15)
          exact ord_bad (.inr upd_same) r15.b.1 (by omega) hf (rz_ex (Ex.new ht2) x)⟩⟩
      refine q_csA (fun H1 Q q => ⟨_, rfl, q⟩) (e2.mono r13) r13 c13 (by decide) fun H14 r14 c14 => ?_
      obtain ⟨s3, s4⟩ := shown_ok (ds := List.replicate 2 (D3 "words" (.int (m : Int)))) (fun x hx => by rw [List.eq_of_mem_replicate hx]; exact sz_D3 tw sm) (by rw [List.length_replicate]; decide)
      have shC : ∀ H15, R (Zp TT p) H14 H15 → Shl P w H15 lc (List.replicate 2 (D3 "words" (.int (m : Int)))) := fun H15 r => cs_shl (cs_R r12.b r c14) (tok_mono tw (by decide)) (swm H15)
      exact s_whenR (b := false || false) r14.b (Rm.et_or (et_neS (ew_repr (els_var shC rfl) s3 s4) (ew_repr (els_repL (m := 2) (tri := [.str "words", .int (m : Int), .bl true]) (el_of fun _ _ => el_lst (ea_cons ev_c (ea_cons (ev_var rfl) (ea_cons ev_c ea_nil))) (by show 3 ≤ 100000; decide)) (fun H6 a r ha => sw_D3 ha (tok_mono tw (by decide)) (swm H6)) (by decide)) s3 s4) rfl) (fun _ => et_neS (ew_repr (els_var (fun H15 r => shB H15 ((r12.trans r14).trans r)) rfl) s1 s2) (Rm.ew_of fun _ _ => ev_var rfl) rfl)) (fun z => by cases z) (fun _ H15 r15 => ⟨_, _, _, _, _, _, rfl, ((r11.trans r12).trans r14).trans r15⟩)
    · obtain ⟨a, b, c, d, e, f, rfl, r6⟩ := hP
      have r46 := r5.trans r6
      have hD6 := r46.lst hu nD
      have hl6 := r46.lst hl4 lp
      have h0 : xs[0]? = some xs[0] := List.getElem?_eq_getElem hx0
      generalize xs[0] = s0 at h0
      have one : ∀ {H' : Hp}, Ex H6 H' → Ev (tOp (rIxL K) (tVar 1) (tC (.int 0))) [some (.ref p), some (.ref l), some (.ref D), a, b, c, d, e, f, none] H' (.str s0) := fun e => ev_op (ev_var rfl) ev_c (rv_ixL (SqL.of (e _ _ hl6)) (show atI (xs.map V.str) ((0 : Nat) : Int) = some (.str s0) from atI_nat (by rw [List.getElem?_map, h0]; rfl)))
      dsimp only
      unfold tSeq tFor iList
      refine el_lst' (B := ON K) (n := 9) (H0 := H6) up_on
        (ea1 up_on (on_ev ev_c fun _ => ⟨"NoneType", .base .non, rfl⟩)
        (ea1 up_on (on_ev ev_c fun _ => ⟨"bool", .base (.bl true), rfl⟩)
        (ea1 up_on (on_ev ev_c fun _ => ⟨"int", .base (.int 0), rfl⟩)
        (ea1 up_on (on_ev ev_c fun _ => ⟨"str", .base (.str _), rfl⟩)
        (ea1 up_on (on_ev (one (Ex.refl H6)) fun _ => ⟨"str", .base (.str _), rfl⟩)
        (ea1 up_on (on_ev ev_c fun _ => ⟨"str", .base (.str _), rfl⟩)
        (ea1 up_on on_dnew (ea1 up_on on_dT (ea1 up_on (on_dK (one (Ex.refl H6))) ea0))))))))) (Ex.refl H6) (by decide) H6 (Ex.refl H6) _ fun ro H7 hro e7 oo => ?_
      obtain ⟨os, hos, _, hob2⟩ := oo
      have r7 : R (Zp TT p) H6 H7 := .of r6.b e7
      have nro : ¬ (Zp TT p).M ro := r6.b.fresh (fr_none hro)
      have tw : Tok' ("words" : Str) 30 := tok_c (by decide +kernel)
      have sn : Sok .none := sok_of sz_non (by decide) (by decide)
      refine ⟨ro, rfl, ⟨_, SqL.of hos⟩, for_list (xs := os) (fun i σ H8 => ∃ x, σ = [some (.ref p), some (.ref l), some (.ref D), a, b, c, d, e, f, x] ∧ R (Zp TT p) H7 H8) ⟨_, rfl, .refl r7.b⟩ (fun i σ H8 _ hP => ?_) (fun i u σ H8 hu8 hP => ?_) (fun σ H8 hP => ?_)⟩
      · obtain ⟨_, _, r8⟩ := hP
        exact SqL.of (r8.lst hos nro)
      · obtain ⟨x, rfl, r8⟩ := hP
        have nl := nl_of r6.b (hob2 u (List.mem_of_getElem? hu8))
        have el : El (Zp TT p) (tLam TT (TTold CW CS CT) fun E2 => tCall (spOrder K TT CS) [] E2 (tCons (tVar 9) tNil)) [some (.ref p), some (.ref l), some (.ref D), a, b, c, d, e, f, some u] H8 [.str "words", .non, .bl true] := el_err (Z := Zp TT p) (.inr (.inl ⟨rfl, rfl, rfl⟩)) fun H4 r E Q x => by
          obtain ⟨ty, h1, h2⟩ := nl H4 (r8.trans r)
          exact ⟨_, rfl, ord_odd h1 h2 r.b.1 x⟩
        obtain ⟨s1, s2⟩ := shown_ok (ds := [.str "words", .none, .bool true]) (sz_tri tw sn) (by show 3 ≤ 100; decide)
        have swn : ∀ H, Sw P w H .non .none := fun H => (ga_non (K := K) H).1
        exact s_whenR (b := false) r8.b (et_neS (ew_repr (els_el el fun H1 _ => tri_sw (tok_mono tw (by decide)) (swn H1)) s1 s2) (ew_repr (els_tri (tok_mono tw (by decide)) Rm.ew_c fun H1 _ => swn H1) s1 s2) rfl) (fun z => by cases z) (fun _ H10 r10 => ⟨_, rfl, r8.trans r10⟩)
      · obtain ⟨x, rfl, r8⟩ := hP
        have r48 := (r46.trans r7).trans r8
        have hD8 := r48.lst hu nD
        have pw8 : ∀ H9, R (Zp TT p) H8 H9 → Paired (Wd K H9) us ws := fun H9 r => paired_mono (fun _ _ q => Rm.wd_R (r48.trans r) q) hp2
        have e1 : El (Zp TT p) (tLam TT (TTold CW CS CT) fun E2 => tCall (spOrder K TT CS) [] E2 (tCons (tVar 2) tNil)) [some (.ref p), some (.ref l), some (.ref D), a, b, c, d, e, f, x] H8 [.str "told"] := el_told (Z := Zp TT p) fun H9 r E Q k => ⟨_, rfl, ord_good (.inl (r.lst hD8 nD)) r.b.1 (by omega) (pw8 H9 r) hw fun v H10 r10 => k v H10 (r10.sub (r.b.2 p rfl))⟩
        refine q_cs1 e1 (.refl r8.b) fun lc H9 r9 c9 => ?_
        have e2 : El (Zp TT p) (tLam TT (TTold CW CS CT) fun E2 => tCall (spOrder K TT CS) [] E2 (tCons (tCB (rTupleK K) (tCons (tVar 2) tNil)) tNil)) [some (.ref p), some (.ref l), some (.ref D), a, b, c, d, e, some (.ref lc), x] H8 [.str "told"] := el_told (Z := Zp TT p) fun H9 r E Q k => ⟨_, rfl, D, us, rfl, .inl ⟨SqL.of (r.lst hD8 nD), fun t2 ht2 => by
          have r10 := (R.refl r.b).new (o := .tup us) ht2
          exact ord_good (.inr upd_same) r10.b.1 (by omega) (pw8 _ (r.trans r10)) hw fun v H11 r11 => k v H11 (r10.trans (r11.sub (r10.b.2 p rfl)))⟩⟩
        refine q_csA (fun H1 Q q => ⟨_, rfl, q⟩) (e2.mono r9) r9 c9 (by decide) fun H10 r10 c10 => ?_
        exact Rm.s_ret r10.b (ew_eqTolds (l := lc) (H0 := H8) (fun H11 r => cs_R r8.b r c10) rfl) fun H11 r11 => q H11 (((r4.trans r48).trans r10).trans r11)

end
end K11
namespace K11
open PySem PySem.Spec PyProof.Rows L2 Lw Evl LamX TL
open Rm (R Ok Z0 Zp Fr fr_none fr_ne nt_lst nt_tup nt_dK NT Zn)
open LwX (XC XF)
theorem op_repTK {X : Cx} {K : PySem.W.Frag} (h : X.K = K := by rfl) : OpR X (binaryOp .Mult) (rRepT K) := h ▸ op_repT
section
variable {K : PySem.W.Frag} {σ : L2.St} {H : Hp} {te : TE} {y : Str}
theorem ew_rep3 (h : EvW K te σ H [y]) : EvW K (tOp (rRepT K) te (tC (.int 3))) σ H [y, y, y] := fun H1 e Q q => h H1 e _ fun v H2 e2 ⟨a, ea, hv⟩ =>
  ⟨a, 3, [.str y], ea, rfl, SqT.of hv, (fun z => by cases z), by decide, by decide, (by show 1 ≤ 1000; decide), fun p hp => q _ _ (e2.trans (Ex.new hp)) ⟨p, rfl, upd_same⟩⟩
end
section
variable {K : PySem.W.Frag} {Z : Zn} {σ : L2.St} {H H0 : Hp} {l : Addr} {j : Nat}
/-- .. != [["told"]] * 3 -/
theorem ew_neTolds (h : ∀ H1, R Z H H1 → Cs H0 H1 l 3 [.str "told"]) (hj : σ[j]? = some (some (.ref l))) : Rm.Ew Z (tOp (rNeD K) (tVar j) (tOp rRep (tLst (tCons (tLst (tCons (tC (.str "told")) tNil)) tNil)) (tC (.int 3)))) σ H (.bl false) := fun H1 r Q q => by
  refine ⟨_, hj, (by show 1 ≤ sizeLine; decide), fun a1 h1 => ⟨(by show 1 ≤ sizeLine; decide), fun a2 h2 => ⟨a2, 3, [.ref a1], rfl, rfl, upd_same, by decide, by decide, (by show 1 * 3 ≤ sizeLine; decide), fun a3 h3 => ?_⟩⟩⟩
  have r1 : R Z H1 (upd H1 a1 (.lst [.str "told"])) := (R.refl r.b).new h1
  have r2 := r1.new (o := .lst [.ref a1]) h2
  have r3 := r2.new (o := .lst (List.replicate (3 : Int).toNat [.ref a1]).flatten) h3
  obtain ⟨_, rs, c1, c2, c3⟩ := h _ (r.trans r3)
  have n2 : a1 ≠ a2 := ne_of_none upd_same h2
  have g1 : (upd (upd H1 a1 (.lst [.str "told"])) a2 (.lst [.ref a1])) a1 = some (.lst [.str "told"]) := by rw [upd_ne n2]; exact upd_same
  have k1 : (upd (upd (upd H1 a1 (.lst [.str "told"])) a2 (.lst [.ref a1])) a3 (.lst (List.replicate (3 : Int).toNat [.ref a1]).flatten)) a1 = some (.lst [.str "told"]) := by rw [upd_ne (ne_of_none g1 h3)]; exact g1
  have one : ∀ {a : Addr} {G : Hp}, G a = some (.lst [.str "told"]) → Dp K G (.ref a) (.list [.str "told"]) := fun e => .lst (SqL.of e) (.cons (.str _) .nil)
  have fl : (List.replicate (3 : Int).toNat [V.ref a1]).flatten = [.ref a1, .ref a1, .ref a1] := rfl
  match rs, c2, c1, c3 with
  | [x, y, z], _, c1, c3 =>
    obtain ⟨b1, rfl, _, _, d1⟩ := c3 x (List.mem_cons_self ..)
    obtain ⟨b2, rfl, _, _, d2⟩ := c3 y (List.mem_cons_of_mem _ (List.mem_cons_self ..))
    obtain ⟨b3, rfl, _, _, d3⟩ := c3 z (List.mem_cons_of_mem _ (List.mem_cons_of_mem _ (List.mem_cons_self ..)))
    exact ⟨.list [.list [.str "told"], .list [.str "told"], .list [.str "told"]], .list [.list [.str "told"], .list [.str "told"], .list [.str "told"]], .lst (SqL.of c1) (.cons (one d1) (.cons (one d2) (.cons (one d3) .nil))), .lst (SqL.of (upd_same.trans (by rw [fl]))) (.cons (one k1) (.cons (one k1) (.cons (one k1) .nil))), by decide +kernel, by decide +kernel, q _ r3⟩
end
section
variable {P : Program} {w : World} {K : PySem.W.Frag} {mg : Str → Option Value} {base : Heap} {TT : List (Addr × Str)} {CW CS CT CK c0 P0 : Addr}
def spPotT (T : List (Addr × Str)) : Sp := fun vs H Q _ => ∃ p : Addr, vs = [.ref p] ∧ Po p H ∧ Tabs T H ∧ ∀ H', R (Zp T p) H H' → Q (.bl true) H'
abbrev s_right : Stmt := topS 39
theorem sc_right : FnScope ["_law_pot_here", "_law_signs_here", "_law_row_here", "_law_other", "_law_told_here", "_law_full"] ["_law_pot_here"] (defScope s_right) := ⟨rfl, rfl, rfl, by decide +kernel, rfl, by decide +kernel, by decide +kernel⟩
theorem ok_right {f : Addr} {fd : FuncData} (F : FunD K "_law_right" "_law_right" (defArgs s_right) (defBody s_right) (defScope s_right) [] [] f fd) (T : Tx P w K mg base) (hC : CodeAt K f c0) (TB : TabB base mg c0 P0) (hmT : (P0, ("_law_right.<locals>.<lambda>" : Str)) ∈ TT) (huT : ∀ z ∈ TT, z.1 = P0 → z.2 = ("_law_right.<locals>.<lambda>" : Str)) (DT : ToldD K mg) (CC : Cls K mg CW CS CT CK) (d_law_draw : Cal P w K mg base CX0 1 "_law_draw" ["_law_pot_here", "_law_size"] spDraw) (d_law_signs : Cal P w K mg base CX0 3 "_law_signs" ["_law_pot_here", "_law_amount"] spSigns) (d_law_row : Cal P w K mg base CX0 3 "_law_row" ["_law_pot_here", "_law_signs_here"] (spRow K)) (dbeginnings : CalO P w K mg base (L2.CX P w) 4 "beginnings" ["word"] (spBegin K CW)) (dtext_of_word : CalO P w K mg base (L2.CX P w) 4 "text_of_word" ["word"] (spTextW K CW)) (djoined : CalO P w K mg base (L2.CX P w) 4 "joined" ["word", "next_word"] (spJoined K CW)) (d_law_words_right : Cal P w K mg base CX0 7 "_law_words_right" ["_law_pot_here", "_law_signs_here", "_law_row_here"] (spWordsR P w K TT)) (d_law_long_right : Cal P w K mg base CX0 7 "_law_long_right" ["_law_signs_here", "_law_row_here", "_law_other"] (spLong K TT)) (d_law_lots_right : Cal P w K mg base CX0 7 "_law_lots_right" ["_law_pot_here", "_law_signs_here"] (spLotsR K TT)) (d_law_texts_right : Cal P w K mg base CX0 7 "_law_texts_right" ["_law_signs_here"] (spTextsR K TT)) : FnG P w K mg base CX0 8 f fd ["_law_pot_here"] (spPotT TT) := by
  refine fnGc hC F sc_right (fun vs H Q E h => ?_) (fun A outer s H vs Q E gd hr h => ?_)
  · obtain ⟨p, rfl, _⟩ := h
    rfl
  · skip
    refine ⟨_, PSs.nox ((pss_cons (ps_set (i := 1) sc_right.nd rfl (by first | exact Or.inl rfl | exact Or.inr rfl) (pe_cal d_law_signs gd hr (pa_cons (pv 0) (pa_cons (pe_op op_add pe_int (pe_cal d_law_draw gd hr (pa_cons (pv 0) (pa_cons pe_int pa_nil)))) pa_nil))))
      (pss_cons (ps_asg (pe_tup (pa_cons (pe_cal d_law_row gd hr (pa_cons (pv 0) (pa_cons (pv 1) pa_nil))) (pa_cons (pe_cal d_law_row gd hr (pa_cons (pv 0) (pa_cons (pv 1) pa_nil))) pa_nil))) (pg_tup (n := 2) rfl (pgs_cons (pg_name (i := 2) sc_right.nd rfl (by first | exact Or.inl rfl | exact Or.inr rfl)) (pgs_cons (pg_name (i := 3) sc_right.nd rfl (by first | exact Or.inl rfl | exact Or.inr rfl)) pgs_nil))))
      (pss_cons (ps_set (i := 4) sc_right.nd rfl (by first | exact Or.inl rfl | exact Or.inr rfl) (pe_lst (pa_cons (pe_told (k := 4) DT CC T.m_isinstance TB rfl hmT huT hr (lamS_by (sc := defScope s_right) (by decide +kernel)) rfl (fun _ _ _ _ _ => rfl) (fun A2 outer2 s2 H2 E2 f2 c2 hr => (pe_calO dbeginnings hr (passes_call (takes_of rfl rfl rfl rfl) fun _ _ _ _ h => h) (pa_cons (pv 2) pa_nil)))) pa_nil)))
      (pss_cons (ps_expr (pe_bm PySem.F.plainAttrs_list PySem.F.slot_list_append PySem.F.type_list_append mt_append (pv 4) (pa_cons (pe_told (k := 4) DT CC T.m_isinstance TB rfl hmT huT hr (lamS_by (sc := defScope s_right) (by decide +kernel)) rfl (fun _ _ _ _ _ => rfl) (fun A2 outer2 s2 H2 E2 f2 c2 hr => (pe_calO dtext_of_word hr (passes_call (takes_of rfl rfl rfl rfl) fun _ _ _ _ h => h) (pa_cons (pv 2) pa_nil)))) pa_nil)))
      (pss_cons (ps_expr (pe_bm PySem.F.plainAttrs_list PySem.F.slot_list_append PySem.F.type_list_append mt_append (pv 4) (pa_cons (pe_told (k := 4) DT CC T.m_isinstance TB rfl hmT huT hr (lamS_by (sc := defScope s_right) (by decide +kernel)) rfl (fun _ _ _ _ _ => rfl) (fun A2 outer2 s2 H2 E2 f2 c2 hr => (pe_calO djoined hr (passes_call (takes_of rfl rfl rfl rfl) fun _ _ _ _ h => h) (pa_cons (pe_tup pa_nil) (pa_cons (pv 2) pa_nil))))) pa_nil)))
      (pss_cons (ps_if (pt_cmpR (op_neDK (K := K) hr.units) (pv 4) (pe_op op_rep (pe_lst (pa_cons (pe_lst (pa_cons pe_str pa_nil)) pa_nil)) pe_int) (nomark _)) (pss_one (ps_ret pe_bl)) pss_nil)
      (pss_cons (ps_if (PW.pt (pw_or (pt_not (pt_val (pe_cal d_law_words_right gd hr (pa_cons (pv 0) (pa_cons (pv 1) (pa_cons (pv 2) pa_nil)))))) (pw_or (pt_not (pt_val (pe_cal d_law_lots_right gd hr (pa_cons (pv 0) (pa_cons (pv 1) pa_nil))))) (pw_or1 (pt_not (pt_val (pe_cal d_law_texts_right gd hr (pa_cons (pv 1) pa_nil)))))))) (pss_one (ps_ret pe_bl)) pss_nil)
      (pss_cons (ps_set (i := 5) sc_right.nd rfl (by first | exact Or.inl rfl | exact Or.inr rfl) (pe_op (op_repTK (K := K)) (pe_tup (pa_cons (pe_ix (ix_listK (K := K)) (pv 1) pe_int (fun _ _ => rfl)) pa_nil)) pe_int))
      (pss_cons (ps_if (PW.pt (pw_or (pt_not (pt_val (pe_cal d_law_long_right gd hr (pa_cons (pv 1) (pa_cons (pv 2) (pa_cons (pv 3) pa_nil)))))) (pw_or1 (pt_not (pt_val (pe_cal d_law_long_right gd hr (pa_cons (pv 1) (pa_cons (pv 5) (pa_cons (pv 3) pa_nil))))))))) (pss_one (ps_ret pe_bl)) pss_nil)
      (pss_one (ps_ret (pe_and (pe_cal d_law_long_right gd hr (pa_cons (pv 1) (pa_cons (pv 2) (pa_cons (pv 5) pa_nil)))) (pe_one (pe_cmpR (op_eqDK (K := K) hr.units) (pe_told (k := 4) DT CC T.m_isinstance TB rfl hmT huT hr (lamS_by (sc := defScope s_right) (by decide +kernel)) rfl (fun _ _ _ _ _ => rfl) (fun A2 outer2 s2 H2 E2 f2 c2 hr => (pe_calO djoined hr (passes_call (takes_of rfl rfl rfl rfl) fun _ _ _ _ h => h) (pa_cons (pv 2) (pa_cons (pe_tup pa_nil) pa_nil))))) (pe_lst (pa_cons pe_str pa_nil)) (nomark _)))))))))))))))), ?_⟩
    obtain ⟨p, rfl, hp, ht, q⟩ := h
    refine ⟨_, rfl, _, rfl, p, 3, rfl, hp, by decide, by decide, fun d H1 d0 d1 x1 => ?_⟩
    obtain ⟨m, rfl⟩ := Int.eq_ofNat_of_zero_le d0
    refine ⟨_, _, rfl, rfl, p, m + 1, by rw [show ((m + 1 : Nat) : Int) = 1 + (m : Int) by omega]; rfl, x1.2, by omega, fun l xs H2 hl lp x2 hl2 hn hL hN => ?_⟩
    have y2 := x1.trans x2
    have hx0 : 0 < xs.length := by omega
    have hx8 : xs.length ≤ 8 := by omega
    refine ⟨_, rfl, _, rfl, p, l, xs, rfl, y2.2, hl2, lp, hx0, hx8, fun v ys H3 x3 hv h3 hys => ?_⟩
    refine ⟨_, rfl, _, rfl, p, l, xs, rfl, x3.2, x3.1 _ _ lp hl2, lp, hx0, hx8, fun u zs H4 x4 hu h4 hzs => ⟨(by show 2 ≤ sizeLine; decide), fun t ht5 => ⟨t, _, rfl, SqT.of upd_same, rfl, _, _, rfl, _, _, rfl, rfl, ?_⟩⟩⟩
    have x04 := (y2.trans x3).trans x4
    have r4 : R (Zp TT p) H H4 := Rm.R.xp ht hp x04
    have r5 : R (Zp TT p) H (upd H4 t (.tup [v, u])) := r4.new ht5
    have e5 : Ex H4 (upd H4 t (.tup [v, u])) := Ex.new ht5
    have hl5 := e5 _ _ (x4.1 _ _ lp (x3.1 _ _ lp hl2))
    have hv5 := wd_mono e5 (wd_xp x3.2 x4 hv)
    have hu5 := wd_mono e5 hu
    have hw : isW ys = true := isW_iff.mpr ⟨h3, fun y hy => hL y (hys y hy)⟩
    have hz : isW zs = true := isW_iff.mpr ⟨h4, fun y hy => hL y (hzs y hy)⟩
    generalize upd H4 t (.tup [v, u]) = H5 at r5 hl5 hv5 hu5
    clear e5 r4 x04
    have o5 := r5.b
    have wv : ∀ H6, R (Zp TT p) H5 H6 → WB K H6 v true := fun H6 r => wb_word (Rm.wd_R r hv5) hw
    have e1 : El (Zp TT p) (tLam TT (TTold CW CS CT) fun E2 => tCall (spBegin K CW) [] E2 (tCons (tVar 2) tNil)) [some (.ref p), some (.ref l), some v, some u, none, none] H5 [.str "told"] := el_told (Z := Zp TT p) fun H6 r E Q k => ⟨_, rfl, v, true, rfl, wv H6 r, (fun _ => ⟨ys, Rm.wd_R r hv5, h3, fun l H' hl e hL => k _ H' (.of r.b e)⟩), fun z => by cases z⟩
    unfold gName
    dsimp only
    refine q_cs1 e1 (.refl o5) fun lc H6 r6 c6 => ?_
    have e2 : El (Zp TT p) (tLam TT (TTold CW CS CT) fun E2 => tCall (spTextW K CW) [] E2 (tCons (tVar 2) tNil)) [some (.ref p), some (.ref l), some v, some u, some (.ref lc), none] H5 [.str "told"] := el_told (Z := Zp TT p) fun H6 r E Q k => ⟨_, rfl, v, true, rfl, wv H6 r, (fun _ => ⟨ys, Rm.wd_R r hv5, hw, fun H' e => k _ H' (.of r.b e)⟩), fun z => by cases z⟩
    refine q_csA (fun H1 Q q => ⟨_, rfl, q⟩) (e2.mono r6) r6 c6 (by decide) fun H7 r7 c7 => ?_
    have e3 : El (Zp TT p) (tLam TT (TTold CW CS CT) fun E2 => tCall (spJoined K CW) [] E2 (tCons (tTup tNil) (tCons (tVar 2) tNil))) [some (.ref p), some (.ref l), some v, some u, some (.ref lc), none] H5 [.str "told"] := el_told (Z := Zp TT p) fun H6 r E Q k => ⟨Nat.zero_le _, fun t2 ht2 => by
      have ra := (R.refl r.b).new (o := .tup []) ht2
      have we : Wd K (upd H6 t2 (.tup [])) (.ref t2) [] := ⟨t2, rfl, upd_same⟩
      exact ⟨_, rfl, .ref t2, v, true, rfl, wb_word we rfl, (fun z => by cases z), fun _ => ⟨true, wv _ (r.trans ra), (fun z => by cases z), fun _ => ⟨[], ys, we, Rm.wd_R (r.trans ra) hv5, Nat.zero_le _, h3, fun r' H8 e8 hr' => ⟨true, wb_word hr' hw, (fun z => by cases z), fun _ H9 e9 => k r' H9 (ra.ex (e8.trans e9))⟩⟩⟩⟩⟩
    refine q_csA (fun H1 Q q => ⟨_, rfl, q⟩) (e3.mono r7) r7 c7 (by decide) fun H8 r8 c8 => ?_
    refine Rm.q_when (b := false) r8.b (Rm.et_test (ew_neTolds (fun H9 r => cs_R o5 r c8) rfl)) (fun z => by cases z) (fun _ H9 r9' => ?_)
    have r9 := r8.trans r9'
    have lst : ∀ H10, R (Zp TT p) H5 H10 → H10 l = some (.lst (xs.map V.str)) := fun H10 r => r.lst hl5 lp
    refine Rm.q_when (b := !true || (!true || !true)) r9.b (Rm.et_or (Rm.et_not (Rm.et_B fun H10 r Q k => ⟨_, rfl, _, rfl, _, rfl, p, l, xs, v, ys, rfl, r.b.1, lst _ (r9.trans r), hx0, hL, Rm.wd_R (r9.trans r) hv5, hw, fun H' r' => k H' (r'.sub (r.b.2 p rfl))⟩))
      (fun _ => Rm.et_or (Rm.et_not (Rm.et_B fun H10 r Q k => ⟨_, rfl, _, rfl, p, l, xs, rfl, r.b.1, r.b.2 p rfl, lp, lst _ (r9.trans r), hx0, hx8, hL, fun H' r' => k H' r'⟩))
      (fun _ => Rm.et_not (Rm.et_B fun H10 r Q k => ⟨_, rfl, l, xs, rfl, r.b.1, lst _ (r9.trans r), hx0, hL, fun H' r' => k H' (r'.sub (r.b.2 p rfl))⟩)))) (fun z => by cases z) (fun _ H11 r11' => ?_)
    have r11 := r9.trans r11'
    have hl11 := lst _ r11
    have h0 : xs[0]? = some xs[0] := List.getElem?_eq_getElem hx0
    have hL0 := hL xs[0] (List.getElem_mem hx0)
    generalize xs[0] = c0' at h0 hL0
    refine q_asgW (ew_rep3 (ew_tup (ys := [c0']) (ea_cons (ev_op (ev_var rfl) ev_c (rv_ixL (SqL.of hl11) (show atI (xs.map V.str) ((0 : Nat) : Int) = some (.str c0') from atI_nat (by rw [List.getElem?_map, h0]; rfl)))) ea_nil) (by show 1 ≤ 100000; decide))) fun fw H12 e12 hf => ?_
    have r12 := r11.ex e12
    have hfw : isW [c0', c0', c0'] = true := isW_iff.mpr ⟨by show 3 ≤ 3; decide, fun y hy => by
      have e : y = c0' := by simpa using hy
      rw [e]
      exact hL0⟩
    refine Rm.q_when (b := !true || !true) r12.b (Rm.et_or (Rm.et_not (Rm.et_B fun H13 r Q k => ⟨_, rfl, _, rfl, _, rfl, _, v, u, ys, zs, rfl, r.b.1, Rm.wd_R (r12.trans r) hv5, Rm.wd_R (r12.trans r) hu5, hw, hz, fun H' r' => k H' (r'.sub (r.b.2 p rfl))⟩))
      (fun _ => Rm.et_not (Rm.et_B fun H13 r Q k => ⟨_, rfl, _, rfl, _, rfl, _, fw, u, _, zs, rfl, r.b.1, Rm.wd_R r hf, Rm.wd_R (r12.trans r) hu5, hfw, hz, fun H' r' => k H' (r'.sub (r.b.2 p rfl))⟩))) (fun z => by cases z) (fun _ H13 r13' => ?_)
    have r13 := r12.trans r13'
    refine Rm.s_ret r13.b (Rm.ew_is (v := .bl true) (Rm.ew_andV (a := true) (b := true) (fun H14 r Q k => ⟨_, rfl, _, rfl, _, rfl, _, v, fw, ys, _, rfl, r.b.1, Rm.wd_R (r13.trans r) hv5, Rm.wd_R (r13'.trans r) hf, hw, hfw, fun H' r' => k H' (r'.sub (r.b.2 p rfl))⟩) (fun _ => ew_isTold (el_told (Z := Zp TT p) fun H14 r E Q k => ⟨_, rfl, Nat.zero_le _, fun t2 ht2 => by
      have ra := (R.refl r.b).new (o := .tup []) ht2
      have we : Wd K (upd H14 t2 (.tup [])) (.ref t2) [] := ⟨t2, rfl, upd_same⟩
      exact ⟨v, .ref t2, true, rfl, wv _ ((r13.trans r).trans ra), (fun z => by cases z), fun _ => ⟨true, wb_word we rfl, (fun z => by cases z), fun _ => ⟨ys, [], Rm.wd_R ((r13.trans r).trans ra) hv5, we, h3, Nat.zero_le _, fun r' H15 e15 hr' => ⟨true, wb_word hr' (by rw [List.append_nil]; exact hw), (fun z => by cases z), fun _ H16 e16 => k r' H16 (ra.ex (e15.trans e16))⟩⟩⟩⟩⟩))) rfl) fun H14 r14 => q H14 ((r5.trans r13).trans r14)

def spLawT (K : PySem.W.Frag) (T : List (Addr × Str)) : Sp := fun vs H Q _ => ∃ (a : Addr) (ns : List Int), vs = [.ref a] ∧ Tabs T H ∧ SqL K H a (ns.map V.int) ∧ ns.length ≤ 63 ∧ ∀ H', Q (.bl true) H'
abbrev s_law : Stmt := topS 40
theorem sc_law : FnScope ["_law_script", "_law_k"] ["_law_script"] (defScope s_law) := ⟨rfl, rfl, rfl, by decide +kernel, rfl, by decide +kernel, by decide +kernel⟩
theorem ok_law {f : Addr} {fd : FuncData} (F : FunD K "law" "law" (defArgs s_law) (defBody s_law) (defScope s_law) [] [] f fd) (T : Tx P w K mg base) (d_law_pot : Cal P w K mg base CX0 1 "_law_pot" ["_law_script", "_law_k"] (spPot K)) (d_law_right : Cal P w K mg base CX0 8 "_law_right" ["_law_pot_here"] (spPotT TT)) : FnG P w K mg base CX0 9 f fd ["_law_script"] (spLawT K TT) := by
  refine fnG F sc_law (fun vs H Q E h => ?_) (fun cdv A outer s H vs Q E gd hr h => ?_)
  · obtain ⟨a, ns, rfl, _⟩ := h
    rfl
  · skip
    refine ⟨_, PSs.nox ((pss_one (ps_ret (pe_callB (cr_allK (K := K)) (by rfl) T.m_all (by decide +kernel) (pa_cons (pe_lc (own := [("_law_k", 1)]) (g := gName 1) (tt := tYes) rfl sc_law.nd (pi_range1 (by rfl) T.m_range (pa_cons (pe_callB (call_max2 rfl) (by rfl) T.m_max (by decide +kernel) (pa_cons pe_int (pa_cons (pe_callB (call_min2 rfl) (by rfl) T.m_min (by decide +kernel) (pa_cons (pe_callB (call_lenK (K := K)) (by rfl) T.m_len (by decide +kernel) (pa_cons (pv 0) pa_nil)) (pa_cons pe_int pa_nil))) pa_nil))) pa_nil)) (blkOk_by (own := [("_law_k", 1)]) (N := ["_law_script", "_law_k"]) (sc := defScope s_law) (by decide +kernel)) (fun _ _ _ _ _ => pg_name (i := 1) sc_law.nd rfl (by first | exact Or.inl rfl | exact Or.inr rfl)) (fun _ _ _ _ _ => pts_nil) (fun _ _ _ _ _ => (pe_cal d_law_right gd hr (pa_cons (pe_cal d_law_pot gd hr (pa_cons (pv 0) (pa_cons (pv 1) pa_nil))) pa_nil)))) pa_nil))))), ?_⟩
    obtain ⟨a, ns, rfl, htab, hS, hlen, q⟩ := h
    refine ⟨_, rfl, a, _, rfl, .inl hS, _, _, rfl, _, _, rfl, _, rfl, ?_, ?_, fun D hD => ?_⟩
    · split <;> split <;> omega
    · split <;> split <;> omega
    · have hn : ∀ n : Nat, n ≤ 63 → (if (if (4 : Int) < (n : Int) then 4 else (n : Int)) > 1 then (if (4 : Int) < (n : Int) then 4 else (n : Int)) else 1).toNat ≤ 4 := fun n _ => by split <;> split <;> omega
      have hn4 := hn _ (show (ns.map V.int).length ≤ 63 by rw [List.length_map]; exact hlen)
      refine lc_range (lo := 0) (n := (if (if (4 : Int) < ((ns.map V.int).length : Int) then 4 else ((ns.map V.int).length : Int)) > 1 then (if (4 : Int) < ((ns.map V.int).length : Int) then 4 else ((ns.map V.int).length : Int)) else 1).toNat) (fun i H' => R (Z0 TT) H H' ∧ H' D = some (.lst (List.replicate i (.bl true)))) ⟨(R.refl (Z := Z0 TT) ⟨htab, fun _ z => z.elim⟩).new hD, upd_same⟩ (fun i H' hi hP => ?_) (fun H' hP => ?_)
      · obtain ⟨e, hl⟩ := hP
        refine ⟨rfl, ?_⟩
        unfold tYes
        dsimp only
        try rw [if_pos rfl]
        refine ⟨_, rfl, _, rfl, a, ns, _, rfl, Rm.sql_R e hS, hlen, by omega, by omega, fun p H2 np s2 po => ?_⟩
        have e2 : R (Z0 TT) H H2 := e.ex s2
        refine ⟨p, rfl, po, e2.b.1, fun H3 x3 => ⟨List.replicate i (.bl true), x3.st _ _ (s2 _ _ hl) nt_lst (ne_of_none hl np), ?_, ?_, ?_⟩⟩
        · rw [List.length_replicate]
          exact sz_lt (by omega)
        · exact Rm.R.mut (Rm.R.drop e2 x3 (e.fr (fr_none np))) (fr_none hD) (x3.st _ _ (s2 _ _ hl) nt_lst (ne_of_none hl np)) trivial
        · rw [upd_same, List.replicate_succ']
      · obtain ⟨e, hl⟩ := hP
        refine ⟨D, List.replicate _ true, rfl, SqL.of (by rw [List.map_replicate]; exact hl), ?_⟩
        have z : ∀ n, (List.replicate n true).all id = true := fun n => by
          rw [List.all_replicate]
          cases n <;> rfl
        rw [z]
        exact q H'

end
end K11
namespace K11
open PySem PySem.Spec PyProof.Rows L2 Lw Evl
open K11H

section
variable {P : Program} {w : World} {K : PySem.W.Frag} {mg : Str → Option Value} {base h : Heap}
theorem mkCal {k : Nat} {x : Str} {ps : List Str} {sp : Sp} {f : Addr} {fd : FuncData} (g : mg x = some (.ref f)) (kp : PySem.W.keepIn K (.ref f) = true) (b : Binds K fd ps []) (H : FnG P w K mg base CX0 k f fd ps sp) : Cal P w K mg base CX0 k x ps sp := ⟨f, fd, g, kp, b, H⟩
theorem mkCalR {k : Nat} {x : Str} {ps : List Str} {sp : Sp} {f : Addr} {fd : FuncData} (g : mg x = some (.ref f)) (kp : PySem.W.keepIn K (.ref f) = true) (b : ∀ (ws : List Value) (s : Shared), ws.length = ps.length → BindsTo s fd ⟨[], ps.reverse.zip ws⟩ (ps.zip ws.reverse)) (H : FnG P w K mg base CX0 k f fd ps sp) : CalR P w K mg base CX0 k x ps sp := ⟨f, fd, g, kp, b, H⟩
theorem bindsR {qual x : Str} {params : Arguments} {scope : Scope} {f : Addr} {fd : FuncData} {body : List Stmt} {ps : List Str} (F : FunD K x qual params body scope [] [] f fd)
    (z : ∀ (kV doc pm : Value) (an : Option Addr) (cdv ct : Value) (ws : List Value), ws.length = ps.length → bindArgs (PySem.W.fnOf x qual params body scope .none kV doc pm an cdv ct) ⟨[], ps.reverse.zip ws⟩ = pure (ps.zip ws.reverse)) (ws : List Value) (s : Shared) (e : ws.length = ps.length) :
    BindsTo s fd ⟨[], ps.reverse.zip ws⟩ (ps.zip ws.reverse) := by
  obtain ⟨oc, od, dV, kV, doc, pm, an, cdv, ct, osl, rfl, _, _, hD, _⟩ := F.ex
  rcases hD with ⟨_, rfl⟩ | ⟨n, _⟩
  · exact .of_eq (z kV doc pm an cdv ct ws e)
  · exact absurd rfl n
theorem tx (X : K.In h) (G : h.Ns mainGlobals mg) (c : He.SaysD fa fn K) : Tx P w K mg base := ⟨He.free_ok X G (c.fact 23 (f := .free "len") rfl), He.free_ok X G (c.fact 24 (f := .free "range") rfl), He.free_ok X G (c.fact 25 (f := .free "abs") rfl), He.free_ok X G (c.fact 26 (f := .free "max") rfl), He.free_ok X G (c.fact 27 (f := .free "min") rfl), He.free_ok X G (c.fact 28 (f := .free "int") rfl), He.free_ok X G (c.fact 29 (f := .free "divmod") rfl), He.free_ok X G (c.fact 30 (f := .free "all") rfl), He.free_ok X G (c.fact 31 (f := .free "isinstance") rfl), He.free_ok X G (c.fact 32 (f := .free "enumerate") rfl), He.free_ok X G (c.fact 33 (f := .free "repr") rfl), He.free_ok X G (c.fact 34 (f := .free "list") rfl), He.free_ok X G (c.fact 35 (f := .free "tuple") rfl), He.free_ok X G (c.fact 36 (f := .free "sorted") rfl), He.free_ok X G (c.fact 37 (f := .free "str") rfl), He.int_ok X G (c.fact 39 (f := .int "MOST_SIGNS" (8)) rfl), He.int_ok X G (c.fact 40 (f := .int "MOST_IN_WORD" (3)) rfl), He.str_ok X G (c.fact 41 (f := .str "EMPTY_TEXT" "-") rfl)⟩
/-- the tables of code objects, by the names of what they hold -/
def TTs (K : PySem.W.Frag) : List (Addr × Str) := LL.map fun e => ((He.cT K e.1).2, e.2)
theorem uniq_T (nd : (LL.map fun e => (He.cT K e.1).2).Nodup) {p : Addr} {q : Str} (h : (p, q) ∈ TTs K) : ∀ z ∈ TTs K, z.1 = p → z.2 = q := by
  have key : ∀ {l : List (He.Defn × Str)}, (l.map fun e => (He.cT K e.1).2).Nodup → (p, q) ∈ l.map (fun e => ((He.cT K e.1).2, e.2)) → ∀ z ∈ l.map (fun e => ((He.cT K e.1).2, e.2)), z.1 = p → z.2 = q := by
    intro l
    induction l with
    | nil => intro _ _ z hz
             cases hz
    | cons a l ih =>
      intro nd h z hz e
      rw [List.map_cons, List.nodup_cons] at nd
      rw [List.map_cons] at h hz
      have out : ∀ y ∈ l.map (fun e => ((He.cT K e.1).2, e.2)), y.1 ≠ (He.cT K a.1).2 := fun y hy ey => nd.1 (by
        obtain ⟨b, hb, rfl⟩ := List.mem_map.mp hy
        exact List.mem_map.mpr ⟨b, hb, ey⟩)
      rcases List.mem_cons.mp h with h | h
      · rcases List.mem_cons.mp hz with hz | hz
        · rw [hz]
          exact (Prod.mk.inj h).2.symm
        · exact absurd (e.trans (Prod.mk.inj h).1) (out z hz)
      · rcases List.mem_cons.mp hz with hz | hz
        · rw [hz] at e
          exact absurd e.symm (out _ h)
        · exact ih nd.2 h z hz e
  exact key nd h
theorem facts {f : Addr} (X : K.In h) (G : h.Ns mainGlobals mg) (hfa : mg ("law" : Str) = some (.ref f)) (c : He.SaysD fa fn K) (e : ex K = true) :
    ∃ fd : FuncData, (∀ (s : Shared) (v : Value), BindsTo s fd ⟨[v], []⟩ [("_law_script", v)]) ∧ ∀ base : Heap, (∀ z ∈ tf.map (He.cT K), LamX.TabB base mg z.1 z.2) → FnG P w K mg base CX0 9 f fd ["_law_script"] (spLawT K (TTs K)) := by
  obtain ⟨fd0, F0⟩ := c.def_ 0 (d := dF0) rfl
  have g0 : mg "_law_draw" = some (.ref (He.ga K "_law_draw")) := He.glo_ok X G (c.fact 0 (f := .glo "_law_draw") rfl)
  have b0 : Binds K fd0 ["_law_pot_here", "_law_size"] [] := F0.bindsN fun _ _ _ _ _ _ us hl => match us, hl with | [_, _], _ => rfl
  obtain ⟨fd1, F1⟩ := c.def_ 1 (d := dF1) rfl
  have g1 : mg "_law_pick" = some (.ref (He.ga K "_law_pick")) := He.glo_ok X G (c.fact 1 (f := .glo "_law_pick") rfl)
  have b1 : Binds K fd1 ["_law_pot_here", "_law_some"] [] := F1.bindsN fun _ _ _ _ _ _ us hl => match us, hl with | [_, _], _ => rfl
  obtain ⟨fd2, F2⟩ := c.def_ 2 (d := dF2) rfl
  have g2 : mg "_law_pot" = some (.ref (He.ga K "_law_pot")) := He.glo_ok X G (c.fact 2 (f := .glo "_law_pot") rfl)
  have b2 : Binds K fd2 ["_law_script", "_law_k"] [] := F2.bindsN fun _ _ _ _ _ _ us hl => match us, hl with | [_, _], _ => rfl
  obtain ⟨fd3, F3⟩ := c.def_ 3 (d := dF3) rfl
  have g3 : mg "_law_signs" = some (.ref (He.ga K "_law_signs")) := He.glo_ok X G (c.fact 3 (f := .glo "_law_signs") rfl)
  have b3 : Binds K fd3 ["_law_pot_here", "_law_amount"] [] := F3.bindsN fun _ _ _ _ _ _ us hl => match us, hl with | [_, _], _ => rfl
  obtain ⟨fd4, F4⟩ := c.def_ 4 (d := dF4) rfl
  have g4 : mg "_law_row" = some (.ref (He.ga K "_law_row")) := He.glo_ok X G (c.fact 4 (f := .glo "_law_row") rfl)
  have b4 : Binds K fd4 ["_law_pot_here", "_law_signs_here"] [] := F4.bindsN fun _ _ _ _ _ _ us hl => match us, hl with | [_, _], _ => rfl
  obtain ⟨fd5, F5⟩ := c.def_ 5 (d := dF5) rfl
  have g5 : mg "is_letter" = some (.ref (He.ga K "is_letter")) := He.glo_ok X G (c.fact 5 (f := .glo "is_letter") rfl)
  have b5 : Binds K fd5 ["value"] [] := F5.bindsN fun _ _ _ _ _ _ us hl => match us, hl with | [_], _ => rfl
  have r5 := bindsR (ps := ["value"]) F5 fun _ _ _ _ _ _ us hl => match us, hl with | [_], _ => rfl
  obtain ⟨fd6, F6⟩ := c.def_ 6 (d := dF6) rfl
  have g6 : mg "is_word" = some (.ref (He.ga K "is_word")) := He.glo_ok X G (c.fact 6 (f := .glo "is_word") rfl)
  have b6 : Binds K fd6 ["value"] [] := F6.bindsN fun _ _ _ _ _ _ us hl => match us, hl with | [_], _ => rfl
  have r6 := bindsR (ps := ["value"]) F6 fun _ _ _ _ _ _ us hl => match us, hl with | [_], _ => rfl
  obtain ⟨fd7, F7⟩ := c.def_ 7 (d := dF7) rfl
  have g7 : mg "is_list" = some (.ref (He.ga K "is_list")) := He.glo_ok X G (c.fact 7 (f := .glo "is_list") rfl)
  have b7 : Binds K fd7 ["value"] [] := F7.bindsN fun _ _ _ _ _ _ us hl => match us, hl with | [_], _ => rfl
  have r7 := bindsR (ps := ["value"]) F7 fun _ _ _ _ _ _ us hl => match us, hl with | [_], _ => rfl
  obtain ⟨fd8, F8⟩ := c.def_ 8 (d := dF8) rfl
  have g8 : mg "need_word" = some (.ref (He.ga K "need_word")) := He.glo_ok X G (c.fact 8 (f := .glo "need_word") rfl)
  have b8 : Binds K fd8 ["value"] [] := F8.bindsN fun _ _ _ _ _ _ us hl => match us, hl with | [_], _ => rfl
  have r8 := bindsR (ps := ["value"]) F8 fun _ _ _ _ _ _ us hl => match us, hl with | [_], _ => rfl
  obtain ⟨fd9, F9⟩ := c.def_ 9 (d := dF9) rfl
  have g9 : mg "beginnings" = some (.ref (He.ga K "beginnings")) := He.glo_ok X G (c.fact 9 (f := .glo "beginnings") rfl)
  have b9 : Binds K fd9 ["word"] [] := F9.bindsN fun _ _ _ _ _ _ us hl => match us, hl with | [_], _ => rfl
  have r9 := bindsR (ps := ["word"]) F9 fun _ _ _ _ _ _ us hl => match us, hl with | [_], _ => rfl
  obtain ⟨fd10, F10⟩ := c.def_ 10 (d := dF10) rfl
  have g10 : mg "joined" = some (.ref (He.ga K "joined")) := He.glo_ok X G (c.fact 10 (f := .glo "joined") rfl)
  have b10 : Binds K fd10 ["word", "next_word"] [] := F10.bindsN fun _ _ _ _ _ _ us hl => match us, hl with | [_, _], _ => rfl
  have r10 := bindsR (ps := ["word", "next_word"]) F10 fun _ _ _ _ _ _ us hl => match us, hl with | [_, _], _ => rfl
  obtain ⟨fd11, F11⟩ := c.def_ 11 (d := dF11) rfl
  have g11 : mg "text_of_word" = some (.ref (He.ga K "text_of_word")) := He.glo_ok X G (c.fact 11 (f := .glo "text_of_word") rfl)
  have b11 : Binds K fd11 ["word"] [] := F11.bindsN fun _ _ _ _ _ _ us hl => match us, hl with | [_], _ => rfl
  have r11 := bindsR (ps := ["word"]) F11 fun _ _ _ _ _ _ us hl => match us, hl with | [_], _ => rfl
  obtain ⟨fd12, F12⟩ := c.def_ 12 (d := dF12) rfl
  have g12 : mg "read_word" = some (.ref (He.ga K "read_word")) := He.glo_ok X G (c.fact 12 (f := .glo "read_word") rfl)
  have b12 : Binds K fd12 ["text"] [] := F12.bindsN fun _ _ _ _ _ _ us hl => match us, hl with | [_], _ => rfl
  have r12 := bindsR (ps := ["text"]) F12 fun _ _ _ _ _ _ us hl => match us, hl with | [_], _ => rfl
  obtain ⟨fd13, F13⟩ := c.def_ 13 (d := dF13) rfl
  have g13 : mg "in_order" = some (.ref (He.ga K "in_order")) := He.glo_ok X G (c.fact 13 (f := .glo "in_order") rfl)
  have b13 : Binds K fd13 ["words"] [] := F13.bindsN fun _ _ _ _ _ _ us hl => match us, hl with | [_], _ => rfl
  have r13 := bindsR (ps := ["words"]) F13 fun _ _ _ _ _ _ us hl => match us, hl with | [_], _ => rfl
  obtain ⟨fd14, F14⟩ := c.def_ 14 (d := dF14) rfl
  have g14 : mg "_law_no_rows" = some (.ref (He.ga K "_law_no_rows")) := He.glo_ok X G (c.fact 14 (f := .glo "_law_no_rows") rfl)
  have b14 : Binds K fd14 ["_law_signs_here"] [] := F14.bindsN fun _ _ _ _ _ _ us hl => match us, hl with | [_], _ => rfl
  obtain ⟨fd15, F15⟩ := c.def_ 15 (d := dF15) rfl
  have g15 : mg "_law_no_texts" = some (.ref (He.ga K "_law_no_texts")) := He.glo_ok X G (c.fact 15 (f := .glo "_law_no_texts") rfl)
  have b15 : Binds K fd15 ["_law_signs_here"] [] := F15.bindsN fun _ _ _ _ _ _ us hl => match us, hl with | [_], _ => rfl
  obtain ⟨fd16, F16⟩ := c.def_ 16 (d := dF16) rfl
  have g16 : mg "_law_words_right" = some (.ref (He.ga K "_law_words_right")) := He.glo_ok X G (c.fact 16 (f := .glo "_law_words_right") rfl)
  have b16 : Binds K fd16 ["_law_pot_here", "_law_signs_here", "_law_row_here"] [] := F16.bindsN fun _ _ _ _ _ _ us hl => match us, hl with | [_, _, _], _ => rfl
  obtain ⟨fd17, F17⟩ := c.def_ 17 (d := dF17) rfl
  have g17 : mg "_law_long_right" = some (.ref (He.ga K "_law_long_right")) := He.glo_ok X G (c.fact 17 (f := .glo "_law_long_right") rfl)
  have b17 : Binds K fd17 ["_law_signs_here", "_law_row_here", "_law_other"] [] := F17.bindsN fun _ _ _ _ _ _ us hl => match us, hl with | [_, _, _], _ => rfl
  obtain ⟨fd18, F18⟩ := c.def_ 18 (d := dF18) rfl
  have g18 : mg "_law_texts_right" = some (.ref (He.ga K "_law_texts_right")) := He.glo_ok X G (c.fact 18 (f := .glo "_law_texts_right") rfl)
  have b18 : Binds K fd18 ["_law_signs_here"] [] := F18.bindsN fun _ _ _ _ _ _ us hl => match us, hl with | [_], _ => rfl
  obtain ⟨fd19, F19⟩ := c.def_ 19 (d := dF19) rfl
  have g19 : mg "_law_lots_right" = some (.ref (He.ga K "_law_lots_right")) := He.glo_ok X G (c.fact 19 (f := .glo "_law_lots_right") rfl)
  have b19 : Binds K fd19 ["_law_pot_here", "_law_signs_here"] [] := F19.bindsN fun _ _ _ _ _ _ us hl => match us, hl with | [_, _], _ => rfl
  obtain ⟨fd20, F20⟩ := c.def_ 20 (d := dF20) rfl
  have g20 : mg "_law_right" = some (.ref (He.ga K "_law_right")) := He.glo_ok X G (c.fact 20 (f := .glo "_law_right") rfl)
  have b20 : Binds K fd20 ["_law_pot_here"] [] := F20.bindsN fun _ _ _ _ _ _ us hl => match us, hl with | [_], _ => rfl
  obtain ⟨fd21, F21⟩ := c.def_ 21 (d := dF21) rfl
  have g21 : mg "law" = some (.ref (He.ga K "law")) := He.glo_ok X G (c.fact 21 (f := .glo "law") rfl)
  obtain ⟨fd22, F22⟩ := c.def_ 22 (d := dF22) rfl
  have g22 : mg "_law_told" = some (.ref (He.ga K "_law_told")) := He.glo_ok X G (c.fact 22 (f := .glo "_law_told") rfl)
  have b22 : Binds K fd22 ["_law_deed"] [] := F22.bindsN fun _ _ _ _ _ _ us hl => match us, hl with | [_], _ => rfl
  have ee := hfa.symm.trans g21
  cases ee
  have bl := FunD.bindsA (ps := ["_law_script"]) F21 fun _ _ _ _ _ _ us hl => match us, hl with | [_], _ => rfl
  refine ⟨fd21, fun s v => bl s [v] rfl, fun base tb => ?_⟩
  have T : Tx P w K mg base := tx X G c
  obtain ⟨fd23, F23⟩ := c.def_ 23 (d := dF23) rfl
  obtain ⟨fd24, F24⟩ := c.def_ 24 (d := dF24) rfl
  obtain ⟨fd25, F25⟩ := c.def_ 25 (d := dF25) rfl
  have e1 := He.ba e
  have e2 := He.ba e1.2
  have e3 := He.ba e2.2
  have e4 := He.ba e3.2
  have nd := of_decide_eq_true e4.2
  have xW := one_ok (mg := mg) X G e1.1
  have xS := one_ok (mg := mg) X G e2.1
  have xT := one_ok (mg := mg) X G e3.1
  have CC := cls_ok (mg := mg) X G xW xS xT (He.free_ok X G (c.fact 38 (f := .free "ValueError") rfl)) e4.1
  have zW := xrz (P := P) (w := w) (base := base) F23 ⟨rfl, rfl, rfl, by decide +kernel, rfl, by decide +kernel, by decide +kernel⟩ rfl rfl (by decide) (by decide) (fun _ _ _ _ _ _ us hl => match us, hl with | [_, _], _ => rfl) xW
  have zS := xrz (P := P) (w := w) (base := base) F24 ⟨rfl, rfl, rfl, by decide +kernel, rfl, by decide +kernel, by decide +kernel⟩ rfl rfl (by decide) (by decide) (fun _ _ _ _ _ _ us hl => match us, hl with | [_, _], _ => rfl) xS
  have zT := xrz (P := P) (w := w) (base := base) F25 ⟨rfl, rfl, rfl, by decide +kernel, rfl, by decide +kernel, by decide +kernel⟩ rfl rfl (by decide) (by decide) (fun _ _ _ _ _ _ us hl => match us, hl with | [_, _], _ => rfl) xT
  have DT : ToldD K mg := ⟨_, _, g22, F22.kp, F22, b22⟩
  have H0 := ok_draw F0 T 
  have H1 := ok_pick F1 T (mkCal g0 F0.kp b0 (H0.up (by decide)))
  have H2 := ok_pot F2 T 
  have H3 := ok_signs F3 T (mkCal g0 F0.kp b0 (H0.up (by decide))) (mkCal g1 F1.kp b1 (H1.up (by decide)))
  have H4 := ok_row F4 T (mkCal g0 F0.kp b0 (H0.up (by decide))) (mkCal g1 F1.kp b1 (H1.up (by decide)))
  have H5 := ok_is_letter F5 T 
  have H6 := ok_is_word F6 T ⟨_, _, g5, F5.kp, b5, r5, H5.mono (by decide)⟩
  have H7 := ok_is_list F7 T 
  have H8 := ok_need_word F8 T zW ⟨_, _, g6, F6.kp, b6, r6, H6.mono (by decide)⟩
  have H9 := ok_beginnings F9 T ⟨_, _, g8, F8.kp, b8, r8, H8.mono (by decide)⟩
  have H10 := ok_joined F10 T ⟨_, _, g8, F8.kp, b8, r8, H8.mono (by decide)⟩
  have H11 := ok_text_of_word F11 T ⟨_, _, g8, F8.kp, b8, r8, H8.mono (by decide)⟩
  have H12 := ok_read_word F12 T zT ⟨_, _, g6, F6.kp, b6, r6, H6.mono (by decide)⟩
  have H13 := ok_in_order F13 T (TT := TTs K) (codeAt_of F13) (tb _ (List.mem_map.mpr ⟨_, (List.mem_cons_self), rfl⟩)) (List.mem_map.mpr ⟨_, (List.mem_cons_self), rfl⟩) (uniq_T nd (List.mem_map.mpr ⟨_, (List.mem_cons_self), rfl⟩)) zS ⟨_, _, g7, F7.kp, b7, r7, H7.mono (by decide)⟩ ⟨_, _, g6, F6.kp, b6, r6, H6.mono (by decide)⟩
  have H14 := ok_no_rows F14 T 
  have H15 := ok_no_texts F15 T 
  have H16 := ok_words_right F16 T (TT := TTs K) (codeAt_of F16) (tb _ (List.mem_map.mpr ⟨_, (List.mem_cons_of_mem _ (List.mem_cons_self)), rfl⟩)) (List.mem_map.mpr ⟨_, (List.mem_cons_of_mem _ (List.mem_cons_self)), rfl⟩) (uniq_T nd (List.mem_map.mpr ⟨_, (List.mem_cons_of_mem _ (List.mem_cons_self)), rfl⟩)) DT CC (mkCal g14 F14.kp b14 (H14.up (by decide))) ⟨_, _, g9, F9.kp, b9, r9, H9.mono (by decide)⟩ ⟨_, _, g11, F11.kp, b11, r11, H11.mono (by decide)⟩ ⟨_, _, g10, F10.kp, b10, r10, H10.mono (by decide)⟩ ⟨_, _, g6, F6.kp, b6, r6, H6.mono (by decide)⟩
  have H17 := ok_long_right F17 T (TT := TTs K) (codeAt_of F17) (tb _ (List.mem_map.mpr ⟨_, (List.mem_cons_of_mem _ (List.mem_cons_of_mem _ (List.mem_cons_self))), rfl⟩)) (List.mem_map.mpr ⟨_, (List.mem_cons_of_mem _ (List.mem_cons_of_mem _ (List.mem_cons_self))), rfl⟩) (uniq_T nd (List.mem_map.mpr ⟨_, (List.mem_cons_of_mem _ (List.mem_cons_of_mem _ (List.mem_cons_self))), rfl⟩)) DT CC ⟨_, _, g10, F10.kp, b10, r10, H10.mono (by decide)⟩
  have H18 := ok_texts_right F18 T (TT := TTs K) (codeAt_of F18) (tb _ (List.mem_map.mpr ⟨_, (List.mem_cons_of_mem _ (List.mem_cons_of_mem _ (List.mem_cons_of_mem _ (List.mem_cons_of_mem _ (List.mem_cons_self))))), rfl⟩)) (List.mem_map.mpr ⟨_, (List.mem_cons_of_mem _ (List.mem_cons_of_mem _ (List.mem_cons_of_mem _ (List.mem_cons_of_mem _ (List.mem_cons_self))))), rfl⟩) (uniq_T nd (List.mem_map.mpr ⟨_, (List.mem_cons_of_mem _ (List.mem_cons_of_mem _ (List.mem_cons_of_mem _ (List.mem_cons_of_mem _ (List.mem_cons_self))))), rfl⟩)) DT CC (mkCal g15 F15.kp b15 (H15.up (by decide))) ⟨_, _, g12, F12.kp, b12, r12, H12.mono (by decide)⟩
  have H19 := ok_lots_right F19 T (TT := TTs K) (codeAt_of F19) (tb _ (List.mem_map.mpr ⟨_, (List.mem_cons_of_mem _ (List.mem_cons_of_mem _ (List.mem_cons_of_mem _ (List.mem_cons_self)))), rfl⟩)) (List.mem_map.mpr ⟨_, (List.mem_cons_of_mem _ (List.mem_cons_of_mem _ (List.mem_cons_of_mem _ (List.mem_cons_self)))), rfl⟩) (uniq_T nd (List.mem_map.mpr ⟨_, (List.mem_cons_of_mem _ (List.mem_cons_of_mem _ (List.mem_cons_of_mem _ (List.mem_cons_self)))), rfl⟩)) DT CC (mkCal g0 F0.kp b0 (H0.up (by decide))) (mkCal g1 F1.kp b1 (H1.up (by decide))) (mkCal g4 F4.kp b4 (H4.up (by decide))) (mkCal g14 F14.kp b14 (H14.up (by decide))) ⟨_, _, g13, F13.kp, b13, r13, H13.mono (by decide)⟩
  have H20 := ok_right F20 T (TT := TTs K) (codeAt_of F20) (tb _ (List.mem_map.mpr ⟨_, (List.mem_cons_of_mem _ (List.mem_cons_of_mem _ (List.mem_cons_of_mem _ (List.mem_cons_of_mem _ (List.mem_cons_of_mem _ (List.mem_cons_self)))))), rfl⟩)) (List.mem_map.mpr ⟨_, (List.mem_cons_of_mem _ (List.mem_cons_of_mem _ (List.mem_cons_of_mem _ (List.mem_cons_of_mem _ (List.mem_cons_of_mem _ (List.mem_cons_self)))))), rfl⟩) (uniq_T nd (List.mem_map.mpr ⟨_, (List.mem_cons_of_mem _ (List.mem_cons_of_mem _ (List.mem_cons_of_mem _ (List.mem_cons_of_mem _ (List.mem_cons_of_mem _ (List.mem_cons_self)))))), rfl⟩)) DT CC (mkCal g0 F0.kp b0 (H0.up (by decide))) (mkCal g3 F3.kp b3 (H3.up (by decide))) (mkCal g4 F4.kp b4 (H4.up (by decide))) ⟨_, _, g9, F9.kp, b9, r9, H9.mono (by decide)⟩ ⟨_, _, g11, F11.kp, b11, r11, H11.mono (by decide)⟩ ⟨_, _, g10, F10.kp, b10, r10, H10.mono (by decide)⟩ (mkCal g16 F16.kp b16 (H16.up (by decide))) (mkCal g17 F17.kp b17 (H17.up (by decide))) (mkCal g19 F19.kp b19 (H19.up (by decide))) (mkCal g18 F18.kp b18 (H18.up (by decide)))
  exact ok_law F21 T (mkCal g2 F2.kp b2 (H2.up (by decide))) (mkCal g20 F20.kp b20 (H20.up (by decide)))
end
end K11
open PySem PySem.W PySem.Calls PyProof.Rows
set_option maxHeartbeats 0 in
theorem PySem.Challenge.cw_wakesayings_k11_words_refused_holds : PySem.Challenge.rw_wakesayings_k11_words_refused.Holds := by
  w_on; o_law
  refine HandSHeadRun.head_any (r := OpenLaw.row PySem.Challenge.rw_wakesayings_k11_words_refused) (q := view (OpenLaw.row PySem.Challenge.rw_wakesayings_k11_words_refused).prog [40]) (H := K11H.hk) (ob := K11H.ob) (M := 12000) (loose := K11H.loose) (d := HandSHeadRun.topDef (OpenLaw.row PySem.Challenge.rw_wakesayings_k11_words_refused).prog 40) (kwd := []) K11H.ob_eq
    (by kernel_rfl) (fun s => by kernel_rfl) K11H.run (by kernel_rfl) (by kernel_rfl) (by kernel_rfl) (by rfl) (by first | assumption | decide +kernel) (by decide +kernel) ⟨rfl, rfl, rfl, rfl, rfl, by decide +kernel⟩ ?hw ?hc
  case hw => w_witness2
  case hc =>
    refine Lw.walkGT (l := PySem.Challenge.rw_wakesayings_k11_words_refused) (n := 63) (k := 9) (x := "_law_script") rfl (by decide) (by kernel_rfl) ⟨rfl, by decide, by decide⟩ ?F
    intro w mg fa h Y G hmg0
    obtain ⟨K, KX, c⟩ := Y
    have hmg : mg ("law" : PySem.Str) = some (.ref fa) := by
      have e : (HandSHeadRun.topDef (OpenLaw.row PySem.Challenge.rw_wakesayings_k11_words_refused).prog 40).name = ("law" : PySem.Str) := by kernel_rfl
      rw [← e]
      exact hmg0
    obtain ⟨fd, hb, hF⟩ := K11.facts (P := (PySem.Challenge.rw_wakesayings_k11_words_refused).prog) (w := w) KX G hmg c.t.d c.more
    refine ⟨K, fd, _, K11H.tf.map (He.cT K), KX, fun z hz => ?_, fun z hz => ?_, fun z hz => ?_, hb, fun H a ns hl hT hS => ⟨a, ns, rfl, fun z hz => by
      obtain ⟨e, he, rfl⟩ := List.mem_map.mp hz
      exact LamX.TabS.nil (hT _ (List.mem_map.mpr ⟨e.1, List.mem_map.mpr ⟨e, he, rfl⟩, rfl⟩)), hS, hl, fun _ => rfl⟩, fun base _ _ tb => hF base tb⟩
    · obtain ⟨p, hp, rfl⟩ := List.mem_map.mp hz
      exact c.empty p hp
    · obtain ⟨p, hp, rfl⟩ := List.mem_map.mp hz
      exact c.out p hp
    · obtain ⟨p, hp, rfl⟩ := List.mem_map.mp hz
      exact PySem.W.codeHd_of_K KX (c.hd p hp)
