import PyProof.Rows.All
import Wide.All
import OpenK.AllK
import Wide.FinOn
import HandS.ForMost
import HandS.ForExc
import HandS.More
import HandS.Evl
import HandS.Defaults
import HandS.IsInst
import HandS.HeadEnd
import PyProof.ReprRoads
import HandS.ExcInit
import HandS.ExcIs
import HandS.MakeKw
import KE.KExcIs
import KE.KExcInit
import HandS.HeadHook4
import HandS.Head0
import HandS.Head1
import HandS.Head2
import PySem.Challenge.RW_wakesayings_k16_errors
set_option Elab.async false
set_option linter.all false
set_option maxRecDepth 100000
set_option maxHeartbeats 4000000
namespace Lw
open PySem PySem.Spec PyProof.Rows L2
/-! ### what a def keeps, called where no repr is under way -/
structure FnG (P : Program) (w : World) (K : PySem.W.Frag) (mg : Str → Option Value) (base : Heap) (CX : CXT) (k : Nat) (f : Addr) (fd : FuncData) (ps : List Str) (sp : Sp) : Prop where
  len : ∀ vs H Q E, sp vs H Q E → vs.length = ps.length
  go : ∀ {A : Around} {outer : List Env} {s : Shared} {H : Hp} {args : Args} {us : List Value} {vs : List V} {Q : VK} {E : XK},
    A.guards = some [] → Room k A → Env0 P w K mg base A outer s H → BindsTo s fd args (ps.zip us) → Vals vs us → sp vs H Q E →
    codeAny (model P w) A (.call (.ref f) args) (CR CX outer P w H s Q E) s
section
variable {P : Program} {w : World} {K : PySem.W.Frag} {mg : Str → Option Value} {base : Heap} {CX : CXT}
theorem FnG.up {j k : Nat} {f : Addr} {fd : FuncData} {ps : List Str} {sp : Sp} (F : FnG P w K mg base CX j f fd ps sp) (h : j ≤ k) : FnG P w K mg base CX k f fd ps sp :=
  ⟨F.len, fun g r => F.go g (r.mono h)⟩
/-- a def by its body: the body's reading, at a place where no repr is under way -/
theorem fnG {x qual : Str} {params : Arguments} {body : List Stmt} {scope : Scope} {dvs : List V} {kws : List (Str × V)} {f : Addr} {fd : FuncData} {N ps : List Str} {k : Nat} {sp : Sp}
    (F : FunD K x qual params body scope dvs kws f fd) (S : FnScope N ps scope) (len : ∀ vs H Q E, sp vs H Q E → vs.length = ps.length)
    (walk : ∀ (cdv : Value) (A : Around) (outer : List Env) (s : Shared) (H : Hp) (vs : List V) (Q : VK) (E : XK), A.guards = some [] → Room k (A.deeper (envOfC qual scope s.heap.objs.size f cdv)) → sp vs H Q E →
      ∃ t, PSs (cxOf CX P w K mg base N qual scope f cdv A outer s H E) body t ∧ t { nx := fun _ H' => Q .non H', rt := Q } (start N vs) H) :
    FnG P w K mg base CX (k + 1) f fd ps sp := by
  obtain ⟨_, _, dV, kV, doc, pm, an, cdv, ct, osl, rfl, lk, hcd, _, _⟩ := F.ex
  refine ⟨len, ?_⟩
  intro A outer s H args us vs Q E hg hr e0 hb rv hsp
  have hsz : (us.length = ps.length) := by
    rw [← rv.length]
    exact len _ _ _ _ hsp
  have kIn : K.In s.heap := e0.mod.kin.keeps fun b o e => (e0.bs b o e).1
  have noL : s.heap.NoLimit := e0.mod.nolimit.keeps fun b o e => (e0.bs b o e).1
  refine codeAny_call_function hr.depth (kIn _ _ lk) rfl S.co S.gen rfl (PySem.W.codeRec_of kIn hcd) (hb _ _ _ _ ?_)
  refine wpAny_newFunctionEnv_cells S.kind ?_ ?_
  · rintro ⟨n, v⟩ hm
    cases S.par n (List.of_mem_zip hm).1 with
    | inl q => exact .inl q
    | inr q => exact .inr ⟨q, PySem.W.cellsFrom_some _ _ _ (.inl q)⟩
  · rintro env rfl s1 x
    refine ⟨noL.keeps x.toInCall.keep, codeAny_func ?_⟩
    obtain ⟨t, ht, hq⟩ := walk cdv A outer s H vs Q E hg (hr.deeper _) hsp
    refine wpAny_mono (ht.run [] s1 (start N vs) H _ (inv_start S hr.hd e0 (len _ _ _ _ hsp) rv x) hq) (fun fl s2 hs => ?_) fun _ _ z => z
    cases fl with
    | ret u => exact match hs with
      | ⟨v, _, H', J, r, q⟩ => ⟨v, H', J.os, J.bare, J.base, J.hok, r, q⟩
    | next => exact match hs with
      | ⟨_, H', J, q⟩ => ⟨V.non, H', J.os, J.bare, J.base, J.hok, rfl, q⟩
    | brk => exact match hs with
      | ⟨_, _, _, q⟩ => q.elim
    | cont => exact match hs with
      | ⟨_, _, _, q⟩ => q.elim
/-! ### a def of the top, as its callers see it -/
def Cal (P : Program) (w : World) (K : PySem.W.Frag) (mg : Str → Option Value) (base : Heap) (CX : CXT) (k : Nat) (x : Str) (ps : List Str) (sp : Sp) : Prop :=
  ∃ f fd, mg x = some (.ref f) ∧ PySem.W.keepIn K (.ref f) = true ∧ Binds K fd ps [] ∧ FnG P w K mg base CX k f fd ps sp
end
section
variable {X : Cx} {CX : CXT} {k : Nat} {x : Str} {ps : List Str} {sp : Sp} {p pos : Pos} {e : Expr} {es : List Expr} {t : TA} {E : XK}
theorem runG {pins : List (Addr × Obj)} {σ : L2.St} {H : Hp} {s : Shared} {Q : VK} {f : Addr} {fd : FuncData} {us : List Value} {vs : List V} (F : FnG X.prog X.w X.K X.mg X.base CX k f fd ps sp) (hg : X.A.guards = some []) (hr : Room k X.A) (hb : Binds X.K fd ps [])
    (hx : Passes CX X E) (I : Inv X pins σ H s) (r : Vals vs us) (h : sp vs H Q E) : wpAny (model X.prog X.w) X.A (call (.ref f) us) (EP X pins σ Q) X.xe s := by
  have hl : (us ++ []).length = ps.length := by
    rw [List.append_nil, ← r.length]
    exact F.len _ _ _ _ h
  have bt := hb s us I.kIn hl
  rw [List.append_nil] at bt
  refine wpAny_call (codeAny_mono (F.go hg hr I.env0 bt r h) fun r s2 hq => ?_)
  cases r with
  | error er => exact hx pins σ H s er s2 I hq
  | ok fl =>
    cases fl with
    | ret u => exact I.after hq
    | next => exact hq.elim
    | brk => exact hq.elim
    | cont => exact hq.elim
theorem pe_calX (C : Cal X.prog X.w X.K X.mg X.base CX k x ps sp) {j : Nat} (gd : X.A.guards = some []) (hr : Room j X.A) (hx : Passes CX X E) (ha : PA X (e :: es) t) (hj : k ≤ j := by decide) (hg : Gl X x := by rfl) (hdb : (x == ("__debug__" : Str)) = false := by decide)
    (he : starEach (e :: es) X.env = (false, eval e X.env) :: starEach es X.env := by rfl) (hpl : (backTo pos (starEach es X.env)).any (·.1) = false := by rfl) :
    PE X (.Call (.Name x p) (e :: es) [] pos) (tCall sp [] E t) := by
  obtain ⟨f, fd, hm, hk, hb, F⟩ := C
  constructor
  intro pins s σ H Q I h
  refine wpAny_Call_Name_kw (ld_glob I hg hm ?_ hdb)
  refine PySem.W.callWith_K (h₀ := X.base) I.ok.mod.kin hk (thn (ha.run pos pins s σ H _ I h) fun us s1 hh => ?_) he hpl
  obtain ⟨vs, H1, I1, r, q⟩ := hh
  rw [List.append_nil] at q
  exact ⟨I1.kIn, runG F gd (hr.mono hj) hb hx I1 r q⟩
/-- .. that lets no error out -/
theorem pe_cal (C : Cal X.prog X.w X.K X.mg X.base CX0 k x ps sp) {j : Nat} (gd : X.A.guards = some []) (hr : Room j X.A) (ha : PA X (e :: es) t) (hj : k ≤ j := by decide) (hg : Gl X x := by rfl) (hdb : (x == ("__debug__" : Str)) = false := by decide)
    (he : starEach (e :: es) X.env = (false, eval e X.env) :: starEach es X.env := by rfl) (hpl : (backTo pos (starEach es X.env)).any (·.1) = false := by rfl) :
    PE X (.Call (.Name x p) (e :: es) [] pos) (tCall sp [] E0 t) := pe_calX C gd hr pass0 ha hj hg hdb he hpl
end
/-! ### the law's own call -/
/-- what the law's heap holds at the entry: the script, locked -/
def scr (a : Addr) (o : Obj) (ns : List Int) : Hp := fun b => if b = a then some (.frz o (.lst (ns.map V.int))) else none
theorem scr_at {a : Addr} {o : Obj} {ns : List Int} : scr a o ns a = some (.frz o (.lst (ns.map V.int))) := if_pos rfl
theorem scr_off {a b : Addr} {o : Obj} {ns : List Int} (h : b ≠ a) : scr a o ns b = none := if_neg h
theorem lawG {P : Program} {w : World} {K : PySem.W.Frag} {mg mb : Str → Option Value} {k : Nat} {fa a : Addr} {fd : FuncData} {x : Str} {sp : Sp} {s : Shared} {vs : List Value} {ns : List Int}
    (KX : K.In s.heap) (hns : s.heap.Ns mainGlobals mg) (hb : s.heap.Ns builtinsNs mb) (hbb : ∀ x : Str, x ≠ "__name__" → mb x = bootBuiltins x) (hlim : s.heap.NoLimit) (hgen : s.gens = #[])
    (ha : s.heap.get? a = some { cls := .type "list", data := .seq vs.toArray }) (hi : IntsAre vs ns) (hl : ns.length ≤ sizeLine) (hr : Room k callerA)
    (F : ∀ base : Heap, K.In base → base.Ns mainGlobals mg → FnG P w K mg base CX0 k fa fd [x] sp) (hbind : ∀ (s : Shared) (u : Value), BindsTo s fd ⟨[u], []⟩ [(x, u)])
    (hsp : ∀ H : Hp, SqL K H a (ns.map V.int) → sp [.ref a] H (fun v _ => v = .bl true) E0) :
    codeAny (model P w) callerA (.call (.ref fa) ⟨[.ref a], []⟩) (fun r s' => r = .ok (.ret (.bool true)) ∧ OldK s.heap s'.heap ∧ s'.os = s.os ∧ AllBare s'.gens) s := by
  have rv := vals_ints hi
  -- a heap H that tracks nothing but what is locked
  have go : ∀ H : Hp, SqL K H a (ns.map V.int) → HOk P w H s.heap → (∀ b u, H b = some u → b = a ∧ K.lookup a = none ∧ ∃ o xs, u = .frz o (.lst xs)) →
      codeAny (model P w) callerA (.call (.ref fa) ⟨[.ref a], []⟩) (fun r s' => r = .ok (.ret (.bool true)) ∧ OldK s.heap s'.heap ∧ s'.os = s.os ∧ AllBare s'.gens) s := by
    intro H hS hok hH
    have free : ∀ b, b ≠ a → H b = none := fun b n => by
      cases q : H b with
      | none => rfl
      | some u => exact absurd (hH b u q).1 n
    have notDict : ∀ {b : Addr} {o : Obj} {es : Array DictEntry} {n : Nat}, s.heap.get? b = some o → o.data = .dict es n → H b = none := fun {b o es n} e d => free b fun z => by
      rw [z, ha] at e
      cases e
      cases d
    have nsB : ∀ {b : Addr} {m : Str → Option Value}, s.heap.Ns b m → (hidT s.heap H).Ns b m := fun {b m} z => by
      obtain ⟨o, es, n, e, d, r⟩ := z
      exact ⟨o, es, n, hidT_get e (notDict e d), d, r⟩
    have KB : K.In (hidT s.heap H) := fun b o e => hidT_get (KX b o e) (by
      cases q : H b with
      | none => rfl
      | some u =>
        obtain ⟨rfl, n, _⟩ := hH b u q
        rw [n] at e
        cases e)
    have md : Mod K mg (hidT s.heap H) := ⟨KB, nsB hns, ⟨mb, nsB hb, hbb⟩, by
      obtain ⟨m, z1, z2⟩ := hlim
      exact ⟨m, nsB z1, z2⟩⟩
    have e0 : Env0 P w K mg (hidT s.heap H) callerA [] s H := ⟨rfl, md, fun b o e => of_hidT e, Nat.le_of_eq (hidT_size _ _), trivial, fun b z => absurd z (List.not_mem_nil), hok, .of_eq hgen⟩
    refine codeAny_mono ((F _ KB (nsB hns)).go (vs := [.ref a]) (us := [.ref a]) rfl hr e0 (hbind s (.ref a)) (.cons rfl .nil) (hsp H hS)) fun r s2 h => ?_
    cases r with
    | error er => exact h.elim
    | ok fl =>
      cases fl with
      | next => exact h.elim
      | brk => exact h.elim
      | cont => exact h.elim
      | ret u =>
        obtain ⟨v, H2, os, bare, un, hok2, rv2, rfl⟩ := h
        obtain rfl : u = Value.bool true := rv2
        refine ⟨rfl, OldK.of_keep fun b o e => ?_, os, bare⟩
        cases q : H b with
        | none => exact un.keep b o e q List.not_mem_nil List.not_mem_nil
        | some u =>
          obtain ⟨rfl, _, ob, xs, rfl⟩ := hH b u q
          have z1 := (hok b _ q).1
          have z2 := (hok2 b _ (un.frzs b ob _ q)).1
          rw [z1] at e
          cases e
          exact z2
  cases hk : K.lookup a with
  | some o =>
    have e := KX a o hk
    rw [ha] at e
    cases e
    exact go (fun _ => none) (.inr ⟨_, vs.toArray, _, hk, rfl, rfl, rfl, by rw [List.size_toArray, hi.length]; exact hl, by simpa using rv⟩) (fun _ _ z => nomatch z) (fun _ _ z => nomatch z)
  | none =>
    refine go (scr a { cls := .type "list", data := .seq vs.toArray } ns) (.inl (.inr ⟨_, scr_at⟩)) (fun b u z => ?_) (fun b u z => ?_)
    · by_cases q : b = a
      · subst q
        rw [scr_at] at z
        cases z
        exact ⟨ha, by rw [List.length_map]; exact hl, vs, _, rv, ha⟩
      · rw [scr_off q] at z
        cases z
    · by_cases q : b = a
      · subst q
        rw [scr_at] at z
        cases z
        exact ⟨rfl, hk, _, _, rfl⟩
      · rw [scr_off q] at z
        cases z
/-- the end of a law's row: its promise, from the facts that the head tells -/
theorem walkG {l : PySem.W.OpenLaw} {n k : Nat} {q : Program} {loose : List Str} {XP : (Str → Option Value) → Heap → Prop} {YP : World → Heap → Prop} {d : DefRec} {x : Str}
    (hn : l.most = some n) (hn2 : n ≤ sizeLine) (hdf : d.params.defaults = []) (hr : Room k callerA)
    (F : ∀ (w : World) (mg : Str → Option Value) (fa : Addr) (h : Heap), YP w h → h.Ns mainGlobals mg → mg d.name = some (.ref fa) →
      ∃ (K : PySem.W.Frag) (fd : FuncData) (sp : Sp), K.In h ∧ (∀ (s : Shared) (u : Value), BindsTo s fd ⟨[u], []⟩ [(x, u)]) ∧
        (∀ (H : Hp) (a : Addr) (ns : List Int), ns.length ≤ n → SqL K H a (ns.map V.int) → sp [.ref a] H (fun v _ => v = .bl true) E0) ∧
        ∀ base : Heap, K.In base → base.Ns mainGlobals mg → FnG l.prog w K mg base CX0 k fa fd [x] sp) :
    PySem.W.WalkO q loose XP YP l.row.toRowW d [] (fun f vs => PySem.call f vs) := by
  refine Att.attach_call hn hdf fun w s₀ s₁ mg mb fa o pm cd doc a vs ns G Y ho hd hcd hmg hobj hints hlen hg => ?_
  obtain ⟨K, fd, sp, KX, hb, hsp, hF⟩ := F w mg fa _ Y G.T.g hmg
  exact lawG KX G.T.g G.T.b G.T.builtins G.T.nolimit hg hobj hints (Nat.le_trans hlen hn2) hr hF hb fun H hS => hsp H a ns hlen hS
/-! ### the pot: a list of two numbers that a draw changes -/
/-- a heap at which a pot stands at p -/
def Po (p : Addr) (H : Hp) : Prop := ∃ i j : Int, H p = some (.lst [.int i, .int j]) ∧ 0 ≤ i ∧ 0 ≤ j ∧ j < 2147483648
/-- all that was tracked, but the pot, stands -/
def Xp (p : Addr) (H H' : Hp) : Prop := (∀ a o, a ≠ p → H a = some o → H' a = some o) ∧ Po p H'
theorem Xp.refl {p : Addr} {H : Hp} (h : Po p H) : Xp p H H := ⟨fun _ _ _ e => e, h⟩
theorem Xp.trans {p : Addr} {H H1 H2 : Hp} (a : Xp p H H1) (b : Xp p H1 H2) : Xp p H H2 := ⟨fun c o n e => b.1 c o n (a.1 c o n e), b.2⟩
theorem Po.some {p : Addr} {H : Hp} (h : Po p H) : ∃ o, H p = some o := ⟨_, h.choose_spec.choose_spec.1⟩
/-- a new object beside the pot -/
theorem Xp.new {p q : Addr} {H : Hp} {o : HO} (h : Po p H) (hq : H q = none) : Xp p H (upd H q o) := by
  obtain ⟨i, j, e, r⟩ := h
  refine ⟨fun a u _ ea => ?_, i, j, ?_, r⟩
  · rw [upd_ne (ne_of_none ea hq)]
    exact ea
  · rw [upd_ne (ne_of_none e hq)]
    exact e
theorem Xp.snew {p q : Addr} {H H1 : Hp} {o : HO} (x : Xp p H H1) (hq : H1 q = none) : Xp p H (upd H1 q o) := x.trans (.new x.2 hq)
theorem Xp.same {p : Addr} {H H1 H2 : Hp} (x : Xp p H H1) (s : Same H1 H2) : Xp p H H2 := by
  obtain ⟨h, i, j, e, r⟩ := x
  exact ⟨fun a o n ea => s _ _ (h a o n ea), i, j, s _ _ e, r⟩
/-- what is seen of a list, a tuple that isn't the pot -/
theorem Xp.at {p : Addr} {H H' : Hp} (x : Xp p H H') {a : Addr} {o : HO} (e : H a = some o) (n : a ≠ p) : H' a = some o := x.1 a o n e
/-- a draw: some number below the size -/
def spDraw : Sp := fun vs H Q _ => ∃ (p : Addr) (n : Int), vs = [.ref p, .int n] ∧ Po p H ∧ 0 < n ∧ n < 1073741824 ∧
  ∀ (d : Int) (H' : Hp), 0 ≤ d → d < n → Xp p H H' → Q (.int d) H'
/-- one of a list, at any place -/
def spPick (K : PySem.W.Frag) : Sp := fun vs H Q _ => ∃ (p l : Addr) (xs : List V), vs = [.ref p, .ref l] ∧ Po p H ∧ H l = some (.lst xs) ∧ l ≠ p ∧ 0 < xs.length ∧ xs.length < 100000 ∧
  ∀ (v : V) (H' : Hp), v ∈ xs → Xp p H H' → Q v H'
/-- a new pot -/
def spPot (K : PySem.W.Frag) : Sp := fun vs H Q _ => ∃ (a : Addr) (ns : List Int) (k : Int), vs = [.ref a, .int k] ∧ SqL K H a (ns.map V.int) ∧ ns.length ≤ 63 ∧ 0 ≤ k ∧ k ≤ 63 ∧
  ∀ (p : Addr) (H' : Hp), H p = none → Same H H' → Po p H' → Q (.ref p) H'
theorem atI_mem {xs : List V} {d : Int} (h0 : 0 ≤ d) (h1 : d < xs.length) : ∃ v, atI xs d = some v ∧ v ∈ xs := by
  obtain ⟨n, rfl⟩ := Int.eq_ofNat_of_zero_le h0
  have hn : n < xs.length := by omega
  exact ⟨xs[n], atI_nat (List.getElem?_eq_getElem hn), List.getElem_mem hn⟩
end Lw
namespace Lw
open PySem PySem.Spec PyProof.Rows L2
/-! ### what a value shows by repr -/
/-- wherever H is kept, v is read as d; no dict stands at sys.modules -/
def Rw (P : Program) (w : World) (H : Hp) (v : V) (d : PyData) : Prop :=
  ∀ h : Heap, HOk P w H h → ∀ u : Value, RelV v u → ∃ as, Reads h u d as ∧ (d.hasDict = true → sysModules ∉ as)
section
variable {P : Program} {w : World} {H H' : Hp}
theorem rw_non : Rw P w H .non .none := fun h _ u r => by
  cases (show u = Value.none from r)
  exact ⟨_, .none, fun z => nomatch z⟩
theorem rw_bl (b : Bool) : Rw P w H (.bl b) (.bool b) := fun h _ u r => by
  cases (show u = Value.bool b from r)
  exact ⟨_, .bool b, fun z => nomatch z⟩
theorem rw_int (i : Int) : Rw P w H (.int i) (.int i) := fun h _ u r => by
  obtain ⟨t, rfl⟩ := (show ∃ t, u = Value.int i t from r)
  exact ⟨_, .int i t, fun z => nomatch z⟩
theorem rw_str (x : Str) : Rw P w H (.str x) (.str x) := fun h _ u r => by
  obtain ⟨t, rfl⟩ := (show ∃ t, u = Value.str x t from r)
  exact ⟨_, .str x t, fun z => nomatch z⟩
theorem rw_all {h : Heap} (hok : HOk P w H h) : ∀ {vs : List V} {ds : List PyData} {us : List Value}, Paired (Rw P w H) vs ds → Vals vs us → ∃ as, ReadsAll h us ds as
  | _, _, _, .nil, .nil => ⟨_, .nil⟩
  | _, _, _, .cons r t, .cons q s => by
    obtain ⟨as, r1, _⟩ := r h hok _ q
    obtain ⟨bs, r2⟩ := rw_all hok t s
    exact ⟨_, .cons r1 r2⟩
theorem rw_lst {a : Addr} {vs : List V} {ds : List PyData} (e : H a = some (.lst vs)) (hp : Paired (Rw P w H) vs ds) (nd : PyData.hasDictAll ds = false) : Rw P w H (.ref a) (.list ds) := fun h hok u r => by
  cases (show u = Value.ref a from r)
  obtain ⟨_, its, n, rv, ho⟩ : vs.length ≤ sizeLine ∧ ∃ (its : List Value) (n : Nat), Vals vs its ∧ h.get? a = some { cls := .type "list", data := .seq its.toArray n } := hok a _ e
  obtain ⟨as, ra⟩ := rw_all hok hp rv
  exact ⟨_, .list ho rfl rfl ra, fun z => by rw [PyData.hasDict, nd] at z; cases z⟩
theorem rw_tup {a : Addr} {vs : List V} {ds : List PyData} (e : H a = some (.tup vs)) (hp : Paired (Rw P w H) vs ds) (nd : PyData.hasDictAll ds = false) : Rw P w H (.ref a) (.tuple ds) := fun h hok u r => by
  cases (show u = Value.ref a from r)
  obtain ⟨_, its, rv, o, ho, hc, n, hd⟩ : vs.length ≤ sizeLine ∧ ∃ its : List Value, Vals vs its ∧ IsTup h a its.toArray := hok a _ e
  obtain ⟨as, ra⟩ := rw_all hok hp rv
  exact ⟨_, .tuple ho hc hd ra, fun z => by rw [PyData.hasDict, nd] at z; cases z⟩
end
/-! a dict with plain values -/
def kD : Key → PyData
  | .inl i => .int i
  | .inr x => .str x
def vD : V → Option PyData
  | .non => some .none
  | .bl b => some (.bool b)
  | .int i => some (.int i)
  | .str x => some (.str x)
  | _ => none
theorem vD_reads {h : Heap} {v : V} {d : PyData} {u : Value} (e : vD v = some d) (r : RelV v u) : Reads h u d [] := by
  cases v with
  | non =>
    cases (show u = Value.none from r)
    cases e
    exact .none
  | bl b =>
    cases (show u = Value.bool b from r)
    cases e
    exact .bool b
  | int i =>
    obtain ⟨t, rfl⟩ := (show ∃ t, u = Value.int i t from r)
    cases e
    exact .int i t
  | str x =>
    obtain ⟨t, rfl⟩ := (show ∃ t, u = Value.str x t from r)
    cases e
    exact .str x t
  | _ => cases e
section
variable {P : Program} {w : World} {H H' : Hp}
theorem kv_reads {h : Heap} : ∀ {kvs : List (Key × V)} {ds : List PyData} {vs : List (Key × Value)} {es : List DictEntry}, kvs.map (fun q => vD q.2) = ds.map some → KV kvs vs → Pairs (mixKind P w) es vs →
    ReadsAll h (es.map (·.key)) ((kvs.zipWith (fun q d => (kD q.1, d)) ds).map (·.1)) [] ∧ ReadsAll h (es.map (·.val)) ((kvs.zipWith (fun q d => (kD q.1, d)) ds).map (·.2)) []
  | [], [], _, _, _, .nil, .nil => ⟨.nil, .nil⟩
  | [], _ :: _, _, _, e, _, _ => by cases e
  | _ :: _, [], _, _, e, _, _ => by cases e
  | (k, v) :: kvs, d :: ds, _, _, e, .cons (b := q) ⟨e1, rv⟩ t, .cons (e := en) h1 h2 t2 => by
    injection e with e2 e3
    obtain ⟨z1, z2⟩ := kv_reads (h := h) e3 t t2
    have rk : Reads h en.key (kD k) [] := by
      have e1' : k = q.1 := e1
      rw [← e1'] at h1
      rcases keyIs_shape (show keyIs k en.key = true from h1) with ⟨i, t, rfl, e⟩ | ⟨x, t, rfl, e⟩
      · rw [e]
        exact .int i t
      · rw [e]
        exact .str x t
    have rv' : Reads h en.val d [] := by
      rw [h2]
      exact vD_reads e2 rv
    exact ⟨.cons rk z1, .cons rv' z2⟩
theorem rw_dk {a : Addr} {kvs : List (Key × V)} {ds : List PyData} (e : H a = some (.dK kvs)) (hv : kvs.map (fun q => vD q.2) = ds.map some) : Rw P w H (.ref a) (.dict (kvs.zipWith (fun q d => (kD q.1, d)) ds)) := fun h hok u r => by
  cases (show u = Value.ref a from r)
  obtain ⟨_, hs, vs, kv, o, es, ep, ho, hx, hd, _, hp, _⟩ : kvs.length ≤ sizeLine ∧ (a == sysModules) = false ∧ ∃ vs, KV kvs vs ∧ h.DictOf (mixKind P w) a vs := hok a _ e
  obtain ⟨z1, z2⟩ := kv_reads (h := h) hv kv hp
  refine ⟨_, .dict ho hx.1 hd z1 z2, fun _ z => ?_⟩
  have z' : sysModules = a := by simpa using z
  rw [← z'] at hs
  simp at hs
/-! the rule -/
theorem rk_all {h : Heap} (hok : HOk P w H h) : ∀ {vs : List V} {ds : List PyData} {us : List Value}, Paired (Rw P w H) vs ds → Vals vs us → PyData.showableAll ds = true → (∀ t ∈ PyData.shownAll ds, t.length ≤ sizeLine) →
    ∃ bs, ReadAtMost h (PyData.depthAll ds) bs ∧ ReprAllK P w bs h (PyData.depthAll ds) us (PyData.shownAll ds)
  | _, _, _, .nil, .nil, _, _ => ⟨[], (fun _ z => nomatch z), by simp only [PyData.shownAll]; exact .nil⟩
  | _, _, _, .cons (b := d) (l₂ := ds) r t, .cons q s, hs, hz => by
    have hs' : d.showable = true ∧ PyData.showableAll ds = true := by simpa [PyData.showableAll] using hs
    obtain ⟨as, r1, hd⟩ := r h hok _ q
    obtain ⟨b1, m1, k1⟩ := ReprK.of_reads (prog := P) (w := w) r1 hs'.1 hd (hz _ (by simp only [PyData.shownAll]; exact List.mem_cons_self ..))
    obtain ⟨b2, m2, k2⟩ := rk_all hok t s hs'.2 (fun t ht => hz t (by simp only [PyData.shownAll]; exact List.mem_cons_of_mem _ ht))
    refine ⟨b1 ++ b2, ?_, ?_⟩
    · simp only [PyData.depthAll]
      exact (m1.mono (Nat.le_max_left _ _)).append (m2.mono (Nat.le_max_right _ _))
    · simp only [PyData.depthAll, PyData.shownAll]
      exact .cons ((k1.more fun b z => List.mem_append_left _ z).level_le (Nat.le_max_left _ _)) (k2.more_le (fun b z => List.mem_append_right _ z) (Nat.le_max_right _ _))
end
/-- repr of a list -/
def rReprL (P : Program) (w : World) : List V → Hp → VK → Prop := fun xs H Q => ∃ (p : Addr) (vs : List V) (ds : List PyData), xs = [.ref p] ∧ H p = some (.lst vs) ∧ Paired (Rw P w H) vs ds ∧
  PyData.showableAll ds = true ∧ (listText (PyData.shownAll ds)).length ≤ sizeLine ∧ PyData.depthAll ds ≤ 40 ∧ Q (.str (listText (PyData.shownAll ds))) H
theorem call_reprL {X : Cx} (gd : X.A.guards = some []) (hu : X.A.units + 64 < cLine) : CallR X (.builtin "repr") (rReprL X.prog X.w) := by
  intro pins s σ H xs us Q I r h
  obtain ⟨p, vs, ds, rfl, e, hp, hs, hz, hd, q⟩ := h
  cases r with
  | cons rx rr =>
    cases rr
    cases rx
    obtain ⟨_, its, n, rv, ho⟩ : vs.length ≤ sizeLine ∧ ∃ (its : List Value) (n : Nat), Vals vs its ∧ s.heap.get? p = some { cls := .type "list", data := .seq its.toArray n } := I.hok p _ e
    obtain ⟨as, ra⟩ := rw_all I.hok hp rv
    obtain ⟨bs, hb, hk⟩ := rk_all (P := X.prog) (w := X.w) I.hok hp rv hs fun t ht => Nat.le_trans (listText_mem_le ht) hz
    have hna : p ∉ bs := not_mem_of_deeper (.list ho rfl rfl ra) (by simp only [PyData.depth]; omega) hb
    have ty : s.TypeIs (.ref p) "list" := ⟨_, ho, rfl⟩
    refine call_repr_slot (by omega) ty F.slot_list_repr.toG ?_
    have fin : ∀ h' u tk, (∀ b o, s.heap.get? b = some o → h'.get? b = some o) → EP X pins σ Q (.str (listText (PyData.shownAll ds)) u) { s with heap := h', toks := tk } :=
      fun h' u tk k => ⟨.str (listText (PyData.shownAll ds)), H, I.kept k, ⟨u, rfl⟩, q⟩
    cases its with
    | nil =>
      cases rv
      cases hp
      simp only [PyData.shownAll, listText_nil] at fin
      exact call_list_repr_empty ty ho rfl ⟨_, _, rfl, fin s.heap _ _ fun _ _ z => z⟩
    | cons x l =>
      exact call_list_reprK ho rfl rfl hna (by simpa using hk.length_eq) (fun i y z => hk.item i y (by simpa using z)) gd (fun b _ => Clear.nil b) (by show X.A.in1.units + _ < cLine; show X.A.units + 1 + _ < cLine; omega) (fun _ _ z => z) (fun h' u tk k => ⟨_, _, rfl, fin h' u tk k⟩) hz
end Lw
/-! ### an exception class of the program's own, called with values by position and by name -/
namespace LwX
open PySem PySem.W PySem.Calls PySem.HandSPX
open Builtin Builtin.ObjectAttr
section
variable {M : Model} {prog : Program} {w : World} {A : Around} {E : Value → Shared → Prop} {R : Result → Shared → Prop} {h : Heap} {g : Array GenState} {d : Drawn} {t : Nat} {os : OsState}
variable {nm q : Str} {C N : Addr} {bs bm bB : List Value} {hdct : Bool} {sn : List Str} {sub : List Value} {ab : Bool} {col : Option Bool} {dd : Option Addr} {k0 k1 k2 k3 k5 : Option Value} {B nI iI : String}
variable {pos : List Value} {kw : List (Str × Value)}
theorem chkK (F : ExcBaseFacts B nI iI bB) (hT : ∀ X : String, bm.contains (.type X) = bB.contains (.type X)) {Q : Unit → Shared → Prop}
    (hC : h.get? C = some (excClassObj nm q C N bs bm hdct sn sub ab col dd k0 k1 k2 k3 k5 nI)) (hq : Q () ⟨h, g, d, t, os⟩) : wpAny M A (checkBuiltinCall nI ⟨.ref C :: pos, kw⟩) Q E ⟨h, g, d, t, os⟩ := by
  have cB : (Value.ref C :: bm).contains (.type B) = true := by rw [List.contains_cons, hT, F.hasB, Bool.or_true]
  have ns := F.noStar
  simp only [checkBuiltinCall, F.newKind, F.newSplit, F.newRow]
  repeat (first
    | refine wpAny_loadPart_at hC ?_
    | (refine wpAny_isSubtype_exc hC ?_; rw [cB])
    | refine wpAny_staticBase_exc hC ?_
    | refine wpAny_madeBy_exc hC ?_
    | simp only [bne_self_eq_false, Bool.false_eq_true, if_false]
    | wp_step)
  exact hq
theorem newK (F : ExcBaseFacts B nI iI bB) (hT : ∀ X : String, bm.contains (.type X) = bB.contains (.type X))
    (hC : h.get? C = some (excClassObj nm q C N bs bm hdct sn sub ab col dd k0 k1 k2 k3 k5 nI)) (hz : pos.length ≤ sizeLine)
    (hq : R (.ok (.ret (.ref (h.objs.size + 1)))) ⟨(h.push (W.kdv_tup pos)).push (excO C h.objs.size), g, d, t, os⟩) :
    codeAny (model prog w) A (.builtin nI ⟨.ref C :: pos, kw⟩) R ⟨h, g, d, t, os⟩ := by
  have ends := F.ends
  have cB : (Value.ref C :: bm).contains (.type B) = true := by rw [List.contains_cons, hT, F.hasB, Bool.or_true]
  have cA : (Value.ref C :: bm).contains (.type "AttributeError") = false := by rw [List.contains_cons, hT, F.noAttr]; rfl
  have cN : (Value.ref C :: bm).contains (.type "NameError") = false := by rw [List.contains_cons, hT, F.noName]; rfl
  have hrest : pos.length ≤ sizeLine := hz
  refine codeAny_builtinAt F.entry ?_
  unfold Builtin.«BaseException.__new__»
  refine wpAt_bind ?_
  show wpAt _ _ _ (stack >>= _) _ _ _
  refine wpAt_bind (wpAt_stack fun p below => wpAt_of_wpAny ?_)
  wp_walk
  refine wpAt_of_wpAny ?_
  rw [F.owner]
  repeat (first
    | with_reducible refine wpAny_madeHere_exc F.canon hC ?_
    | with_reducible refine wpAny_loadPart_at hC ?_
    | (with_reducible refine wpAny_isSubtype_exc hC ?_; first | rw [cB] | rw [cA] | rw [cN])
    | wp_step)
  show R _ _
  rw [Heap.size_push]
  exact hq
theorem tcK (F : ExcBaseFacts B nI iI bB) (hT : ∀ X : String, bm.contains (.type X) = bB.contains (.type X)) {fI : Addr} {Q : Fin → Shared → Prop}
    (hC : h.get? C = some (excClassObj nm q C N bs bm hdct sn sub ab col dd k0 k1 k2 k3 k5 nI))
    (hi : W.Looks (model prog w) h (typeLookup (.ref C) "__init__") (some (.ref fI))) (hb : ∀ self, W.Looks (model prog w) h (bindSpecial (.ref fI) self) (.ref fI, [self])) (hz : pos.length ≤ sizeLine)
    (hq : codeAny (model prog w) A (.call (.ref fI) ⟨.ref (h.objs.size + 1) :: pos, kw⟩)
      (fun r s' => match r with | .ok (.ret v) => v = .none ∧ Q (.done (.ret (.ref (h.objs.size + 1)))) s' | .ok _ => False | .error e => E e s')
      ⟨(h.push (W.kdv_tup pos)).push (excO C h.objs.size), g, d, t, os⟩) :
    wpAny (model prog w) A (Builtin.«type.__call__» ⟨.ref C :: pos, kw⟩) Q E ⟨h, g, d, t, os⟩ := by
  have hrest : pos.length ≤ sizeLine := hz
  repeat (first
    | with_reducible refine wpAny_loadPart_at hC ?_
    | with_reducible refine wpAny_madeBy_exc hC ?_
    | wp_step)
  refine codeAny_call_builtin_code (Code.quiet_builtin _ F.quiet) (chkK F hT hC ?_)
  refine newK F hT hC hz ?_
  show wpAny _ _ _ _ _ _
  have k : ∀ b o, h.get? b = some o → ((h.push (W.kdv_tup pos)).push (excO C h.objs.size)).get? b = some o := fun b o e => Heap.get?_push_of_some _ (Heap.get?_push_of_some _ e)
  have hC1 := k _ _ hC
  have made : ((h.push (W.kdv_tup pos)).push (excO C h.objs.size)).get? (h.objs.size + 1) = some (excO C h.objs.size) := by heap_get
  have cC : (Value.ref C :: bm).contains (.ref C) = true := by simp
  have i1 := hi.keeps k
  have b1 := (hb (.ref (h.objs.size + 1))).keeps k
  unfold isInstance
  repeat (first
    | with_reducible refine wpAny_loadPart_at made ?_
    | (with_reducible refine wpAny_isSubtype_exc hC1 ?_; rw [cC])
    | wp_step)
  show wpAny _ _ (typeLookup (.ref C) _) _ _ _
  refine i1.at ?_
  refine wpAny_holding (wpAny_bind (b1.at ?_))
  refine wpAny_bind (wpAny_call (codeAny_mono hq fun r s' z => ?_))
  rcases r with e | (v | _ | _ | _)
  all_goals (first | exact z | exact z.elim | skip)
  obtain ⟨rfl, z⟩ := z
  first
    | exact wpAny_pure (wpAny_pure z)
    | (wp_walk; exact z)
theorem callK (F : ExcBaseFacts B nI iI bB) (hT : ∀ X : String, bm.contains (.type X) = bB.contains (.type X)) {fI : Addr}
    (hC : h.get? C = some (excClassObj nm q C N bs bm hdct sn sub ab col dd k0 k1 k2 k3 k5 nI))
    (hi : W.Looks (model prog w) h (typeLookup (.ref C) "__init__") (some (.ref fI))) (hb : ∀ self, W.Looks (model prog w) h (bindSpecial (.ref fI) self) (.ref fI, [self])) (hz : pos.length ≤ sizeLine)
    (hq : codeAny (model prog w) (A.under (.builtin "type.__call__" ⟨.ref C :: pos, kw⟩)) (.call (.ref fI) ⟨.ref (h.objs.size + 1) :: pos, kw⟩) (W.InitBack (h.objs.size + 1) R)
      ⟨(h.push (W.kdv_tup pos)).push (excO C h.objs.size), g, d, t, os⟩) :
    codeAny (model prog w) A (.call (.ref C) ⟨pos, kw⟩) R ⟨h, g, d, t, os⟩ := by
  have f1 := tc_lookup
  have f2 := tc_bind (.ref C)
  have ty : (⟨h, g, d, t, os⟩ : Shared).TypeIs (.ref C) "type" := ⟨_, hC, rfl⟩
  refine codeAny_of_tree ?_
  show wpAny _ _ (callAny (.ref C) _) _ _ _
  repeat (any_goals (first
    | assumption
    | with_reducible refine wpAny_loadPart_at hC ?_
    | wp_step))
  refine ⟨rfl, ?_⟩
  refine codeAny_call_builtin_at (Code.quiet_builtin _ (by decide +kernel)) entry_typeCall (wpAny_check_type_call_sub hC (tcK F hT hC hi hb hz ?_))
  refine codeAny_mono hq fun r s' z => ?_
  rcases r with e | (v | _ | _ | _) <;> exact z
end
end LwX
namespace LwX
open PySem PySem.W PySem.Calls
open Builtin Builtin.ObjectAttr
/-! ### what the top tells of an exception class -/
structure XC (K : Frag) (C : Addr) : Prop where
  base : ∃ (B nI iI : String) (bB : List Value), ExcBaseFacts B nI iI bB ∧ StoreFacts B bB "object.__setattr__" "object" ∧ excInitIn K C bB nI = true ∧ excOver K C bB = true
  hd : hasDictIn K C = true
  kp : keepIn K (.ref C) = true
  sa : findIn K (.ref C) "__setattr__" = some (some (.builtin "object.__setattr__"))
  ga : findIn K (.ref C) "__getattribute__" = some (some (.builtin "BaseException.__getattribute__"))
  gg : findIn K (.ref C) "__getattr__" = some none
  sub : subIn K (.ref C) (.type "BaseException") = some true
  ty : typeIn K (.ref C) = some (.type "type")
  cl : findIn K (.ref C) "__class__" = some (some (.builtin "object.__class__"))
  gt : specialIn K (.builtin "object.__class__") "__get__" = some (some (.builtin "getset_descriptor.__get__"))
  tk : takesIn K (.builtin "object.__class__") = some true
  mo : mroIn K C (.type "object") = some true
/-- a class whose attribute f is the instances' own -/
structure XF (K : Frag) (C : Addr) (f : Str) : Prop where
  no : findIn K (.ref C) f = some none
  tk : takerIn K C f = some none
/-- the mro of the built-in base -/
def bmOf (B : String) : List Value := [.type B, .type "Exception", .type "BaseException", .type "object"]
def baseB (K : Frag) (C : Addr) : Bool :=
  (excInitIn K C (bmOf "ValueError") "ValueError.__new__" && excOver K C (bmOf "ValueError")) || ((excInitIn K C (bmOf "LookupError") "LookupError.__new__" && excOver K C (bmOf "LookupError")) ||
  ((excInitIn K C (bmOf "RuntimeError") "RuntimeError.__new__" && excOver K C (bmOf "RuntimeError")) || (excInitIn K C (bmOf "ArithmeticError") "ArithmeticError.__new__" && excOver K C (bmOf "ArithmeticError"))))
def xcB (K : Frag) (C : Addr) : Bool := baseB K C && (hasDictIn K C && (keepIn K (.ref C) && (decide (findIn K (.ref C) "__setattr__" = some (some (.builtin "object.__setattr__"))) &&
  (decide (findIn K (.ref C) "__getattribute__" = some (some (.builtin "BaseException.__getattribute__"))) && (decide (findIn K (.ref C) "__getattr__" = some none) && (decide (subIn K (.ref C) (.type "BaseException") = some true) &&
  (decide (typeIn K (.ref C) = some (.type "type")) && (decide (findIn K (.ref C) "__class__" = some (some (.builtin "object.__class__"))) && (decide (specialIn K (.builtin "object.__class__") "__get__" = some (some (.builtin "getset_descriptor.__get__"))) &&
  (decide (takesIn K (.builtin "object.__class__") = some true) && decide (mroIn K C (.type "object") = some true)))))))))))
def xfB (K : Frag) (C : Addr) (f : Str) : Bool := decide (findIn K (.ref C) f = some none) && decide (takerIn K C f = some none)
theorem xf_ok {K : Frag} {C : Addr} {f : Str} (h : xfB K C f = true) : XF K C f := by
  obtain ⟨h1, h2⟩ := Bool.and_eq_true_iff.mp h
  exact ⟨of_decide_eq_true h1, of_decide_eq_true h2⟩
theorem xc_ok {K : Frag} {C : Addr} (h : xcB K C = true) : XC K C := by
  obtain ⟨h1, h⟩ := Bool.and_eq_true_iff.mp h
  obtain ⟨h2, h⟩ := Bool.and_eq_true_iff.mp h
  obtain ⟨h3, h⟩ := Bool.and_eq_true_iff.mp h
  obtain ⟨h4, h⟩ := Bool.and_eq_true_iff.mp h
  obtain ⟨h5, h⟩ := Bool.and_eq_true_iff.mp h
  obtain ⟨h6, h⟩ := Bool.and_eq_true_iff.mp h
  obtain ⟨h7, h⟩ := Bool.and_eq_true_iff.mp h
  obtain ⟨h8, h⟩ := Bool.and_eq_true_iff.mp h
  obtain ⟨h9, h⟩ := Bool.and_eq_true_iff.mp h
  obtain ⟨h10, h⟩ := Bool.and_eq_true_iff.mp h
  obtain ⟨h11, h12⟩ := Bool.and_eq_true_iff.mp h
  refine ⟨?_, h2, h3, of_decide_eq_true h4, of_decide_eq_true h5, of_decide_eq_true h6, of_decide_eq_true h7, of_decide_eq_true h8, of_decide_eq_true h9, of_decide_eq_true h10, of_decide_eq_true h11, of_decide_eq_true h12⟩
  unfold baseB at h1
  rcases Bool.or_eq_true_iff.mp h1 with z | h1
  · obtain ⟨z1, z2⟩ := Bool.and_eq_true_iff.mp z
    exact ⟨_, _, _, _, F.excBase_ValueError, F.store_ValueError, z1, z2⟩
  rcases Bool.or_eq_true_iff.mp h1 with z | h1
  · obtain ⟨z1, z2⟩ := Bool.and_eq_true_iff.mp z
    exact ⟨_, _, _, _, F.excBase_LookupError, F.store_LookupError, z1, z2⟩
  rcases Bool.or_eq_true_iff.mp h1 with z | z
  · obtain ⟨z1, z2⟩ := Bool.and_eq_true_iff.mp z
    exact ⟨_, _, _, _, F.excBase_RuntimeError, F.store_RuntimeError, z1, z2⟩
  · obtain ⟨z1, z2⟩ := Bool.and_eq_true_iff.mp z
    exact ⟨_, _, _, _, F.excBase_ArithmeticError, F.store_ArithmeticError, z1, z2⟩
/-! ### self.f = v, the first one and a further one -/
section
variable {prog : Program} {w : World} {A : Around} {R : Result → Shared → Prop} {K : Frag} {x C dx : Addr} {f : Str} {tk : Tok} {v : Value}
variable {hp : Heap} {g : Array GenState} {d : Drawn} {t : Nat} {os : OsState} {fv : Array Value} {t0 : Addr}
theorem osaN (T : XC K C) (F : XF K C f) (X : K.In hp) (hx : hp.get? x = some (PySem.HandSPX.excO C t0))
    (hq : ∀ h' tk' dx, (∀ b o, b ≠ x → hp.get? b = some o → h'.get? b = some o) → hp.objs.size ≤ dx → dx ≠ x → h'.get? x = some { cls := .ref C, dict := some dx, data := .fields #[.ref t0, .none, .none, .none, .bool false, .none] } →
      h'.Ns1 dx (fun y => if y = f then some v else none) → R (.ok (.ret .none)) ⟨h', g, d, tk', os⟩) :
    codeAny (model prog w) A (.call (.builtin "object.__setattr__") ⟨[.ref x, .str f tk, v], []⟩) R ⟨hp, g, d, t, os⟩ := by
  obtain ⟨B, nI, iI, bB, _, SF, _, ov⟩ := T.base
  have I : InstAt hp x (PySem.HandSPX.excO C t0) C none := ⟨hx, rfl, rfl, trivial⟩
  refine osa_openX (s := ⟨hp, g, d, t, os⟩) SF X I ov F.tk fun b => ?_
  show wpAny _ _ (storeInOwnDict (.ref x) (.ref C) (.str f tk) f v b) _ _ _
  obtain ⟨cd, hc, hh⟩ := any_some T.hd
  have Lc : Looks (model prog w) hp (classData C) cd := looks_clsIn X hc
  have nx : x ≠ hp.objs.size := Nat.ne_of_lt (Heap.lt_size hx)
  obtain ⟨nm, bs, mro, ns, qn, hd, sn, sb, ab, col, del⟩ := cd
  dsimp only at hh
  subst hh
  unfold storeInOwnDict ownDictForStores
  repeat (first
    | with_reducible refine PySem.HandSPX.store_in_new ?_ ?_
    | with_reducible refine wpAny_loadPart_at hx ?_
    | with_reducible refine Lc.at ?_
    | wp_step)
  · exact ⟨_, #[], _, (Heap.get?_update_ne _ _ _ _ nx.symm).trans (Heap.get?_push_at rfl rfl), rfl, fun e he => absurd he (by simp), fun _ => rfl⟩
  · intro h' tk' hn' hs
    have hx1 : (hp.push { cls := .type "dict", data := .dict #[] }).get? x = some (PySem.HandSPX.excO C t0) := Heap.get?_push_of_some _ hx
    refine hq h' tk' hp.objs.size (fun b o hb ho => ?_) (Nat.le_refl _) nx.symm ?_ hn'
    · exact (hs.2 b (Nat.ne_of_lt (Heap.lt_size ho))).trans ((Heap.get?_update_ne _ _ _ _ hb).trans (Heap.get?_push_of_some _ ho))
    · exact (hs.2 x nx).trans (Heap.get?_update_self _ hx1 rfl)
theorem osaD {m0 : Str → Option Value} {nl : List Str} (T : XC K C) (F : XF K C f) (X : K.In hp) (hx : hp.get? x = some { cls := .ref C, dict := some dx, data := .fields fv }) (hns : hp.Ns1 dx m0) (hw : Within m0 nl) (hz : nl.length ≤ 1000)
    (hq : ∀ h' tk', (∀ b o, b ≠ dx → hp.get? b = some o → h'.get? b = some o) → h'.Ns1 dx (fun y => if y = f then some v else m0 y) → R (.ok (.ret .none)) ⟨h', g, d, tk', os⟩) :
    codeAny (model prog w) A (.call (.builtin "object.__setattr__") ⟨[.ref x, .str f tk, v], []⟩) R ⟨hp, g, d, t, os⟩ := by
  obtain ⟨B, nI, iI, bB, _, SF, _, ov⟩ := T.base
  obtain ⟨oD, _, _, hoD, _, _⟩ := hns.count hw
  have I : InstAt hp x { cls := .ref C, dict := some dx, data := .fields fv } C (some oD) := ⟨hx, rfl, rfl, hoD⟩
  refine osa_openX (s := ⟨hp, g, d, t, os⟩) SF X I ov F.tk fun b => ?_
  show wpAny _ _ (storeInOwnDict (.ref x) (.ref C) (.str f tk) f v b) _ _ _
  obtain ⟨cd, hc, hh⟩ := any_some T.hd
  have Lc : Looks (model prog w) hp (classData C) cd := looks_clsIn X hc
  obtain ⟨nm, bs, mro, ns, qn, hd, sn, sb, ab, col, del⟩ := cd
  dsimp only at hh
  subst hh
  unfold storeInOwnDict ownDictForStores
  repeat (first
    | with_reducible refine PySem.OEX.store_in_old hns hw hz ?_
    | with_reducible refine wpAny_loadPart_at hx ?_
    | with_reducible refine Lc.at ?_
    | wp_step)
  intro h' tk' hn' hs
  exact hq h' tk' (fun b o hb ho => (hs.2 b hb).trans ho) hn'
end
end LwX
namespace Lw
open PySem PySem.Spec PyProof.Rows L2
open LwX (XC XF)
/-! ### self.f = v in an exception's own __init__ -/
section
variable {X : Cx} {pins : List (Addr × Obj)} {σ : L2.St} {H : Hp} {s : Shared} {a C dx : Addr} {f : Str} {y : V} {u : Value} {fs : List (Str × V)} {Q : Unit → Shared → Prop} {E : Value → Shared → Prop} {A : Around}
theorem xst_new (T : XC X.K C) (F : XF X.K C f) (I : Inv X pins σ H s) (e : H a = some (exo a C none)) (ry : RelV y u)
    (h : ∀ dx s', H dx = none → dx ≠ a → Inv X pins σ (upd (upd H dx (exd dx [(f, y)])) a (exo a C (some dx))) s' → Q () s') : wpAny (model X.prog X.w) A (setAttr (.ref a) f u) Q E s := by
  obtain ⟨t1, ho⟩ := exo_at I.hok e
  obtain ⟨hp, g, d, t, os⟩ := s
  refine PySem.W.set_plain I.kIn (ox := { cls := .ref C, dict := none, data := .fields #[.ref t1, .none, .none, .none, .bool false, .none] }) (od := none) ⟨ho, rfl, rfl, trivial⟩ T.sa ?_
  refine LwX.osaN T F I.kIn ho fun h2 tk2 dx k dn dne hx hn => ?_
  have free : H dx = none := I.hok.fresh dn
  have old : ∀ {b : Addr} {o : Obj}, hp.get? b = some o → b ≠ dx := fun {b o} q => Nat.ne_of_lt (Nat.lt_of_lt_of_le (Heap.lt_size q) dn)
  have off : ∀ {b : Addr}, H b = none → b ≠ a := fun {b} n z => by
    rw [z, e] at n
    cases n
  have un : Un X.fs [] H (upd (upd H dx (exd dx [(f, y)])) a (exo a C (some dx))) hp h2 := {
    keep := fun b o q n _ _ => k b o (off n) q
    slot := fun b o q n _ _ => ⟨o.slots, k b o (off n) q⟩
    free := fun b o q n _ => by
      rw [upd_ne (off n), upd_ne (old q)]
      exact n
    there := fun b o q _ => by
      by_cases hb : b = a
      · exact ⟨_, hb ▸ hx⟩
      · exact ⟨o, k b o hb q⟩
    tups := fun b xs q => by
      rw [upd_ne (at_ne e q exo_tup), upd_ne (ne_of_none q free)]
      exact q
    frzs := fun b o v q => by
      rw [upd_ne (at_ne e q exo_frz), upd_ne (ne_of_none q free)]
      exact q
    tbls := fun b ps q => ⟨#[], by
      rw [upd_ne (at_ne e q exo_tbl), upd_ne (ne_of_none q free), q]
      simp⟩ }
  refine h dx _ free dne (I.un (t' := tk2) un fun b o q => ?_)
  by_cases hb : b = a
  · subst hb
    rw [upd_same] at q
    cases q
    exact exo_ok hx
  rw [upd_ne hb] at q
  by_cases hd : b = dx
  · subst hd
    rw [upd_same] at q
    cases q
    exact exd_ok hn (relO_put (fs := []) ry fun _ => True.intro)
  rw [upd_ne hd] at q
  refine (I.hok b o q).stay (fun c v hc z => k c v ?_ z) (fun c hc => ?_) (fun c xs hc => ?_)
  · rcases hc with rfl | hc
    · exact hb
    · exact at_ne e hc exo_own
  · rw [upd_ne (at_ne e hc exo_own), upd_ne (ne_of_none hc free)]
    exact hc
  · rw [upd_ne (at_ne e hc exo_tup), upd_ne (ne_of_none hc free)]
    exact hc
theorem xst_old (T : XC X.K C) (F : XF X.K C f) (I : Inv X pins σ H s) (e : H a = some (exo a C (some dx))) (ed : H dx = some (exd dx fs)) (hl : fs.length ≤ 900) (ry : RelV y u)
    (h : ∀ s', Inv X pins σ (upd H dx (exd dx ((f, y) :: fs))) s' → Q () s') : wpAny (model X.prog X.w) A (setAttr (.ref a) f u) Q E s := by
  obtain ⟨t1, ho⟩ := exo_at I.hok e
  obtain ⟨mA, hns, rel⟩ := exd_at I.hok ed
  have hw := within_of rel
  obtain ⟨hp, g, d, t, os⟩ := s
  obtain ⟨oD, _, _, hoD, _, _⟩ := hns.count hw
  refine PySem.W.set_plain I.kIn (ox := { cls := .ref C, dict := some dx, data := .fields #[.ref t1, .none, .none, .none, .bool false, .none] }) (od := some oD) ⟨ho, rfl, rfl, hoD⟩ T.sa ?_
  refine LwX.osaD T F I.kIn ho hns hw (by rw [List.length_map]; omega) fun h2 tk2 k hn => ?_
  obtain ⟨o2, es2, ep2, e2, r2⟩ := hn
  exact h _ (I.write (t' := tk2) (x := dx) (e := dx) (o := exd dx ((f, y) :: fs)) (by rw [ed]; exact True.intro) (.inl rfl) k ⟨o2, e2⟩ (exd_ok ⟨o2, es2, ep2, e2, r2⟩ (relO_put ry rel)))
end
/-- self.f = e: the reading -/
def tXst (K : PySem.W.Frag) (f : Str) (to te : TE) : TS := fun D σ H => te σ H fun y H1 => to σ H1 fun x H2 => ∃ a C : Addr, x = .ref a ∧ XC K C ∧ XF K C f ∧
  ((H2 a = some (exo a C none) ∧ ∀ dx, H2 dx = none → dx ≠ a → D.nx σ (upd (upd H2 dx (exd dx [(f, y)])) a (exo a C (some dx)))) ∨
    ∃ (dx : Addr) (fs : List (Str × V)), H2 a = some (exo a C (some dx)) ∧ H2 dx = some (exd dx fs) ∧ fs.length ≤ 900 ∧ D.nx σ (upd H2 dx (exd dx ((f, y) :: fs))))
theorem ps_xst {X : Cx} {o e : Expr} {to te : TE} {f : Str} {p' pos : Pos} (ho : PE X o to) (he : PE X e te) (hs : swapsWith e (some (.Attribute o f p')) pos.line X.env = pure false := by rfl) : PS X (.Assign [.Attribute o f p'] e pos) (tXst X.K f to te) := by
  constructor
  intro pins s σ H D I h
  refine plainObj_wpAny_Assign_Attribute (thn (he.run pins s σ H _ I h) fun v s1 h1 => ?_) hs
  obtain ⟨y, H1, I1, r1, q1⟩ := h1
  refine thn (ho.run pins s1 σ H1 _ I1 q1) fun u s2 h2 => ?_
  obtain ⟨x, H2, I2, r2, a, C, rfl, T, F, q⟩ := h2
  obtain rfl : u = Value.ref a := r2
  rcases q with ⟨ea, q⟩ | ⟨dx, fs, ea, ed, hl, q⟩
  · exact xst_new T F I2 ea r1 fun dx s3 n ne J => ⟨σ, _, J, q dx n ne⟩
  · exact xst_old T F I2 ea ed hl r1 fun s3 J => ⟨σ, _, J, q⟩
/-! ### an exception as a value -/
/-- at a: an exception of the class at C whose own attributes are fs -/
def Xo (H : Hp) (a C : Addr) (fs : List (Str × V)) : Prop := (fs = [] ∧ H a = some (exo a C none)) ∨ ∃ d, H a = some (exo a C (some d)) ∧ H d = some (exd d fs)
theorem Xo.same {H H' : Hp} {a C : Addr} {fs : List (Str × V)} (x : Xo H a C fs) (s : Same H H') : Xo H' a C fs := by
  rcases x with ⟨e, h⟩ | ⟨d, h1, h2⟩
  · exact .inl ⟨e, s _ _ h⟩
  · exact .inr ⟨d, s _ _ h1, s _ _ h2⟩
/-- e.f -/
def tXat (K : PySem.W.Frag) (f : Str) (te : TE) : TE := fun σ H Q => te σ H fun x H1 => ∃ (a C : Addr) (fs : List (Str × V)) (v : V), x = .ref a ∧ Xo H1 a C fs ∧ XC K C ∧ XF K C f ∧ fs.lookup f = some v ∧ Q v H1
theorem pe_xat {X : Cx} {e : Expr} {te : TE} {f : Str} {pos : Pos} (he : PE X e te) (hb : attributeBase e f X.env (eval e X.env) = eval e X.env := by rfl) : PE X (.Attribute e f pos) (tXat X.K f te) := by
  constructor
  intro pins s σ H Q I h
  refine attr_of hb (thn (he.run pins s σ H _ I h) fun u s1 hh => ?_)
  obtain ⟨x, H1, I1, rx, a, C, fs, v, rfl, xo, T, F, l, q⟩ := hh
  obtain rfl : u = Value.ref a := rx
  rcases xo with ⟨rfl, _⟩ | ⟨d, h1, h2⟩
  · cases l
  · obtain ⟨t1, ho⟩ := exo_at I1.hok h1
    obtain ⟨mA, hns, hr⟩ := exd_at I1.hok h2
    obtain ⟨od, hod, hl⟩ := lookIn_ns hns
    obtain ⟨w', hw, rw'⟩ := RelO.some_of (v := v) (o := mA f) (by rw [← l]; exact hr f)
    have J : PySem.W.InstAt s1.heap a { cls := .ref C, dict := some d, data := .fields #[.ref t1, .none, .none, .none, .bool false, .none] } C (some od) := ⟨ho, rfl, rfl, hod⟩
    exact HandSPX.exc_get I1.kIn J T.ga T.gg T.sub (PySem.W.findObj_own T.hd F.no rfl (by rw [hl, hw])) (handed_of rw') ⟨v, H1, I1.tok _, rw', q⟩
/-- isinstance(e, c) of such a value -/
def rIsX (K : PySem.W.Frag) : List V → Hp → VK → Prop := fun xs H Q => ∃ (a C : Addr) (fs : List (Str × V)) (c : V) (cv : Value) (b : Bool), xs = [.ref a, c] ∧ Xo H a C fs ∧ XC K C ∧ (∀ u, RelV c u → u = cv) ∧ PySem.W.kitOne K (.ref C) cv = some b ∧ Q (.bl b) H
theorem call_isX {X : Cx} : CallR X (.builtin "isinstance") (rIsX X.K) := by
  intro pins s σ H xs us Q I r h
  obtain ⟨a, C, fs, c, cv, b, rfl, xo, T, hcv, e, q⟩ := h
  cases r with
  | cons rx rr =>
    cases rr with
    | cons rt rr =>
      cases rr
      cases rx
      have ec := hcv _ rt
      subst ec
      obtain ⟨ox, od, J⟩ : ∃ (ox : Obj) (od : Option Obj), PySem.W.InstAt s.heap a ox C od := by
        rcases xo with ⟨_, h1⟩ | ⟨d, h1, h2⟩
        · obtain ⟨t1, ho⟩ := exo_at I.hok h1
          exact ⟨_, none, ho, rfl, rfl, trivial⟩
        · obtain ⟨t1, ho⟩ := exo_at I.hok h1
          obtain ⟨mA, hns, _⟩ := exd_at I.hok h2
          obtain ⟨od, hod, _⟩ := lookIn_ns hns
          exact ⟨_, some od, ho, rfl, rfl, hod⟩
      have hcl : (PySem.W.clsIn X.K C).isSome = true := by
        obtain ⟨cd, hc, _⟩ := PySem.W.any_some T.hd
        rw [hc]
        rfl
      exact PySem.W.kia_one (PySem.W.kitx_exc hcl T.ga T.gg T.sub T.cl T.gt T.tk T.mo) I.kIn J e (fun z => nomatch z) fun tk => ⟨.bl b, H, I.kept (t' := tk) fun _ _ z => z, rfl, q⟩
/-! ### C(e, ..), C(f = e, ..) -/
/-- a class of the top with an __init__ of its own -/
structure XCls (P : Program) (w : World) (K : PySem.W.Frag) (mg : Str → Option Value) (base : Heap) (k : Nat) (x : Str) (C : Addr) (ps : List Str) (sp : Sp) : Prop where
  g : mg x = some (.ref C)
  xc : XC K C
  ini : ∃ fI fd, PySem.W.findIn K (.ref C) "__init__" = some (some (.ref fI)) ∧ PySem.W.typeIn K (.ref fI) = some (.type "function") ∧ FnG P w K mg base CX0 k fI fd ps sp ∧ Binds K fd ps [] ∧
    ∀ (us ws : List Value) (s : Shared), us.length = 1 → ws.length = (ps.drop 1).length → BindsTo s fd ⟨us, (ps.drop 1).reverse.zip ws⟩ (ps.zip (us ++ ws.reverse))
theorem Vals.reverse : ∀ {xs : List V} {us : List Value}, Vals xs us → Vals xs.reverse us.reverse
  | _, _, .nil => .nil
  | _, _, .cons r t => by
    rw [List.reverse_cons, List.reverse_cons]
    exact L2.Vals.append (Vals.reverse t) (.cons r .nil)
section
variable {X : Cx} {k : Nat} {x : Str} {C : Addr} {ps : List Str} {sp : Sp} {p pos : Pos} {e : Expr} {es : List Expr} {kws : List Keyword} {t tk : TA}
/-- the promise of C(..): an exception at a, not yet filled, then its __init__ -/
def xmk (C : Addr) (sp : Sp) (vs : List V) (H : Hp) (Q : VK) : Prop := ∀ a, H a = none → sp (.ref a :: vs) (upd H a (exo a C none)) (fun v H2 => v = .non ∧ Q (.ref a) H2) E0
theorem run_xmk {pins : List (Addr × Obj)} {σ : L2.St} {H : Hp} {s : Shared} {Q : VK} {us : List Value} {kw : List (Str × Value)} {vs : List V} {bs : List Value} {fI : Addr} {fd : FuncData} (T : XC X.K C)
    (hi : PySem.W.findIn X.K (.ref C) "__init__" = some (some (.ref fI))) (ti : PySem.W.typeIn X.K (.ref fI) = some (.type "function")) (F : FnG X.prog X.w X.K X.mg X.base CX0 k fI fd ps sp) (gd : X.A.guards = some []) (hr : Room (k + 1) X.A)
    (I : Inv X pins σ H s) (hz : us.length ≤ sizeLine) (r : Vals vs bs) (hb : ∀ (s : Shared) (a : Addr), X.K.In s.heap → BindsTo s fd ⟨.ref a :: us, kw⟩ (ps.zip (.ref a :: bs))) (h : xmk C sp vs H Q) :
    wpAny (model X.prog X.w) X.A (call (.ref C) us kw) (EP X pins σ Q) X.xe s := by
  obtain ⟨B, nI, iI, bB, FB, _, q, _⟩ := T.base
  obtain ⟨hp, g, dr, tok, os⟩ := s
  obtain ⟨nm, N, qn, bs', bm, hdct, sn, sub, ab, col, dd, k0, k1, k2, k3, k5, hC, hT⟩ := PySem.W.excInit_of (h := hp) I.kIn q
  have hsz : hp.objs.size ≤ hp.objs.size + 1 := Nat.le_succ _
  have hn : H (hp.objs.size + 1) = none := I.hok.fresh hsz
  have hq := h (hp.objs.size + 1) hn
  have kk : ∀ b o, hp.get? b = some o → ((hp.push (PySem.W.kdv_tup us)).push (PySem.HandSPX.excO C hp.objs.size)).get? b = some o := fun b o z => Heap.get?_push_of_some _ (Heap.get?_push_of_some _ z)
  have made : ((hp.push (PySem.W.kdv_tup us)).push (PySem.HandSPX.excO C hp.objs.size)).get? (hp.objs.size + 1) = some (PySem.HandSPX.excO C hp.objs.size) := by heap_get
  have I2 : Inv X pins σ (upd H (hp.objs.size + 1) (exo (hp.objs.size + 1) C none)) ⟨(hp.push (PySem.W.kdv_tup us)).push (PySem.HandSPX.excO C hp.objs.size), g, dr, tok, os⟩ :=
    I.laid (t' := tok) (a := hp.objs.size + 1) (o := exo (hp.objs.size + 1) C none) kk hsz (exo_ok made)
  refine wpAny_call (LwX.callK FB hT hC (PySem.W.looks_findIn I.kIn hi) (fun self => PySem.W.bind_fn I.kIn self ti) hz
    (codeAny_mono (F.go (vs := .ref (hp.objs.size + 1) :: vs) (us := .ref (hp.objs.size + 1) :: bs) ?_ (hr.make C us kw) (I2.env0.make C us kw) (hb _ _ I2.kIn) (.cons rfl r) hq) fun r s2 hq2 => ?_))
  · simp [Around.under, pushGuards, gd, Code.guards, Code.isGuard, guardIds]
  · cases r with
    | error er => exact hq2.elim
    | ok fl =>
      cases fl with
      | next => exact hq2.elim
      | brk => exact hq2.elim
      | cont => exact hq2.elim
      | ret u =>
        obtain ⟨v, H3, I3, rv, rfl, q3⟩ := I2.after hq2
        exact ⟨rv, ⟨.ref (hp.objs.size + 1), H3, I3, rfl, q3⟩⟩
def tXmk (C : Addr) (sp : Sp) (t : TA) : TE := fun σ H Q => t σ H fun vs H1 => vs.length ≤ 1000 ∧ xmk C sp vs H1 Q
theorem pe_xmk (T : XCls X.prog X.w X.K X.mg X.base k x C ps sp) {j : Nat} (gd : X.A.guards = some []) (hr : Room j X.A) (ha : PA X (e :: es) t) (hj : k + 1 ≤ j := by decide) (hg : Gl X x := by rfl) (hdb : (x == ("__debug__" : Str)) = false := by decide)
    (he : starEach (e :: es) X.env = (false, eval e X.env) :: starEach es X.env := by rfl) (hpl : (backTo pos (starEach es X.env)).any (·.1) = false := by rfl) :
    PE X (.Call (.Name x p) (e :: es) [] pos) (tXmk C sp t) := by
  obtain ⟨fI, fd, hi, ti, F, hb, _⟩ := T.ini
  constructor
  intro pins s σ H Q I h
  refine wpAny_Call_Name_kw (ld_glob I hg T.g ?_ hdb)
  refine PySem.W.callWith_K (h₀ := X.base) I.ok.mod.kin T.xc.kp (thn (ha.run pos pins s σ H _ I h) fun us s1 hh => ?_) he hpl
  obtain ⟨vs, H1, I1, r, hz, q⟩ := hh
  refine ⟨I1.kIn, run_xmk T.xc hi ti F gd (hr.mono hj) I1 (by show us.length ≤ sizeLine; rw [← r.length, sizeLine_eq]; omega) r (fun s a hk => ?_) q⟩
  have hl : (Value.ref a :: us ++ []).length = ps.length := by
    rw [List.append_nil, List.length_cons, ← r.length]
    have := F.len _ _ _ _ (q (s1.heap.objs.size + 1) (I1.hok.fresh (Nat.le_succ _)))
    rw [← this]
    rfl
  have z := hb s (.ref a :: us) hk hl
  rw [List.append_nil] at z
  exact z
theorem pe_xmk0 (T : XCls X.prog X.w X.K X.mg X.base k x C ps sp) {j : Nat} (gd : X.A.guards = some []) (hr : Room j X.A) (hj : k + 1 ≤ j := by decide) (hg : Gl X x := by rfl) (hdb : (x == ("__debug__" : Str)) = false := by decide) :
    PE X (.Call (.Name x p) [] [] pos) (tXmk C sp tNil) := by
  obtain ⟨fI, fd, hi, ti, F, hb, _⟩ := T.ini
  constructor
  intro pins s σ H Q I h
  obtain ⟨_, q⟩ := h
  refine wpAny_Call_Name_kw (ld_glob I hg T.g ?_ hdb)
  refine PySem.W.callWith_K0 I.kIn T.xc.kp (run_xmk T.xc hi ti F gd (hr.mono hj) I (Nat.zero_le _) .nil (fun s3 a hk => ?_) q)
  have hl : ([Value.ref a] ++ []).length = ps.length := F.len _ _ _ _ (q s.heap.objs.size (I.hok.fresh (Nat.le_refl _)))
  exact hb s3 [.ref a] hk hl
/-- with all values by name, in the other sequence -/
def tXmkK (C : Addr) (sp : Sp) (tk : TA) : TE := fun σ H Q => tk σ H fun vs H1 => xmk C sp vs.reverse H1 Q
theorem pe_xmkK (T : XCls X.prog X.w X.K X.mg X.base k x C ps sp) {j : Nat} (gd : X.A.guards = some []) (hr : Room j X.A) (hkw : PK X kws tk) (hj : k + 1 ≤ j := by decide) (hg : Gl X x := by rfl) (hdb : (x == ("__debug__" : Str)) = false := by decide)
    (hall : (backToKw pos (keywordEach kws X.env)).all (·.1.isSome) = true := by rfl) (hks : (backToKw pos (keywordEach kws X.env)).filterMap (·.1) = (ps.drop 1).reverse := by rfl)
    (hpl : ((backTo pos (starEach [] X.env)).any (·.1) || (backToKw pos (keywordEach kws X.env)).any (·.1.isNone)) = false := by rfl) :
    PE X (.Call (.Name x p) [] kws pos) (tXmkK C sp tk) := by
  obtain ⟨fI, fd, hi, ti, F, _, hb⟩ := T.ini
  constructor
  intro pins s σ H Q I h
  refine wpAny_Call_Name_kw (ld_glob I hg T.g ?_ hdb)
  refine PySem.W.callWith_KW0 (h₀ := X.base) I.ok.mod.kin T.xc.kp hall ?_ hpl
  refine thn (hkw.run pos pins s σ H _ I h) fun ws s2 hh => ?_
  obtain ⟨zs, H2, I2, rz, q⟩ := hh
  refine ⟨I2.kIn, ?_⟩
  rw [hks]
  have hl : zs.length = (ps.drop 1).length := by
    have z := F.len _ _ _ _ (q (s2.heap.objs.size + 1) (I2.hok.fresh (Nat.le_succ _)))
    rw [List.length_cons, List.length_reverse] at z
    rw [List.length_drop]
    omega
  refine run_xmk (us := []) (bs := ws.reverse) T.xc hi ti F gd (hr.mono hj) I2 (Nat.zero_le _) (Vals.reverse rz) (fun s a hk => ?_) q
  exact hb [.ref a] ws s rfl (rz.length.symm.trans hl)
end
end Lw
namespace Lw
open PySem PySem.Spec PyProof.Rows L2 Evl
open LwX (XC XF)
section
variable {K : PySem.W.Frag} {σ : L2.St} {H H' : Hp} {ta tb te : TE} {xs ys : List V}
/-! ### lists put together, repeated -/
theorem el_cat (ha : EvL ta σ H xs) (hb : EvL tb σ H ys) (hz : xs.length + ys.length ≤ 100000) : EvL (tOp rCat ta tb) σ H (xs ++ ys) := fun H1 e Q q =>
  ha H1 e _ fun p H2 hp e2 hl => hb H2 (e.trans e2) _ fun r H3 hr e3 hl3 => ⟨p, r, xs, ys, rfl, rfl, e3 _ _ hl, hl3, sz_of hz, fun t ht => q t _ (fresh_back (e2.trans e3) ht) ((e2.trans e3).trans (Ex.new ht)) upd_same⟩
/-- the first one stands already -/
theorem el_catV {p : Addr} (ha : Ev ta σ H (.ref p)) (hp : H p = some (.lst xs)) (hb : EvL tb σ H ys) (hz : xs.length + ys.length ≤ 100000) : EvL (tOp rCat ta tb) σ H (xs ++ ys) := fun H1 e Q q =>
  ha H1 e _ fun H2 e2 => hb H2 (e.trans e2) _ fun r H3 hr e3 hl3 => ⟨p, r, xs, ys, rfl, rfl, e3 _ _ (e2 _ _ (e _ _ hp)), hl3, sz_of hz, fun t ht => q t _ (fresh_back (e2.trans e3) ht) ((e2.trans e3).trans (Ex.new ht)) upd_same⟩
theorem flatten_rep1 (n : Nat) (v : V) : (List.replicate n [v]).flatten = List.replicate n v := by
  induction n with
  | zero => rfl
  | succ n ih => rw [List.replicate_succ, List.flatten_cons, ih, List.replicate_succ]; rfl
/-- [v] * n -/
theorem el_rep1 {v : V} {n : Nat} (ha : EvL ta σ H [v]) (hb : ∀ H1, Ex H H1 → Ev tb σ H1 (.int (n : Int))) (hz : n ≤ 100000) : EvL (tOp rRep ta tb) σ H (List.replicate n v) := fun H1 e Q q =>
  ha H1 e _ fun p H2 hp e2 hl => hb H2 (e.trans e2) H2 (Ex.refl _) _ fun H3 e3 => ⟨p, (n : Int), [v], rfl, rfl, e3 _ _ hl, by omega, by omega, by
    show 1 * (n : Int).toNat ≤ sizeLine
    rw [Nat.one_mul, Int.toNat_natCast]
    exact sz_of hz, fun t ht => by
    rw [Int.toNat_natCast, flatten_rep1]
    exact q t _ (fresh_back (e2.trans e3) ht) ((e2.trans e3).trans (Ex.new ht)) upd_same⟩
/-- two lists of plain data compared, both new -/
theorem ev_neD {d e : PyData} (ha : EvL ta σ H xs) (hb : EvL tb σ H ys) (hd : ∀ H1 p, Ex H H1 → H1 p = some (.lst xs) → Dp K H1 (.ref p) d) (he : ∀ H1 p, Ex H H1 → H1 p = some (.lst ys) → Dp K H1 (.ref p) e)
    (sd : SeqAt.shaped d = true) (se : SeqAt.shaped e = true) : Ev (tOp (rNeD K) ta tb) σ H (.bl (!PyData.eqv d e)) := fun H1 e1 Q q =>
  ha H1 e1 _ fun p H2 hp e2 hl => hb H2 (e1.trans e2) _ fun r H3 hr e3 hl3 => ⟨d, e, hd H3 p (e1.trans (e2.trans e3)) (e3 _ _ hl), he H3 r (e1.trans (e2.trans e3)) hl3, sd, se, q H3 (e2.trans e3)⟩
/-! ### loops over enumerate(xs) -/
theorem for_enum {a : Addr} {xs : List V} {g : TG} {tb : TS} {D : Ends} (Pv : Nat → L2.St → Hp → Prop) (h0 : Pv 0 σ H) (hl : ∀ i σ H, i ≤ xs.length → Pv i σ H → SqL K H a xs)
    (hs : ∀ i x σ H T, xs[i]? = some x → Pv i σ H → H T = none → g (.ref T) σ (upd H T (.tup [.int (i : Nat), x])) fun σ2 H2 => tb { D with nx := Pv (i + 1), ct := Pv (i + 1), bk := D.nx } σ2 H2) (hd : ∀ σ H, Pv xs.length σ H → D.nx σ H) :
    ∃ W : Nat → Nat → L2.St → Hp → Prop, (∃ m, W 0 m σ H) ∧ ∀ i m σ H, W i m σ H →
      ((Ite K a).stop i H ∧ D.nx σ H) ∨ ((Ite K a).go i H ∧ ∃ N : L2.St → Hp → Prop, (∀ σ' H', N σ' H' → ∃ m', m' < m ∧ W (i + 1) m' σ' H') ∧ ∀ x H', (Ite K a).yld i H x H' → g x σ H' fun σ2 H2 => tb { D with nx := N, ct := N, bk := D.nx } σ2 H2) := by
  refine ⟨fun i m σ H => i + m = xs.length ∧ Pv i σ H, ⟨xs.length, by omega, h0⟩, ?_⟩
  rintro i m σ H ⟨em, p⟩
  have q := hl i σ H (by omega) p
  by_cases c : i < xs.length
  · refine .inr ⟨⟨xs, xs[i], q, List.getElem?_eq_getElem c⟩, Pv (i + 1), fun σ' H' p' => ⟨m - 1, by omega, by omega, p'⟩, fun x H' y => ?_⟩
    obtain ⟨T, z, rfl, hT, rfl, hz⟩ := y
    exact hs i z σ H T (hz xs q) p hT
  · have e : i = xs.length := by omega
    subst e
    exact .inl ⟨⟨xs, q, Nat.le_refl _⟩, hd σ H p⟩
end
/-! ### what an exception's __init__ does -/
def spI0 (C : Addr) : Sp := fun vs H Q _ => ∃ a : Addr, vs = [.ref a] ∧ H a = some (exo a C none) ∧ Q .non H
def spI1 (f : Str) (C : Addr) : Sp := fun vs H Q _ => ∃ (a : Addr) (v : V), vs = [.ref a, v] ∧ H a = some (exo a C none) ∧ ∀ dx, H dx = none → dx ≠ a → Q .non (upd (upd H dx (exd dx [(f, v)])) a (exo a C (some dx)))
def spI2 (f g : Str) (C : Addr) : Sp := fun vs H Q _ => ∃ (a : Addr) (v w : V), vs = [.ref a, v, w] ∧ H a = some (exo a C none) ∧
  ∀ dx, H dx = none → dx ≠ a → Q .non (upd (upd (upd H dx (exd dx [(f, v)])) a (exo a C (some dx))) dx (exd dx [(g, w), (f, v)]))
theorem xmk0 {C : Addr} {H : Hp} {Q : VK} (k : ∀ a H', Ex H H' → Xo H' a C [] → Q (.ref a) H') : xmk C (spI0 C) [] H Q := fun a ha =>
  ⟨a, rfl, upd_same, rfl, k a _ (Ex.new ha) (.inl ⟨rfl, upd_same⟩)⟩
theorem off_upd {H : Hp} {a d : Addr} {o : HO} (h : upd H a o d = none) : H d = none ∧ d ≠ a := by
  by_cases z : d = a
  · rw [z, upd_same] at h
    cases h
  · rw [upd_ne z] at h
    exact ⟨h, z⟩
theorem xmk1 {C : Addr} {H : Hp} {f : Str} {v : V} {Q : VK} (k : ∀ a H', Ex H H' → Xo H' a C [(f, v)] → Q (.ref a) H') : xmk C (spI1 f C) [v] H Q := fun a ha => by
  refine ⟨a, v, rfl, upd_same, fun dx hd hne => ⟨rfl, ?_⟩⟩
  obtain ⟨hd', _⟩ := off_upd hd
  refine k a _ (fun b o e => ?_) (.inr ⟨dx, upd_same, ?_⟩)
  · rw [upd_ne (ne_of_none e ha), upd_ne (ne_of_none e hd'), upd_ne (ne_of_none e ha)]
    exact e
  · rw [upd_ne hne]
    exact upd_same
theorem xmk2 {C : Addr} {H : Hp} {f g : Str} {v w : V} {Q : VK} (k : ∀ a H', Ex H H' → Xo H' a C [(g, w), (f, v)] → Q (.ref a) H') : xmk C (spI2 f g C) [v, w] H Q := fun a ha => by
  refine ⟨a, v, w, rfl, upd_same, fun dx hd hne => ⟨rfl, ?_⟩⟩
  obtain ⟨hd', _⟩ := off_upd hd
  refine k a _ (fun b o e => ?_) (.inr ⟨dx, ?_, upd_same⟩)
  · rw [upd_ne (ne_of_none e hd'), upd_ne (ne_of_none e ha), upd_ne (ne_of_none e hd'), upd_ne (ne_of_none e ha)]
    exact e
  · rw [upd_ne hne.symm]
    exact upd_same
section
variable {P : Program} {w : World} {K : PySem.W.Frag} {mg : Str → Option Value} {base : Heap} {C fI : Addr} {fd : FuncData} {qual : Str} {params : Arguments} {scope : Scope}
/-- the body: self.f = f -/
theorem init1 {f : Str} {q1 q2 q3 q4 : Pos} (F : FunD K "__init__" qual params [.Assign [.Attribute (.Name "self" q1) f q2] (.Name f q3) q4] scope [] [] fI fd) (S : FnScope ["self", f] ["self", f] scope) (T : XC K C) (A : XF K C f)
    (l1 : scope.names.lookup ("self" : Str) = some .local) (l2 : scope.names.lookup f = some .local) (n1 : (f == ("__debug__" : Str)) = false) (n2 : (f == ("__classdict__" : Str)) = false) :
    FnG P w K mg base CX0 1 fI fd ["self", f] (spI1 f C) := by
  refine fnG F S (fun vs H Q E h => ?_) (fun cdv A' outer s H vs Q E gd hr h => ?_)
  · obtain ⟨a, v, rfl, _⟩ := h
    rfl
  · obtain ⟨a, v, rfl, ha, q⟩ := h
    refine ⟨_, PSs.nox (pss_one (ps_xst (pv 0 rfl (.inl l1)) (pv 1 rfl (.inl l2) n1 n2))), ?_⟩
    exact ⟨v, rfl, .ref a, rfl, a, C, rfl, T, A, .inl ⟨ha, fun dx hd ne => q dx hd ne⟩⟩
/-- self.f = f; self.g = g -/
theorem init2 {f g : Str} {q1 q2 q3 q4 r1 r2 r3 r4 : Pos} (F : FunD K "__init__" qual params [.Assign [.Attribute (.Name "self" q1) f q2] (.Name f q3) q4, .Assign [.Attribute (.Name "self" r1) g r2] (.Name g r3) r4] scope [] [] fI fd)
    (S : FnScope ["self", f, g] ["self", f, g] scope) (T : XC K C) (A : XF K C f) (B : XF K C g)
    (l1 : scope.names.lookup ("self" : Str) = some .local) (l2 : scope.names.lookup f = some .local) (l3 : scope.names.lookup g = some .local) (n1 : (f == ("__debug__" : Str)) = false) (n2 : (f == ("__classdict__" : Str)) = false)
    (n3 : (g == ("__debug__" : Str)) = false) (n4 : (g == ("__classdict__" : Str)) = false) :
    FnG P w K mg base CX0 1 fI fd ["self", f, g] (spI2 f g C) := by
  refine fnG F S (fun vs H Q E h => ?_) (fun cdv A' outer s H vs Q E gd hr h => ?_)
  · obtain ⟨a, v, w, rfl, _⟩ := h
    rfl
  · obtain ⟨a, v, w', rfl, ha, q⟩ := h
    refine ⟨_, PSs.nox (pss_cons (ps_xst (pv 0 rfl (.inl l1)) (pv 1 rfl (.inl l2) n1 n2)) (pss_one (ps_xst (pv 0 rfl (.inl l1)) (pv 2 rfl (.inl l3) n3 n4)))), ?_⟩
    refine ⟨v, rfl, .ref a, rfl, a, C, rfl, T, A, .inl ⟨ha, fun dx hd ne => ?_⟩⟩
    exact ⟨w', rfl, .ref a, rfl, a, C, rfl, T, B, .inr ⟨dx, _, upd_same, by rw [upd_ne ne]; exact upd_same, (by show 1 ≤ 900; decide), q dx hd ne⟩⟩
/-- pass -/
theorem init0 {q1 : Pos} (F : FunD K "__init__" qual params [.Pass q1] scope [] [] fI fd) (S : FnScope ["self"] ["self"] scope) : FnG P w K mg base CX0 1 fI fd ["self"] (spI0 C) := by
  refine fnG F S (fun vs H Q E h => ?_) (fun cdv A' outer s H vs Q E gd hr h => ?_)
  · obtain ⟨a, rfl, _⟩ := h
    rfl
  · obtain ⟨a, rfl, ha, q⟩ := h
    exact ⟨_, PSs.nox (pss_one ps_pass), q⟩
/-- how values by name are bound -/
theorem kbound {x : Str} {body : List Stmt} {ps : List Str} (F : FunD K x qual params body scope [] [] fI fd)
    (h : ∀ (kV doc pm : Value) (an : Option Addr) (cdv ct : Value) (us ws : List Value), us.length = 1 → ws.length = (ps.drop 1).length →
      bindArgs (PySem.W.fnOf x qual params body scope .none kV doc pm an cdv ct) ⟨us, (ps.drop 1).reverse.zip ws⟩ = pure (ps.zip (us ++ ws.reverse)))
    (us ws : List Value) (s : Shared) (h1 : us.length = 1) (h2 : ws.length = (ps.drop 1).length) : BindsTo s fd ⟨us, (ps.drop 1).reverse.zip ws⟩ (ps.zip (us ++ ws.reverse)) := by
  obtain ⟨oc, od, dV, kV, doc, pm, an, cdv, ct, osl, rfl, lk, hcd, hD, hK⟩ := F.ex
  rcases hD with ⟨_, rfl⟩ | ⟨e, _⟩
  · exact .of_eq (h kV doc pm an cdv ct us ws h1 h2)
  · exact absurd rfl e
end
end Lw
namespace Lw
open PySem PySem.Spec PyProof.Rows L2 Evl
/-! ### small data beside a pot -/
/-- data whose text is short -/
def Rok (d : PyData) : Prop := d.showable = true ∧ d.shown.length ≤ 2500 ∧ d.depth ≤ 10
/-- v is such data, whatever is drawn later -/
def Sm (P : Program) (w : World) (p : Addr) (H : Hp) (v : V) : Prop := ∃ d, Rok d ∧ ∀ H', Xp p H H' → Rw P w H' v d
section
variable {P : Program} {w : World} {p : Addr} {H H' : Hp} {σ : L2.St}
theorem Sm.on {v : V} (s : Sm P w p H v) (x : Xp p H H') : Sm P w p H' v := by
  obtain ⟨d, h, r⟩ := s
  exact ⟨d, h, fun H2 y => r H2 (x.trans y)⟩
theorem sm_int {i : Int} (h : i.natAbs.log2 < 1920) : Sm P w p H (.int i) := by
  refine ⟨.int i, ⟨by simpa [PyData.showable] using h, ?_, by simp [PyData.depth]⟩, fun H' _ => rw_int i⟩
  have := int_text_len_1921 h
  simp only [PyData.shown]
  exact Nat.le_trans this (by decide)
theorem log_of {i : Int} {k : Nat} (h : i.natAbs < 2 ^ k) (hk : k ≤ 1900) : i.natAbs.log2 < 1920 := by
  by_cases z : i.natAbs = 0
  · rw [z]
    decide
  · have := (Nat.log2_lt z).mpr h
    omega
theorem sm_small {i : Int} (h0 : -(2 ^ 120) < i) (h1 : i < 2 ^ 120) : Sm P w p H (.int i) := sm_int (log_of (k := 120) (by omega) (by decide))
theorem sm_bl (b : Bool) : Sm P w p H (.bl b) := by
  refine ⟨.bool b, ⟨rfl, ?_, by simp [PyData.depth]⟩, fun H' _ => rw_bl b⟩
  cases b
  · decide +kernel
  · decide +kernel
theorem sm_non : Sm P w p H .non := ⟨.none, ⟨rfl, by decide +kernel, by simp [PyData.depth]⟩, fun H' _ => rw_non⟩
theorem sm_str (x : Str) (h : (reprText x).length ≤ 2500) : Sm P w p H (.str x) := ⟨.str x, ⟨rfl, by simpa only [PyData.shown] using h, by simp [PyData.depth]⟩, fun H' _ => rw_str x⟩
theorem sm_obj {a : Addr} {o : HO} {d : PyData} (hr : Rok d) (n : a ≠ p) (e : H a = some o) (f : ∀ H', H' a = some o → Rw P w H' (.ref a) d) : Sm P w p H (.ref a) := ⟨d, hr, fun H' x => f H' (x.1 a o n e)⟩
/-! expressions, argument lists that give small data -/
def SmE (P : Program) (w : World) (p : Addr) (σ : L2.St) (te : TE) : Prop := ∀ H, Po p H → ∀ Q : VK, (∀ v H', Xp p H H' → Sm P w p H' v → Q v H') → te σ H Q
def SmA (P : Program) (w : World) (p : Addr) (σ : L2.St) (n : Nat) (ta : TA) : Prop := ∀ H, Po p H → ∀ Q : List V → Hp → Prop, (∀ vs H', Xp p H H' → vs.length = n → (∀ v ∈ vs, Sm P w p H' v) → Q vs H') → ta σ H Q
theorem sa_nil : SmA P w p σ 0 tNil := fun H hp Q q => q [] H (.refl hp) rfl (fun _ z => nomatch z)
theorem sa_cons {n : Nat} {te : TE} {ta : TA} (h : SmE P w p σ te) (hr : SmA P w p σ n ta) : SmA P w p σ (n + 1) (tCons te ta) := fun H hp Q q =>
  h H hp _ fun v H1 x1 s1 => hr H1 x1.2 _ fun vs H2 x2 hl hs => q _ H2 (x1.trans x2) (by rw [List.length_cons, hl]) fun u hu => by
    rcases List.mem_cons.mp hu with rfl | hu
    · exact s1.on x2
    · exact hs u hu
theorem se_c {v : V} (h : ∀ H, Sm P w p H v) : SmE P w p σ (tC v) := fun H hp Q q => q v H (.refl hp) (h H)
/-- a display of constants -/
def CA (ta : TA) (vs : List V) : Prop := ∀ (σ : L2.St) (H : Hp) (Q : List V → Hp → Prop), Q vs H → ta σ H Q
theorem ca_nil : CA tNil [] := fun _ _ _ q => q
theorem ca_cons {v : V} {ta : TA} {vs : List V} (h : CA ta vs) : CA (tCons (tC v) ta) (v :: vs) := fun σ H Q q => h σ H _ q
theorem se_tup {ta : TA} {vs : List V} {ds : List PyData} (h : CA ta vs) (hr : Rok (.tuple ds)) (hz : vs.length ≤ 100000) (hd : ∀ H, Paired (Rw P w H) vs ds) (nd : PyData.hasDictAll ds = false) : SmE P w p σ (tTup ta) := fun H hp Q q =>
  h σ H _ ⟨sz_of hz, fun t ht => q _ _ (Xp.new hp ht) (sm_obj hr (by
    obtain ⟨o, e⟩ := hp.some
    exact (ne_of_none e ht).symm) upd_same fun H' e => rw_tup e (hd H') nd)⟩
theorem se_lst {ta : TA} {vs : List V} {ds : List PyData} (h : CA ta vs) (hr : Rok (.list ds)) (hz : vs.length ≤ 100000) (hd : ∀ H, Paired (Rw P w H) vs ds) (nd : PyData.hasDictAll ds = false) : SmE P w p σ (tLst ta) := fun H hp Q q =>
  h σ H _ ⟨sz_of hz, fun t ht => q _ _ (Xp.new hp ht) (sm_obj hr (by
    obtain ⟨o, e⟩ := hp.some
    exact (ne_of_none e ht).symm) upd_same fun H' e => rw_lst e (hd H') nd)⟩
end
section
variable {P : Program} {w : World} {p : Addr} {H H' : Hp} {σ : L2.St} {D : Ends} {tz : TS} {ta : TA} {i j n : Nat}
/-- a list of small data given to a name -/
theorem s_lstSm (h : SmA P w p σ n ta) (hp : Po p H) (hn : n ≤ 100000) (k : ∀ vs H1 l, Xp p H H1 → vs.length = n → (∀ v ∈ vs, Sm P w p H1 v) → H1 l = some (.lst vs) → l ≠ p → tz D (σ.set i (some (.ref l))) H1) : tSeq (tAsg (tLst ta) (gName i)) tz D σ H :=
  h H hp _ fun vs H1 x hl hs => ⟨sz_of (by omega), fun l nl => by
    have y := x.snew (o := .lst vs) nl
    refine k vs _ l y hl (fun v hv => (hs v hv).on (.new x.2 nl)) upd_same ?_
    obtain ⟨o, e⟩ := x.2.some
    exact (ne_of_none e nl).symm⟩
/-- .. one more list behind it -/
theorem s_catSm {l : Addr} {us : List V} {tj : TE} (hj : ∀ H (Q : VK), Q (.ref l) H → tj σ H Q) (e : H l = some (.lst us)) (hlp : l ≠ p) (hu : ∀ v ∈ us, Sm P w p H v) (h : SmA P w p σ n ta) (hp : Po p H) (hn : us.length + n ≤ 100000)
    (k : ∀ vs H1 l, Xp p H H1 → vs.length = us.length + n → (∀ v ∈ vs, Sm P w p H1 v) → H1 l = some (.lst vs) → l ≠ p → tz D (σ.set i (some (.ref l))) H1) : tSeq (tAsg (tOp rCat tj (tLst ta)) (gName i)) tz D σ H := by
  refine hj H _ (h H hp _ fun vs H1 x hl hs => ⟨sz_of (by omega), fun l2 n2 => ?_⟩)
  have e1 : (upd H1 l2 (.lst vs)) l = some (.lst us) := by
    rw [upd_ne (ne_of_none (x.1 l _ hlp e) n2)]
    exact x.1 l _ hlp e
  refine ⟨l, l2, us, vs, rfl, rfl, e1, upd_same, sz_of (by omega), fun l3 n3 => ?_⟩
  have y := x.snew (o := .lst vs) n2
  have y3 := y.snew (o := .lst (us ++ vs)) n3
  refine k _ _ l3 y3 (by rw [List.length_append, hl]) (fun v hv => ?_) upd_same ?_
  · rcases List.mem_append.mp hv with hv | hv
    · exact (hu v hv).on y3
    · exact ((hs v hv).on (.new x.2 n2)).on (.new y.2 n3)
  · obtain ⟨o, eo⟩ := y.2.some
    exact (ne_of_none eo n3).symm
end
/-- the texts of small lists -/
theorem lst_rok {ds : List PyData} (h : ∀ d ∈ ds, Rok d) (hn : ds.length ≤ 1000) : PyData.showableAll ds = true ∧ (listText (PyData.shownAll ds)).length ≤ sizeLine ∧ PyData.depthAll ds ≤ 40 := by
  have key : ∀ ds : List PyData, (∀ d ∈ ds, Rok d) → PyData.showableAll ds = true ∧ ((PyData.shownAll ds).map (·.length)).sum ≤ 2500 * ds.length ∧ (PyData.shownAll ds).length = ds.length ∧ PyData.depthAll ds ≤ 10 := by
    intro ds
    induction ds with
    | nil => intro _; exact ⟨rfl, by simp [PyData.shownAll], by simp [PyData.shownAll], by simp [PyData.depthAll]⟩
    | cons d ds ih =>
      intro h
      obtain ⟨a, b, c, e⟩ := ih fun x hx => h x (List.mem_cons_of_mem _ hx)
      obtain ⟨h1, h2, h3⟩ := h d (List.mem_cons_self ..)
      refine ⟨by simp [PyData.showableAll, h1, a], ?_, by simp [PyData.shownAll, c], by simp only [PyData.depthAll]; omega⟩
      simp only [PyData.shownAll, List.map_cons, List.sum_cons, List.length_cons]
      omega
  obtain ⟨a, b, c, e⟩ := key ds h
  refine ⟨a, ?_, by omega⟩
  have := listText_len_le (PyData.shownAll ds)
  rw [sizeLine_eq]
  omega
end Lw
namespace Lw
open PySem PySem.Spec PyProof.Rows L2 Evl
/-! ### repr of any small value, of a list of such -/
def rReprV (P : Program) (w : World) : List V → Hp → VK → Prop := fun xs H Q => ∃ (v : V) (d : PyData), xs = [v] ∧ Rw P w H v d ∧ Rok d ∧ Q (.str d.shown) H
def rRepr (P : Program) (w : World) : List V → Hp → VK → Prop := fun xs H Q => rReprL P w xs H Q ∨ rReprV P w xs H Q
theorem call_reprV {X : Cx} (gd : X.A.guards = some []) (hu : X.A.units + 64 < cLine) : CallR X (.builtin "repr") (rReprV X.prog X.w) := by
  intro pins s σ H xs us Q I r h
  obtain ⟨v, d, rfl, hr, ⟨h1, h2, h3⟩, q⟩ := h
  cases r with
  | cons rx rr =>
    cases rr
    rename_i u
    have hz : d.shown.length ≤ sizeLine := by rw [sizeLine_eq]; omega
    obtain ⟨as, rd, hm⟩ := hr s.heap I.hok u rx
    have fin : ∀ h' t tk, (∀ b o, s.heap.get? b = some o → h'.get? b = some o) → EP X pins σ Q (.str d.shown t) { s with heap := h', toks := tk } :=
      fun h' t tk k => ⟨.str d.shown, H, I.kept k, ⟨t, rfl⟩, q⟩
    cases u with
    | ref a => exact repr_of_reads' rd h1 hm gd (by omega) (fun _ _ z => z) (fun h' t tk k => fin h' t tk k) hz
    | none =>
      cases rd
      simp only [PyData.shown] at fin
      exact PySem.P.repr_of_none (fin _ _ _ fun _ _ z => z)
    | bool b =>
      cases rd
      simp only [PyData.shown] at fin
      refine PySem.P.repr_of_bool ?_
      cases b
      · exact fin _ _ _ fun _ _ z => z
      · exact fin _ _ _ fun _ _ z => z
    | int i t =>
      cases rd
      simp only [PyData.shown] at fin
      exact PySem.P.repr_of_int (by simpa [PyData.showable] using h1) (fin _ _ _ fun _ _ z => z)
    | str x t =>
      cases rd
      simp only [PyData.shown] at fin hz
      exact PySem.P.repr_of_str (fin _ _ _ fun _ _ z => z) hz
    | _ => cases rd
theorem call_repr {X : Cx} (gd : X.A.guards = some []) (hu : X.A.units + 64 < cLine) : CallR X (.builtin "repr") (rRepr X.prog X.w) := by
  intro pins s σ H xs us Q I r h
  rcases h with h | h
  · exact call_reprL gd hu pins s σ H xs us Q I r h
  · exact call_reprV gd hu pins s σ H xs us Q I r h
section
variable {P : Program} {w : World} {K : PySem.W.Frag} {σ : L2.St} {H : Hp} {te : TE} {xs : List V} {ds : List PyData}
theorem ev_reprL (h : EvL te σ H xs) (hd : ∀ H1, Ex H H1 → Paired (Rw P w H1) xs ds) (hr : ∀ d ∈ ds, Rok d) (hn : ds.length ≤ 1000) : Ev (tCB (rRepr P w) (tCons te tNil)) σ H (.str (listText (PyData.shownAll ds))) := fun H1 e Q q =>
  h H1 e _ fun p H2 hp e2 hl => by
    obtain ⟨a, b, c⟩ := lst_rok hr hn
    exact .inl ⟨p, xs, ds, rfl, hl, hd H2 (e.trans e2), a, b, c, q H2 e2⟩
theorem ev_reprV {v : V} {d : PyData} (h : Ev te σ H v) (hd : ∀ H1, Ex H H1 → Rw P w H1 v d) (hr : Rok d) : Ev (tCB (rRepr P w) (tCons te tNil)) σ H (.str d.shown) := fun H1 e Q q =>
  h H1 e _ fun H2 e2 => .inr ⟨v, d, rfl, hd H2 (e.trans e2), hr, q H2 e2⟩
end
/-! ### lists of truths -/
theorem dpa_bools {K : PySem.W.Frag} {H : Hp} : ∀ bs : List Bool, DpAll K H (bs.map V.bl) (bs.map PyData.bool)
  | [] => .nil
  | b :: bs => .cons (.bl b) (dpa_bools bs)
theorem dp_bools {K : PySem.W.Frag} {H : Hp} {p : Addr} {bs : List Bool} (h : H p = some (.lst (bs.map V.bl))) : Dp K H (.ref p) (.list (bs.map PyData.bool)) := .lst (SqL.of h) (dpa_bools bs)
theorem lay_bools : ∀ bs : List Bool, PyData.canLayAll0 (bs.map PyData.bool) = true ∧ PyData.depthAll (bs.map PyData.bool) = 0
  | [] => ⟨rfl, rfl⟩
  | b :: bs => by
    obtain ⟨h1, h2⟩ := lay_bools bs
    exact ⟨by simp [PyData.canLayAll0, PyData.canLay0, h1], by simp [PyData.depthAll, PyData.depth, h2]⟩
theorem shaped_bools (bs : List Bool) : SeqAt.shaped (.list (bs.map PyData.bool)) = true := by
  obtain ⟨h1, h2⟩ := lay_bools bs
  simp [SeqAt.shaped, PyData.canLay0, PyData.depth, h1, h2]
theorem eqv_bools (bs : List Bool) : PyData.eqv (.list (bs.map PyData.bool)) (.list (bs.map PyData.bool)) = true := by
  obtain ⟨h1, _⟩ := lay_bools bs
  exact SeqAt.eqv_refl _ (by simp [PyData.canLay0, h1])
section
variable {K : PySem.W.Frag} {σ : L2.St} {H : Hp} {ta tb : TE}
/-- two new lists of the same truths are not unlike -/
theorem ev_sameB {bs : List Bool} {xs ys : List V} (ha : EvL ta σ H xs) (hb : EvL tb σ H ys) (hx : xs = bs.map V.bl) (hy : ys = bs.map V.bl) : Ev (tOp (rNeD K) ta tb) σ H (.bl false) := by
  subst hx hy
  have z := ev_neD (K := K) ha hb (d := .list (bs.map PyData.bool)) (e := .list (bs.map PyData.bool)) (fun H1 p _ h => dp_bools h) (fun H1 p _ h => dp_bools h) (shaped_bools bs) (shaped_bools bs)
  rw [eqv_bools bs] at z
  exact z
theorem given_all (n : Nat) (v : Nat → V) : given n (fun _ => true) v = (List.range n).map v := by
  unfold given
  rw [List.filter_eq_self.mpr (fun _ _ => rfl)]
theorem et_yes : EvT tYes σ H true := fun H1 e Q q => q H1 (Ex.refl H1)
end
/-- parts of a list -/
theorem cut_to (xs : List V) (n : Nat) (h : n ≤ xs.length) : cutV xs none (some (n : Int)) = xs.take n := by
  unfold cutV
  rw [show HT.sIx xs.length xs.length (some (n : Int)) = min n xs.length from HT.sIx_nat _ _ n, HT.sIx_none]
  rw [Nat.min_eq_left h, List.drop_zero, Nat.sub_zero]
theorem cut_mid (xs : List V) (m n : Nat) (h : n ≤ xs.length) (hm : m ≤ n) : cutV xs (some (m : Int)) (some (n : Int)) = (xs.drop m).take (n - m) := by
  unfold cutV
  rw [show HT.sIx xs.length xs.length (some (n : Int)) = min n xs.length from HT.sIx_nat _ _ n, show HT.sIx xs.length 0 (some (m : Int)) = min m xs.length from HT.sIx_nat _ _ m]
  rw [Nat.min_eq_left h, Nat.min_eq_left (Nat.le_trans hm h)]
/-! ### the rules whose readings name what the top has written, K said -/
section
variable {X : Cx} {K : PySem.W.Frag}
theorem op_inK (h : X.K = K := by rfl) : OpR X (compareOp .In) (rIn K false) := h ▸ op_in_seq
theorem op_notInK (h : X.K = K := by rfl) : OpR X (compareOp .NotIn) (rIn K true) := h ▸ op_notIn_seq
theorem ix_listK (h : X.K = K := by rfl) : IxR X (rIxL K) := h ▸ ix_list
theorem ix_tupK (h : X.K = K := by rfl) : IxR X (rIxT K) := h ▸ ix_tup
theorem sl_listK (h : X.K = K := by rfl) : SlR X (rSlL K) := h ▸ sl_list
theorem op_neDK (hu : X.A.units + 64 < cLine) (h : X.K = K := by rfl) : OpR X (compareOp .NotEq) (rNeD K) := h ▸ op_neD hu
theorem op_eqDK (hu : X.A.units + 64 < cLine) (h : X.K = K := by rfl) : OpR X (compareOp .Eq) (rEqD K) := h ▸ op_eqD hu
theorem call_isXK (h : X.K = K := by rfl) : CallR X (.builtin "isinstance") (rIsX K) := h ▸ call_isX
theorem cr_allK (hc : X.calm = true := by rfl) (h : X.K = K := by rfl) : CallR X (.builtin "all") (rAll K) := h ▸ cr_all hc
theorem call_lenK (h : X.K = K := by rfl) : CallR X (.builtin "len") (rLenS K) := by
  subst h
  exact call_len_seq
theorem call_reprK {P : Program} {w : World} (gd : X.A.guards = some []) (hu : X.A.units + 64 < cLine) (h : X.prog = P := by rfl) (h2 : X.w = w := by rfl) : CallR X (.builtin "repr") (rRepr P w) := by
  subst h h2
  exact call_repr gd hu
theorem pe_xatK {e : Expr} {te : TE} {f : Str} {pos : Pos} (he : PE X e te) (h : X.K = K := by rfl) (hb : attributeBase e f X.env (eval e X.env) = eval e X.env := by rfl) : PE X (.Attribute e f pos) (tXat K f te) := h ▸ pe_xat he hb
theorem pi_listK {tg e : Expr} {te : TE} (he : PE X e te) (h : X.K = K := by rfl) : PI X tg e (iList K te) := by
  subst h
  exact pi_list he
end
end Lw
namespace K16
open PySem PySem.Spec PyProof.Rows L2 Lw Evl
open LwX (XC XF)
def topS (i : Nat) : Stmt := PySem.Challenge.pw_wakesayings_k16_errors.main.body.getD i (.Pass ⟨0, 0, 0, 0⟩)
/-! ### the classes, by their places -/
def nms : List Str := ["InvalidLetter", "InvalidWord", "InvalidNumber", "InvalidFront", "InvalidSaying", "InvalidBook", "InvalidTerm", "InvalidWeb", "InvalidMaker", "InvalidChoice", "InvalidWish", "InvalidClaim", "InvalidName", "InvalidEntry", "InvalidCommand", "InvalidWords", "InvalidTriggers", "InvalidMakes", "InvalidSayings", "InvalidThings", "InvalidTerms", "InvalidPairs", "InvalidInstances", "InvalidOffers", "InvalidText", "UnknownLetter", "UnknownTerm", "UnknownName", "NothingToUndo", "CantMake", "CommandFailed", "TooMany"]
def bas : List Str := ["WakeError", "MissingError", "StateError", "LimitError"]
def nm (n : Nat) : Str := nms.getD n ""
def ca (K : PySem.W.Frag) (n : Nat) : Addr := He.ga K (nm n)
def ba (K : PySem.W.Frag) (k : Nat) : Addr := He.ga K (bas.getD k "")
def kd (n : Nat) : Nat := if n < 25 then 0 else if n < 29 then 1 else if n < 31 then 2 else 3
def bb (k : Nat) : String := if k = 0 then "ValueError" else if k = 1 then "LookupError" else if k = 2 then "RuntimeError" else "ArithmeticError"
/-- the one attribute -/
def f1 (n : Nat) : Str := if n < 15 then "value" else if n < 24 then "position" else if n = 24 then "line" else if n = 30 then "position" else "value"
def f2 (n : Nat) : Str × Str := if n = 29 then ("number", "term") else ("what", "limit")
def two (n : Nat) : Bool := n == 29 || n == 31
def ats (n : Nat) (v u : V) : List (Str × V) := if n = 28 then [] else if two n = true then [((f2 n).2, u), ((f2 n).1, v)] else [(f1 n, v)]
structure Tx (P : Program) (w : World) (K : PySem.W.Frag) (mg : Str → Option Value) (base : Heap) : Prop where
  m_len : mg "len" = none
  m_range : mg "range" = none
  m_abs : mg "abs" = none
  m_max : mg "max" = none
  m_min : mg "min" = none
  m_int : mg "int" = none
  m_divmod : mg "divmod" = none
  m_all : mg "all" = none
  m_isinstance : mg "isinstance" = none
  m_enumerate : mg "enumerate" = none
  m_repr : mg "repr" = none
  m_ValueError : mg "ValueError" = none
  m_LookupError : mg "LookupError" = none
  m_RuntimeError : mg "RuntimeError" = none
  m_ArithmeticError : mg "ArithmeticError" = none
  m_TypeError : mg "TypeError" = none
  m_KeyError : mg "KeyError" = none
  m_IndexError : mg "IndexError" = none
  m_OverflowError : mg "OverflowError" = none
  m_ZeroDivisionError : mg "ZeroDivisionError" = none
  m_NotImplementedError : mg "NotImplementedError" = none
  m_AttributeError : mg "AttributeError" = none
  g : ∀ n, n < 32 → mg (nm n) = some (.ref (ca K n))
  gb : ∀ k, k < 4 → mg (bas.getD k "") = some (.ref (ba K k))
  xc : ∀ n, n < 32 → XC K (ca K n)
  c1 : ∀ n, (n < 32 ∧ n ≠ 28 ∧ two n = false) → XCls P w K mg base 1 (nm n) (ca K n) ["self", f1 n] (spI1 (f1 n) (ca K n))
  c2 : ∀ n, two n = true → XCls P w K mg base 1 (nm n) (ca K n) ["self", (f2 n).1, (f2 n).2] (spI2 (f2 n).1 (f2 n).2 (ca K n))
  c0 : XCls P w K mg base 1 (nm 28) (ca K 28) ["self"] (spI0 (ca K 28))
  kr : ∀ n m, n < 32 → m < 32 → PySem.W.kitOne K (.ref (ca K n)) (.ref (ca K m)) = some (n == m)
  kb : ∀ n k, n < 32 → k < 4 → PySem.W.kitOne K (.ref (ca K n)) (.ref (ba K k)) = some (kd n == k)
  kt : ∀ n (s : String), n < 32 → (s = "ValueError" ∨ s = "LookupError" ∨ s = "RuntimeError" ∨ s = "ArithmeticError" ∨ s = "TypeError" ∨ s = "KeyError" ∨ s = "IndexError" ∨ s = "OverflowError" ∨ s = "ZeroDivisionError" ∨ s = "NotImplementedError" ∨ s = "AttributeError") →
    PySem.W.kitOne K (.ref (ca K n)) (.type s) = some (bb (kd n) == s)
  fo : ∀ n, n < 32 → n ≠ 28 → two n = false → XF K (ca K n) (f1 n)
  ft : ∀ n, two n = true → XF K (ca K n) (f2 n).1 ∧ XF K (ca K n) (f2 n).2
section
variable {P : Program} {w : World} {K : PySem.W.Frag} {mg : Str → Option Value} {base : Heap}
abbrev s_draw : Stmt := topS 39
theorem sc_draw : FnScope ["_law_pot_here", "_law_size", "_law_digit"] ["_law_pot_here", "_law_size"] (defScope s_draw) := ⟨rfl, rfl, rfl, by decide +kernel, rfl, by decide +kernel, by decide +kernel⟩
theorem ok_draw {f : Addr} {fd : FuncData} (F : FunD K "_law_draw" "_law_draw" (defArgs s_draw) (defBody s_draw) (defScope s_draw) [] [] f fd) (T : Tx P w K mg base)  : FnG P w K mg base CX0 1 f fd ["_law_pot_here", "_law_size"] spDraw := by
  refine fnG F sc_draw (fun vs H Q E h => ?_) (fun cdv A outer s H vs Q E gd hr h => ?_)
  · obtain ⟨p, n, rfl, _⟩ := h
    rfl
  · skip
    refine ⟨_, PSs.nox ((pss_cons (ps_if (pt_cmpR op_gt (pe_ix (ix_listK (K := K)) (pv 0) pe_int (fun _ _ => rfl)) pe_int (nomark _)) (pss_cons (ps_asg (pe_callB call_divmod (by rfl) T.m_divmod (by decide +kernel) (pa_cons (pe_ix (ix_listK (K := K)) (pv 0) pe_int (fun _ _ => rfl)) (pa_cons (pv 1) pa_nil))) (pg_tup (n := 2) rfl (pgs_cons (pg_sub (pv 0) pe_int set_list) (pgs_cons (pg_name (i := 2) sc_draw.nd rfl (by first | exact Or.inl rfl | exact Or.inr rfl)) pgs_nil))))
      (pss_one (ps_ret (pv 2)))) pss_nil)
      (pss_cons (ps_asg (pe_op op_mod (pe_callTy call_int1 (by rfl) T.m_int (by decide +kernel) (pa_cons (pe_op op_add (pe_op op_mul (pe_ix (ix_listK (K := K)) (pv 0) pe_int (fun _ _ => rfl)) pe_int) pe_int) pa_nil)) pe_int) (pg_sub (pv 0) pe_int set_list))
      (pss_one (ps_ret (pe_op op_mod (pe_callTy call_int1 (by rfl) T.m_int (by decide +kernel) (pa_cons (pe_op op_fdiv (pe_op op_mod (pe_callTy call_int1 (by rfl) T.m_int (by decide +kernel) (pa_cons (pe_op op_mul (pe_ix (ix_listK (K := K)) (pv 0) pe_int (fun _ _ => rfl)) (pe_ix (ix_listK (K := K)) (pv 0) pe_int (fun _ _ => rfl))) pa_nil)) pe_int) pe_int) pa_nil)) (pv 1))))))), ?_⟩
    obtain ⟨p, n, rfl, ⟨i, j, e, i0, j0, j1⟩, hn, hn2, q⟩ := h
    refine ⟨_, rfl, p, _, _, _, rfl, rfl, SqL.of e, rfl, _, _, rfl, rfl, _, rfl, ite2 (fun hc => ?_) (fun hc => ?_)⟩
    · have ci : 0 < i := of_decide_eq_true hc
      refine ⟨_, rfl, p, _, _, _, rfl, rfl, SqL.of e, rfl, _, rfl, _, _, rfl, ⟨hn, hn2⟩, fun t ht => ?_⟩
      have e1 : (upd H t (.tup [.int (i / n), .int (i % n)])) p = some (.lst [.int i, .int j]) := by
        rw [upd_ne (ne_of_none e ht)]
        exact e
      refine ⟨t, _, rfl, SqT.of upd_same, rfl, _, _, rfl, _, rfl, p, _, 0, 0, rfl, rfl, e1, rfl, _, _, rfl, rfl, _, rfl, ?_⟩
      refine q _ _ (Int.emod_nonneg _ (by omega)) (Int.emod_lt_of_pos _ hn) ⟨fun a o na ea => ?_, i / n, j, upd_same, Int.ediv_nonneg i0 (by omega), j0, j1⟩
      rw [upd_ne na, upd_ne (ne_of_none ea ht)]
      exact ea
    · refine ⟨_, rfl, p, _, _, _, rfl, rfl, SqL.of e, rfl, _, _, rfl, rfl, .inr ⟨by decide, by decide⟩, _, _, rfl, rfl, .inl ⟨_, rfl, _, _, rfl, rfl, (by show (0 : Int) < 2147483587; decide), _, rfl, p, _, 1, 1, rfl, rfl, e, rfl, ?_⟩⟩
      have e1 : ∀ k : Int, (upd H p (.lst [.int i, .int k])) p = some (.lst [.int i, .int k]) := fun k => upd_same
      have b0 : 0 ≤ (j * 48271 + 12161) % 2147483587 := Int.emod_nonneg _ (by decide)
      have b1 : (j * 48271 + 12161) % 2147483587 < 2147483587 := Int.emod_lt_of_pos _ (by decide)
      refine ⟨_, rfl, p, _, _, _, rfl, rfl, SqL.of (e1 _), rfl, _, rfl, p, _, _, _, rfl, rfl, SqL.of (e1 _), rfl, _, _, rfl, rfl, .inl ⟨by omega, by omega⟩, .inl ⟨_, rfl, _, _, rfl, rfl, (by show (0 : Int) < 2147483549; decide), _, _, rfl, rfl, ⟨by decide, by decide⟩, .inl ⟨_, rfl, _, rfl, _, _, rfl, rfl, hn, ?_⟩⟩⟩
      refine q _ _ (Int.emod_nonneg _ (by omega)) (Int.emod_lt_of_pos _ hn) ⟨fun a o na ea => ?_, i, _, upd_same, i0, b0, by omega⟩
      rw [upd_ne na]
      exact ea

abbrev s_pick : Stmt := topS 40
theorem sc_pick : FnScope ["_law_pot_here", "_law_some"] ["_law_pot_here", "_law_some"] (defScope s_pick) := ⟨rfl, rfl, rfl, by decide +kernel, rfl, by decide +kernel, by decide +kernel⟩
theorem ok_pick {f : Addr} {fd : FuncData} (F : FunD K "_law_pick" "_law_pick" (defArgs s_pick) (defBody s_pick) (defScope s_pick) [] [] f fd) (T : Tx P w K mg base) (d_law_draw : Cal P w K mg base CX0 1 "_law_draw" ["_law_pot_here", "_law_size"] spDraw) : FnG P w K mg base CX0 2 f fd ["_law_pot_here", "_law_some"] (spPick K) := by
  refine fnG F sc_pick (fun vs H Q E h => ?_) (fun cdv A outer s H vs Q E gd hr h => ?_)
  · obtain ⟨p, l, xs, rfl, _⟩ := h
    rfl
  · skip
    refine ⟨_, PSs.nox ((pss_one (ps_ret (pe_ix (ix_listK (K := K)) (pv 1) (pe_cal d_law_draw gd hr (pa_cons (pv 0) (pa_cons (pe_callB (call_lenK (K := K)) (by rfl) T.m_len (by decide +kernel) (pa_cons (pv 1) pa_nil)) pa_nil))) (fun _ _ => rfl))))), ?_⟩
    obtain ⟨p, l, xs, rfl, hp, hl, hne, h0, h1, q⟩ := h
    refine ⟨_, rfl, _, rfl, _, rfl, l, _, rfl, .inl (SqL.of hl), p, _, rfl, hp, by omega, by omega, fun d H' d0 d1 x => ?_⟩
    obtain ⟨v, a1, a2⟩ := atI_mem d0 d1
    exact ⟨l, _, _, v, rfl, rfl, SqL.of (x.1 _ _ hne hl), a1, q v H' a2 x⟩

abbrev s_pot : Stmt := topS 38
theorem sc_pot : FnScope ["_law_script", "_law_k", "_law_cell"] ["_law_script", "_law_k"] (defScope s_pot) := ⟨rfl, rfl, rfl, by decide +kernel, rfl, by decide +kernel, by decide +kernel⟩
theorem ok_pot {f : Addr} {fd : FuncData} (F : FunD K "_law_pot" "_law_pot" (defArgs s_pot) (defBody s_pot) (defScope s_pot) [] [] f fd) (T : Tx P w K mg base)  : FnG P w K mg base CX0 1 f fd ["_law_script", "_law_k"] (spPot K) := by
  refine fnG F sc_pot (fun vs H Q E h => ?_) (fun cdv A outer s H vs Q E gd hr h => ?_)
  · obtain ⟨a, ns, k, rfl, _⟩ := h
    rfl
  · skip
    refine ⟨_, PSs.nox ((pss_cons (ps_set (i := 2) sc_pot.nd rfl (by first | exact Or.inl rfl | exact Or.inr rfl) (pe_op op_add (pe_op op_mul pe_int (pv 1)) pe_int))
      (Evl.pss_cut (ps_if (pt_cmpR op_lt (pv 1) (pe_callB (call_lenK (K := K)) (by rfl) T.m_len (by decide +kernel) (pa_cons (pv 0) pa_nil)) (nomark _)) (pss_one (ps_set (i := 2) sc_pot.nd rfl (by first | exact Or.inl rfl | exact Or.inr rfl) (pe_callB call_abs (by rfl) T.m_abs (by decide +kernel) (pa_cons (pe_ix (ix_listK (K := K)) (pv 0) (pv 1) (fun _ _ => rfl)) pa_nil)))) pss_nil)
      (pss_one (ps_ret (pe_lst (pa_cons (pe_callB (call_max2 rfl) (by rfl) T.m_max (by decide +kernel) (pa_cons pe_int (pa_cons (pe_op op_sub (pv 2) (pe_op op_pow pe_int pe_int)) pa_nil))) (pa_cons (pe_op op_add (pe_op op_mod (pe_op op_mul (pe_callTy call_int1 (by rfl) T.m_int (by decide +kernel) (pa_cons (pe_op op_add (pe_op op_mod (pe_callTy call_int1 (by rfl) T.m_int (by decide +kernel) (pa_cons (pv 2) pa_nil)) pe_int) pe_int) pa_nil)) (pe_op op_pow (pe_op op_add (pe_op op_mul pe_int (pv 1)) pe_int) pe_int)) pe_int) pe_int) pa_nil)))))))), ?_⟩
    obtain ⟨a, ns, k, rfl, hS, hn, k0, k1, q⟩ := h
    refine ⟨_, rfl, _, _, rfl, rfl, .inr ⟨by omega, by omega⟩, _, _, rfl, rfl, ?_⟩
    refine ⟨fun σ' H' => ∃ c : Int, 0 ≤ c ∧ σ' = [some (.ref a), some (.int k), some (.int c)] ∧ H' = H, ?_, ?_⟩
    · refine ⟨_, rfl, _, rfl, a, _, rfl, .inl hS, _, _, rfl, rfl, _, rfl, ite2 (fun hc => ?_) (fun _ => ⟨37 * k + 11, by omega, rfl, rfl⟩)⟩
      have hk : k < ((ns.map V.int).length : Int) := of_decide_eq_true hc
      obtain ⟨m, rfl⟩ := Int.eq_ofNat_of_zero_le k0
      have hm : m < (ns.map V.int).length := by omega
      have hm' : m < ns.length := by rw [List.length_map] at hm; exact hm
      have g : atI (ns.map V.int) (m : Int) = some (.int ns[m]) := by
        refine atI_nat ?_
        rw [List.getElem?_map, List.getElem?_eq_getElem hm']
        rfl
      refine ⟨_, rfl, _, rfl, a, _, _, _, rfl, rfl, hS, g, _, rfl, _, ?_, rfl, rfl⟩
      split <;> omega
    · rintro σ' H' ⟨c, c0, rfl, rfl⟩
      have b1 : 0 ≤ (c % 2147483549 + 13) * (2 * k + 3) ^ (3 : Int).toNat % 2147483477 := Int.emod_nonneg _ (by decide)
      have b2 : (c % 2147483549 + 13) * (2 * k + 3) ^ (3 : Int).toNat % 2147483477 < 2147483477 := Int.emod_lt_of_pos _ (by decide)
      have b3 := Int.emod_lt_of_pos c (b := 2147483549) (by decide)
      have b4 := Int.emod_nonneg c (b := 2147483549) (by decide)
      refine ⟨_, rfl, _, _, rfl, rfl, ⟨by decide, by decide, by decide⟩, _, _, rfl, rfl, _, _, rfl, ?_⟩
      refine ⟨_, rfl, .inl ⟨_, rfl, _, _, rfl, rfl, (by show (0 : Int) < 2147483549; decide), _, _, rfl, rfl, .inl ⟨_, rfl, _, rfl, _, _, rfl, rfl, .inr ⟨by omega, by omega⟩, _, _, rfl, rfl, ?_⟩⟩⟩
      refine ⟨_, _, rfl, rfl, ⟨by decide, by decide, by omega⟩, _, _, rfl, rfl, .inl ⟨by omega, by omega⟩, _, _, rfl, rfl, (by show (0 : Int) < 2147483477; decide), _, _, rfl, rfl, (by show 2 ≤ sizeLine; decide), fun p hp => ?_⟩
      refine q _ _ hp (fun b o e => by rw [upd_ne (ne_of_none e hp)]; exact e) ⟨_, _, upd_same, ?_, by omega, by omega⟩
      split <;> omega

/-- some small value -/
def spThing (P : Program) (w : World) : Sp := fun vs H Q _ => ∃ p : Addr, vs = [.ref p] ∧ Po p H ∧ ∀ v H', Xp p H H' → Sm P w p H' v → Q v H'
theorem se_draw {p : Addr} {σ : L2.St} {te : TE} {n : Int} (h : ∀ H (Q : VK), Q (.int n) H → te σ H Q) (hv : σ[0]? = some (some (.ref p))) (h0 : 0 < n) (h1 : n < 1073741824) (E : XK) : ∀ H, Po p H → ∀ Q : VK, (∀ d H', 0 ≤ d → d < n → Xp p H H' → Q (.int d) H') → tCall spDraw [] E (tCons (tVar 0) (tCons te tNil)) σ H Q :=
  fun H hp Q q => ⟨_, hv, h H _ ⟨p, n, rfl, hp, h0, h1, fun d H' a b x => q d H' a b x⟩⟩
abbrev s_thing : Stmt := topS 41
theorem sc_thing : FnScope ["_law_pot_here", "_law_some"] ["_law_pot_here"] (defScope s_thing) := ⟨rfl, rfl, rfl, by decide +kernel, rfl, by decide +kernel, by decide +kernel⟩
theorem ok_thing {f : Addr} {fd : FuncData} (F : FunD K "_law_thing" "_law_thing" (defArgs s_thing) (defBody s_thing) (defScope s_thing) [] [] f fd) (T : Tx P w K mg base) (d_law_draw : Cal P w K mg base CX0 1 "_law_draw" ["_law_pot_here", "_law_size"] spDraw) (d_law_pick : Cal P w K mg base CX0 2 "_law_pick" ["_law_pot_here", "_law_some"] (spPick K)) : FnG P w K mg base CX0 3 f fd ["_law_pot_here"] (spThing P w) := by
  refine fnG F sc_thing (fun vs H Q E h => ?_) (fun cdv A outer s H vs Q E gd hr h => ?_)
  · obtain ⟨p, rfl, _⟩ := h
    rfl
  · skip
    refine ⟨_, PSs.nox ((pss_cons (ps_set (i := 1) sc_thing.nd rfl (by first | exact Or.inl rfl | exact Or.inr rfl) (pe_lst (pa_cons pe_int (pa_cons pe_int (pa_cons (pe_op op_sub pe_int pe_int) (pa_cons (pe_cal d_law_draw gd hr (pa_cons (pv 0) (pa_cons pe_int pa_nil))) (pa_cons (pe_op op_sub pe_int (pe_cal d_law_draw gd hr (pa_cons (pv 0) (pa_cons (pe_op op_pow pe_int pe_int) pa_nil)))) (pa_cons (pe_op op_add (pe_op op_pow pe_int pe_int) (pe_cal d_law_draw gd hr (pa_cons (pv 0) (pa_cons pe_int pa_nil)))) (pa_cons pe_bl (pa_cons pe_bl pa_nil))))))))))
      (pss_cons (ps_set (i := 1) sc_thing.nd rfl (by first | exact Or.inl rfl | exact Or.inr rfl) (pe_op op_cat (pv 1) (pe_lst (pa_cons pe_non (pa_cons pe_str (pa_cons pe_str (pa_cons pe_str (pa_cons pe_str (pa_cons (pe_tup pa_nil) (pa_cons (pe_tup (pa_cons pe_str pa_nil)) (pa_cons (pe_tup (pa_cons pe_str (pa_cons pe_str pa_nil))) (pa_cons (pe_lst pa_nil) (pa_cons (pe_lst (pa_cons pe_str pa_nil)) (pa_cons pe_dnewK (pa_cons (pe_disp (pps_cons pe_str pe_int pps_nil) (by rfl) (by rfl) (fun z => by cases z) (by decide)) (pa_cons (pe_tup (pa_cons pe_non (pa_cons pe_int pa_nil))) pa_nil))))))))))))))))
      (pss_one (ps_ret (pe_cal d_law_pick gd hr (pa_cons (pv 0) (pa_cons (pv 1) pa_nil)))))))), ?_⟩
    obtain ⟨p, rfl, hp, q⟩ := h
    have dr : ∀ (n : Int) (te : TE), (∀ σ H (Q : VK), Q (.int n) H → te σ H Q) → 0 < n → n < 1073741824 → ∀ σ : L2.St, σ[0]? = some (some (.ref p)) → ∀ H, Po p H → ∀ Q : VK, (∀ d H', 0 ≤ d → d < n → Xp p H H' → Q (.int d) H') → tCall spDraw [] E0 (tCons (tVar 0) (tCons te tNil)) σ H Q :=
      fun n te h h0 h1 σ hv H hp Q q => se_draw (fun H Q z => h σ H Q z) hv h0 h1 E0 H hp Q q
    have hv : ([some (.ref p), none] : L2.St)[0]? = some (some (.ref p)) := rfl
    have t9 : (10 : Int) ^ (9 : Int).toNat = 1000000000 := by decide
    have t29 : (10 : Int) ^ (29 : Int).toNat = 100000000000000000000000000000 := by decide
    refine s_lstSm (P := P) (w := w) (n := 8) ?_ hp (by decide) fun vs H1 l x1 l1 s1 e1 ne1 => ?_
    · refine sa_cons (se_c fun _ => sm_small (by decide) (by decide)) (sa_cons (se_c fun _ => sm_small (by decide) (by decide)) (sa_cons ?_ (sa_cons ?_ (sa_cons ?_ (sa_cons ?_ (sa_cons (se_c fun _ => sm_bl _) (sa_cons (se_c fun _ => sm_bl _) sa_nil)))))))
      · intro H hp Q q
        exact ⟨_, _, rfl, rfl, q _ _ (.refl hp) (sm_small (by decide) (by decide))⟩
      · intro H hp Q q
        exact dr 300 _ (fun _ _ _ z => z) (by decide) (by decide) _ hv H hp Q fun d H' a b x => q _ _ x (sm_small (by omega) (by omega))
      · intro H hp Q q
        exact dr ((10 : Int) ^ (9 : Int).toNat) _ (fun _ _ _ z => ⟨_, _, rfl, rfl, ⟨by decide, by decide, by decide⟩, z⟩) (by decide) (by decide) _ hv H hp _ fun d H' a b x => ⟨_, _, rfl, rfl, q _ _ x (sm_small (by rw [t9] at b; omega) (by omega))⟩
      · intro H hp Q q
        exact ⟨_, _, rfl, rfl, ⟨by decide, by decide, by decide⟩, dr 99 _ (fun _ _ _ z => z) (by decide) (by decide) _ hv H hp _ fun d H' a b x => ⟨_, _, rfl, rfl, q _ _ x (sm_small (by rw [t29]; omega) (by rw [t29]; omega))⟩⟩
    refine s_catSm (P := P) (w := w) (l := l) (n := 13) (fun H Q z => ⟨_, rfl, z⟩) e1 ne1 s1 ?_ x1.2 (by omega) fun us H2 l2 x2 l2' s2 e2 ne2 => ?_
    · refine sa_cons (se_c fun _ => sm_non) (sa_cons (se_c fun _ => sm_str _ (by decide +kernel)) (sa_cons (se_c fun _ => sm_str _ (by decide +kernel)) (sa_cons (se_c fun _ => sm_str _ (by decide +kernel)) (sa_cons (se_c fun _ => sm_str _ (by decide +kernel)) ?_))))
      refine sa_cons (se_tup ca_nil (ds := []) ⟨by decide +kernel, by decide +kernel, by decide +kernel⟩ (by decide) (fun _ => .nil) rfl) ?_
      refine sa_cons (se_tup (ca_cons ca_nil) (ds := [.str "f"]) ⟨by decide +kernel, by decide +kernel, by decide +kernel⟩ (by decide) (fun _ => .cons (rw_str _) .nil) rfl) ?_
      refine sa_cons (se_tup (ca_cons (ca_cons ca_nil)) (ds := [.str "f", .str "g"]) ⟨by decide +kernel, by decide +kernel, by decide +kernel⟩ (by decide) (fun _ => .cons (rw_str _) (.cons (rw_str _) .nil)) rfl) ?_
      refine sa_cons (se_lst ca_nil (ds := []) ⟨by decide +kernel, by decide +kernel, by decide +kernel⟩ (by decide) (fun _ => .nil) rfl) ?_
      refine sa_cons (se_lst (ca_cons ca_nil) (ds := [.str "f"]) ⟨by decide +kernel, by decide +kernel, by decide +kernel⟩ (by decide) (fun _ => .cons (rw_str _) .nil) rfl) ?_
      refine sa_cons ?_ (sa_cons ?_ (sa_cons (se_tup (ca_cons (ca_cons ca_nil)) (ds := [.none, .int 0]) ⟨by decide +kernel, by decide +kernel, by decide +kernel⟩ (by decide) (fun _ => .cons rw_non (.cons (rw_int _) .nil)) rfl) sa_nil))
      · intro H hp Q q
        intro d hd
        refine q _ _ (.new hp hd) (sm_obj (d := .dict []) ⟨by decide +kernel, by decide +kernel, by decide +kernel⟩ ?_ upd_same fun H' e => rw_dk (ds := []) e rfl)
        obtain ⟨o, e⟩ := hp.some
        exact (ne_of_none e hd).symm
      · intro H hp Q q
        intro d hd
        refine ⟨upd_same, [(Sum.inr "f", .int 1)], rfl, by decide, ?_⟩
        rw [upd_upd]
        refine q _ _ (.new hp hd) (sm_obj (d := .dict [(.str "f", .int 1)]) ⟨by decide +kernel, by decide +kernel, by decide +kernel⟩ ?_ upd_same fun H' e => rw_dk (ds := [.int 1]) e rfl)
        obtain ⟨o, e⟩ := hp.some
        exact (ne_of_none e hd).symm
    exact ⟨_, rfl, _, rfl, p, l2, us, rfl, x2.2, e2, ne2, by omega, by omega, fun v H3 hv x3 => q v H3 (x1.trans (x2.trans x3)) ((s2 v hv).on x3)⟩

/-! ### exceptions of given classes, in lists -/
def XoL (K : PySem.W.Frag) (v u : V) (n0 : Nat) (H : Hp) (as : List Addr) : Prop := ∀ j a, as[j]? = some a → Xo H a (ca K (n0 + j)) (ats (n0 + j) v u)
theorem XoL.mono {K : PySem.W.Frag} {v u : V} {n0 : Nat} {H H' : Hp} {as : List Addr} (h : XoL K v u n0 H as) (e : Ex H H') : XoL K v u n0 H' as := fun j a q => (h j a q).same e
def XE (K : PySem.W.Frag) (v u : V) (σ : L2.St) (n : Nat) (te : TE) : Prop := ∀ (H : Hp) (Q : VK), (∀ a H', Ex H H' → Xo H' a (ca K n) (ats n v u) → Q (.ref a) H') → te σ H Q
def XA (K : PySem.W.Frag) (v u : V) (σ : L2.St) (n0 m : Nat) (ta : TA) : Prop := ∀ (H : Hp) (Q : List V → Hp → Prop), (∀ as H', Ex H H' → as.length = m → XoL K v u n0 H' as → Q (as.map V.ref) H') → ta σ H Q
def XL (K : PySem.W.Frag) (v u : V) (σ : L2.St) (n0 m : Nat) (te : TE) : Prop := ∀ (H : Hp) (Q : VK), (∀ p as H', H p = none → Ex H H' → H' p = some (.lst (as.map V.ref)) → as.length = m → XoL K v u n0 H' as → Q (.ref p) H') → te σ H Q
section
variable {v u : V} {σ : L2.St} {n n0 m k : Nat} {te tb : TE} {ta : TA}
theorem xa_nil : XA K v u σ n0 0 tNil := fun H Q q => q [] H (Ex.refl H) rfl (fun _ _ z => by simp at z)
theorem xa_cons (h : XE K v u σ n0 te) (hr : XA K v u σ (n0 + 1) m ta) : XA K v u σ n0 (m + 1) (tCons te ta) := fun H Q q =>
  h H _ fun a H1 e1 x1 => hr H1 _ fun as H2 e2 l2 x2 => q (a :: as) H2 (e1.trans e2) (by rw [List.length_cons, l2]) (fun j b z => by
    cases j with
    | zero =>
      cases z
      exact x1.same e2
    | succ j =>
      have y := x2 j b z
      rw [Nat.add_assoc, Nat.add_comm 1 j] at y
      exact y)
theorem xl_lst (h : XA K v u σ n0 m ta) (hm : m ≤ 100000) : XL K v u σ n0 m (tLst ta) := fun H Q q =>
  h H _ fun as H1 e1 l1 x1 => ⟨by rw [List.length_map]; exact sz_of (by omega), fun p hp => q p as _ (fresh_back e1 hp) (e1.trans (Ex.new hp)) upd_same l1 (x1.mono (Ex.new hp))⟩
theorem XoL.append {H : Hp} {as bs : List Addr} (h : XoL K v u n0 H as) (g : XoL K v u (n0 + as.length) H bs) : XoL K v u n0 H (as ++ bs) := fun j a q => by
  by_cases c : j < as.length
  · rw [List.getElem?_append_left c] at q
    exact h j a q
  · rw [List.getElem?_append_right (by omega)] at q
    have y := g _ a q
    rw [show n0 + as.length + (j - as.length) = n0 + j by omega] at y
    exact y
theorem xl_cat (ha : XL K v u σ n0 m te) (hb : XL K v u σ (n0 + m) k tb) (hz : m + k ≤ 100000) : XL K v u σ n0 (m + k) (tOp rCat te tb) := fun H Q q =>
  ha H _ fun p as H1 hp e1 l1 g1 x1 => hb H1 _ fun r bs H2 hr e2 l2 g2 x2 => ⟨p, r, _, _, rfl, rfl, e2 _ _ l1, l2, by
    rw [List.length_map, List.length_map]
    exact sz_of (by omega), fun t ht => q t (as ++ bs) _ (fresh_back (e1.trans e2) ht) ((e1.trans e2).trans (Ex.new ht)) (by rw [List.map_append]; exact upd_same) (by rw [List.length_append, g1, g2])
      (((x1.mono e2).append (by rw [g1]; exact x2)).mono (Ex.new ht))⟩
/-- a list that stands in a slot, one more behind it -/
theorem xl_catV {p : Addr} {as : List Addr} (hj : ∀ H (Q : VK), Q (.ref p) H → te σ H Q) (hb : XL K v u σ (n0 + as.length) k tb) (hz : as.length + k ≤ 100000) {H : Hp} (e : H p = some (.lst (as.map V.ref))) (x : XoL K v u n0 H as) {Q : VK}
    (q : ∀ t bs H', H t = none → Ex H H' → H' t = some (.lst (bs.map V.ref)) → bs.length = as.length + k → XoL K v u n0 H' bs → Q (.ref t) H') : tOp rCat te tb σ H Q :=
  hj H _ (hb H _ fun r bs H2 hr e2 l2 g2 x2 => ⟨p, r, _, _, rfl, rfl, e2 _ _ e, l2, by
    rw [List.length_map, List.length_map]
    exact sz_of (by omega), fun t ht => q t (as ++ bs) _ (fresh_back e2 ht) (e2.trans (Ex.new ht)) (by rw [List.map_append]; exact upd_same) (by rw [List.length_append, g2])
      (((x.mono e2).append x2).mono (Ex.new ht))⟩)
theorem xe_1 {te : TE} (hn : n ≠ 28 ∧ two n = false) (h : ∀ H (Q : VK), Q v H → te σ H Q) : XE K v u σ n (tXmk (ca K n) (spI1 (f1 n) (ca K n)) (tCons te tNil)) := fun H Q q =>
  h H _ ⟨by show 1 ≤ 1000; decide, xmk1 fun a H' e x => q a H' e (by
    unfold ats
    rw [if_neg hn.1, hn.2]
    exact x)⟩
theorem xe_2 {t1 t2 : TE} (hn : two n = true) (h : ∀ H (Q : VK), Q v H → t1 σ H Q) (h2 : ∀ H (Q : VK), Q u H → t2 σ H Q) : XE K v u σ n (tXmk (ca K n) (spI2 (f2 n).1 (f2 n).2 (ca K n)) (tCons t1 (tCons t2 tNil))) := fun H Q q =>
  h H _ (h2 H _ ⟨by show 2 ≤ 1000; decide, xmk2 fun a H' e x => q a H' e (by
    unfold ats
    rw [if_neg (fun z => by rw [z] at hn; cases hn), hn]
    exact x)⟩)
theorem xe_0 : XE K v u σ 28 (tXmk (ca K 28) (spI0 (ca K 28)) tNil) := fun H Q q => ⟨by decide, xmk0 fun a H' e x => q a H' e x⟩
/-- name = [..] | name + [..] | .. -/
theorem q_xl {D : Ends} {tz : TS} {H : Hp} {i : Nat} (h : XL K v u σ n0 m te) (k : ∀ p as H', Ex H H' → H' p = some (.lst (as.map V.ref)) → as.length = m → XoL K v u n0 H' as → tz D (σ.set i (some (.ref p))) H') : tSeq (tAsg te (gName i)) tz D σ H :=
  h H _ fun p as H' _ e l g x => k p as H' e l g x
theorem q_xlV {D : Ends} {tz : TS} {H : Hp} {i : Nat} {p : Addr} {as : List Addr} (hj : ∀ H (Q : VK), Q (.ref p) H → te σ H Q) (hb : XL K v u σ (n0 + as.length) k tb) (hz : as.length + k ≤ 100000) (e : H p = some (.lst (as.map V.ref))) (x : XoL K v u n0 H as)
    (q : ∀ t bs H', Ex H H' → H' t = some (.lst (bs.map V.ref)) → bs.length = as.length + k → XoL K v u n0 H' bs → tz D (σ.set i (some (.ref t))) H') : tSeq (tAsg (tOp rCat te tb) (gName i)) tz D σ H :=
  xl_catV hj hb hz e x fun t bs H' _ e l g x => q t bs H' e l g x
end
def spWakes (K : PySem.W.Frag) (u : V) : Sp := fun vs H Q _ => ∃ v : V, vs = [v] ∧ ∀ p as H', H p = none → Ex H H' → H' p = some (.lst (as.map V.ref)) → as.length = 25 → XoL K v u 0 H' as → Q (.ref p) H'
def spRest (K : PySem.W.Frag) : Sp := fun vs H Q _ => ∃ v u : V, vs = [v, u] ∧ ∀ p as H', H p = none → Ex H H' → H' p = some (.lst (as.map V.ref)) → as.length = 7 → XoL K v u 25 H' as → Q (.ref p) H'
abbrev s_wakes : Stmt := topS 42
theorem sc_wakes : FnScope ["_law_some", "_law_found"] ["_law_some"] (defScope s_wakes) := ⟨rfl, rfl, rfl, by decide +kernel, rfl, by decide +kernel, by decide +kernel⟩
theorem ok_wakes {f : Addr} {fd : FuncData} (F : FunD K "_law_wakes" "_law_wakes" (defArgs s_wakes) (defBody s_wakes) (defScope s_wakes) [] [] f fd) (T : Tx P w K mg base) (u : V) : FnG P w K mg base CX0 3 f fd ["_law_some"] (spWakes K u) := by
  refine fnG F sc_wakes (fun vs H Q E h => ?_) (fun cdv A outer s H vs Q E gd hr h => ?_)
  · obtain ⟨v, rfl, _⟩ := h
    rfl
  · skip
    refine ⟨_, PSs.nox ((pss_cons (ps_set (i := 1) sc_wakes.nd rfl (by first | exact Or.inl rfl | exact Or.inr rfl) (pe_lst (pa_cons (pe_xmk (T.c1 0 (by decide)) gd hr (pa_cons (pv 0) pa_nil)) (pa_cons (pe_xmk (T.c1 1 (by decide)) gd hr (pa_cons (pv 0) pa_nil)) (pa_cons (pe_xmk (T.c1 2 (by decide)) gd hr (pa_cons (pv 0) pa_nil)) (pa_cons (pe_xmk (T.c1 3 (by decide)) gd hr (pa_cons (pv 0) pa_nil)) (pa_cons (pe_xmk (T.c1 4 (by decide)) gd hr (pa_cons (pv 0) pa_nil)) pa_nil)))))))
      (pss_cons (ps_set (i := 1) sc_wakes.nd rfl (by first | exact Or.inl rfl | exact Or.inr rfl) (pe_op op_cat (pv 1) (pe_lst (pa_cons (pe_xmk (T.c1 5 (by decide)) gd hr (pa_cons (pv 0) pa_nil)) (pa_cons (pe_xmk (T.c1 6 (by decide)) gd hr (pa_cons (pv 0) pa_nil)) (pa_cons (pe_xmk (T.c1 7 (by decide)) gd hr (pa_cons (pv 0) pa_nil)) (pa_cons (pe_xmk (T.c1 8 (by decide)) gd hr (pa_cons (pv 0) pa_nil)) (pa_cons (pe_xmk (T.c1 9 (by decide)) gd hr (pa_cons (pv 0) pa_nil)) pa_nil))))))))
      (pss_cons (ps_set (i := 1) sc_wakes.nd rfl (by first | exact Or.inl rfl | exact Or.inr rfl) (pe_op op_cat (pv 1) (pe_lst (pa_cons (pe_xmk (T.c1 10 (by decide)) gd hr (pa_cons (pv 0) pa_nil)) (pa_cons (pe_xmk (T.c1 11 (by decide)) gd hr (pa_cons (pv 0) pa_nil)) (pa_cons (pe_xmk (T.c1 12 (by decide)) gd hr (pa_cons (pv 0) pa_nil)) (pa_cons (pe_xmk (T.c1 13 (by decide)) gd hr (pa_cons (pv 0) pa_nil)) (pa_cons (pe_xmk (T.c1 14 (by decide)) gd hr (pa_cons (pv 0) pa_nil)) pa_nil))))))))
      (pss_cons (ps_set (i := 1) sc_wakes.nd rfl (by first | exact Or.inl rfl | exact Or.inr rfl) (pe_op op_cat (pv 1) (pe_lst (pa_cons (pe_xmk (T.c1 15 (by decide)) gd hr (pa_cons (pv 0) pa_nil)) (pa_cons (pe_xmk (T.c1 16 (by decide)) gd hr (pa_cons (pv 0) pa_nil)) (pa_cons (pe_xmk (T.c1 17 (by decide)) gd hr (pa_cons (pv 0) pa_nil)) (pa_cons (pe_xmk (T.c1 18 (by decide)) gd hr (pa_cons (pv 0) pa_nil)) pa_nil)))))))
      (pss_cons (ps_set (i := 1) sc_wakes.nd rfl (by first | exact Or.inl rfl | exact Or.inr rfl) (pe_op op_cat (pv 1) (pe_lst (pa_cons (pe_xmk (T.c1 19 (by decide)) gd hr (pa_cons (pv 0) pa_nil)) (pa_cons (pe_xmk (T.c1 20 (by decide)) gd hr (pa_cons (pv 0) pa_nil)) (pa_cons (pe_xmk (T.c1 21 (by decide)) gd hr (pa_cons (pv 0) pa_nil)) (pa_cons (pe_xmk (T.c1 22 (by decide)) gd hr (pa_cons (pv 0) pa_nil)) pa_nil)))))))
      (pss_one (ps_ret (pe_op op_cat (pv 1) (pe_lst (pa_cons (pe_xmk (T.c1 23 (by decide)) gd hr (pa_cons (pv 0) pa_nil)) (pa_cons (pe_xmk (T.c1 24 (by decide)) gd hr (pa_cons (pv 0) pa_nil)) pa_nil)))))))))))), ?_⟩
    obtain ⟨v, rfl, q⟩ := h
    refine q_xl (K := K) (v := v) (u := u) (n0 := 0) (m := 5) (xl_lst (xa_cons (xe_1 (by decide) (fun _ _ z => ⟨_, rfl, z⟩)) (xa_cons (xe_1 (by decide) (fun _ _ z => ⟨_, rfl, z⟩)) (xa_cons (xe_1 (by decide) (fun _ _ z => ⟨_, rfl, z⟩)) (xa_cons (xe_1 (by decide) (fun _ _ z => ⟨_, rfl, z⟩)) (xa_cons (xe_1 (by decide) (fun _ _ z => ⟨_, rfl, z⟩)) xa_nil))))) (by decide)) fun p1 as1 H1 e1 g1 l1 x1 => ?_
    refine q_xlV (k := 5) (fun _ _ z => ⟨_, rfl, z⟩) (by rw [l1]; exact xl_lst (xa_cons (xe_1 (by decide) (fun _ _ z => ⟨_, rfl, z⟩)) (xa_cons (xe_1 (by decide) (fun _ _ z => ⟨_, rfl, z⟩)) (xa_cons (xe_1 (by decide) (fun _ _ z => ⟨_, rfl, z⟩)) (xa_cons (xe_1 (by decide) (fun _ _ z => ⟨_, rfl, z⟩)) (xa_cons (xe_1 (by decide) (fun _ _ z => ⟨_, rfl, z⟩)) xa_nil))))) (by decide)) (by omega) g1 x1 fun p2 as2 H2 e2 g2 l2 x2 => ?_
    refine q_xlV (k := 5) (fun _ _ z => ⟨_, rfl, z⟩) (by rw [l2, l1]; exact xl_lst (xa_cons (xe_1 (by decide) (fun _ _ z => ⟨_, rfl, z⟩)) (xa_cons (xe_1 (by decide) (fun _ _ z => ⟨_, rfl, z⟩)) (xa_cons (xe_1 (by decide) (fun _ _ z => ⟨_, rfl, z⟩)) (xa_cons (xe_1 (by decide) (fun _ _ z => ⟨_, rfl, z⟩)) (xa_cons (xe_1 (by decide) (fun _ _ z => ⟨_, rfl, z⟩)) xa_nil))))) (by decide)) (by omega) g2 x2 fun p3 as3 H3 e3 g3 l3 x3 => ?_
    refine q_xlV (k := 4) (fun _ _ z => ⟨_, rfl, z⟩) (by rw [l3, l2, l1]; exact xl_lst (xa_cons (xe_1 (by decide) (fun _ _ z => ⟨_, rfl, z⟩)) (xa_cons (xe_1 (by decide) (fun _ _ z => ⟨_, rfl, z⟩)) (xa_cons (xe_1 (by decide) (fun _ _ z => ⟨_, rfl, z⟩)) (xa_cons (xe_1 (by decide) (fun _ _ z => ⟨_, rfl, z⟩)) xa_nil)))) (by decide)) (by omega) g3 x3 fun p4 as4 H4 e4 g4 l4 x4 => ?_
    refine q_xlV (k := 4) (fun _ _ z => ⟨_, rfl, z⟩) (by rw [l4, l3, l2, l1]; exact xl_lst (xa_cons (xe_1 (by decide) (fun _ _ z => ⟨_, rfl, z⟩)) (xa_cons (xe_1 (by decide) (fun _ _ z => ⟨_, rfl, z⟩)) (xa_cons (xe_1 (by decide) (fun _ _ z => ⟨_, rfl, z⟩)) (xa_cons (xe_1 (by decide) (fun _ _ z => ⟨_, rfl, z⟩)) xa_nil)))) (by decide)) (by omega) g4 x4 fun p5 as5 H5 e5 g5 l5 x5 => ?_
    have e15 : Ex H H5 := e1.trans (e2.trans (e3.trans (e4.trans e5)))
    exact xl_catV (k := 2) (fun _ _ z => ⟨_, rfl, z⟩) (by rw [l5, l4, l3, l2, l1]; exact xl_lst (xa_cons (xe_1 (by decide) (fun _ _ z => ⟨_, rfl, z⟩)) (xa_cons (xe_1 (by decide) (fun _ _ z => ⟨_, rfl, z⟩)) xa_nil)) (by decide)) (by omega) g5 x5 fun t bs H6 n6 e6 g6 l6 x6 => q t bs H6 (fresh_back e15 n6) (e15.trans e6) g6 (by omega) x6

abbrev s_rest : Stmt := topS 44
theorem sc_rest : FnScope ["_law_some", "_law_more", "_law_found"] ["_law_some", "_law_more"] (defScope s_rest) := ⟨rfl, rfl, rfl, by decide +kernel, rfl, by decide +kernel, by decide +kernel⟩
theorem ok_rest {f : Addr} {fd : FuncData} (F : FunD K "_law_rest" "_law_rest" (defArgs s_rest) (defBody s_rest) (defScope s_rest) [] [] f fd) (T : Tx P w K mg base)  : FnG P w K mg base CX0 3 f fd ["_law_some", "_law_more"] (spRest K) := by
  refine fnG F sc_rest (fun vs H Q E h => ?_) (fun cdv A outer s H vs Q E gd hr h => ?_)
  · obtain ⟨v, u, rfl, _⟩ := h
    rfl
  · skip
    refine ⟨_, PSs.nox ((pss_cons (ps_set (i := 2) sc_rest.nd rfl (by first | exact Or.inl rfl | exact Or.inr rfl) (pe_lst (pa_cons (pe_xmk (T.c1 25 (by decide)) gd hr (pa_cons (pv 0) pa_nil)) (pa_cons (pe_xmk (T.c1 26 (by decide)) gd hr (pa_cons (pv 0) pa_nil)) (pa_cons (pe_xmk (T.c1 27 (by decide)) gd hr (pa_cons (pv 0) pa_nil)) (pa_cons (pe_xmk0 T.c0 gd hr) (pa_cons (pe_xmk (T.c2 29 (by decide)) gd hr (pa_cons (pv 0) (pa_cons (pv 1) pa_nil))) pa_nil)))))))
      (pss_one (ps_ret (pe_op op_cat (pv 2) (pe_lst (pa_cons (pe_xmk (T.c1 30 (by decide)) gd hr (pa_cons (pv 0) pa_nil)) (pa_cons (pe_xmk (T.c2 31 (by decide)) gd hr (pa_cons (pv 0) (pa_cons (pv 1) pa_nil))) pa_nil)))))))), ?_⟩
    obtain ⟨v, u, rfl, q⟩ := h
    refine q_xl (K := K) (v := v) (u := u) (n0 := 25) (m := 5) (xl_lst (xa_cons (xe_1 (by decide) (fun _ _ z => ⟨_, rfl, z⟩)) (xa_cons (xe_1 (by decide) (fun _ _ z => ⟨_, rfl, z⟩)) (xa_cons (xe_1 (by decide) (fun _ _ z => ⟨_, rfl, z⟩)) (xa_cons xe_0 (xa_cons (xe_2 (by decide) (fun _ _ z => ⟨_, rfl, z⟩) (fun _ _ z => ⟨_, rfl, z⟩)) xa_nil))))) (by decide)) fun p1 as1 H1 e1 g1 l1 x1 => ?_
    exact xl_catV (k := 2) (fun _ _ z => ⟨_, rfl, z⟩) (by rw [l1]; exact xl_lst (xa_cons (xe_1 (by decide) (fun _ _ z => ⟨_, rfl, z⟩)) (xa_cons (xe_2 (by decide) (fun _ _ z => ⟨_, rfl, z⟩) (fun _ _ z => ⟨_, rfl, z⟩)) xa_nil)) (by decide)) (by omega) g1 x1 fun t bs H6 n6 e6 g6 l6 x6 => q t bs H6 (fresh_back e1 n6) (e1.trans e6) g6 (by omega) x6

/-! ### which class, which bases -/
theorem ev_isC {σ : L2.St} {H : Hp} {a : Addr} {n : Nat} {fs : List (Str × V)} {c : V} {cv : Value} {b : Bool} (T : Tx P w K mg base) (hv : σ[0]? = some (some (.ref a))) (hx : Xo H a (ca K n) fs) (hn : n < 32) (hc : ∀ u, RelV c u → u = cv)
    (hk : PySem.W.kitOne K (.ref (ca K n)) cv = some b) : Ev (tCB (rIsX K) (tCons (tVar 0) (tCons (tC c) tNil))) σ H (.bl b) := fun H1 e Q q => ⟨_, hv, a, ca K n, fs, c, cv, b, rfl, hx.same e, T.xc n hn, hc, hk, q H1 (Ex.refl H1)⟩
theorem ev_isr {σ : L2.St} {H : Hp} {a : Addr} {n : Nat} {fs : List (Str × V)} (m : Nat) (T : Tx P w K mg base) (hv : σ[0]? = some (some (.ref a))) (hx : Xo H a (ca K n) fs) (hn : n < 32) (hm : m < 32) :
    Ev (tCB (rIsX K) (tCons (tVar 0) (tCons (tC (.ref (ca K m))) tNil))) σ H (.bl (n == m)) := ev_isC T hv hx hn (fun _ r => r) (T.kr n m hn hm)
theorem ev_isb {σ : L2.St} {H : Hp} {a : Addr} {n : Nat} {fs : List (Str × V)} (k : Nat) (T : Tx P w K mg base) (hv : σ[0]? = some (some (.ref a))) (hx : Xo H a (ca K n) fs) (hn : n < 32) (hk : k < 4) :
    Ev (tCB (rIsX K) (tCons (tVar 0) (tCons (tC (.ref (ba K k))) tNil))) σ H (.bl (kd n == k)) := ev_isC T hv hx hn (fun _ r => r) (T.kb n k hn hk)
theorem ev_ist {σ : L2.St} {H : Hp} {a : Addr} {n : Nat} {fs : List (Str × V)} (s : String) (T : Tx P w K mg base) (hv : σ[0]? = some (some (.ref a))) (hx : Xo H a (ca K n) fs) (hn : n < 32)
    (hs : s = "ValueError" ∨ s = "LookupError" ∨ s = "RuntimeError" ∨ s = "ArithmeticError" ∨ s = "TypeError" ∨ s = "KeyError" ∨ s = "IndexError" ∨ s = "OverflowError" ∨ s = "ZeroDivisionError" ∨ s = "NotImplementedError" ∨ s = "AttributeError" := by simp) :
    Ev (tCB (rIsX K) (tCons (tVar 0) (tCons (tC (.ty s)) tNil))) σ H (.bl (bb (kd n) == s)) := ev_isC T hv hx hn (fun _ r => r) (T.kt n s hn hs)
/-- a list of truths of the exception at hand -/
def spWhich (K : PySem.W.Frag) (xs : Nat → List Bool) : Sp := fun vs H Q _ => ∃ (a : Addr) (n : Nat) (fs : List (Str × V)), vs = [.ref a] ∧ n < 32 ∧ Xo H a (ca K n) fs ∧ RetL ((xs n).map V.bl) H Q
def b25 (n : Nat) : List Bool := [n == 0, n == 1, n == 2, n == 3, n == 4, n == 5, n == 6, n == 7, n == 8, n == 9, n == 10, n == 11, n == 12, n == 13, n == 14, n == 15, n == 16, n == 17, n == 18, n == 19, n == 20, n == 21, n == 22, n == 23, n == 24]
def b7 (n : Nat) : List Bool := [n == 25, n == 26, n == 27, n == 28, n == 29, n == 30, n == 31]
def b15 (n : Nat) : List Bool := [kd n == 0, kd n == 1, kd n == 2, kd n == 3, bb (kd n) == "ValueError", bb (kd n) == "LookupError", bb (kd n) == "RuntimeError", bb (kd n) == "ArithmeticError", bb (kd n) == "TypeError", bb (kd n) == "KeyError",
  bb (kd n) == "IndexError", bb (kd n) == "OverflowError", bb (kd n) == "ZeroDivisionError", bb (kd n) == "NotImplementedError", bb (kd n) == "AttributeError"]
abbrev s_which_wake : Stmt := topS 43
theorem sc_which_wake : FnScope ["_law_e", "_law_found"] ["_law_e"] (defScope s_which_wake) := ⟨rfl, rfl, rfl, by decide +kernel, rfl, by decide +kernel, by decide +kernel⟩
theorem ok_which_wake {f : Addr} {fd : FuncData} (F : FunD K "_law_which_wake" "_law_which_wake" (defArgs s_which_wake) (defBody s_which_wake) (defScope s_which_wake) [] [] f fd) (T : Tx P w K mg base)  : FnG P w K mg base CX0 1 f fd ["_law_e"] (spWhich K b25) := by
  refine fnG F sc_which_wake (fun vs H Q E h => ?_) (fun cdv A outer s H vs Q E gd hr h => ?_)
  · obtain ⟨a, n, fs, rfl, _⟩ := h
    rfl
  · skip
    refine ⟨_, PSs.nox ((pss_cons (ps_set (i := 1) sc_which_wake.nd rfl (by first | exact Or.inl rfl | exact Or.inr rfl) (pe_lst (pa_cons (pe_callB (call_isXK (K := K)) (by rfl) T.m_isinstance (by decide +kernel) (pa_cons (pv 0) (pa_cons (pe_glob (v := .ref (ca K 0)) (by rfl) (T.g 0 (by decide)) rfl) pa_nil))) (pa_cons (pe_callB (call_isXK (K := K)) (by rfl) T.m_isinstance (by decide +kernel) (pa_cons (pv 0) (pa_cons (pe_glob (v := .ref (ca K 1)) (by rfl) (T.g 1 (by decide)) rfl) pa_nil))) (pa_cons (pe_callB (call_isXK (K := K)) (by rfl) T.m_isinstance (by decide +kernel) (pa_cons (pv 0) (pa_cons (pe_glob (v := .ref (ca K 2)) (by rfl) (T.g 2 (by decide)) rfl) pa_nil))) pa_nil)))))
      (pss_cons (ps_set (i := 1) sc_which_wake.nd rfl (by first | exact Or.inl rfl | exact Or.inr rfl) (pe_op op_cat (pv 1) (pe_lst (pa_cons (pe_callB (call_isXK (K := K)) (by rfl) T.m_isinstance (by decide +kernel) (pa_cons (pv 0) (pa_cons (pe_glob (v := .ref (ca K 3)) (by rfl) (T.g 3 (by decide)) rfl) pa_nil))) (pa_cons (pe_callB (call_isXK (K := K)) (by rfl) T.m_isinstance (by decide +kernel) (pa_cons (pv 0) (pa_cons (pe_glob (v := .ref (ca K 4)) (by rfl) (T.g 4 (by decide)) rfl) pa_nil))) (pa_cons (pe_callB (call_isXK (K := K)) (by rfl) T.m_isinstance (by decide +kernel) (pa_cons (pv 0) (pa_cons (pe_glob (v := .ref (ca K 5)) (by rfl) (T.g 5 (by decide)) rfl) pa_nil))) pa_nil))))))
      (pss_cons (ps_set (i := 1) sc_which_wake.nd rfl (by first | exact Or.inl rfl | exact Or.inr rfl) (pe_op op_cat (pv 1) (pe_lst (pa_cons (pe_callB (call_isXK (K := K)) (by rfl) T.m_isinstance (by decide +kernel) (pa_cons (pv 0) (pa_cons (pe_glob (v := .ref (ca K 6)) (by rfl) (T.g 6 (by decide)) rfl) pa_nil))) (pa_cons (pe_callB (call_isXK (K := K)) (by rfl) T.m_isinstance (by decide +kernel) (pa_cons (pv 0) (pa_cons (pe_glob (v := .ref (ca K 7)) (by rfl) (T.g 7 (by decide)) rfl) pa_nil))) (pa_cons (pe_callB (call_isXK (K := K)) (by rfl) T.m_isinstance (by decide +kernel) (pa_cons (pv 0) (pa_cons (pe_glob (v := .ref (ca K 8)) (by rfl) (T.g 8 (by decide)) rfl) pa_nil))) pa_nil))))))
      (pss_cons (ps_set (i := 1) sc_which_wake.nd rfl (by first | exact Or.inl rfl | exact Or.inr rfl) (pe_op op_cat (pv 1) (pe_lst (pa_cons (pe_callB (call_isXK (K := K)) (by rfl) T.m_isinstance (by decide +kernel) (pa_cons (pv 0) (pa_cons (pe_glob (v := .ref (ca K 9)) (by rfl) (T.g 9 (by decide)) rfl) pa_nil))) (pa_cons (pe_callB (call_isXK (K := K)) (by rfl) T.m_isinstance (by decide +kernel) (pa_cons (pv 0) (pa_cons (pe_glob (v := .ref (ca K 10)) (by rfl) (T.g 10 (by decide)) rfl) pa_nil))) (pa_cons (pe_callB (call_isXK (K := K)) (by rfl) T.m_isinstance (by decide +kernel) (pa_cons (pv 0) (pa_cons (pe_glob (v := .ref (ca K 11)) (by rfl) (T.g 11 (by decide)) rfl) pa_nil))) pa_nil))))))
      (pss_cons (ps_set (i := 1) sc_which_wake.nd rfl (by first | exact Or.inl rfl | exact Or.inr rfl) (pe_op op_cat (pv 1) (pe_lst (pa_cons (pe_callB (call_isXK (K := K)) (by rfl) T.m_isinstance (by decide +kernel) (pa_cons (pv 0) (pa_cons (pe_glob (v := .ref (ca K 12)) (by rfl) (T.g 12 (by decide)) rfl) pa_nil))) (pa_cons (pe_callB (call_isXK (K := K)) (by rfl) T.m_isinstance (by decide +kernel) (pa_cons (pv 0) (pa_cons (pe_glob (v := .ref (ca K 13)) (by rfl) (T.g 13 (by decide)) rfl) pa_nil))) (pa_cons (pe_callB (call_isXK (K := K)) (by rfl) T.m_isinstance (by decide +kernel) (pa_cons (pv 0) (pa_cons (pe_glob (v := .ref (ca K 14)) (by rfl) (T.g 14 (by decide)) rfl) pa_nil))) pa_nil))))))
      (pss_cons (ps_set (i := 1) sc_which_wake.nd rfl (by first | exact Or.inl rfl | exact Or.inr rfl) (pe_op op_cat (pv 1) (pe_lst (pa_cons (pe_callB (call_isXK (K := K)) (by rfl) T.m_isinstance (by decide +kernel) (pa_cons (pv 0) (pa_cons (pe_glob (v := .ref (ca K 15)) (by rfl) (T.g 15 (by decide)) rfl) pa_nil))) (pa_cons (pe_callB (call_isXK (K := K)) (by rfl) T.m_isinstance (by decide +kernel) (pa_cons (pv 0) (pa_cons (pe_glob (v := .ref (ca K 16)) (by rfl) (T.g 16 (by decide)) rfl) pa_nil))) (pa_cons (pe_callB (call_isXK (K := K)) (by rfl) T.m_isinstance (by decide +kernel) (pa_cons (pv 0) (pa_cons (pe_glob (v := .ref (ca K 17)) (by rfl) (T.g 17 (by decide)) rfl) pa_nil))) pa_nil))))))
      (pss_cons (ps_set (i := 1) sc_which_wake.nd rfl (by first | exact Or.inl rfl | exact Or.inr rfl) (pe_op op_cat (pv 1) (pe_lst (pa_cons (pe_callB (call_isXK (K := K)) (by rfl) T.m_isinstance (by decide +kernel) (pa_cons (pv 0) (pa_cons (pe_glob (v := .ref (ca K 18)) (by rfl) (T.g 18 (by decide)) rfl) pa_nil))) (pa_cons (pe_callB (call_isXK (K := K)) (by rfl) T.m_isinstance (by decide +kernel) (pa_cons (pv 0) (pa_cons (pe_glob (v := .ref (ca K 19)) (by rfl) (T.g 19 (by decide)) rfl) pa_nil))) (pa_cons (pe_callB (call_isXK (K := K)) (by rfl) T.m_isinstance (by decide +kernel) (pa_cons (pv 0) (pa_cons (pe_glob (v := .ref (ca K 20)) (by rfl) (T.g 20 (by decide)) rfl) pa_nil))) pa_nil))))))
      (pss_cons (ps_set (i := 1) sc_which_wake.nd rfl (by first | exact Or.inl rfl | exact Or.inr rfl) (pe_op op_cat (pv 1) (pe_lst (pa_cons (pe_callB (call_isXK (K := K)) (by rfl) T.m_isinstance (by decide +kernel) (pa_cons (pv 0) (pa_cons (pe_glob (v := .ref (ca K 21)) (by rfl) (T.g 21 (by decide)) rfl) pa_nil))) (pa_cons (pe_callB (call_isXK (K := K)) (by rfl) T.m_isinstance (by decide +kernel) (pa_cons (pv 0) (pa_cons (pe_glob (v := .ref (ca K 22)) (by rfl) (T.g 22 (by decide)) rfl) pa_nil))) (pa_cons (pe_callB (call_isXK (K := K)) (by rfl) T.m_isinstance (by decide +kernel) (pa_cons (pv 0) (pa_cons (pe_glob (v := .ref (ca K 23)) (by rfl) (T.g 23 (by decide)) rfl) pa_nil))) pa_nil))))))
      (pss_one (ps_ret (pe_op op_cat (pv 1) (pe_lst (pa_cons (pe_callB (call_isXK (K := K)) (by rfl) T.m_isinstance (by decide +kernel) (pa_cons (pv 0) (pa_cons (pe_glob (v := .ref (ca K 24)) (by rfl) (T.g 24 (by decide)) rfl) pa_nil))) pa_nil)))))))))))))), ?_⟩
    obtain ⟨a, n, fs, rfl, hn, hx, q⟩ := h
    refine q_asgL (el_lst (ea_cons (ev_isr 0 T rfl hx hn (by decide)) (ea_cons (ev_isr 1 T rfl hx hn (by decide)) (ea_cons (ev_isr 2 T rfl hx hn (by decide)) ea_nil))) (Nat.le_of_ble_eq_true rfl)) fun p1 H1 _ e1 g1 => ?_
    have x1 := hx.same e1
    refine q_asgL (el_catV (ev_var rfl) g1 (el_lst (ea_cons (ev_isr 3 T rfl x1 hn (by decide)) (ea_cons (ev_isr 4 T rfl x1 hn (by decide)) (ea_cons (ev_isr 5 T rfl x1 hn (by decide)) ea_nil))) (Nat.le_of_ble_eq_true rfl)) (Nat.le_of_ble_eq_true rfl)) fun p2 H2 _ e2 g2 => ?_
    have x2 := x1.same e2
    refine q_asgL (el_catV (ev_var rfl) g2 (el_lst (ea_cons (ev_isr 6 T rfl x2 hn (by decide)) (ea_cons (ev_isr 7 T rfl x2 hn (by decide)) (ea_cons (ev_isr 8 T rfl x2 hn (by decide)) ea_nil))) (Nat.le_of_ble_eq_true rfl)) (Nat.le_of_ble_eq_true rfl)) fun p3 H3 _ e3 g3 => ?_
    have x3 := x2.same e3
    refine q_asgL (el_catV (ev_var rfl) g3 (el_lst (ea_cons (ev_isr 9 T rfl x3 hn (by decide)) (ea_cons (ev_isr 10 T rfl x3 hn (by decide)) (ea_cons (ev_isr 11 T rfl x3 hn (by decide)) ea_nil))) (Nat.le_of_ble_eq_true rfl)) (Nat.le_of_ble_eq_true rfl)) fun p4 H4 _ e4 g4 => ?_
    have x4 := x3.same e4
    refine q_asgL (el_catV (ev_var rfl) g4 (el_lst (ea_cons (ev_isr 12 T rfl x4 hn (by decide)) (ea_cons (ev_isr 13 T rfl x4 hn (by decide)) (ea_cons (ev_isr 14 T rfl x4 hn (by decide)) ea_nil))) (Nat.le_of_ble_eq_true rfl)) (Nat.le_of_ble_eq_true rfl)) fun p5 H5 _ e5 g5 => ?_
    have x5 := x4.same e5
    refine q_asgL (el_catV (ev_var rfl) g5 (el_lst (ea_cons (ev_isr 15 T rfl x5 hn (by decide)) (ea_cons (ev_isr 16 T rfl x5 hn (by decide)) (ea_cons (ev_isr 17 T rfl x5 hn (by decide)) ea_nil))) (Nat.le_of_ble_eq_true rfl)) (Nat.le_of_ble_eq_true rfl)) fun p6 H6 _ e6 g6 => ?_
    have x6 := x5.same e6
    refine q_asgL (el_catV (ev_var rfl) g6 (el_lst (ea_cons (ev_isr 18 T rfl x6 hn (by decide)) (ea_cons (ev_isr 19 T rfl x6 hn (by decide)) (ea_cons (ev_isr 20 T rfl x6 hn (by decide)) ea_nil))) (Nat.le_of_ble_eq_true rfl)) (Nat.le_of_ble_eq_true rfl)) fun p7 H7 _ e7 g7 => ?_
    have x7 := x6.same e7
    refine q_asgL (el_catV (ev_var rfl) g7 (el_lst (ea_cons (ev_isr 21 T rfl x7 hn (by decide)) (ea_cons (ev_isr 22 T rfl x7 hn (by decide)) (ea_cons (ev_isr 23 T rfl x7 hn (by decide)) ea_nil))) (Nat.le_of_ble_eq_true rfl)) (Nat.le_of_ble_eq_true rfl)) fun p8 H8 _ e8 g8 => ?_
    have x8 := x7.same e8
    have ee : Ex H H8 := e1.trans (e2.trans (e3.trans (e4.trans (e5.trans (e6.trans (e7.trans e8))))))
    exact s_retL (el_catV (ev_var rfl) g8 (el_lst (ea_cons (ev_isr 24 T rfl x8 hn (by decide)) ea_nil) (Nat.le_of_ble_eq_true rfl)) (Nat.le_of_ble_eq_true rfl)) fun p9 H9 n9 e9 g9 => q p9 H9 (fresh_back ee n9) (ee.trans e9) g9

abbrev s_which_rest : Stmt := topS 45
theorem sc_which_rest : FnScope ["_law_e", "_law_found"] ["_law_e"] (defScope s_which_rest) := ⟨rfl, rfl, rfl, by decide +kernel, rfl, by decide +kernel, by decide +kernel⟩
theorem ok_which_rest {f : Addr} {fd : FuncData} (F : FunD K "_law_which_rest" "_law_which_rest" (defArgs s_which_rest) (defBody s_which_rest) (defScope s_which_rest) [] [] f fd) (T : Tx P w K mg base)  : FnG P w K mg base CX0 1 f fd ["_law_e"] (spWhich K b7) := by
  refine fnG F sc_which_rest (fun vs H Q E h => ?_) (fun cdv A outer s H vs Q E gd hr h => ?_)
  · obtain ⟨a, n, fs, rfl, _⟩ := h
    rfl
  · skip
    refine ⟨_, PSs.nox ((pss_cons (ps_set (i := 1) sc_which_rest.nd rfl (by first | exact Or.inl rfl | exact Or.inr rfl) (pe_lst (pa_cons (pe_callB (call_isXK (K := K)) (by rfl) T.m_isinstance (by decide +kernel) (pa_cons (pv 0) (pa_cons (pe_glob (v := .ref (ca K 25)) (by rfl) (T.g 25 (by decide)) rfl) pa_nil))) (pa_cons (pe_callB (call_isXK (K := K)) (by rfl) T.m_isinstance (by decide +kernel) (pa_cons (pv 0) (pa_cons (pe_glob (v := .ref (ca K 26)) (by rfl) (T.g 26 (by decide)) rfl) pa_nil))) (pa_cons (pe_callB (call_isXK (K := K)) (by rfl) T.m_isinstance (by decide +kernel) (pa_cons (pv 0) (pa_cons (pe_glob (v := .ref (ca K 27)) (by rfl) (T.g 27 (by decide)) rfl) pa_nil))) pa_nil)))))
      (pss_cons (ps_set (i := 1) sc_which_rest.nd rfl (by first | exact Or.inl rfl | exact Or.inr rfl) (pe_op op_cat (pv 1) (pe_lst (pa_cons (pe_callB (call_isXK (K := K)) (by rfl) T.m_isinstance (by decide +kernel) (pa_cons (pv 0) (pa_cons (pe_glob (v := .ref (ca K 28)) (by rfl) (T.g 28 (by decide)) rfl) pa_nil))) (pa_cons (pe_callB (call_isXK (K := K)) (by rfl) T.m_isinstance (by decide +kernel) (pa_cons (pv 0) (pa_cons (pe_glob (v := .ref (ca K 29)) (by rfl) (T.g 29 (by decide)) rfl) pa_nil))) (pa_cons (pe_callB (call_isXK (K := K)) (by rfl) T.m_isinstance (by decide +kernel) (pa_cons (pv 0) (pa_cons (pe_glob (v := .ref (ca K 30)) (by rfl) (T.g 30 (by decide)) rfl) pa_nil))) pa_nil))))))
      (pss_one (ps_ret (pe_op op_cat (pv 1) (pe_lst (pa_cons (pe_callB (call_isXK (K := K)) (by rfl) T.m_isinstance (by decide +kernel) (pa_cons (pv 0) (pa_cons (pe_glob (v := .ref (ca K 31)) (by rfl) (T.g 31 (by decide)) rfl) pa_nil))) pa_nil)))))))), ?_⟩
    obtain ⟨a, n, fs, rfl, hn, hx, q⟩ := h
    refine q_asgL (el_lst (ea_cons (ev_isr 25 T rfl hx hn (by decide)) (ea_cons (ev_isr 26 T rfl hx hn (by decide)) (ea_cons (ev_isr 27 T rfl hx hn (by decide)) ea_nil))) (Nat.le_of_ble_eq_true rfl)) fun p1 H1 _ e1 g1 => ?_
    have x1 := hx.same e1
    refine q_asgL (el_catV (ev_var rfl) g1 (el_lst (ea_cons (ev_isr 28 T rfl x1 hn (by decide)) (ea_cons (ev_isr 29 T rfl x1 hn (by decide)) (ea_cons (ev_isr 30 T rfl x1 hn (by decide)) ea_nil))) (Nat.le_of_ble_eq_true rfl)) (Nat.le_of_ble_eq_true rfl)) fun p2 H2 _ e2 g2 => ?_
    have x2 := x1.same e2
    have ee : Ex H H2 := e1.trans e2
    exact s_retL (el_catV (ev_var rfl) g2 (el_lst (ea_cons (ev_isr 31 T rfl x2 hn (by decide)) ea_nil) (Nat.le_of_ble_eq_true rfl)) (Nat.le_of_ble_eq_true rfl)) fun p9 H9 n9 e9 g9 => q p9 H9 (fresh_back ee n9) (ee.trans e9) g9

abbrev s_bases : Stmt := topS 46
theorem sc_bases : FnScope ["_law_e", "_law_found", "_law_kin"] ["_law_e"] (defScope s_bases) := ⟨rfl, rfl, rfl, by decide +kernel, rfl, by decide +kernel, by decide +kernel⟩
theorem ok_bases {f : Addr} {fd : FuncData} (F : FunD K "_law_bases" "_law_bases" (defArgs s_bases) (defBody s_bases) (defScope s_bases) [] [] f fd) (T : Tx P w K mg base)  : FnG P w K mg base CX0 1 f fd ["_law_e"] (spWhich K b15) := by
  refine fnG F sc_bases (fun vs H Q E h => ?_) (fun cdv A outer s H vs Q E gd hr h => ?_)
  · obtain ⟨a, n, fs, rfl, _⟩ := h
    rfl
  · skip
    refine ⟨_, PSs.nox ((pss_cons (ps_set (i := 1) sc_bases.nd rfl (by first | exact Or.inl rfl | exact Or.inr rfl) (pe_lst (pa_cons (pe_callB (call_isXK (K := K)) (by rfl) T.m_isinstance (by decide +kernel) (pa_cons (pv 0) (pa_cons (pe_glob (v := .ref (ba K 0)) (by rfl) (T.gb 0 (by decide)) rfl) pa_nil))) (pa_cons (pe_callB (call_isXK (K := K)) (by rfl) T.m_isinstance (by decide +kernel) (pa_cons (pv 0) (pa_cons (pe_glob (v := .ref (ba K 1)) (by rfl) (T.gb 1 (by decide)) rfl) pa_nil))) (pa_cons (pe_callB (call_isXK (K := K)) (by rfl) T.m_isinstance (by decide +kernel) (pa_cons (pv 0) (pa_cons (pe_glob (v := .ref (ba K 2)) (by rfl) (T.gb 2 (by decide)) rfl) pa_nil))) pa_nil)))))
      (pss_cons (ps_set (i := 1) sc_bases.nd rfl (by first | exact Or.inl rfl | exact Or.inr rfl) (pe_op op_cat (pv 1) (pe_lst (pa_cons (pe_callB (call_isXK (K := K)) (by rfl) T.m_isinstance (by decide +kernel) (pa_cons (pv 0) (pa_cons (pe_glob (v := .ref (ba K 3)) (by rfl) (T.gb 3 (by decide)) rfl) pa_nil))) (pa_cons (pe_callB (call_isXK (K := K)) (by rfl) T.m_isinstance (by decide +kernel) (pa_cons (pv 0) (pa_cons (pe_bltn (v := .ty "ValueError") (by rfl) T.m_ValueError (by decide +kernel) rfl) pa_nil))) (pa_cons (pe_callB (call_isXK (K := K)) (by rfl) T.m_isinstance (by decide +kernel) (pa_cons (pv 0) (pa_cons (pe_bltn (v := .ty "LookupError") (by rfl) T.m_LookupError (by decide +kernel) rfl) pa_nil))) pa_nil))))))
      (pss_cons (ps_set (i := 1) sc_bases.nd rfl (by first | exact Or.inl rfl | exact Or.inr rfl) (pe_op op_cat (pv 1) (pe_lst (pa_cons (pe_callB (call_isXK (K := K)) (by rfl) T.m_isinstance (by decide +kernel) (pa_cons (pv 0) (pa_cons (pe_bltn (v := .ty "RuntimeError") (by rfl) T.m_RuntimeError (by decide +kernel) rfl) pa_nil))) (pa_cons (pe_callB (call_isXK (K := K)) (by rfl) T.m_isinstance (by decide +kernel) (pa_cons (pv 0) (pa_cons (pe_bltn (v := .ty "ArithmeticError") (by rfl) T.m_ArithmeticError (by decide +kernel) rfl) pa_nil))) pa_nil)))))
      (pss_cons (ps_set (i := 2) sc_bases.nd rfl (by first | exact Or.inl rfl | exact Or.inr rfl) (pe_lst (pa_cons (pe_callB (call_isXK (K := K)) (by rfl) T.m_isinstance (by decide +kernel) (pa_cons (pv 0) (pa_cons (pe_bltn (v := .ty "TypeError") (by rfl) T.m_TypeError (by decide +kernel) rfl) pa_nil))) (pa_cons (pe_callB (call_isXK (K := K)) (by rfl) T.m_isinstance (by decide +kernel) (pa_cons (pv 0) (pa_cons (pe_bltn (v := .ty "KeyError") (by rfl) T.m_KeyError (by decide +kernel) rfl) pa_nil))) (pa_cons (pe_callB (call_isXK (K := K)) (by rfl) T.m_isinstance (by decide +kernel) (pa_cons (pv 0) (pa_cons (pe_bltn (v := .ty "IndexError") (by rfl) T.m_IndexError (by decide +kernel) rfl) pa_nil))) (pa_cons (pe_callB (call_isXK (K := K)) (by rfl) T.m_isinstance (by decide +kernel) (pa_cons (pv 0) (pa_cons (pe_bltn (v := .ty "OverflowError") (by rfl) T.m_OverflowError (by decide +kernel) rfl) pa_nil))) pa_nil))))))
      (pss_cons (ps_set (i := 2) sc_bases.nd rfl (by first | exact Or.inl rfl | exact Or.inr rfl) (pe_op op_cat (pv 2) (pe_lst (pa_cons (pe_callB (call_isXK (K := K)) (by rfl) T.m_isinstance (by decide +kernel) (pa_cons (pv 0) (pa_cons (pe_bltn (v := .ty "ZeroDivisionError") (by rfl) T.m_ZeroDivisionError (by decide +kernel) rfl) pa_nil))) (pa_cons (pe_callB (call_isXK (K := K)) (by rfl) T.m_isinstance (by decide +kernel) (pa_cons (pv 0) (pa_cons (pe_bltn (v := .ty "NotImplementedError") (by rfl) T.m_NotImplementedError (by decide +kernel) rfl) pa_nil))) (pa_cons (pe_callB (call_isXK (K := K)) (by rfl) T.m_isinstance (by decide +kernel) (pa_cons (pv 0) (pa_cons (pe_bltn (v := .ty "AttributeError") (by rfl) T.m_AttributeError (by decide +kernel) rfl) pa_nil))) pa_nil))))))
      (pss_one (ps_ret (pe_op op_cat (pv 1) (pv 2)))))))))), ?_⟩
    obtain ⟨a, n, fs, rfl, hn, hx, q⟩ := h
    have R : ∀ {σ : L2.St} {H : Hp} (_ : σ[0]? = some (some (.ref a))) (_ : Xo H a (ca K n) fs) (s : String) (hs), Ev (tCB (rIsX K) (tCons (tVar 0) (tCons (tC (.ty s)) tNil))) σ H (.bl (bb (kd n) == s)) := fun hv hx s hs => ev_ist s T hv hx hn hs
    refine q_asgL (el_lst (ea_cons (ev_isb 0 T rfl hx hn (by decide)) (ea_cons (ev_isb 1 T rfl hx hn (by decide)) (ea_cons (ev_isb 2 T rfl hx hn (by decide)) ea_nil))) (Nat.le_of_ble_eq_true rfl)) fun p1 H1 _ e1 g1 => ?_
    have x1 := hx.same e1
    refine q_asgL (el_catV (ev_var rfl) g1 (el_lst (ea_cons (ev_isb 3 T rfl x1 hn (by decide)) (ea_cons (ev_ist "ValueError" T rfl x1 hn) (ea_cons (ev_ist "LookupError" T rfl x1 hn) ea_nil))) (Nat.le_of_ble_eq_true rfl)) (Nat.le_of_ble_eq_true rfl)) fun p2 H2 _ e2 g2 => ?_
    have x2 := x1.same e2
    refine q_asgL (el_catV (ev_var rfl) g2 (el_lst (ea_cons (ev_ist "RuntimeError" T rfl x2 hn) (ea_cons (ev_ist "ArithmeticError" T rfl x2 hn) ea_nil)) (Nat.le_of_ble_eq_true rfl)) (Nat.le_of_ble_eq_true rfl)) fun p3 H3 _ e3 g3 => ?_
    have x3 := x2.same e3
    refine q_asgL (el_lst (ea_cons (ev_ist "TypeError" T rfl x3 hn) (ea_cons (ev_ist "KeyError" T rfl x3 hn) (ea_cons (ev_ist "IndexError" T rfl x3 hn) (ea_cons (ev_ist "OverflowError" T rfl x3 hn) ea_nil)))) (Nat.le_of_ble_eq_true rfl)) fun p4 H4 _ e4 g4 => ?_
    have x4 := x3.same e4
    refine q_asgL (el_catV (ev_var rfl) g4 (el_lst (ea_cons (ev_ist "ZeroDivisionError" T rfl x4 hn) (ea_cons (ev_ist "NotImplementedError" T rfl x4 hn) (ea_cons (ev_ist "AttributeError" T rfl x4 hn) ea_nil))) (Nat.le_of_ble_eq_true rfl)) (Nat.le_of_ble_eq_true rfl)) fun p5 H5 _ e5 g5 => ?_
    have g3' := e5 _ _ (e4 _ _ g3)
    have ee : Ex H H5 := e1.trans (e2.trans (e3.trans (e4.trans e5)))
    refine s_retL (xs := (b15 n).map V.bl) (fun H6 e6 Q' q' => ⟨_, rfl, _, rfl, p3, p5, _, _, rfl, rfl, e6 _ _ g3', e6 _ _ g5, by show 15 ≤ sizeLine; decide, fun t ht => q' t _ ht (Ex.new ht) upd_same⟩) fun p9 H9 n9 e9 g9 => q p9 H9 (fresh_back ee n9) (ee.trans e9) g9

end
end K16
namespace K16
open PySem PySem.Spec PyProof.Rows L2 Lw Evl
open LwX (XC XF)
section
variable {P : Program} {w : World} {K : PySem.W.Frag} {mg : Str → Option Value} {base : Heap}
/-! ### the two lists together; the calls as readings -/
theorem xl_wakes {σ : L2.St} {v u : V} (hv : σ[0]? = some (some v)) : XL K v u σ 0 25 (tCall (spWakes K u) [] E0 (tCons (tVar 0) tNil)) := fun H Q q => ⟨_, hv, v, rfl, fun p as H' hp e g l x => q p as H' hp e g l x⟩
theorem xl_rest {σ : L2.St} {v u : V} (hv : σ[0]? = some (some v)) (hu : σ[1]? = some (some u)) : XL K v u σ 25 7 (tCall (spRest K) [] E0 (tCons (tVar 0) (tCons (tVar 1) tNil))) := fun H Q q => ⟨_, hv, _, hu, v, u, rfl, fun p as H' hp e g l x => q p as H' hp e g l x⟩
theorem el_which {σ : L2.St} {H : Hp} {xs : Nat → List Bool} {i n : Nat} {a : Addr} {fs : List (Str × V)} (hv : σ[i]? = some (some (.ref a))) (hn : n < 32) (hx : Xo H a (ca K n) fs) : EvL (tCall (spWhich K xs) [] E0 (tCons (tVar i) tNil)) σ H ((xs n).map V.bl) :=
  el_call (ea_cons (ev_var hv) ea_nil) fun H1 e Q q E => ⟨a, n, fs, rfl, hn, hx.same e, fun p H2 hp e2 g => q p H2 hp e2 g⟩
theorem b32 : ∀ n, n < 32 → b25 n ++ b7 n = (List.range 32).map fun t => decide (t = n) := by decide +kernel
theorem b15e : ∀ n, n < 32 → b15 n = (List.range 15).map fun t => decide (t = kd n) || decide (t = kd n + 4) := by decide +kernel
theorem dec_int (t n : Nat) : decide (V.int (t : Int) = V.int (n : Int)) = decide (t = n) := by
  by_cases h : t = n
  · subst h
    simp
  · rw [decide_eq_false h, decide_eq_false]
    intro z
    exact h (by injection z with z; omega)
theorem in_two' : ∀ k : Nat, k < 4 → ∀ t : Nat, t < 15 → inV (V.int (t : Int)) [V.int (k : Int), V.int ((k : Int) + 4)] = (decide (t = k) || decide (t = k + 4)) := by decide +kernel
theorem in_two (k t : Nat) (h : k < 4) (h2 : t < 15) : inV (V.int (t : Int)) [V.int (k : Int), V.int ((k : Int) + 4)] = (decide (t = k) || decide (t = k + 4)) := in_two' k h t h2
def spSure : Sp := fun vs H Q _ => ∃ v u : V, vs = [v, u] ∧ ∀ H', Ex H H' → Q (.bl true) H'
abbrev s_classes_right : Stmt := topS 47
theorem sc_classes_right : FnScope ["_law_some", "_law_more", "_law_made", "_law_place", "_law_e", "_law_turn", "_law_base"] ["_law_some", "_law_more"] (defScope s_classes_right) := ⟨rfl, rfl, rfl, by decide +kernel, rfl, by decide +kernel, by decide +kernel⟩
theorem ok_classes_right {f : Addr} {fd : FuncData} (F : FunD K "_law_classes_right" "_law_classes_right" (defArgs s_classes_right) (defBody s_classes_right) (defScope s_classes_right) [] [] f fd) (T : Tx P w K mg base) (d_law_wakes : ∀ u, Cal P w K mg base CX0 3 "_law_wakes" ["_law_some"] (spWakes K u)) (d_law_rest : Cal P w K mg base CX0 3 "_law_rest" ["_law_some", "_law_more"] (spRest K)) (d_law_which_wake : Cal P w K mg base CX0 1 "_law_which_wake" ["_law_e"] (spWhich K b25)) (d_law_which_rest : Cal P w K mg base CX0 1 "_law_which_rest" ["_law_e"] (spWhich K b7)) (d_law_bases : Cal P w K mg base CX0 1 "_law_bases" ["_law_e"] (spWhich K b15)) : FnG P w K mg base CX0 4 f fd ["_law_some", "_law_more"] spSure := by
  refine fnG F sc_classes_right (fun vs H Q E h => ?_) (fun cdv A outer s H vs Q E gd hr h => ?_)
  · obtain ⟨v, u, rfl, _⟩ := h
    rfl
  · obtain ⟨v, u, rfl, q⟩ := h; have d_law_wakes := d_law_wakes u
    refine ⟨_, PSs.nox ((pss_cons (ps_set (i := 2) sc_classes_right.nd rfl (by first | exact Or.inl rfl | exact Or.inr rfl) (pe_op op_cat (pe_cal d_law_wakes gd hr (pa_cons (pv 0) pa_nil)) (pe_cal d_law_rest gd hr (pa_cons (pv 0) (pa_cons (pv 1) pa_nil)))))
      (pss_cons (ps_for PassesOwn.never rfl (pi_enum (by rfl) T.m_enumerate (pa_cons (pv 2) pa_nil)) (pg_tup (n := 2) rfl (pgs_cons (pg_name (i := 3) sc_classes_right.nd rfl (by first | exact Or.inl rfl | exact Or.inr rfl)) (pgs_cons (pg_name (i := 4) sc_classes_right.nd rfl (by first | exact Or.inl rfl | exact Or.inr rfl)) pgs_nil))) (pss_cons (ps_if (pt_cmpR (op_neDK (K := K) hr.units) (pe_op op_cat (pe_cal d_law_which_wake gd hr (pa_cons (pv 4) pa_nil)) (pe_cal d_law_which_rest gd hr (pa_cons (pv 4) pa_nil))) (pe_lc (own := [("_law_turn", 5)]) (g := gName 5) (tt := tYes) rfl sc_classes_right.nd (pi_range1 (by rfl) T.m_range (pa_cons (pe_callB (call_lenK (K := K)) (by rfl) T.m_len (by decide +kernel) (pa_cons (pv 2) pa_nil)) pa_nil)) (blkOk_by (own := [("_law_turn", 5)]) (N := ["_law_some", "_law_more", "_law_made", "_law_place", "_law_e", "_law_turn", "_law_base"]) (sc := defScope s_classes_right) (by decide +kernel)) (fun _ _ _ _ _ => pg_name (i := 5) sc_classes_right.nd rfl (Or.inl rfl)) (fun _ _ _ _ _ => pts_nil) (fun _ _ _ _ _ => (pe_cmpR op_eq (pv 5) (pv 3) (nomark _)))) (nomark _)) (pss_one (ps_ret pe_bl)) pss_nil)
      (pss_cons (ps_set (i := 6) sc_classes_right.nd rfl (by first | exact Or.inl rfl | exact Or.inr rfl) (pe_ifExp (pt_cmpR op_lt (pv 3) pe_int (nomark _)) pe_int (pe_ifExp (pt_cmpR op_lt (pv 3) pe_int (nomark _)) pe_int (pe_ifExp (pt_cmpR op_lt (pv 3) pe_int (nomark _)) pe_int pe_int))))
      (pss_one (ps_if (pt_cmpR (op_neDK (K := K) hr.units) (pe_cal d_law_bases gd hr (pa_cons (pv 4) pa_nil)) (pe_lc (own := [("_law_turn", 5)]) (g := gName 5) (tt := tYes) rfl sc_classes_right.nd (pi_range1 (by rfl) T.m_range (pa_cons pe_int pa_nil)) (blkOk_by (own := [("_law_turn", 5)]) (N := ["_law_some", "_law_more", "_law_made", "_law_place", "_law_e", "_law_turn", "_law_base"]) (sc := defScope s_classes_right) (by decide +kernel)) (fun _ _ _ _ _ => pg_name (i := 5) sc_classes_right.nd rfl (Or.inl rfl)) (fun _ _ _ _ _ => pts_nil) (fun _ _ _ _ _ => (pe_cmpR (op_inK (K := K)) (pv 5) (pe_tup (pa_cons (pv 6) (pa_cons (pe_op op_add (pv 6) pe_int) pa_nil))) (by rfl)))) (nomark _)) (pss_one (ps_ret pe_bl)) pss_nil)))))
      (pss_one (ps_ret pe_bl))))), ?_⟩
    refine q_xl (K := K) (v := v) (u := u) (n0 := 0) (m := 32) (xl_cat (xl_wakes rfl) (xl_rest rfl rfl) (by decide)) fun p as H1 e1 g1 l1 x1 => ?_
    refine ⟨_, rfl, p, as.map V.ref, rfl, SqL.of g1, for_enum (xs := as.map V.ref) (fun i σ' H' => ∃ a3 a4 a5 a6, σ' = [some v, some u, some (.ref p), a3, a4, a5, a6] ∧ Ex H1 H') ⟨_, _, _, _, rfl, Ex.refl _⟩
      (fun i σ' H' _ z => by
        obtain ⟨_, _, _, _, _, e⟩ := z
        exact SqL.of (e _ _ g1)) (fun i y σ' H' t hy hP ht => ?_) ?_⟩
    · obtain ⟨a3, a4, a5, a6, rfl, e⟩ := hP
      obtain ⟨a, ha, rfl⟩ : ∃ a, as[i]? = some a ∧ y = V.ref a := by
        rw [List.getElem?_map] at hy
        cases z : as[i]? with
        | none =>
          rw [z] at hy
          cases hy
        | some a =>
          rw [z] at hy
          exact ⟨a, rfl, (Option.some.inj hy).symm⟩
      have hi : i < 32 := by
        have z := (List.getElem?_eq_some_iff.mp ha).1
        omega
      have xo : Xo H1 a (ca K i) (ats i v u) := by
        have z := x1 i a ha
        rw [Nat.zero_add] at z
        exact z
      have et : Ex H1 (upd H' t (.tup [.int (i : Nat), .ref a])) := e.trans (Ex.new ht)
      have xo2 := xo.same et
      refine ⟨t, _, rfl, SqT.of upd_same, rfl, _, _, rfl, _, _, rfl, rfl, ?_⟩
      refine q_when (b := false) (et_test (ev_sameB (bs := (List.range 32).map fun t => decide (t = i)) (el_cat (el_which rfl hi xo2) (el_which rfl hi xo2) (Nat.le_of_ble_eq_true rfl))
        (el_lcR1 (n := 32) (fun _ => true) (fun t => .bl (decide (V.int (t : Int) = V.int (i : Int)))) (ea_cons (ev_is (ev_len (ev_var rfl) (SqL.of (et _ _ g1))) (by rw [List.length_map, l1]; rfl)) ea_nil) (by decide) (fun _ => rfl) (fun _ _ _ _ => et_yes) (fun t H3 e3 _ _ => ev_op (ev_var rfl) (ev_var rfl) (rv_eq rfl)))
        (by rw [← List.map_append, b32 i hi]) ?_)) (fun z => by cases z) (fun _ H2 e2 => ?_)
      · rw [show (32 : Int).toNat = 32 from rfl, given_all, List.map_map]
        refine List.map_congr_left fun t _ => ?_
        show V.bl _ = V.bl _
        rw [dec_int]
      · have kdv : ∀ k : Nat, kd i = k → V.int (k : Int) = V.int (kd i : Nat) := fun k z => by rw [z]
        refine q_asg (v := .int (kd i : Nat)) (ev_if (b := decide ((i : Int) < 25)) (et_test (ev_op (ev_var rfl) ev_c rv_I0)) (fun z => ev_is ev_c (kdv 0 ?_)) (fun z => ev_if (b := decide ((i : Int) < 29)) (et_test (ev_op (ev_var rfl) ev_c rv_I0)) (fun z2 => ev_is ev_c (kdv 1 ?_))
          (fun z2 => ev_if (b := decide ((i : Int) < 31)) (et_test (ev_op (ev_var rfl) ev_c rv_I0)) (fun z3 => ev_is ev_c (kdv 2 ?_)) (fun z3 => ev_is ev_c (kdv 3 ?_))))) fun H3 e3 => ?_
        · have := of_decide_eq_true z
          unfold kd
          rw [if_pos (by omega)]
        · have := of_decide_eq_false z
          have := of_decide_eq_true z2
          unfold kd
          rw [if_neg (by omega), if_pos (by omega)]
        · have := of_decide_eq_false z
          have := of_decide_eq_false z2
          have := of_decide_eq_true z3
          unfold kd
          rw [if_neg (by omega), if_neg (by omega), if_pos (by omega)]
        · have := of_decide_eq_false z
          have := of_decide_eq_false z2
          have := of_decide_eq_false z3
          unfold kd
          rw [if_neg (by omega), if_neg (by omega), if_neg (by omega)]
        · have xo3 := xo2.same (e2.trans e3)
          have kl : kd i < 4 := by
            unfold kd
            repeat (first | split | decide)
          refine s_when (b := false) (et_test (ev_sameB (bs := (List.range 15).map fun t => decide (t = kd i) || decide (t = kd i + 4)) (el_which rfl hi xo3)
            (el_lcR1 (n := 15) (fun _ => true) (fun t => .bl (inV (V.int (t : Int)) [V.int (kd i : Nat), V.int ((kd i : Nat) + 4)])) (ea_cons ev_c ea_nil) (by decide) (fun _ => rfl) (fun _ _ _ _ => et_yes)
              (fun t H4 e4 _ _ => ev_inU (ev_var rfl) (eu_tup (ea_cons (ev_var rfl) (ea_cons (ev_op (ev_var rfl) ev_c rv_I0) ea_nil)) (Nat.le_of_ble_eq_true rfl)) rfl rfl))
            (by rw [b15e i hi]) ?_)) (fun z => by cases z) (fun _ H4 e4 => ⟨_, _, _, _, rfl, et.trans (e2.trans (e3.trans e4))⟩)
          rw [show (15 : Int).toNat = 15 from rfl, given_all, List.map_map]
          refine List.map_congr_left fun t ht => ?_
          show V.bl _ = V.bl _
          rw [in_two (kd i) t kl (List.mem_range.mp ht)]
    · intro σ' H' z
      obtain ⟨_, _, _, _, rfl, e⟩ := z
      exact q H' (e1.trans e)

theorem q_par {ta : TA} {tz : TS} {D : Ends} {σ : L2.St} {H : Hp} {i j : Nat} (h : ta σ H fun vs H1 => ∃ v w, vs = [v, w] ∧ tz D ((σ.set i (some v)).set j (some w)) H1) : tSeq (tPar i j ta) tz D σ H := h
/-! ### attributes -/
/-- at a: an exception whose attribute f is v -/
def AtE (K : PySem.W.Frag) (f : Str) (v : V) (H : Hp) (a : Addr) : Prop := ∃ n fs, n < 32 ∧ Xo H a (ca K n) fs ∧ XF K (ca K n) f ∧ List.lookup f fs = some v
theorem AtE.same {f : Str} {v : V} {H H' : Hp} {a : Addr} (h : AtE K f v H a) (e : Ex H H') : AtE K f v H' a := by
  obtain ⟨n, fs, hn, x, F, l⟩ := h
  exact ⟨n, fs, hn, x.same e, F, l⟩
theorem look_hd (f : Str) (v : V) (fs : List (Str × V)) : List.lookup f ((f, v) :: fs) = some v := by simp [List.lookup]
theorem look_tl {f g : Str} (v u : V) (h : (f == g) = false) : List.lookup f [(g, u), (f, v)] = some v := by simp [List.lookup, h]
theorem at_1 (T : Tx P w K mg base) {n : Nat} {v u : V} {H : Hp} {a : Addr} {f : Str} (hn : n < 32 ∧ n ≠ 28 ∧ two n = false) (hf : f1 n = f) (x : Xo H a (ca K n) (ats n v u)) : AtE K f v H a := by
  subst hf
  refine ⟨n, _, hn.1, x, T.fo n hn.1 hn.2.1 hn.2.2, ?_⟩
  unfold ats
  rw [if_neg hn.2.1, hn.2.2]
  exact look_hd _ _ _
theorem at_2a (T : Tx P w K mg base) {n : Nat} {v u : V} {H : Hp} {a : Addr} {f g : Str} (hn : n < 32 ∧ two n = true) (hf : f2 n = (f, g)) (hd : (f == g) = false) (x : Xo H a (ca K n) (ats n v u)) : AtE K f v H a := by
  have z := T.ft n hn.2
  rw [hf] at z
  refine ⟨n, _, hn.1, x, z.1, ?_⟩
  unfold ats
  rw [if_neg (fun z => by rw [z] at hn; exact absurd hn.2 (by decide)), hn.2, hf]
  exact look_tl _ _ hd
theorem at_2b (T : Tx P w K mg base) {n : Nat} {v u : V} {H : Hp} {a : Addr} {f g : Str} (hn : n < 32 ∧ two n = true) (hf : f2 n = (f, g)) (x : Xo H a (ca K n) (ats n v u)) : AtE K g u H a := by
  have z := T.ft n hn.2
  rw [hf] at z
  refine ⟨n, _, hn.1, x, z.2, ?_⟩
  unfold ats
  rw [if_neg (fun z => by rw [z] at hn; exact absurd hn.2 (by decide)), hn.2, hf]
  exact look_hd _ _ _
theorem ev_xat (T : Tx P w K mg base) {σ : L2.St} {H : Hp} {te : TE} {f : Str} {v : V} {a : Addr} (h : Ev te σ H (.ref a)) (x : AtE K f v H a) : Ev (tXat K f te) σ H v := fun H1 e Q q => h H1 e _ fun H2 e2 => by
  obtain ⟨n, fs, hn, xo, F, l⟩ := x.same (e.trans e2)
  exact ⟨a, ca K n, fs, v, rfl, xo, T.xc n hn, F, l, q H2 e2⟩
theorem given_rep (n : Nat) (v : V) : given n (fun _ => true) (fun _ => v) = List.replicate n v := by
  rw [given_all]
  refine List.eq_replicate_iff.mpr ⟨by simp, fun b hb => ?_⟩
  obtain ⟨_, _, rfl⟩ := List.mem_map.mp hb
  rfl
theorem map_ref {as : List Addr} {i : Nat} {y : V} (h : (as.map V.ref)[i]? = some y) : ∃ a, as[i]? = some a ∧ y = .ref a ∧ a ∈ as := by
  rw [List.getElem?_map] at h
  cases z : as[i]? with
  | none =>
    rw [z] at h
    cases h
  | some a =>
    rw [z] at h
    exact ⟨a, rfl, (Option.some.inj h).symm, List.mem_of_getElem? z⟩
/-- [e.f for e in ..] -/
theorem el_ats (T : Tx P w K mg base) {σ : L2.St} {H : Hp} {te : TE} {f : Str} {v : V} {as : List Addr} {j : Nat} (h : EvL te σ H (as.map V.ref)) (hz : as.length ≤ 40000) (ha : ∀ a ∈ as, AtE K f v H a) (hw : ∀ x, wipe ((wipe σ [j]).set j (some x)) [j] = wipe σ [j])
    (hj : ∀ x : V, ((wipe σ [j]).set j (some x))[j]? = some (some x)) : EvL (tLc (iList K te) (gName j) tYes (tXat K f (tVar j)) [j]) σ H (List.replicate as.length v) := by
  have z := el_lcNL (K := K) (t := tYes) (te := tXat K f (tVar j)) (j := j) (vs := [j]) (fun _ => true) (fun _ => v) h (by rw [List.length_map]; exact hz) hw (fun _ _ _ _ _ => et_yes) (fun i x H1 e hx _ => by
    obtain ⟨a, _, rfl, hm⟩ := map_ref hx
    exact ev_xat T (ev_var (hj _)) ((ha a hm).same e))
  rw [given_rep, List.length_map] at z
  exact z
/-- .. over a list that stands -/
theorem el_atsV (T : Tx P w K mg base) {σ : L2.St} {H : Hp} {te : TE} {f : Str} {v : V} {as : List Addr} {j : Nat} {p : Addr} (h : Ev te σ H (.ref p)) (hp : H p = some (.lst (as.map V.ref))) (hz : as.length ≤ 40000) (ha : ∀ a ∈ as, AtE K f v H a)
    (hw : ∀ x, wipe ((wipe σ [j]).set j (some x)) [j] = wipe σ [j]) (hj : ∀ x : V, ((wipe σ [j]).set j (some x))[j]? = some (some x)) : EvL (tLc (iList K te) (gName j) tYes (tXat K f (tVar j)) [j]) σ H (List.replicate as.length v) := by
  have z := el_lcL (K := K) (t := tYes) (te := tXat K f (tVar j)) (j := j) (vs := [j]) (fun _ => true) (fun _ => v) h (SqL.of hp) (by rw [List.length_map]; exact hz) hw (fun _ _ _ _ _ => et_yes) (fun i x H1 e hx _ => by
    obtain ⟨a, _, rfl, hm⟩ := map_ref hx
    exact ev_xat T (ev_var (hj _)) ((ha a hm).same e))
  rw [given_rep, List.length_map] at z
  exact z
/-! ### the texts of lists of one value -/
theorem paired_rep {R : V → PyData → Prop} {v : V} {d : PyData} (h : R v d) : ∀ n, Paired R (List.replicate n v) (List.replicate n d)
  | 0 => .nil
  | n + 1 => .cons h (paired_rep h n)
theorem ev_repN {σ : L2.St} {H : Hp} {te : TE} {v : V} {d : PyData} {n : Nat} (h : EvL te σ H (List.replicate n v)) (hv : ∀ H', Ex H H' → Rw P w H' v d) (hd : Rok d) (hn : n ≤ 1000) : Ev (tCB (rRepr P w) (tCons te tNil)) σ H (.str (listText (PyData.shownAll (List.replicate n d)))) :=
  ev_reprL h (fun H1 e => paired_rep (hv H1 e) n) (fun x hx => by rw [List.eq_of_mem_replicate hx]; exact hd) (by rw [List.length_replicate]; exact hn)
theorem ev_rightN {σ : L2.St} {H : Hp} {v : V} {d : PyData} (n : Nat) (hs : σ[0]? = some (some v)) (hv : ∀ H', Ex H H' → Rw P w H' v d) (hd : Rok d) (hn : n ≤ 1000) :
    Ev (tCB (rRepr P w) (tCons (tOp rRep (tLst (tCons (tVar 0) tNil)) (tC (.int (n : Int)))) tNil)) σ H (.str (listText (PyData.shownAll (List.replicate n d)))) :=
  ev_repN (el_rep1 (el_lst (ea_cons (ev_var hs) ea_nil) (Nat.le_of_ble_eq_true rfl)) (fun _ _ => ev_c) (by omega)) hv hd hn
theorem ev_ne0 {σ : L2.St} {H : Hp} {ta tb : TE} {x : Str} (ha : Ev ta σ H (.str x)) (hb : Ev tb σ H (.str x)) : Ev (tOp rNe ta tb) σ H (.bl false) := by
  have z := ev_op (r := rNe) ha hb (rv_ne (x := .str x) (y := .str x) rfl)
  simpa using z
theorem ev_eq1 {σ : L2.St} {H : Hp} {ta tb : TE} {x : Str} (ha : Ev ta σ H (.str x)) (hb : Ev tb σ H (.str x)) : Ev (tOp rEq ta tb) σ H (.bl true) := by
  have z := ev_op (r := rEq) ha hb (rv_eq (x := .str x) (y := .str x) rfl)
  simpa using z
/-- repr of a list that stands -/
theorem ev_reprS {σ : L2.St} {H : Hp} {te : TE} {p : Addr} {xs : List V} {ds : List PyData} (h : Ev te σ H (.ref p)) (hp : H p = some (.lst xs)) (hd : ∀ H1, Ex H H1 → Paired (Rw P w H1) xs ds) (hr : ∀ d ∈ ds, Rok d) (hn : ds.length ≤ 1000) :
    Ev (tCB (rRepr P w) (tCons te tNil)) σ H (.str (listText (PyData.shownAll ds))) := fun H1 e Q q => h H1 e _ fun H2 e2 => by
  obtain ⟨a, b, c⟩ := lst_rok hr hn
  exact .inl ⟨p, xs, ds, rfl, e2 _ _ (e _ _ hp), hd H2 (e.trans e2), a, b, c, q H2 e2⟩
/-- both lists are of data that show themselves -/
def spSureR (P : Program) (w : World) : Sp := fun vs H Q _ => ∃ (v u : V) (d e : PyData), vs = [v, u] ∧ Rok d ∧ Rok e ∧ (∀ H', Ex H H' → Rw P w H' v d) ∧ (∀ H', Ex H H' → Rw P w H' u e) ∧ ∀ H', Ex H H' → Q (.bl true) H'
abbrev s_fields_right : Stmt := topS 48
theorem sc_fields_right : FnScope ["_law_some", "_law_more", "_law_made", "_law_rest_here", "_law_e", "_law_told"] ["_law_some", "_law_more"] (defScope s_fields_right) := ⟨rfl, rfl, rfl, by decide +kernel, rfl, by decide +kernel, by decide +kernel⟩
theorem ok_fields_right {f : Addr} {fd : FuncData} (F : FunD K "_law_fields_right" "_law_fields_right" (defArgs s_fields_right) (defBody s_fields_right) (defScope s_fields_right) [] [] f fd) (T : Tx P w K mg base) (d_law_wakes : ∀ u, Cal P w K mg base CX0 3 "_law_wakes" ["_law_some"] (spWakes K u)) (d_law_rest : Cal P w K mg base CX0 3 "_law_rest" ["_law_some", "_law_more"] (spRest K)) : FnG P w K mg base CX0 4 f fd ["_law_some", "_law_more"] (spSureR P w) := by
  refine fnG F sc_fields_right (fun vs H Q E h => ?_) (fun cdv A outer s H vs Q E gd hr h => ?_)
  · obtain ⟨v, u, d, e, rfl, _⟩ := h
    rfl
  · obtain ⟨v, u, d, e, rfl, rd, re, hv, hu, q⟩ := h; have d_law_wakes := d_law_wakes u
    refine ⟨_, PSs.nox ((pss_cons (ps_par (i := 2) (j := 3) (by rfl) sc_fields_right.nd rfl rfl (by decide) rfl rfl (pa_cons (pe_cal d_law_wakes gd hr (pa_cons (pv 0) pa_nil)) (pa_cons (pe_cal d_law_rest gd hr (pa_cons (pv 0) (pa_cons (pv 1) pa_nil))) pa_nil)) (by rfl))
      (pss_cons (ps_if (pt_cmpR op_ne (pe_callB (call_reprK (P := P) (w := w) gd hr.units) (by rfl) T.m_repr (by decide +kernel) (pa_cons (pe_lc (own := [("_law_e", 4)]) (g := gName 4) (tt := tYes) rfl sc_fields_right.nd (pi_listK (K := K) (pe_op op_cat (pe_slice (sl_listK (K := K)) (pv 2) po_none (po_some pe_int)) (pe_slice (sl_listK (K := K)) (pv 3) po_none (po_some pe_int)))) (blkOk_by (own := [("_law_e", 4)]) (N := ["_law_some", "_law_more", "_law_made", "_law_rest_here", "_law_e", "_law_told"]) (sc := defScope s_fields_right) (by decide +kernel)) (fun _ _ _ _ _ => pg_name (i := 4) sc_fields_right.nd rfl (Or.inl rfl)) (fun _ _ _ _ _ => pts_nil) (fun _ _ _ _ _ => (pe_xatK (K := K) (pv 4)))) pa_nil)) (pe_callB (call_reprK (P := P) (w := w) gd hr.units) (by rfl) T.m_repr (by decide +kernel) (pa_cons (pe_op op_rep (pe_lst (pa_cons (pv 0) pa_nil)) pe_int) pa_nil)) (nomark _)) (pss_one (ps_ret pe_bl)) pss_nil)
      (pss_cons (ps_if (PW.pt (pw_or (pt_cmpR op_ne (pe_callB (call_reprK (P := P) (w := w) gd hr.units) (by rfl) T.m_repr (by decide +kernel) (pa_cons (pe_lc (own := [("_law_e", 4)]) (g := gName 4) (tt := tYes) rfl sc_fields_right.nd (pi_listK (K := K) (pe_op op_cat (pe_slice (sl_listK (K := K)) (pv 2) (po_some pe_int) (po_some pe_int)) (pe_lst (pa_cons (pe_ix (ix_listK (K := K)) (pv 3) pe_int (fun _ _ => rfl)) pa_nil)))) (blkOk_by (own := [("_law_e", 4)]) (N := ["_law_some", "_law_more", "_law_made", "_law_rest_here", "_law_e", "_law_told"]) (sc := defScope s_fields_right) (by decide +kernel)) (fun _ _ _ _ _ => pg_name (i := 4) sc_fields_right.nd rfl (Or.inl rfl)) (fun _ _ _ _ _ => pts_nil) (fun _ _ _ _ _ => (pe_xatK (K := K) (pv 4)))) pa_nil)) (pe_callB (call_reprK (P := P) (w := w) gd hr.units) (by rfl) T.m_repr (by decide +kernel) (pa_cons (pe_op op_rep (pe_lst (pa_cons (pv 0) pa_nil)) pe_int) pa_nil)) (nomark _)) (pw_or1 (pt_cmpR op_ne (pe_callB (call_reprK (P := P) (w := w) gd hr.units) (by rfl) T.m_repr (by decide +kernel) (pa_cons (pe_xatK (K := K) (pe_ix (ix_listK (K := K)) (pv 2) pe_int (fun _ _ => rfl))) pa_nil)) (pe_callB (call_reprK (P := P) (w := w) gd hr.units) (by rfl) T.m_repr (by decide +kernel) (pa_cons (pv 0) pa_nil)) (nomark _))))) (pss_one (ps_ret pe_bl)) pss_nil)
      (pss_cons (ps_set (i := 5) sc_fields_right.nd rfl (by first | exact Or.inl rfl | exact Or.inr rfl) (pe_lst (pa_cons (pe_xatK (K := K) (pe_ix (ix_listK (K := K)) (pv 3) pe_int (fun _ _ => rfl))) (pa_cons (pe_xatK (K := K) (pe_ix (ix_listK (K := K)) (pv 3) pe_int (fun _ _ => rfl))) (pa_cons (pe_xatK (K := K) (pe_ix (ix_listK (K := K)) (pv 3) pe_int (fun _ _ => rfl))) (pa_cons (pe_xatK (K := K) (pe_ix (ix_listK (K := K)) (pv 3) pe_int (fun _ _ => rfl))) pa_nil))))))
      (pss_one (ps_ret (pe_cmpR op_eq (pe_callB (call_reprK (P := P) (w := w) gd hr.units) (by rfl) T.m_repr (by decide +kernel) (pa_cons (pv 5) pa_nil)) (pe_callB (call_reprK (P := P) (w := w) gd hr.units) (by rfl) T.m_repr (by decide +kernel) (pa_cons (pe_lst (pa_cons (pv 0) (pa_cons (pv 1) (pa_cons (pv 0) (pa_cons (pv 1) pa_nil))))) pa_nil)) (nomark _))))))))), ?_⟩
    refine q_par (xl_wakes (v := v) (u := u) rfl H _ fun p1 as1 H1 n1 e1 g1 l1 x1 => xl_rest (v := v) (u := u) rfl rfl H1 _ fun p2 as2 H2 n2 e2 g2 l2 x2 => ⟨_, _, rfl, ?_⟩)
    have e12 := e1.trans e2
    have g1' := e2 _ _ g1
    have x1' := x1.mono e2
    have hv2 : ∀ H', Ex H2 H' → Rw P w H' v d := fun H' e => hv H' (e12.trans e)
    have hu2 : ∀ H', Ex H2 H' → Rw P w H' u e := fun H' z => hu H' (e12.trans z)
    have c1 : cutV (as1.map V.ref) none (some (15 : Int)) = (as1.take 15).map V.ref := by
      rw [List.map_take]
      exact cut_to _ 15 (by rw [List.length_map]; omega)
    have c2 : cutV (as2.map V.ref) none (some (3 : Int)) = (as2.take 3).map V.ref := by
      rw [List.map_take]
      exact cut_to _ 3 (by rw [List.length_map]; omega)
    have c3 : cutV (as1.map V.ref) (some (15 : Int)) (some (24 : Int)) = ((as1.drop 15).take 9).map V.ref := by
      rw [List.map_take, List.map_drop]
      exact cut_mid _ 15 24 (by rw [List.length_map]; omega) (by decide)
    have xi : ∀ (j : Nat) (h : j < as1.length), Xo H2 as1[j] (ca K j) (ats j v u) := fun j h => by
      have z := x1' j _ (List.getElem?_eq_getElem h)
      rw [Nat.zero_add] at z
      exact z
    have yi : ∀ (j : Nat) (h : j < as2.length), Xo H2 as2[j] (ca K (25 + j)) (ats (25 + j) v u) := fun j h => x2 j _ (List.getElem?_eq_getElem h)
    have fv : ∀ j, j < 15 → (j < 32 ∧ j ≠ 28 ∧ two j = false) ∧ f1 j = "value" := by decide
    have fp : ∀ j, j < 24 → 15 ≤ j → (j < 32 ∧ j ≠ 28 ∧ two j = false) ∧ f1 j = "position" := by decide
    have fw : ∀ j, j < 3 → (25 + j < 32 ∧ 25 + j ≠ 28 ∧ two (25 + j) = false) ∧ f1 (25 + j) = "value" := by decide
    refine q_when (b := false) (et_test (ev_ne0 (ev_repN (n := 18) ?_ hv2 rd (by decide)) (ev_rightN 18 (by rfl) hv2 rd (by decide)))) (fun z => by cases z) (fun _ H3 e3 => ?_)
    · have z := el_ats (j := 4) T (f := "value") (v := v) (as := as1.take 15 ++ as2.take 3) (H := H2) (σ := [some v, some u, some (.ref p1), some (.ref p2), none, none]) (te := tOp rCat (tSl (rSlL K) (tVar 2) tNoPart (tPart (tC (V.int 15)))) (tSl (rSlL K) (tVar 3) tNoPart (tPart (tC (V.int 3))))) ?_ (by simp; omega) ?_ (fun _ => rfl) (fun _ => rfl)
      · rw [show (as1.take 15 ++ as2.take 3).length = 18 by simp; omega] at z
        exact z
      · have a1 := el_sl (K := K) (σ := [some v, some u, some (.ref p1), some (.ref p2), none, none]) (ev_var (i := 2) rfl) eo_none (eo_some (ev_c (v := .int 15))) (SqL.of g1')
        have a2 := el_sl (K := K) (σ := [some v, some u, some (.ref p1), some (.ref p2), none, none]) (ev_var (i := 3) rfl) eo_none (eo_some (ev_c (v := .int 3))) (SqL.of g2)
        rw [c1] at a1
        rw [c2] at a2
        rw [List.map_append]
        exact el_cat a1 a2 (by simp; omega)
      · intro a ha
        rcases List.mem_append.mp ha with ha | ha
        · obtain ⟨j, hj, rfl⟩ := List.mem_take_iff_getElem.mp ha
          have hj' : j < 15 := by omega
          exact at_1 T (fv j hj').1 (fv j hj').2 (xi j (by omega))
        · obtain ⟨j, hj, rfl⟩ := List.mem_take_iff_getElem.mp ha
          have hj' : j < 3 := by omega
          exact at_1 T (fw j hj').1 (fw j hj').2 (yi j (by omega))
    have hv3 : ∀ H', Ex H3 H' → Rw P w H' v d := fun H' e => hv2 H' (e3.trans e)
    have hu3 : ∀ H', Ex H3 H' → Rw P w H' u e := fun H' z => hu2 H' (e3.trans z)
    have g13 := e3 _ _ g1'
    have g23 := e3 _ _ g2
    have at1 : ∀ (j : Nat) (h : j < as1.length), atI (as1.map V.ref) (j : Int) = some (.ref as1[j]) := fun j h => atI_nat (by rw [List.getElem?_map, List.getElem?_eq_getElem h]; rfl)
    have at2 : ∀ (j : Nat) (h : j < as2.length), atI (as2.map V.ref) (j : Int) = some (.ref as2[j]) := fun j h => atI_nat (by rw [List.getElem?_map, List.getElem?_eq_getElem h]; rfl)
    refine q_when (b := false) (et_or (a := false) (b := false) (et_test (ev_ne0 (ev_repN (n := 10) ?_ hv3 rd (by decide)) (ev_rightN 10 (by rfl) hv3 rd (by decide)))) (fun _ => et_test (ev_ne0 (ev_reprV (ev_xat T (f := "line") (v := v) (ev_op (ev_var rfl) ev_c (rv_ixL (SqL.of g13) (at1 24 (by omega)))) ?_) hv3 rd) (ev_reprV (ev_var rfl) hv3 rd)))) (fun z => by cases z) (fun _ H4 e4 => ?_)
    · have z := el_ats (j := 4) T (f := "position") (v := v) (as := (as1.drop 15).take 9 ++ [as2[5]]) (H := H3) (σ := [some v, some u, some (.ref p1), some (.ref p2), none, none]) (te := tOp rCat (tSl (rSlL K) (tVar 2) (tPart (tC (V.int 15))) (tPart (tC (V.int 24)))) (tLst (tCons (tOp (rIxL K) (tVar 3) (tC (V.int 5))) tNil))) ?_ (by simp; omega) ?_ (fun _ => rfl) (fun _ => rfl)
      · rw [show ((as1.drop 15).take 9 ++ [as2[5]]).length = 10 by simp; omega] at z
        exact z
      · have a1 := el_sl (K := K) (σ := [some v, some u, some (.ref p1), some (.ref p2), none, none]) (ev_var (i := 2) rfl) (eo_some (ev_c (v := .int 15))) (eo_some (ev_c (v := .int 24))) (SqL.of g13)
        rw [c3] at a1
        rw [List.map_append]
        exact el_cat a1 (el_lst (ea_cons (ev_op (ev_var rfl) ev_c (rv_ixL (SqL.of g23) (at2 5 (by omega)))) ea_nil) (Nat.le_of_ble_eq_true rfl)) (by simp; omega)
      · intro a ha
        rcases List.mem_append.mp ha with ha | ha
        · obtain ⟨j, hj, rfl⟩ := List.mem_take_iff_getElem.mp ha
          have hj2 : j < 9 := by omega
          rw [List.getElem_drop]
          exact at_1 T (fp (15 + j) (by omega) (by omega)).1 (fp (15 + j) (by omega) (by omega)).2 ((xi (15 + j) (by omega)).same e3)
        · rw [List.mem_singleton.mp ha]
          exact at_1 T (by decide) rfl ((yi 5 (by omega)).same e3)
    · exact at_1 T (by decide) rfl ((xi 24 (by omega)).same e3)
    have hv4 : ∀ H', Ex H4 H' → Rw P w H' v d := fun H' e => hv3 H' (e4.trans e)
    have hu4 : ∀ H', Ex H4 H' → Rw P w H' u e := fun H' z => hu3 H' (e4.trans z)
    have g24 := e4 _ _ g23
    have y4 := (yi 4 (by omega)).same (e3.trans e4)
    have y6 := (yi 6 (by omega)).same (e3.trans e4)
    refine q_asgL (el_lst (ea_cons (ev_xat T (ev_op (ev_var rfl) ev_c (rv_ixL (SqL.of g24) (at2 4 (by omega)))) (at_2a T (f := "number") (g := "term") (by decide) rfl (by decide) y4))
      (ea_cons (ev_xat T (ev_op (ev_var rfl) ev_c (rv_ixL (SqL.of g24) (at2 4 (by omega)))) (at_2b T (f := "number") (g := "term") (by decide) rfl y4))
      (ea_cons (ev_xat T (ev_op (ev_var rfl) ev_c (rv_ixL (SqL.of g24) (at2 6 (by omega)))) (at_2a T (f := "what") (g := "limit") (by decide) rfl (by decide) y6))
      (ea_cons (ev_xat T (ev_op (ev_var rfl) ev_c (rv_ixL (SqL.of g24) (at2 6 (by omega)))) (at_2b T (f := "what") (g := "limit") (by decide) rfl y6)) ea_nil)))) (Nat.le_of_ble_eq_true rfl)) fun p5 H5 _ e5 g5 => ?_
    have pr : ∀ H', Ex H5 H' → Paired (Rw P w H') [v, u, v, u] [d, e, d, e] := fun H' z => .cons (hv4 H' (e5.trans z)) (.cons (hu4 H' (e5.trans z)) (.cons (hv4 H' (e5.trans z)) (.cons (hu4 H' (e5.trans z)) .nil)))
    have ro : ∀ x ∈ [d, e, d, e], Rok x := fun x hx => by
      simp only [List.mem_cons, List.not_mem_nil, or_false] at hx
      rcases hx with rfl | rfl | rfl | rfl <;> assumption
    exact s_ret (ev_eq1 (ev_reprS (ev_var rfl) g5 pr ro (Nat.le_of_ble_eq_true rfl)) (ev_reprL (el_lst (ea_cons (ev_var rfl) (ea_cons (ev_var rfl) (ea_cons (ev_var rfl) (ea_cons (ev_var rfl) ea_nil)))) (Nat.le_of_ble_eq_true rfl)) pr ro (Nat.le_of_ble_eq_true rfl))) fun H6 e6 => q H6 (e12.trans (e3.trans (e4.trans (e5.trans e6))))

/-! ### made by name -/
def AE (K : PySem.W.Frag) (f : Str) (v : V) (σ : L2.St) (te : TE) : Prop := ∀ (H : Hp) (Q : VK), (∀ a H', Ex H H' → AtE K f v H' a → Q (.ref a) H') → te σ H Q
def AA (K : PySem.W.Frag) (f : Str) (v : V) (σ : L2.St) (m : Nat) (ta : TA) : Prop := ∀ (H : Hp) (Q : List V → Hp → Prop), (∀ (as : List Addr) H', Ex H H' → as.length = m → (∀ a ∈ as, AtE K f v H' a) → Q (as.map V.ref) H') → ta σ H Q
section
variable {f : Str} {v u : V} {σ : L2.St} {n m k i : Nat} {te t1 t2 : TE} {ta : TA} {D : Ends} {tz : TS} {H : Hp}
theorem aa_nil : AA K f v σ 0 tNil := fun H Q q => q [] H (Ex.refl H) rfl (fun _ z => absurd z List.not_mem_nil)
theorem aa_cons (h : AE K f v σ te) (hr : AA K f v σ m ta) : AA K f v σ (m + 1) (tCons te ta) := fun H Q q =>
  h H _ fun a H1 e1 x1 => hr H1 _ fun as H2 e2 l2 x2 => q (a :: as) H2 (e1.trans e2) (by rw [List.length_cons, l2]) (fun b hb => by
    rcases List.mem_cons.mp hb with rfl | hb
    · exact x1.same e2
    · exact x2 b hb)
theorem ae_1 (T : Tx P w K mg base) (hn : n < 32 ∧ n ≠ 28 ∧ two n = false) (hf : f1 n = f) (h : ∀ H (Q : VK), Q v H → te σ H Q) : AE K f v σ (tXmkK (ca K n) (spI1 (f1 n) (ca K n)) (tCons te tNil)) := fun H Q q =>
  h H _ (xmk1 fun a H' e x => q a H' e (at_1 T (v := v) (u := v) hn hf (by
    unfold ats
    rw [if_neg hn.2.1, hn.2.2]
    exact x)))
theorem xe_2K (hn : two n = true) (h : ∀ H (Q : VK), Q u H → t1 σ H Q) (h2 : ∀ H (Q : VK), Q v H → t2 σ H Q) : XE K v u σ n (tXmkK (ca K n) (spI2 (f2 n).1 (f2 n).2 (ca K n)) (tCons t1 (tCons t2 tNil))) := fun H Q q =>
  h H _ (h2 H _ (xmk2 fun a H' e x => q a H' e (by
    unfold ats
    rw [if_neg (fun z => by rw [z] at hn; cases hn), hn]
    exact x)))
theorem q_al (h : AA K f v σ m ta) (hm : m ≤ 100000) (q : ∀ p (as : List Addr) H', H p = none → Ex H H' → H' p = some (.lst (as.map V.ref)) → as.length = m → (∀ a ∈ as, AtE K f v H' a) → tz D (σ.set i (some (.ref p))) H') : tSeq (tAsg (tLst ta) (gName i)) tz D σ H :=
  h H _ fun as H1 e1 l1 x1 => ⟨by rw [List.length_map]; exact sz_of (by omega), fun p hp => q p as _ (fresh_back e1 hp) (e1.trans (Ex.new hp)) upd_same l1 (fun a ha => (x1 a ha).same (Ex.new hp))⟩
theorem q_alV {p : Addr} {as : List Addr} (hj : ∀ H (Q : VK), Q (.ref p) H → te σ H Q) (h : AA K f v σ m ta) (hm : as.length + m ≤ 100000) (e : H p = some (.lst (as.map V.ref))) (x : ∀ a ∈ as, AtE K f v H a)
    (q : ∀ p (as' : List Addr) H', H p = none → Ex H H' → H' p = some (.lst (as'.map V.ref)) → as'.length = as.length + m → (∀ a ∈ as', AtE K f v H' a) → tz D (σ.set i (some (.ref p))) H') : tSeq (tAsg (tOp rCat te (tLst ta)) (gName i)) tz D σ H :=
  hj H _ (h H _ fun bs H1 e1 l1 x1 => ⟨by rw [List.length_map]; exact sz_of (by omega), fun r hr => ⟨p, r, _, _, rfl, rfl, Ex.new hr _ _ (e1 _ _ e), upd_same, by
    rw [List.length_map, List.length_map]
    exact sz_of (by omega), fun t ht => q t (as ++ bs) _ (fresh_back (e1.trans (Ex.new hr)) ht) (e1.trans ((Ex.new hr).trans (Ex.new ht))) (by rw [List.map_append]; exact upd_same) (by rw [List.length_append, l1])
      (fun a ha => by
        have e3 : Ex H1 (upd (upd H1 r (.lst (bs.map V.ref))) t (.lst (as.map V.ref ++ bs.map V.ref))) := (Ex.new hr).trans (Ex.new ht)
        rcases List.mem_append.mp ha with ha | ha
        · exact (x a ha).same (e1.trans e3)
        · exact (x1 a ha).same e3)⟩⟩)
theorem q_appE {K0 : PySem.W.Frag} {l : Addr} {as : List Addr} (hj : ∀ H (Q : VK), Q (.ref l) H → t1 σ H Q) (hl : H l = some (.lst (as.map V.ref))) (hz : as.length < 100000) (h : AE K f v σ te)
    (k : ∀ a H', Ex H H' → AtE K f v H' a → tz D σ (upd H' l (.lst ((as ++ [a]).map V.ref)))) : tSeq (tDrop (tBM K0 "list" rAppend t1 (tCons te tNil))) tz D σ H :=
  hj H _ ⟨.inl ⟨rfl, _, .inl (.inl hl)⟩, h H _ fun a H' e x => ⟨l, _, _, rfl, rfl, e _ _ hl, by rw [List.length_map]; exact sz_lt hz, by
    have z := k a H' e x
    rw [List.map_append] at z
    exact z⟩⟩
theorem AtE.updL {a l : Addr} {xs ys : List V} (h : AtE K f v H a) (hl : H l = some (.lst xs)) : AtE K f v (upd H l (.lst ys)) a := by
  obtain ⟨n, fs, hn, x, F, lk⟩ := h
  refine ⟨n, fs, hn, ?_, F, lk⟩
  rcases x with ⟨e, x⟩ | ⟨d, x1, x2⟩
  · refine .inl ⟨e, ?_⟩
    rw [upd_ne (ne_of x hl (by intro z; have z' : HO.ext _ = HO.lst xs := z; cases z'))]
    exact x
  · refine .inr ⟨d, ?_, ?_⟩
    · rw [upd_ne (ne_of x1 hl (by intro z; have z' : HO.ext _ = HO.lst xs := z; cases z'))]
      exact x1
    · rw [upd_ne (ne_of x2 hl (by intro z; have z' : HO.ext _ = HO.lst xs := z; cases z'))]
      exact x2
theorem ev_xatE (T : Tx P w K mg base) (h : AE K f v σ te) : Ev (tXat K f te) σ H v := fun H1 e Q q => h H1 _ fun a H2 e2 x => by
  obtain ⟨n, fs, hn, xo, F, l⟩ := x
  exact ⟨a, ca K n, fs, v, rfl, xo, T.xc n hn, F, l, q H2 e2⟩
end
abbrev s_named_right : Stmt := topS 49
theorem sc_named_right : FnScope ["_law_some", "_law_more", "_law_found", "_law_spots", "_law_e", "_law_cant", "_law_far", "_law_told"] ["_law_some", "_law_more"] (defScope s_named_right) := ⟨rfl, rfl, rfl, by decide +kernel, rfl, by decide +kernel, by decide +kernel⟩
theorem ok_named_right {f : Addr} {fd : FuncData} (F : FunD K "_law_named_right" "_law_named_right" (defArgs s_named_right) (defBody s_named_right) (defScope s_named_right) [] [] f fd) (T : Tx P w K mg base)  : FnG P w K mg base CX0 4 f fd ["_law_some", "_law_more"] (spSureR P w) := by
  refine fnG F sc_named_right (fun vs H Q E h => ?_) (fun cdv A outer s H vs Q E gd hr h => ?_)
  · obtain ⟨v, u, d, e, rfl, _⟩ := h
    rfl
  · obtain ⟨v, u, d, e, rfl, rd, re, hv, hu, q⟩ := h
    refine ⟨_, PSs.nox ((pss_cons (ps_set (i := 2) sc_named_right.nd rfl (by first | exact Or.inl rfl | exact Or.inr rfl) (pe_lst (pa_cons (pe_xmkK (T.c1 0 (by decide)) gd hr (pk_cons (pv 0) pk_nil)) (pa_cons (pe_xmkK (T.c1 1 (by decide)) gd hr (pk_cons (pv 0) pk_nil)) (pa_cons (pe_xmkK (T.c1 2 (by decide)) gd hr (pk_cons (pv 0) pk_nil)) (pa_cons (pe_xmkK (T.c1 3 (by decide)) gd hr (pk_cons (pv 0) pk_nil)) pa_nil))))))
      (pss_cons (ps_set (i := 2) sc_named_right.nd rfl (by first | exact Or.inl rfl | exact Or.inr rfl) (pe_op op_cat (pv 2) (pe_lst (pa_cons (pe_xmkK (T.c1 4 (by decide)) gd hr (pk_cons (pv 0) pk_nil)) (pa_cons (pe_xmkK (T.c1 5 (by decide)) gd hr (pk_cons (pv 0) pk_nil)) (pa_cons (pe_xmkK (T.c1 6 (by decide)) gd hr (pk_cons (pv 0) pk_nil)) pa_nil))))))
      (pss_cons (ps_set (i := 2) sc_named_right.nd rfl (by first | exact Or.inl rfl | exact Or.inr rfl) (pe_op op_cat (pv 2) (pe_lst (pa_cons (pe_xmkK (T.c1 7 (by decide)) gd hr (pk_cons (pv 0) pk_nil)) (pa_cons (pe_xmkK (T.c1 8 (by decide)) gd hr (pk_cons (pv 0) pk_nil)) (pa_cons (pe_xmkK (T.c1 9 (by decide)) gd hr (pk_cons (pv 0) pk_nil)) pa_nil))))))
      (pss_cons (ps_set (i := 2) sc_named_right.nd rfl (by first | exact Or.inl rfl | exact Or.inr rfl) (pe_op op_cat (pv 2) (pe_lst (pa_cons (pe_xmkK (T.c1 10 (by decide)) gd hr (pk_cons (pv 0) pk_nil)) (pa_cons (pe_xmkK (T.c1 11 (by decide)) gd hr (pk_cons (pv 0) pk_nil)) (pa_cons (pe_xmkK (T.c1 12 (by decide)) gd hr (pk_cons (pv 0) pk_nil)) pa_nil))))))
      (pss_cons (ps_set (i := 2) sc_named_right.nd rfl (by first | exact Or.inl rfl | exact Or.inr rfl) (pe_op op_cat (pv 2) (pe_lst (pa_cons (pe_xmkK (T.c1 13 (by decide)) gd hr (pk_cons (pv 0) pk_nil)) (pa_cons (pe_xmkK (T.c1 14 (by decide)) gd hr (pk_cons (pv 0) pk_nil)) (pa_cons (pe_xmkK (T.c1 25 (by decide)) gd hr (pk_cons (pv 0) pk_nil)) pa_nil))))))
      (pss_cons (ps_set (i := 2) sc_named_right.nd rfl (by first | exact Or.inl rfl | exact Or.inr rfl) (pe_op op_cat (pv 2) (pe_lst (pa_cons (pe_xmkK (T.c1 26 (by decide)) gd hr (pk_cons (pv 0) pk_nil)) (pa_cons (pe_xmkK (T.c1 27 (by decide)) gd hr (pk_cons (pv 0) pk_nil)) pa_nil)))))
      (pss_cons (ps_set (i := 3) sc_named_right.nd rfl (by first | exact Or.inl rfl | exact Or.inr rfl) (pe_lst (pa_cons (pe_xmkK (T.c1 15 (by decide)) gd hr (pk_cons (pv 0) pk_nil)) (pa_cons (pe_xmkK (T.c1 16 (by decide)) gd hr (pk_cons (pv 0) pk_nil)) (pa_cons (pe_xmkK (T.c1 17 (by decide)) gd hr (pk_cons (pv 0) pk_nil)) pa_nil)))))
      (pss_cons (ps_set (i := 3) sc_named_right.nd rfl (by first | exact Or.inl rfl | exact Or.inr rfl) (pe_op op_cat (pv 3) (pe_lst (pa_cons (pe_xmkK (T.c1 18 (by decide)) gd hr (pk_cons (pv 0) pk_nil)) (pa_cons (pe_xmkK (T.c1 19 (by decide)) gd hr (pk_cons (pv 0) pk_nil)) (pa_cons (pe_xmkK (T.c1 20 (by decide)) gd hr (pk_cons (pv 0) pk_nil)) pa_nil))))))
      (pss_cons (ps_set (i := 3) sc_named_right.nd rfl (by first | exact Or.inl rfl | exact Or.inr rfl) (pe_op op_cat (pv 3) (pe_lst (pa_cons (pe_xmkK (T.c1 21 (by decide)) gd hr (pk_cons (pv 0) pk_nil)) (pa_cons (pe_xmkK (T.c1 22 (by decide)) gd hr (pk_cons (pv 0) pk_nil)) (pa_cons (pe_xmkK (T.c1 23 (by decide)) gd hr (pk_cons (pv 0) pk_nil)) pa_nil))))))
      (pss_cons (ps_expr (pe_bm PySem.F.plainAttrs_list PySem.F.slot_list_append PySem.F.type_list_append mt_append (pv 3) (pa_cons (pe_xmkK (T.c1 30 (by decide)) gd hr (pk_cons (pv 0) pk_nil)) pa_nil)))
      (pss_cons (ps_if (PW.pt (pw_or (pt_cmpR op_ne (pe_callB (call_reprK (P := P) (w := w) gd hr.units) (by rfl) T.m_repr (by decide +kernel) (pa_cons (pe_lc (own := [("_law_e", 4)]) (g := gName 4) (tt := tYes) rfl sc_named_right.nd (pi_listK (K := K) (pv 2)) (blkOk_by (own := [("_law_e", 4)]) (N := ["_law_some", "_law_more", "_law_found", "_law_spots", "_law_e", "_law_cant", "_law_far", "_law_told"]) (sc := defScope s_named_right) (by decide +kernel)) (fun _ _ _ _ _ => pg_name (i := 4) sc_named_right.nd rfl (Or.inl rfl)) (fun _ _ _ _ _ => pts_nil) (fun _ _ _ _ _ => (pe_xatK (K := K) (pv 4)))) pa_nil)) (pe_callB (call_reprK (P := P) (w := w) gd hr.units) (by rfl) T.m_repr (by decide +kernel) (pa_cons (pe_op op_rep (pe_lst (pa_cons (pv 0) pa_nil)) pe_int) pa_nil)) (nomark _)) (pw_or1 (pt_cmpR op_ne (pe_callB (call_reprK (P := P) (w := w) gd hr.units) (by rfl) T.m_repr (by decide +kernel) (pa_cons (pe_lc (own := [("_law_e", 4)]) (g := gName 4) (tt := tYes) rfl sc_named_right.nd (pi_listK (K := K) (pv 3)) (blkOk_by (own := [("_law_e", 4)]) (N := ["_law_some", "_law_more", "_law_found", "_law_spots", "_law_e", "_law_cant", "_law_far", "_law_told"]) (sc := defScope s_named_right) (by decide +kernel)) (fun _ _ _ _ _ => pg_name (i := 4) sc_named_right.nd rfl (Or.inl rfl)) (fun _ _ _ _ _ => pts_nil) (fun _ _ _ _ _ => (pe_xatK (K := K) (pv 4)))) pa_nil)) (pe_callB (call_reprK (P := P) (w := w) gd hr.units) (by rfl) T.m_repr (by decide +kernel) (pa_cons (pe_op op_rep (pe_lst (pa_cons (pv 0) pa_nil)) pe_int) pa_nil)) (nomark _))))) (pss_one (ps_ret pe_bl)) pss_nil)
      (pss_cons (ps_par (i := 5) (j := 6) (by rfl) sc_named_right.nd rfl rfl (by decide) rfl rfl (pa_cons (pe_xmkK (T.c2 29 (by decide)) gd hr (pk_cons (pv 1) (pk_cons (pv 0) pk_nil))) (pa_cons (pe_xmkK (T.c2 31 (by decide)) gd hr (pk_cons (pv 1) (pk_cons (pv 0) pk_nil))) pa_nil)) (by rfl))
      (pss_cons (ps_set (i := 7) sc_named_right.nd rfl (by first | exact Or.inl rfl | exact Or.inr rfl) (pe_lst (pa_cons (pe_xatK (K := K) (pe_xmkK (T.c1 24 (by decide)) gd hr (pk_cons (pv 0) pk_nil))) (pa_cons (pe_xatK (K := K) (pv 5)) (pa_cons (pe_xatK (K := K) (pv 5)) (pa_cons (pe_xatK (K := K) (pv 6)) (pa_cons (pe_xatK (K := K) (pv 6)) pa_nil)))))))
      (pss_one (ps_ret (pe_cmpR op_eq (pe_callB (call_reprK (P := P) (w := w) gd hr.units) (by rfl) T.m_repr (by decide +kernel) (pa_cons (pv 7) pa_nil)) (pe_callB (call_reprK (P := P) (w := w) gd hr.units) (by rfl) T.m_repr (by decide +kernel) (pa_cons (pe_lst (pa_cons (pv 0) (pa_cons (pv 0) (pa_cons (pv 1) (pa_cons (pv 0) (pa_cons (pv 1) pa_nil)))))) pa_nil)) (nomark _)))))))))))))))))), ?_⟩
    refine q_al (f := "value") (v := v) (K := K) (m := 4) (aa_cons (ae_1 T (by decide) rfl (fun _ _ z => ⟨_, rfl, z⟩)) (aa_cons (ae_1 T (by decide) rfl (fun _ _ z => ⟨_, rfl, z⟩)) (aa_cons (ae_1 T (by decide) rfl (fun _ _ z => ⟨_, rfl, z⟩)) (aa_cons (ae_1 T (by decide) rfl (fun _ _ z => ⟨_, rfl, z⟩)) aa_nil)))) (by decide) fun p1 as1 H1 n1 e1 g1 l1 x1 => ?_
    refine q_alV (m := 3) (fun _ _ z => ⟨_, rfl, z⟩) (aa_cons (ae_1 T (by decide) rfl (fun _ _ z => ⟨_, rfl, z⟩)) (aa_cons (ae_1 T (by decide) rfl (fun _ _ z => ⟨_, rfl, z⟩)) (aa_cons (ae_1 T (by decide) rfl (fun _ _ z => ⟨_, rfl, z⟩)) aa_nil))) (by omega) g1 x1 fun p2 as2 H2 n2 e2 g2 l2 x2 => ?_
    refine q_alV (m := 3) (fun _ _ z => ⟨_, rfl, z⟩) (aa_cons (ae_1 T (by decide) rfl (fun _ _ z => ⟨_, rfl, z⟩)) (aa_cons (ae_1 T (by decide) rfl (fun _ _ z => ⟨_, rfl, z⟩)) (aa_cons (ae_1 T (by decide) rfl (fun _ _ z => ⟨_, rfl, z⟩)) aa_nil))) (by omega) g2 x2 fun p3 as3 H3 n3 e3 g3 l3 x3 => ?_
    refine q_alV (m := 3) (fun _ _ z => ⟨_, rfl, z⟩) (aa_cons (ae_1 T (by decide) rfl (fun _ _ z => ⟨_, rfl, z⟩)) (aa_cons (ae_1 T (by decide) rfl (fun _ _ z => ⟨_, rfl, z⟩)) (aa_cons (ae_1 T (by decide) rfl (fun _ _ z => ⟨_, rfl, z⟩)) aa_nil))) (by omega) g3 x3 fun p4 as4 H4 n4 e4 g4 l4 x4 => ?_
    refine q_alV (m := 3) (fun _ _ z => ⟨_, rfl, z⟩) (aa_cons (ae_1 T (by decide) rfl (fun _ _ z => ⟨_, rfl, z⟩)) (aa_cons (ae_1 T (by decide) rfl (fun _ _ z => ⟨_, rfl, z⟩)) (aa_cons (ae_1 T (by decide) rfl (fun _ _ z => ⟨_, rfl, z⟩)) aa_nil))) (by omega) g4 x4 fun p5 as5 H5 n5 e5 g5 l5 x5 => ?_
    refine q_alV (m := 2) (fun _ _ z => ⟨_, rfl, z⟩) (aa_cons (ae_1 T (by decide) rfl (fun _ _ z => ⟨_, rfl, z⟩)) (aa_cons (ae_1 T (by decide) rfl (fun _ _ z => ⟨_, rfl, z⟩)) aa_nil)) (by omega) g5 x5 fun p6 as6 H6 n6 e6 g6 l6 x6 => ?_
    refine q_al (f := "position") (v := v) (K := K) (m := 3) (aa_cons (ae_1 T (by decide) rfl (fun _ _ z => ⟨_, rfl, z⟩)) (aa_cons (ae_1 T (by decide) rfl (fun _ _ z => ⟨_, rfl, z⟩)) (aa_cons (ae_1 T (by decide) rfl (fun _ _ z => ⟨_, rfl, z⟩)) aa_nil))) (by decide) fun s1 bs1 H7 m1 d1 h1 k1 y1 => ?_
    refine q_alV (m := 3) (fun _ _ z => ⟨_, rfl, z⟩) (aa_cons (ae_1 T (by decide) rfl (fun _ _ z => ⟨_, rfl, z⟩)) (aa_cons (ae_1 T (by decide) rfl (fun _ _ z => ⟨_, rfl, z⟩)) (aa_cons (ae_1 T (by decide) rfl (fun _ _ z => ⟨_, rfl, z⟩)) aa_nil))) (by omega) h1 y1 fun s2 bs2 H8 m2 d2 h2 k2 y2 => ?_
    refine q_alV (m := 3) (fun _ _ z => ⟨_, rfl, z⟩) (aa_cons (ae_1 T (by decide) rfl (fun _ _ z => ⟨_, rfl, z⟩)) (aa_cons (ae_1 T (by decide) rfl (fun _ _ z => ⟨_, rfl, z⟩)) (aa_cons (ae_1 T (by decide) rfl (fun _ _ z => ⟨_, rfl, z⟩)) aa_nil))) (by omega) h2 y2 fun s3 bs3 H9 m3 d3 h3 k3 y3 => ?_
    refine q_appE (f := "position") (v := v) (K := K) (fun _ _ z => ⟨_, rfl, z⟩) h3 (by omega) (ae_1 T (by decide) rfl (fun _ _ z => ⟨_, rfl, z⟩)) fun a0 H10 d4 y4 => ?_
    have eA : Ex H H8 := e1.trans (e2.trans (e3.trans (e4.trans (e5.trans (e6.trans (d1.trans d2))))))
    have hs3 : H s3 = none := fresh_back eA m3
    have g10 : H10 p6 = some (.lst (as6.map V.ref)) := d4 _ _ (d3 _ _ (d2 _ _ (d1 _ _ g6)))
    have h10 : H10 s3 = some (.lst (bs3.map V.ref)) := d4 _ _ h3
    have ne6 : p6 ≠ s3 := by
      intro z
      have q6 : H8 p6 = some (.lst (as6.map V.ref)) := d2 _ _ (d1 _ _ g6)
      rw [z, m3] at q6
      cases q6
    have eB : Ex H (upd H10 s3 (.lst ((bs3 ++ [a0]).map V.ref))) := Ex.mut (eA.trans (d3.trans d4)) hs3
    have gB : (upd H10 s3 (.lst ((bs3 ++ [a0]).map V.ref))) p6 = some (.lst (as6.map V.ref)) := by
      rw [upd_ne ne6]
      exact g10
    have xB : ∀ a ∈ as6, AtE K "value" v (upd H10 s3 (.lst ((bs3 ++ [a0]).map V.ref))) a := fun a ha => ((x6 a ha).same (d1.trans (d2.trans (d3.trans d4)))).updL h10
    have yB : ∀ a ∈ bs3 ++ [a0], AtE K "position" v (upd H10 s3 (.lst ((bs3 ++ [a0]).map V.ref))) a := fun a ha => by
      rcases List.mem_append.mp ha with ha | ha
      · exact ((y3 a ha).same d4).updL h10
      · rw [List.mem_singleton.mp ha]
        exact y4.updL h10
    have hB : (upd H10 s3 (.lst ((bs3 ++ [a0]).map V.ref))) s3 = some (.lst ((bs3 ++ [a0]).map V.ref)) := upd_same
    revert eB gB xB yB hB
    generalize upd H10 s3 (.lst ((bs3 ++ [a0]).map V.ref)) = HB
    intro eB gB xB yB hB
    have hvB : ∀ H', Ex HB H' → Rw P w H' v d := fun H' z => hv H' (eB.trans z)
    have huB : ∀ H', Ex HB H' → Rw P w H' u e := fun H' z => hu H' (eB.trans z)
    refine q_when (b := false) (et_or (a := false) (b := false) (et_test (ev_ne0 (ev_repN (n := 18) ?_ hvB rd (by decide)) (ev_rightN 18 rfl hvB rd (by decide)))) (fun _ => et_test (ev_ne0 (ev_repN (n := 10) ?_ hvB rd (by decide)) (ev_rightN 10 rfl hvB rd (by decide))))) (fun z => by cases z) (fun _ HC eC => ?_)
    · have z := el_atsV (j := 4) T (f := "value") (v := v) (as := as6) (H := HB) (σ := [some v, some u, some (.ref p6), some (.ref s3), none, none, none, none]) (ev_var (i := 2) rfl) gB (by omega) xB (fun _ => rfl) (fun _ => rfl)
      rw [show as6.length = 18 by omega] at z
      exact z
    · have z := el_atsV (j := 4) T (f := "position") (v := v) (as := bs3 ++ [a0]) (H := HB) (σ := [some v, some u, some (.ref p6), some (.ref s3), none, none, none, none]) (ev_var (i := 3) rfl) hB (by rw [List.length_append, List.length_singleton]; omega) yB (fun _ => rfl) (fun _ => rfl)
      rw [show (bs3 ++ [a0]).length = 10 by rw [List.length_append, List.length_singleton]; omega] at z
      exact z
    have hvC : ∀ H', Ex HC H' → Rw P w H' v d := fun H' z => hvB H' (eC.trans z)
    have huC : ∀ H', Ex HC H' → Rw P w H' u e := fun H' z => huB H' (eC.trans z)
    refine q_par (xe_2K (n := 29) (v := v) (u := u) rfl (fun _ _ z => ⟨_, rfl, z⟩) (fun _ _ z => ⟨_, rfl, z⟩) HC _ fun c1 HD eD z1 => xe_2K (n := 31) (v := v) (u := u) rfl (fun _ _ z => ⟨_, rfl, z⟩) (fun _ _ z => ⟨_, rfl, z⟩) HD _ fun c2 HE eE z2 => ⟨_, _, rfl, ?_⟩)
    have z1' := z1.same eE
    refine q_asgL (el_lst (ea_cons (ev_xatE T (f := "line") (v := v) (ae_1 T (by decide) rfl (fun _ _ z => ⟨_, rfl, z⟩)))
      (ea_cons (ev_xat T (ev_var rfl) (at_2a T (f := "number") (g := "term") (by decide) rfl (by decide) z1'))
      (ea_cons (ev_xat T (ev_var rfl) (at_2b T (f := "number") (g := "term") (by decide) rfl z1'))
      (ea_cons (ev_xat T (ev_var rfl) (at_2a T (f := "what") (g := "limit") (by decide) rfl (by decide) z2))
      (ea_cons (ev_xat T (ev_var rfl) (at_2b T (f := "what") (g := "limit") (by decide) rfl z2)) ea_nil))))) (Nat.le_of_ble_eq_true rfl)) fun p7 HF _ eF gF => ?_
    have hvF : ∀ H', Ex HF H' → Rw P w H' v d := fun H' z => hvC H' (eD.trans (eE.trans (eF.trans z)))
    have huF : ∀ H', Ex HF H' → Rw P w H' u e := fun H' z => huC H' (eD.trans (eE.trans (eF.trans z)))
    have pr : ∀ H', Ex HF H' → Paired (Rw P w H') [v, v, u, v, u] [d, d, e, d, e] := fun H' z => .cons (hvF H' z) (.cons (hvF H' z) (.cons (huF H' z) (.cons (hvF H' z) (.cons (huF H' z) .nil))))
    have ro : ∀ x ∈ [d, d, e, d, e], Rok x := fun x hx => by
      simp only [List.mem_cons, List.not_mem_nil, or_false] at hx
      rcases hx with rfl | rfl | rfl | rfl | rfl <;> assumption
    exact s_ret (ev_eq1 (ev_reprS (ev_var rfl) gF pr ro (Nat.le_of_ble_eq_true rfl)) (ev_reprL (el_lst (ea_cons (ev_var rfl) (ea_cons (ev_var rfl) (ea_cons (ev_var rfl) (ea_cons (ev_var rfl) (ea_cons (ev_var rfl) ea_nil))))) (Nat.le_of_ble_eq_true rfl)) pr ro (Nat.le_of_ble_eq_true rfl))) fun HG eG => q HG (eB.trans (eC.trans (eD.trans (eE.trans (eF.trans eG)))))

end
end K16
namespace K16
open PySem PySem.Spec PyProof.Rows L2 Lw Evl
open LwX (XC XF)
section
variable {P : Program} {w : World} {K : PySem.W.Frag} {mg : Str → Option Value} {base : Heap}
def spRight : Sp := fun vs H Q _ => ∃ p : Addr, vs = [.ref p] ∧ Po p H ∧ ∀ H', Xp p H H' → Q (.bl true) H'
abbrev s_right : Stmt := topS 50
theorem sc_right : FnScope ["_law_pot_here", "_law_turn", "_law_some", "_law_more"] ["_law_pot_here"] (defScope s_right) := ⟨rfl, rfl, rfl, by decide +kernel, rfl, by decide +kernel, by decide +kernel⟩
theorem ok_right {f : Addr} {fd : FuncData} (F : FunD K "_law_right" "_law_right" (defArgs s_right) (defBody s_right) (defScope s_right) [] [] f fd) (T : Tx P w K mg base) (d_law_thing : Cal P w K mg base CX0 3 "_law_thing" ["_law_pot_here"] (spThing P w)) (d_law_classes_right : Cal P w K mg base CX0 4 "_law_classes_right" ["_law_some", "_law_more"] spSure) (d_law_fields_right : Cal P w K mg base CX0 4 "_law_fields_right" ["_law_some", "_law_more"] (spSureR P w)) (d_law_named_right : Cal P w K mg base CX0 4 "_law_named_right" ["_law_some", "_law_more"] (spSureR P w)) : FnG P w K mg base CX0 5 f fd ["_law_pot_here"] spRight := by
  refine fnG F sc_right (fun vs H Q E h => ?_) (fun cdv A outer s H vs Q E gd hr h => ?_)
  · obtain ⟨p, rfl, _⟩ := h
    rfl
  · obtain ⟨p, rfl, hp, q⟩ := h
    refine ⟨_, PSs.nox ((pss_cons (ps_for PassesOwn.never rfl (pi_range1 (by rfl) T.m_range (pa_cons pe_int pa_nil)) (pg_name (i := 1) sc_right.nd rfl (by first | exact Or.inl rfl | exact Or.inr rfl)) (pss_cons (ps_par (i := 2) (j := 3) (by rfl) sc_right.nd rfl rfl (by decide) rfl rfl (pa_cons (pe_cal d_law_thing gd hr (pa_cons (pv 0) pa_nil)) (pa_cons (pe_cal d_law_thing gd hr (pa_cons (pv 0) pa_nil)) pa_nil)) (by rfl))
      (pss_cons (ps_if (PW.pt (pw_or (pt_not (pt_val (pe_cal d_law_classes_right gd hr (pa_cons (pv 2) (pa_cons (pv 3) pa_nil))))) (pw_or1 (pt_not (pt_val (pe_cal d_law_fields_right gd hr (pa_cons (pv 2) (pa_cons (pv 3) pa_nil)))))))) (pss_one (ps_ret pe_bl)) pss_nil)
      (pss_one (ps_if (pt_not (pt_val (pe_cal d_law_named_right gd hr (pa_cons (pv 2) (pa_cons (pv 3) pa_nil))))) (pss_one (ps_ret pe_bl)) pss_nil)))))
      (pss_one (ps_ret pe_bl)))), ?_⟩
    refine q_forR1 (n := 3) (ea_cons ev_c ea_nil) (by decide) (fun i σ' H' => ∃ a1 a2 a3, σ' = [some (.ref p), a1, a2, a3] ∧ Xp p H H') (fun H1 e => ⟨_, _, _, rfl, (Xp.refl hp).same e⟩) (fun i σ' H' hi hP => ?_) (fun σ' H' hP => ?_)
    · obtain ⟨a1, a2, a3, rfl, x⟩ := hP
      refine q_par ⟨_, rfl, p, rfl, x.2, fun v1 H1 x1 s1 => ⟨_, rfl, p, rfl, x1.2, fun v2 H2 x2 s2 => ⟨_, _, rfl, ?_⟩⟩⟩
      obtain ⟨d, rd, hv⟩ := s1.on x2
      obtain ⟨e, re, hu⟩ := s2
      have on2 : ∀ {H'}, Ex H2 H' → Xp p H2 H' := fun z => (Xp.refl x2.2).same z
      refine q_when (b := false) (et_or (a := false) (b := false) (et_not (a := true) (et_B (ev_call (ea_cons (ev_var rfl) (ea_cons (ev_var rfl) ea_nil)) fun H3 e3 Q q E => ⟨v1, v2, rfl, q⟩)))
        (fun _ => et_not (a := true) (et_B (ev_call (ea_cons (ev_var rfl) (ea_cons (ev_var rfl) ea_nil)) fun H3 e3 Q q E => ⟨v1, v2, d, e, rfl, rd, re, fun H' z => hv H' (on2 (e3.trans z)), fun H' z => hu H' (on2 (e3.trans z)), q⟩)))) (fun z => by cases z) (fun _ H3 e3 => ?_)
      refine s_when (b := false) (et_not (a := true) (et_B (ev_call (ea_cons (ev_var rfl) (ea_cons (ev_var rfl) ea_nil)) fun H4 e4 Q q E => ⟨v1, v2, d, e, rfl, rd, re, fun H' z => hv H' (on2 (e3.trans (e4.trans z))), fun H' z => hu H' (on2 (e3.trans (e4.trans z))), q⟩))) (fun z => by cases z) (fun _ H4 e4 => ?_)
      exact ⟨_, _, _, rfl, x.trans (x1.trans (x2.trans (on2 (e3.trans e4))))⟩
    · obtain ⟨a1, a2, a3, rfl, x⟩ := hP
      exact q H' x

def spLaw (K : PySem.W.Frag) : Sp := fun vs H Q _ => ∃ (a : Addr) (ns : List Int), vs = [.ref a] ∧ SqL K H a (ns.map V.int) ∧ ns.length ≤ 63 ∧ ∀ H', Q (.bl true) H'
abbrev s_law : Stmt := topS 51
theorem sc_law : FnScope ["_law_script", "_law_k"] ["_law_script"] (defScope s_law) := ⟨rfl, rfl, rfl, by decide +kernel, rfl, by decide +kernel, by decide +kernel⟩
theorem ok_law {f : Addr} {fd : FuncData} (F : FunD K "law" "law" (defArgs s_law) (defBody s_law) (defScope s_law) [] [] f fd) (T : Tx P w K mg base) (d_law_pot : Cal P w K mg base CX0 1 "_law_pot" ["_law_script", "_law_k"] (spPot K)) (d_law_right : Cal P w K mg base CX0 5 "_law_right" ["_law_pot_here"] spRight) : FnG P w K mg base CX0 6 f fd ["_law_script"] (spLaw K) := by
  refine fnG F sc_law (fun vs H Q E h => ?_) (fun cdv A outer s H vs Q E gd hr h => ?_)
  · obtain ⟨a, ns, rfl, _⟩ := h
    rfl
  · obtain ⟨a, ns, rfl, hS, hlen, q⟩ := h
    refine ⟨_, PSs.nox ((pss_one (ps_ret (pe_callB (cr_allK (K := K)) (by rfl) T.m_all (by decide +kernel) (pa_cons (pe_lc (own := [("_law_k", 1)]) (g := gName 1) (tt := tYes) rfl sc_law.nd (pi_range1 (by rfl) T.m_range (pa_cons (pe_callB (call_max2 rfl) (by rfl) T.m_max (by decide +kernel) (pa_cons pe_int (pa_cons (pe_callB (call_min2 rfl) (by rfl) T.m_min (by decide +kernel) (pa_cons (pe_callB (call_lenK (K := K)) (by rfl) T.m_len (by decide +kernel) (pa_cons (pv 0) pa_nil)) (pa_cons pe_int pa_nil))) pa_nil))) pa_nil)) (blkOk_by (own := [("_law_k", 1)]) (N := ["_law_script", "_law_k"]) (sc := defScope s_law) (by decide +kernel)) (fun _ _ _ _ _ => pg_name (i := 1) sc_law.nd rfl (Or.inl rfl)) (fun _ _ _ _ _ => pts_nil) (fun _ _ _ _ _ => (pe_cal d_law_right gd hr (pa_cons (pe_cal d_law_pot gd hr (pa_cons (pv 0) (pa_cons (pv 1) pa_nil))) pa_nil)))) pa_nil))))), ?_⟩
    refine ⟨_, rfl, a, _, rfl, .inl hS, _, _, rfl, _, _, rfl, _, rfl, ?_, ?_, fun D hD => ?_⟩
    · split <;> split <;> omega
    · split <;> split <;> omega
    · have hn : ∀ n : Nat, n ≤ 63 → (if (if (4 : Int) < (n : Int) then 4 else (n : Int)) > 1 then (if (4 : Int) < (n : Int) then 4 else (n : Int)) else 1).toNat ≤ 4 := fun n _ => by split <;> split <;> omega
      have hn4 := hn _ (show (ns.map V.int).length ≤ 63 by rw [List.length_map]; exact hlen)
      refine lc_range (lo := 0) (n := (if (if (4 : Int) < ((ns.map V.int).length : Int) then 4 else ((ns.map V.int).length : Int)) > 1 then (if (4 : Int) < ((ns.map V.int).length : Int) then 4 else ((ns.map V.int).length : Int)) else 1).toNat) (fun i H' => Ex H H' ∧ H' D = some (.lst (List.replicate i (.bl true)))) ⟨Ex.new hD, upd_same⟩ (fun i H' hi hP => ?_) (fun H' hP => ?_)
      · obtain ⟨e, hl⟩ := hP
        refine ⟨rfl, ?_⟩
        unfold tYes
        dsimp only
        try rw [if_pos rfl]
        refine ⟨_, rfl, _, rfl, a, ns, _, rfl, ex_l e hS, hlen, by omega, by omega, fun p H2 np s2 po => ⟨p, rfl, po, fun H3 x3 => ⟨List.replicate i (.bl true), ?_, ?_, ?_, ?_⟩⟩⟩
        · exact x3.1 _ _ (ne_of_none hl np) (s2 _ _ hl)
        · rw [List.length_replicate]
          exact sz_lt (by omega)
        · intro b o eb
          have h2 := s2 _ _ (e _ _ eb)
          have nb : b ≠ p := ne_of_none (e _ _ eb) np
          rw [upd_ne (ne_of_none eb hD)]
          exact x3.1 _ _ nb h2
        · rw [upd_same, List.replicate_succ']
      · obtain ⟨e, hl⟩ := hP
        refine ⟨D, List.replicate _ true, rfl, SqL.of (by rw [List.map_replicate]; exact hl), ?_⟩
        have z : ∀ n, (List.replicate n true).all id = true := fun n => by
          rw [List.all_replicate]
          cases n <;> rfl
        rw [z]
        exact q H'

end
end K16
namespace K16
open PySem PySem.Spec PyProof.Rows L2 Lw Evl
open LwX (XC XF)

/-! ### the head: what is looked at -/
def dI0 : He.DefD := ⟨("InvalidLetter", some "__init__"), "__init__", "InvalidLetter.__init__", defArgs (inClass (topS 2) 0), defBody (inClass (topS 2) 0), defScope (inClass (topS 2) 0), [], []⟩
def dI1 : He.DefD := ⟨("InvalidWord", some "__init__"), "__init__", "InvalidWord.__init__", defArgs (inClass (topS 3) 0), defBody (inClass (topS 3) 0), defScope (inClass (topS 3) 0), [], []⟩
def dI2 : He.DefD := ⟨("InvalidNumber", some "__init__"), "__init__", "InvalidNumber.__init__", defArgs (inClass (topS 5) 0), defBody (inClass (topS 5) 0), defScope (inClass (topS 5) 0), [], []⟩
def dI3 : He.DefD := ⟨("InvalidFront", some "__init__"), "__init__", "InvalidFront.__init__", defArgs (inClass (topS 6) 0), defBody (inClass (topS 6) 0), defScope (inClass (topS 6) 0), [], []⟩
def dI4 : He.DefD := ⟨("InvalidSaying", some "__init__"), "__init__", "InvalidSaying.__init__", defArgs (inClass (topS 9) 0), defBody (inClass (topS 9) 0), defScope (inClass (topS 9) 0), [], []⟩
def dI5 : He.DefD := ⟨("InvalidBook", some "__init__"), "__init__", "InvalidBook.__init__", defArgs (inClass (topS 11) 0), defBody (inClass (topS 11) 0), defScope (inClass (topS 11) 0), [], []⟩
def dI6 : He.DefD := ⟨("InvalidTerm", some "__init__"), "__init__", "InvalidTerm.__init__", defArgs (inClass (topS 13) 0), defBody (inClass (topS 13) 0), defScope (inClass (topS 13) 0), [], []⟩
def dI7 : He.DefD := ⟨("InvalidWeb", some "__init__"), "__init__", "InvalidWeb.__init__", defArgs (inClass (topS 16) 0), defBody (inClass (topS 16) 0), defScope (inClass (topS 16) 0), [], []⟩
def dI8 : He.DefD := ⟨("InvalidMaker", some "__init__"), "__init__", "InvalidMaker.__init__", defArgs (inClass (topS 18) 0), defBody (inClass (topS 18) 0), defScope (inClass (topS 18) 0), [], []⟩
def dI9 : He.DefD := ⟨("InvalidChoice", some "__init__"), "__init__", "InvalidChoice.__init__", defArgs (inClass (topS 20) 0), defBody (inClass (topS 20) 0), defScope (inClass (topS 20) 0), [], []⟩
def dI10 : He.DefD := ⟨("InvalidWish", some "__init__"), "__init__", "InvalidWish.__init__", defArgs (inClass (topS 21) 0), defBody (inClass (topS 21) 0), defScope (inClass (topS 21) 0), [], []⟩
def dI11 : He.DefD := ⟨("InvalidClaim", some "__init__"), "__init__", "InvalidClaim.__init__", defArgs (inClass (topS 23) 0), defBody (inClass (topS 23) 0), defScope (inClass (topS 23) 0), [], []⟩
def dI12 : He.DefD := ⟨("InvalidName", some "__init__"), "__init__", "InvalidName.__init__", defArgs (inClass (topS 24) 0), defBody (inClass (topS 24) 0), defScope (inClass (topS 24) 0), [], []⟩
def dI13 : He.DefD := ⟨("InvalidEntry", some "__init__"), "__init__", "InvalidEntry.__init__", defArgs (inClass (topS 25) 0), defBody (inClass (topS 25) 0), defScope (inClass (topS 25) 0), [], []⟩
def dI14 : He.DefD := ⟨("InvalidCommand", some "__init__"), "__init__", "InvalidCommand.__init__", defArgs (inClass (topS 26) 0), defBody (inClass (topS 26) 0), defScope (inClass (topS 26) 0), [], []⟩
def dI15 : He.DefD := ⟨("InvalidWords", some "__init__"), "__init__", "InvalidWords.__init__", defArgs (inClass (topS 4) 0), defBody (inClass (topS 4) 0), defScope (inClass (topS 4) 0), [], []⟩
def dI16 : He.DefD := ⟨("InvalidTriggers", some "__init__"), "__init__", "InvalidTriggers.__init__", defArgs (inClass (topS 7) 0), defBody (inClass (topS 7) 0), defScope (inClass (topS 7) 0), [], []⟩
def dI17 : He.DefD := ⟨("InvalidMakes", some "__init__"), "__init__", "InvalidMakes.__init__", defArgs (inClass (topS 8) 0), defBody (inClass (topS 8) 0), defScope (inClass (topS 8) 0), [], []⟩
def dI18 : He.DefD := ⟨("InvalidSayings", some "__init__"), "__init__", "InvalidSayings.__init__", defArgs (inClass (topS 10) 0), defBody (inClass (topS 10) 0), defScope (inClass (topS 10) 0), [], []⟩
def dI19 : He.DefD := ⟨("InvalidThings", some "__init__"), "__init__", "InvalidThings.__init__", defArgs (inClass (topS 12) 0), defBody (inClass (topS 12) 0), defScope (inClass (topS 12) 0), [], []⟩
def dI20 : He.DefD := ⟨("InvalidTerms", some "__init__"), "__init__", "InvalidTerms.__init__", defArgs (inClass (topS 14) 0), defBody (inClass (topS 14) 0), defScope (inClass (topS 14) 0), [], []⟩
def dI21 : He.DefD := ⟨("InvalidPairs", some "__init__"), "__init__", "InvalidPairs.__init__", defArgs (inClass (topS 15) 0), defBody (inClass (topS 15) 0), defScope (inClass (topS 15) 0), [], []⟩
def dI22 : He.DefD := ⟨("InvalidInstances", some "__init__"), "__init__", "InvalidInstances.__init__", defArgs (inClass (topS 17) 0), defBody (inClass (topS 17) 0), defScope (inClass (topS 17) 0), [], []⟩
def dI23 : He.DefD := ⟨("InvalidOffers", some "__init__"), "__init__", "InvalidOffers.__init__", defArgs (inClass (topS 19) 0), defBody (inClass (topS 19) 0), defScope (inClass (topS 19) 0), [], []⟩
def dI24 : He.DefD := ⟨("InvalidText", some "__init__"), "__init__", "InvalidText.__init__", defArgs (inClass (topS 22) 0), defBody (inClass (topS 22) 0), defScope (inClass (topS 22) 0), [], []⟩
def dI25 : He.DefD := ⟨("UnknownLetter", some "__init__"), "__init__", "UnknownLetter.__init__", defArgs (inClass (topS 28) 0), defBody (inClass (topS 28) 0), defScope (inClass (topS 28) 0), [], []⟩
def dI26 : He.DefD := ⟨("UnknownTerm", some "__init__"), "__init__", "UnknownTerm.__init__", defArgs (inClass (topS 29) 0), defBody (inClass (topS 29) 0), defScope (inClass (topS 29) 0), [], []⟩
def dI27 : He.DefD := ⟨("UnknownName", some "__init__"), "__init__", "UnknownName.__init__", defArgs (inClass (topS 30) 0), defBody (inClass (topS 30) 0), defScope (inClass (topS 30) 0), [], []⟩
def dI28 : He.DefD := ⟨("NothingToUndo", some "__init__"), "__init__", "NothingToUndo.__init__", defArgs (inClass (topS 31) 0), defBody (inClass (topS 31) 0), defScope (inClass (topS 31) 0), [], []⟩
def dI29 : He.DefD := ⟨("CantMake", some "__init__"), "__init__", "CantMake.__init__", defArgs (inClass (topS 33) 0), defBody (inClass (topS 33) 0), defScope (inClass (topS 33) 0), [], []⟩
def dI30 : He.DefD := ⟨("CommandFailed", some "__init__"), "__init__", "CommandFailed.__init__", defArgs (inClass (topS 34) 0), defBody (inClass (topS 34) 0), defScope (inClass (topS 34) 0), [], []⟩
def dI31 : He.DefD := ⟨("TooMany", some "__init__"), "__init__", "TooMany.__init__", defArgs (inClass (topS 36) 0), defBody (inClass (topS 36) 0), defScope (inClass (topS 36) 0), [], []⟩
def dF0 : He.DefD := ⟨("_law_pot", none), "_law_pot", "_law_pot", defArgs (topS 38), defBody (topS 38), defScope (topS 38), [], []⟩
def dF1 : He.DefD := ⟨("_law_draw", none), "_law_draw", "_law_draw", defArgs (topS 39), defBody (topS 39), defScope (topS 39), [], []⟩
def dF2 : He.DefD := ⟨("_law_pick", none), "_law_pick", "_law_pick", defArgs (topS 40), defBody (topS 40), defScope (topS 40), [], []⟩
def dF3 : He.DefD := ⟨("_law_thing", none), "_law_thing", "_law_thing", defArgs (topS 41), defBody (topS 41), defScope (topS 41), [], []⟩
def dF4 : He.DefD := ⟨("_law_wakes", none), "_law_wakes", "_law_wakes", defArgs (topS 42), defBody (topS 42), defScope (topS 42), [], []⟩
def dF5 : He.DefD := ⟨("_law_which_wake", none), "_law_which_wake", "_law_which_wake", defArgs (topS 43), defBody (topS 43), defScope (topS 43), [], []⟩
def dF6 : He.DefD := ⟨("_law_rest", none), "_law_rest", "_law_rest", defArgs (topS 44), defBody (topS 44), defScope (topS 44), [], []⟩
def dF7 : He.DefD := ⟨("_law_which_rest", none), "_law_which_rest", "_law_which_rest", defArgs (topS 45), defBody (topS 45), defScope (topS 45), [], []⟩
def dF8 : He.DefD := ⟨("_law_bases", none), "_law_bases", "_law_bases", defArgs (topS 46), defBody (topS 46), defScope (topS 46), [], []⟩
def dF9 : He.DefD := ⟨("_law_classes_right", none), "_law_classes_right", "_law_classes_right", defArgs (topS 47), defBody (topS 47), defScope (topS 47), [], []⟩
def dF10 : He.DefD := ⟨("_law_fields_right", none), "_law_fields_right", "_law_fields_right", defArgs (topS 48), defBody (topS 48), defScope (topS 48), [], []⟩
def dF11 : He.DefD := ⟨("_law_named_right", none), "_law_named_right", "_law_named_right", defArgs (topS 49), defBody (topS 49), defScope (topS 49), [], []⟩
def dF12 : He.DefD := ⟨("_law_right", none), "_law_right", "_law_right", defArgs (topS 50), defBody (topS 50), defScope (topS 50), [], []⟩
def dF13 : He.DefD := ⟨("law", none), "law", "law", defArgs (topS 51), defBody (topS 51), defScope (topS 51), [], []⟩
def fnI : List He.DefD := [dI0, dI1, dI2, dI3, dI4, dI5, dI6, dI7, dI8, dI9, dI10, dI11, dI12, dI13, dI14, dI15, dI16, dI17, dI18, dI19, dI20, dI21, dI22, dI23, dI24, dI25, dI26, dI27, dI28, dI29, dI30, dI31]
def fnF : List He.DefD := [dF0, dF1, dF2, dF3, dF4, dF5, dF6, dF7, dF8, dF9, dF10, dF11, dF12, dF13]
def fn : List He.DefD := fnI ++ fnF
def fa : List He.Fa := [.glo "_law_pot", .glo "_law_draw", .glo "_law_pick", .glo "_law_thing", .glo "_law_wakes", .glo "_law_which_wake", .glo "_law_rest", .glo "_law_which_rest", .glo "_law_bases", .glo "_law_classes_right", .glo "_law_fields_right", .glo "_law_named_right", .glo "_law_right", .glo "law", .free "len", .free "range", .free "abs", .free "max", .free "min", .free "int", .free "divmod", .free "all", .free "isinstance", .free "enumerate", .free "repr", .free "ValueError", .free "LookupError", .free "RuntimeError", .free "ArithmeticError", .free "TypeError", .free "KeyError", .free "IndexError", .free "OverflowError", .free "ZeroDivisionError", .free "NotImplementedError", .free "AttributeError"]
/-- the order of the class along which it looks, and of its __init__ -/
def cls1 (K : PySem.W.Frag) (n : Nat) : Bool := match PySem.W.clsIn K (ca K n) with
  | some cd => decide (cd.mro = [.ref (ca K n), .ref (ba K (kd n)), .type (bb (kd n)), .type "Exception", .type "BaseException", .type "object"])
  | none => false
def fld1 (K : PySem.W.Frag) (n : Nat) : Bool := if n = 28 then true else if two n = true then LwX.xfB K (ca K n) (f2 n).1 && LwX.xfB K (ca K n) (f2 n).2 else LwX.xfB K (ca K n) (f1 n)
def one (K : PySem.W.Frag) (n : Nat) : Bool := (He.Fa.glo (nm n)).ok K && (LwX.xcB K (ca K n) && (cls1 K n && (fld1 K n && (He.Fa.meth (nm n) "__init__").ok K)))
def bas1 (K : PySem.W.Frag) (k : Nat) : Bool := (He.Fa.glo (bas.getD k "")).ok K && ((PySem.W.clsIn K (ba K k)).isSome && decide (PySem.W.typeIn K (.ref (ba K k)) = some (.type "type")))
def adr (K : PySem.W.Frag) (i : Nat) : Addr := if i < 32 then ca K i else ba K (i - 32)
def ord : List Nat := [32, 0, 1, 15, 2, 3, 16, 17, 4, 18, 5, 19, 6, 20, 21, 7, 22, 8, 23, 9, 10, 24, 11, 12, 13, 14, 33, 25, 26, 27, 28, 34, 29, 30, 35, 31]
def incB (K : PySem.W.Frag) : Nat → List Nat → Bool
  | _, [] => true
  | a, i :: r => Nat.blt a (adr K i) && incB K (adr K i) r
def neB (K : PySem.W.Frag) : Bool := incB K 0 ord
def ex (K : PySem.W.Frag) : Bool := (List.range 32).all (one K) && ((List.range 4).all (bas1 K) && neB K)
abbrev R : PySem.W.OpenRow := PySem.W.OpenLaw.row PySem.Challenge.rw_wakesayings_k16_errors
abbrev hk : PySem.W.Hook := He.hookX 6 fa fn [] [] ex
def ob (s : PySem.W.SharedT) : He.AlX := He.obsX 6 fa fn [] [] ex (HandSHeadRun.getT s)
theorem ob_eq (s : PySem.W.SharedT) : ob s = hk.obs s.abs := He.obsX_eq (HandSHeadRun.getT_eq s)

def loose0 : List PySem.Str := ["WakeError", "InvalidLetter", "InvalidWord", "InvalidWords", "InvalidNumber", "InvalidFront", "InvalidTriggers", "InvalidMakes", "InvalidSaying", "InvalidSayings", "InvalidBook", "InvalidThings", "InvalidTerm", "InvalidTerms", "InvalidPairs", "InvalidWeb", "InvalidInstances", "InvalidMaker", "InvalidOffers", "InvalidChoice", "InvalidWish", "InvalidText", "InvalidClaim", "InvalidName", "InvalidEntry", "InvalidCommand", "MissingError", "UnknownLetter", "UnknownTerm", "UnknownName"]
def loose1 : List PySem.Str := ["NothingToUndo", "StateError", "CantMake", "CommandFailed", "LimitError", "TooMany", "_law_pot", "_law_draw", "_law_pick", "_law_thing", "_law_wakes", "_law_which_wake", "_law_rest", "_law_which_rest", "_law_bases", "_law_classes_right", "_law_fields_right", "_law_named_right", "_law_right"]
def loose : List PySem.Str := loose0 ++ loose1
set_option maxHeartbeats 0 in
theorem run (w : World) : HandSHeadRun.RunEq R (PySem.W.view R.prog [51]) hk ob 12000 loose w := by
  intro os
  kernel_rfl
end K16
namespace K16
open PySem PySem.Spec PyProof.Rows L2 Lw Evl
open LwX (XC XF)

/-! ### the head: the facts -/
section
variable {P : Program} {w : World} {K : PySem.W.Frag} {mg : Str → Option Value} {base : Heap} {C fI : Addr} {fd : FuncData} {qual x : Str} {params : Arguments} {scope : Scope}
theorem xcls1 {f : Str} {q1 q2 q3 q4 : Pos} (F : FunD K "__init__" qual params [.Assign [.Attribute (.Name "self" q1) f q2] (.Name f q3) q4] scope [] [] fI fd) (S : FnScope ["self", f] ["self", f] scope)
    (l1 : scope.names.lookup ("self" : Str) = some .local) (l2 : scope.names.lookup f = some .local) (n1 : (f == ("__debug__" : Str)) = false) (n2 : (f == ("__classdict__" : Str)) = false)
    (hb : ∀ (kV doc pm : Value) (an : Option Addr) (cdv ct : Value) (us : List Value), us.length = 2 →
      bindArgs (PySem.W.fnOf "__init__" qual params [.Assign [.Attribute (.Name "self" q1) f q2] (.Name f q3) q4] scope .none kV doc pm an cdv ct) ⟨us, []⟩ = pure ((["self", f] : List Str).zip us))
    (hk : ∀ (kV doc pm : Value) (an : Option Addr) (cdv ct : Value) (us ws : List Value), us.length = 1 → ws.length = 1 →
      bindArgs (PySem.W.fnOf "__init__" qual params [.Assign [.Attribute (.Name "self" q1) f q2] (.Name f q3) q4] scope .none kV doc pm an cdv ct) ⟨us, ((["self", f] : List Str).drop 1).reverse.zip ws⟩ = pure ((["self", f] : List Str).zip (us ++ ws.reverse)))
    (g : mg x = some (.ref C)) (T : XC K C) (A : XF K C f) (M : Meth K C "__init__" fI) : XCls P w K mg base 1 x C ["self", f] (spI1 f C) :=
  ⟨g, T, fI, fd, M.at_, eq_of_beq M.fn, init1 F S T A l1 l2 n1 n2, F.bindsN hb, fun us ws s h1 h2 => kbound (ps := ["self", f]) F hk us ws s h1 h2⟩
theorem xcls2 {f h : Str} {q1 q2 q3 q4 r1 r2 r3 r4 : Pos} (F : FunD K "__init__" qual params [.Assign [.Attribute (.Name "self" q1) f q2] (.Name f q3) q4, .Assign [.Attribute (.Name "self" r1) h r2] (.Name h r3) r4] scope [] [] fI fd) (S : FnScope ["self", f, h] ["self", f, h] scope)
    (l1 : scope.names.lookup ("self" : Str) = some .local) (l2 : scope.names.lookup f = some .local) (l3 : scope.names.lookup h = some .local) (n1 : (f == ("__debug__" : Str)) = false) (n2 : (f == ("__classdict__" : Str)) = false)
    (n3 : (h == ("__debug__" : Str)) = false) (n4 : (h == ("__classdict__" : Str)) = false)
    (hb : ∀ (kV doc pm : Value) (an : Option Addr) (cdv ct : Value) (us : List Value), us.length = 3 →
      bindArgs (PySem.W.fnOf "__init__" qual params [.Assign [.Attribute (.Name "self" q1) f q2] (.Name f q3) q4, .Assign [.Attribute (.Name "self" r1) h r2] (.Name h r3) r4] scope .none kV doc pm an cdv ct) ⟨us, []⟩ = pure ((["self", f, h] : List Str).zip us))
    (hk : ∀ (kV doc pm : Value) (an : Option Addr) (cdv ct : Value) (us ws : List Value), us.length = 1 → ws.length = 2 →
      bindArgs (PySem.W.fnOf "__init__" qual params [.Assign [.Attribute (.Name "self" q1) f q2] (.Name f q3) q4, .Assign [.Attribute (.Name "self" r1) h r2] (.Name h r3) r4] scope .none kV doc pm an cdv ct) ⟨us, ((["self", f, h] : List Str).drop 1).reverse.zip ws⟩ = pure ((["self", f, h] : List Str).zip (us ++ ws.reverse)))
    (g : mg x = some (.ref C)) (T : XC K C) (A : XF K C f) (B : XF K C h) (M : Meth K C "__init__" fI) : XCls P w K mg base 1 x C ["self", f, h] (spI2 f h C) :=
  ⟨g, T, fI, fd, M.at_, eq_of_beq M.fn, init2 F S T A B l1 l2 l3 n1 n2 n3 n4, F.bindsN hb, fun us ws s h1 h2 => kbound (ps := ["self", f, h]) F hk us ws s h1 h2⟩
theorem xcls0 {q1 : Pos} (F : FunD K "__init__" qual params [.Pass q1] scope [] [] fI fd) (S : FnScope ["self"] ["self"] scope)
    (hb : ∀ (kV doc pm : Value) (an : Option Addr) (cdv ct : Value) (us : List Value), us.length = 1 → bindArgs (PySem.W.fnOf "__init__" qual params [.Pass q1] scope .none kV doc pm an cdv ct) ⟨us, []⟩ = pure ((["self"] : List Str).zip us))
    (hk : ∀ (kV doc pm : Value) (an : Option Addr) (cdv ct : Value) (us ws : List Value), us.length = 1 → ws.length = 0 →
      bindArgs (PySem.W.fnOf "__init__" qual params [.Pass q1] scope .none kV doc pm an cdv ct) ⟨us, ((["self"] : List Str).drop 1).reverse.zip ws⟩ = pure ((["self"] : List Str).zip (us ++ ws.reverse)))
    (g : mg x = some (.ref C)) (T : XC K C) (M : Meth K C "__init__" fI) : XCls P w K mg base 1 x C ["self"] (spI0 C) :=
  ⟨g, T, fI, fd, M.at_, eq_of_beq M.fn, init0 F S, F.bindsN hb, fun us ws s h1 h2 => kbound (ps := ["self"]) F hk us ws s h1 h2⟩
end
section
variable {P : Program} {w : World} {K : PySem.W.Frag} {mg : Str → Option Value} {base h : Heap}
theorem all_range {n : Nat} {f : Nat → Bool} (h : (List.range n).all f = true) {i : Nat} (hi : i < n) : f i = true := List.all_eq_true.mp h i (List.mem_range.mpr hi)
theorem incB_all {K : PySem.W.Frag} : ∀ {l : List Nat} {a : Nat}, incB K a l = true → ∀ i ∈ l, a < adr K i
  | [], _, _, _, z => absurd z List.not_mem_nil
  | x :: l, a, h, i, hi => by
    obtain ⟨h1, h2⟩ := Bool.and_eq_true_iff.mp h
    have b : a < adr K x := by simpa using h1
    rcases List.mem_cons.mp hi with e | m
    · rw [e]
      exact b
    · exact Nat.lt_trans b (incB_all h2 i m)
theorem incB_ne {K : PySem.W.Frag} : ∀ {l : List Nat} {a : Nat}, incB K a l = true → ∀ i ∈ l, ∀ j ∈ l, i ≠ j → adr K i ≠ adr K j
  | [], _, _, _, z, _, _, _ => absurd z List.not_mem_nil
  | x :: l, a, h, i, hi, j, hj, n => by
    obtain ⟨_, h2⟩ := Bool.and_eq_true_iff.mp h
    rcases List.mem_cons.mp hi with e | m
    · rcases List.mem_cons.mp hj with e2 | m2
      · exact absurd (e.trans e2.symm) n
      · rw [e]
        exact Nat.ne_of_lt (incB_all h2 j m2)
    · rcases List.mem_cons.mp hj with e2 | m2
      · rw [e2]
        exact Nat.ne_of_gt (incB_all h2 i m)
      · exact incB_ne h2 i m j m2 n
theorem ord_all : ∀ i, i < 36 → i ∈ ord := by decide
theorem neB_ok {K : PySem.W.Frag} (h : neB K = true) (i j : Nat) (hj : j < i) (hi : i < 36) : adr K i ≠ adr K j := incB_ne h i (ord_all i hi) j (ord_all j (by omega)) (by omega)
structure Tops (K : PySem.W.Frag) (mg : Str → Option Value) : Prop where
  g : ∀ n, n < 32 → mg (nm n) = some (.ref (ca K n))
  gb : ∀ k, k < 4 → mg (bas.getD k "") = some (.ref (ba K k))
  xc : ∀ n, n < 32 → XC K (ca K n)
  mro : ∀ n, n < 32 → ∃ cd, PySem.W.clsIn K (ca K n) = some cd ∧ cd.mro = [.ref (ca K n), .ref (ba K (kd n)), .type (bb (kd n)), .type "Exception", .type "BaseException", .type "object"]
  fld : ∀ n, n < 32 → fld1 K n = true
  ini : ∀ n, n < 32 → Meth K (ca K n) "__init__" (He.fAd K (nm n, some "__init__"))
  bc : ∀ k, k < 4 → (PySem.W.clsIn K (ba K k)).isSome = true ∧ PySem.W.typeIn K (.ref (ba K k)) = some (.type "type")
  ne : ∀ i j, j < i → i < 36 → adr K i ≠ adr K j
theorem tops (X : K.In h) (G : h.Ns mainGlobals mg) (e : ex K = true) : Tops K mg := by
  obtain ⟨e1, e2⟩ := He.ba e
  obtain ⟨e2, e3⟩ := He.ba e2
  have o : ∀ n, n < 32 → one K n = true := fun n hn => all_range e1 hn
  have b : ∀ k, k < 4 → bas1 K k = true := fun k hk => all_range e2 hk
  refine ⟨fun n hn => He.glo_ok X G (He.ba (o n hn)).1, fun k hk => He.glo_ok X G (He.ba (b k hk)).1, fun n hn => LwX.xc_ok (He.ba (He.ba (o n hn)).2).1, fun n hn => ?_, fun n hn => (He.ba (He.ba (He.ba (He.ba (o n hn)).2).2).2).1,
    fun n hn => He.meth_ok (He.ba (He.ba (He.ba (He.ba (o n hn)).2).2).2).2, fun k hk => ?_, fun i j hj hi => ?_⟩
  · have c := (He.ba (He.ba (He.ba (o n hn)).2).2).1
    unfold cls1 at c
    split at c
    · rename_i cd q
      exact ⟨cd, q, of_decide_eq_true c⟩
    · cases c
  · obtain ⟨c1, c2⟩ := He.ba (He.ba (b k hk)).2
    exact ⟨c1, of_decide_eq_true c2⟩
  · exact neB_ok e3 i j hj hi
theorem Tops.nr (T : Tops K mg) {n m : Nat} (hn : n < 32) (hm : m < 32) (h : n ≠ m) : ca K n ≠ ca K m := by
  have a : ∀ i, i < 32 → adr K i = ca K i := fun i hi => if_pos hi
  rcases Nat.lt_or_gt_of_ne h with l | l
  · have z := T.ne m n l (by omega)
    rw [a m hm, a n hn] at z
    exact fun y => z y.symm
  · have z := T.ne n m l (by omega)
    rwa [a m hm, a n hn] at z
theorem Tops.nb (T : Tops K mg) {n k : Nat} (hn : n < 32) (hk : k < 4) : ca K n ≠ ba K k := by
  have a : adr K n = ca K n := if_pos hn
  have b : adr K (k + 32) = ba K k := by
    show (if k + 32 < 32 then ca K (k + 32) else ba K (k + 32 - 32)) = _
    rw [if_neg (by omega), show k + 32 - 32 = k by omega]
  have z := T.ne (k + 32) n (by omega) (by omega)
  rw [a, b] at z
  exact fun y => z y.symm
theorem Tops.bb (T : Tops K mg) {j k : Nat} (hj : j < 4) (hk : k < 4) (h : j ≠ k) : ba K j ≠ ba K k := by
  have b : ∀ k, adr K (k + 32) = ba K k := fun k => by
    show (if k + 32 < 32 then ca K (k + 32) else ba K (k + 32 - 32)) = _
    rw [if_neg (by omega), show k + 32 - 32 = k by omega]
  rcases Nat.lt_or_gt_of_ne h with l | l
  · have z := T.ne (k + 32) (j + 32) (by omega) (by omega)
    rw [b, b] at z
    exact fun y => z y.symm
  · have z := T.ne (j + 32) (k + 32) (by omega) (by omega)
    rwa [b, b] at z
theorem beq_ne {a b : Value} (h : a ≠ b) : (a == b) = false := by
  cases q : a == b with
  | false => rfl
  | true => exact absurd (eq_of_beq q) h
theorem beq_ref {a b : Addr} (h : a ≠ b) : (Value.ref a == Value.ref b) = false := beq_ne fun z => h (by injection z)
theorem kd_lt (n : Nat) : kd n < 4 := by
  unfold kd
  split
  · decide
  · split
    · decide
    · split <;> decide
theorem contains_mro {a b v : Value} {s : String} (l : List Value) (h : l = [a, b, .type s, .type "Exception", .type "BaseException", .type "object"]) :
    l.contains v = ((v == a) || ((v == b) || ((v == .type s) || ((v == .type "Exception") || ((v == .type "BaseException") || ((v == .type "object") || false)))))) := by
  rw [h]
  rfl
theorem Tops.sub (T : Tops K mg) {n : Nat} (hn : n < 32) (v : Value) : PySem.W.subIn K (.ref (ca K n)) v = some ((v == .ref (ca K n)) || ((v == .ref (ba K (kd n))) || ((v == .type (K16.bb (kd n))) || ((v == .type "Exception") || ((v == .type "BaseException") || ((v == .type "object") || false)))))) := by
  obtain ⟨cd, e, m⟩ := T.mro n hn
  show (PySem.W.clsIn K (ca K n)).bind (fun cd => if cd.mro.isEmpty then none else some (cd.mro.contains v)) = _
  rw [e]
  show (if cd.mro.isEmpty then none else some (cd.mro.contains v)) = _
  have ne : ¬ cd.mro.isEmpty = true := by
    rw [m]
    intro z
    cases z
  rw [if_neg ne, contains_mro cd.mro m]
theorem rt {a : Addr} {s : String} : (Value.ref a == Value.type s) = false := beq_ne fun z => by cases z
theorem tr {a : Addr} {s : String} : (Value.type s == Value.ref a) = false := beq_ne fun z => by cases z
theorem kit_ref {n : Nat} {C : Addr} (h : ca K n ≠ C) (c : (PySem.W.clsIn K C).isSome = true) (t : PySem.W.typeIn K (.ref C) = some (.type "type")) : PySem.W.kitOne K (.ref (ca K n)) (.ref C) = PySem.W.subIn K (.ref (ca K n)) (.ref C) := by
  unfold PySem.W.kitOne
  rw [if_neg (by rw [beq_ref h]; decide)]
  show (if ((PySem.W.clsIn K C).isSome && PySem.W.typeIn K (.ref C) == some (.type "type")) = true then PySem.W.subIn K (.ref (ca K n)) (.ref C) else none) = _
  rw [if_pos]
  rw [c, t]
  decide +kernel
theorem Tops.kr (T : Tops K mg) (n m : Nat) (hn : n < 32) (hm : m < 32) : PySem.W.kitOne K (.ref (ca K n)) (.ref (ca K m)) = some (n == m) := by
  by_cases h : n = m
  · subst h
    unfold PySem.W.kitOne
    rw [if_pos (beq_self_eq_true _)]
    rw [show (n == n) = true from beq_self_eq_true n]
  · obtain ⟨cd, e, _⟩ := T.mro m hm
    rw [kit_ref (T.nr hn hm h) (by rw [e]; rfl) (T.xc m hm).ty, T.sub hn, beq_ref (T.nr hm hn fun z => h z.symm), beq_ref (T.nb hm (kd_lt n)), rt, rt, rt, rt]
    rw [show (n == m) = false from beq_eq_false_iff_ne.mpr h]
    rfl
theorem Tops.kb (T : Tops K mg) (n k : Nat) (hn : n < 32) (hk : k < 4) : PySem.W.kitOne K (.ref (ca K n)) (.ref (ba K k)) = some (kd n == k) := by
  rw [kit_ref (T.nb hn hk) (T.bc k hk).1 (T.bc k hk).2, T.sub hn, beq_ref (fun z => T.nb hn hk z.symm), rt, rt, rt, rt]
  by_cases h : kd n = k
  · subst h
    rw [show (Value.ref (ba K (kd n)) == Value.ref (ba K (kd n))) = true from beq_self_eq_true _, show (kd n == kd n) = true from beq_self_eq_true _]
    rfl
  · rw [beq_ref (T.bb hk (kd_lt n) fun z => h z.symm), show (kd n == k) = false from beq_eq_false_iff_ne.mpr h]
    rfl
theorem ty_beq (s t : String) : (Value.type s == Value.type t) = (t == s) := by
  by_cases h : t = s
  · subst h
    rw [show (Value.type t == Value.type t) = true from beq_self_eq_true _, show (t == t) = true from beq_self_eq_true _]
  · rw [show (t == s) = false from beq_eq_false_iff_ne.mpr h]
    exact beq_ne fun z => h (by injection z with z; exact z.symm)
theorem Tops.kt (T : Tops K mg) (n : Nat) (s : String) (hn : n < 32) (hs : s = "ValueError" ∨ s = "LookupError" ∨ s = "RuntimeError" ∨ s = "ArithmeticError" ∨ s = "TypeError" ∨ s = "KeyError" ∨ s = "IndexError" ∨ s = "OverflowError" ∨ s = "ZeroDivisionError" ∨ s = "NotImplementedError" ∨ s = "AttributeError") :
    PySem.W.kitOne K (.ref (ca K n)) (.type s) = some (K16.bb (kd n) == s) := by
  have km : PySem.W.kitMeta s = true ∧ ("Exception" == s) = false ∧ ("BaseException" == s) = false ∧ ("object" == s) = false := by
    rcases hs with rfl | rfl | rfl | rfl | rfl | rfl | rfl | rfl | rfl | rfl | rfl <;> decide +kernel
  unfold PySem.W.kitOne
  rw [if_neg (by rw [rt]; decide)]
  show (if PySem.W.kitMeta s = true then PySem.W.subIn K (.ref (ca K n)) (.type s) else none) = _
  rw [if_pos km.1, T.sub hn, tr, tr, ty_beq, ty_beq, ty_beq, ty_beq, km.2.1, km.2.2.1, km.2.2.2]
  cases (K16.bb (kd n) == s) <;> rfl
theorem Tops.f1 (T : Tops K mg) (n : Nat) (hn : n < 32) (h : n ≠ 28) (h2 : two n = false) : XF K (ca K n) (K16.f1 n) := by
  have z := T.fld n hn
  unfold fld1 at z
  rw [if_neg h, if_neg (by rw [h2]; decide)] at z
  exact LwX.xf_ok z
theorem Tops.f2 (T : Tops K mg) (n : Nat) (h2 : two n = true) : XF K (ca K n) (K16.f2 n).1 ∧ XF K (ca K n) (K16.f2 n).2 := by
  have hn : n < 32 ∧ n ≠ 28 := by
    unfold two at h2
    rcases Bool.or_eq_true_iff.mp h2 with q | q
    · have := eq_of_beq q
      omega
    · have := eq_of_beq q
      omega
  have z := T.fld n hn.1
  unfold fld1 at z
  rw [if_neg hn.2, if_pos h2] at z
  obtain ⟨a, b⟩ := He.ba z
  exact ⟨LwX.xf_ok a, LwX.xf_ok b⟩
theorem xcl0 (T : Tops K mg) (c : He.SaysD fa fn K) : XCls P w K mg base 1 (nm 0) (ca K 0) ["self", "value"] (spI1 "value" (ca K 0)) := by
  obtain ⟨fd, F⟩ := c.def_ 0 (d := dI0) rfl
  exact xcls1 F ⟨rfl, rfl, rfl, by decide +kernel, rfl, by decide +kernel, by decide +kernel⟩ rfl rfl (by decide) (by decide) (fun _ _ _ _ _ _ us hl => match us, hl with | [_, _], _ => rfl) (fun _ _ _ _ _ _ us ws hl hm => match us, ws, hl, hm with | [_], [_], _, _ => rfl) (T.g 0 (by decide)) (T.xc 0 (by decide)) (T.f1 0 (by decide) (by decide) (by decide)) (T.ini 0 (by decide))
theorem xcl1 (T : Tops K mg) (c : He.SaysD fa fn K) : XCls P w K mg base 1 (nm 1) (ca K 1) ["self", "value"] (spI1 "value" (ca K 1)) := by
  obtain ⟨fd, F⟩ := c.def_ 1 (d := dI1) rfl
  exact xcls1 F ⟨rfl, rfl, rfl, by decide +kernel, rfl, by decide +kernel, by decide +kernel⟩ rfl rfl (by decide) (by decide) (fun _ _ _ _ _ _ us hl => match us, hl with | [_, _], _ => rfl) (fun _ _ _ _ _ _ us ws hl hm => match us, ws, hl, hm with | [_], [_], _, _ => rfl) (T.g 1 (by decide)) (T.xc 1 (by decide)) (T.f1 1 (by decide) (by decide) (by decide)) (T.ini 1 (by decide))
theorem xcl2 (T : Tops K mg) (c : He.SaysD fa fn K) : XCls P w K mg base 1 (nm 2) (ca K 2) ["self", "value"] (spI1 "value" (ca K 2)) := by
  obtain ⟨fd, F⟩ := c.def_ 2 (d := dI2) rfl
  exact xcls1 F ⟨rfl, rfl, rfl, by decide +kernel, rfl, by decide +kernel, by decide +kernel⟩ rfl rfl (by decide) (by decide) (fun _ _ _ _ _ _ us hl => match us, hl with | [_, _], _ => rfl) (fun _ _ _ _ _ _ us ws hl hm => match us, ws, hl, hm with | [_], [_], _, _ => rfl) (T.g 2 (by decide)) (T.xc 2 (by decide)) (T.f1 2 (by decide) (by decide) (by decide)) (T.ini 2 (by decide))
theorem xcl3 (T : Tops K mg) (c : He.SaysD fa fn K) : XCls P w K mg base 1 (nm 3) (ca K 3) ["self", "value"] (spI1 "value" (ca K 3)) := by
  obtain ⟨fd, F⟩ := c.def_ 3 (d := dI3) rfl
  exact xcls1 F ⟨rfl, rfl, rfl, by decide +kernel, rfl, by decide +kernel, by decide +kernel⟩ rfl rfl (by decide) (by decide) (fun _ _ _ _ _ _ us hl => match us, hl with | [_, _], _ => rfl) (fun _ _ _ _ _ _ us ws hl hm => match us, ws, hl, hm with | [_], [_], _, _ => rfl) (T.g 3 (by decide)) (T.xc 3 (by decide)) (T.f1 3 (by decide) (by decide) (by decide)) (T.ini 3 (by decide))
theorem xcl4 (T : Tops K mg) (c : He.SaysD fa fn K) : XCls P w K mg base 1 (nm 4) (ca K 4) ["self", "value"] (spI1 "value" (ca K 4)) := by
  obtain ⟨fd, F⟩ := c.def_ 4 (d := dI4) rfl
  exact xcls1 F ⟨rfl, rfl, rfl, by decide +kernel, rfl, by decide +kernel, by decide +kernel⟩ rfl rfl (by decide) (by decide) (fun _ _ _ _ _ _ us hl => match us, hl with | [_, _], _ => rfl) (fun _ _ _ _ _ _ us ws hl hm => match us, ws, hl, hm with | [_], [_], _, _ => rfl) (T.g 4 (by decide)) (T.xc 4 (by decide)) (T.f1 4 (by decide) (by decide) (by decide)) (T.ini 4 (by decide))
theorem xcl5 (T : Tops K mg) (c : He.SaysD fa fn K) : XCls P w K mg base 1 (nm 5) (ca K 5) ["self", "value"] (spI1 "value" (ca K 5)) := by
  obtain ⟨fd, F⟩ := c.def_ 5 (d := dI5) rfl
  exact xcls1 F ⟨rfl, rfl, rfl, by decide +kernel, rfl, by decide +kernel, by decide +kernel⟩ rfl rfl (by decide) (by decide) (fun _ _ _ _ _ _ us hl => match us, hl with | [_, _], _ => rfl) (fun _ _ _ _ _ _ us ws hl hm => match us, ws, hl, hm with | [_], [_], _, _ => rfl) (T.g 5 (by decide)) (T.xc 5 (by decide)) (T.f1 5 (by decide) (by decide) (by decide)) (T.ini 5 (by decide))
theorem xcl6 (T : Tops K mg) (c : He.SaysD fa fn K) : XCls P w K mg base 1 (nm 6) (ca K 6) ["self", "value"] (spI1 "value" (ca K 6)) := by
  obtain ⟨fd, F⟩ := c.def_ 6 (d := dI6) rfl
  exact xcls1 F ⟨rfl, rfl, rfl, by decide +kernel, rfl, by decide +kernel, by decide +kernel⟩ rfl rfl (by decide) (by decide) (fun _ _ _ _ _ _ us hl => match us, hl with | [_, _], _ => rfl) (fun _ _ _ _ _ _ us ws hl hm => match us, ws, hl, hm with | [_], [_], _, _ => rfl) (T.g 6 (by decide)) (T.xc 6 (by decide)) (T.f1 6 (by decide) (by decide) (by decide)) (T.ini 6 (by decide))
theorem xcl7 (T : Tops K mg) (c : He.SaysD fa fn K) : XCls P w K mg base 1 (nm 7) (ca K 7) ["self", "value"] (spI1 "value" (ca K 7)) := by
  obtain ⟨fd, F⟩ := c.def_ 7 (d := dI7) rfl
  exact xcls1 F ⟨rfl, rfl, rfl, by decide +kernel, rfl, by decide +kernel, by decide +kernel⟩ rfl rfl (by decide) (by decide) (fun _ _ _ _ _ _ us hl => match us, hl with | [_, _], _ => rfl) (fun _ _ _ _ _ _ us ws hl hm => match us, ws, hl, hm with | [_], [_], _, _ => rfl) (T.g 7 (by decide)) (T.xc 7 (by decide)) (T.f1 7 (by decide) (by decide) (by decide)) (T.ini 7 (by decide))
theorem xcl8 (T : Tops K mg) (c : He.SaysD fa fn K) : XCls P w K mg base 1 (nm 8) (ca K 8) ["self", "value"] (spI1 "value" (ca K 8)) := by
  obtain ⟨fd, F⟩ := c.def_ 8 (d := dI8) rfl
  exact xcls1 F ⟨rfl, rfl, rfl, by decide +kernel, rfl, by decide +kernel, by decide +kernel⟩ rfl rfl (by decide) (by decide) (fun _ _ _ _ _ _ us hl => match us, hl with | [_, _], _ => rfl) (fun _ _ _ _ _ _ us ws hl hm => match us, ws, hl, hm with | [_], [_], _, _ => rfl) (T.g 8 (by decide)) (T.xc 8 (by decide)) (T.f1 8 (by decide) (by decide) (by decide)) (T.ini 8 (by decide))
theorem xcl9 (T : Tops K mg) (c : He.SaysD fa fn K) : XCls P w K mg base 1 (nm 9) (ca K 9) ["self", "value"] (spI1 "value" (ca K 9)) := by
  obtain ⟨fd, F⟩ := c.def_ 9 (d := dI9) rfl
  exact xcls1 F ⟨rfl, rfl, rfl, by decide +kernel, rfl, by decide +kernel, by decide +kernel⟩ rfl rfl (by decide) (by decide) (fun _ _ _ _ _ _ us hl => match us, hl with | [_, _], _ => rfl) (fun _ _ _ _ _ _ us ws hl hm => match us, ws, hl, hm with | [_], [_], _, _ => rfl) (T.g 9 (by decide)) (T.xc 9 (by decide)) (T.f1 9 (by decide) (by decide) (by decide)) (T.ini 9 (by decide))
theorem xcl10 (T : Tops K mg) (c : He.SaysD fa fn K) : XCls P w K mg base 1 (nm 10) (ca K 10) ["self", "value"] (spI1 "value" (ca K 10)) := by
  obtain ⟨fd, F⟩ := c.def_ 10 (d := dI10) rfl
  exact xcls1 F ⟨rfl, rfl, rfl, by decide +kernel, rfl, by decide +kernel, by decide +kernel⟩ rfl rfl (by decide) (by decide) (fun _ _ _ _ _ _ us hl => match us, hl with | [_, _], _ => rfl) (fun _ _ _ _ _ _ us ws hl hm => match us, ws, hl, hm with | [_], [_], _, _ => rfl) (T.g 10 (by decide)) (T.xc 10 (by decide)) (T.f1 10 (by decide) (by decide) (by decide)) (T.ini 10 (by decide))
theorem xcl11 (T : Tops K mg) (c : He.SaysD fa fn K) : XCls P w K mg base 1 (nm 11) (ca K 11) ["self", "value"] (spI1 "value" (ca K 11)) := by
  obtain ⟨fd, F⟩ := c.def_ 11 (d := dI11) rfl
  exact xcls1 F ⟨rfl, rfl, rfl, by decide +kernel, rfl, by decide +kernel, by decide +kernel⟩ rfl rfl (by decide) (by decide) (fun _ _ _ _ _ _ us hl => match us, hl with | [_, _], _ => rfl) (fun _ _ _ _ _ _ us ws hl hm => match us, ws, hl, hm with | [_], [_], _, _ => rfl) (T.g 11 (by decide)) (T.xc 11 (by decide)) (T.f1 11 (by decide) (by decide) (by decide)) (T.ini 11 (by decide))
theorem xcl12 (T : Tops K mg) (c : He.SaysD fa fn K) : XCls P w K mg base 1 (nm 12) (ca K 12) ["self", "value"] (spI1 "value" (ca K 12)) := by
  obtain ⟨fd, F⟩ := c.def_ 12 (d := dI12) rfl
  exact xcls1 F ⟨rfl, rfl, rfl, by decide +kernel, rfl, by decide +kernel, by decide +kernel⟩ rfl rfl (by decide) (by decide) (fun _ _ _ _ _ _ us hl => match us, hl with | [_, _], _ => rfl) (fun _ _ _ _ _ _ us ws hl hm => match us, ws, hl, hm with | [_], [_], _, _ => rfl) (T.g 12 (by decide)) (T.xc 12 (by decide)) (T.f1 12 (by decide) (by decide) (by decide)) (T.ini 12 (by decide))
theorem xcl13 (T : Tops K mg) (c : He.SaysD fa fn K) : XCls P w K mg base 1 (nm 13) (ca K 13) ["self", "value"] (spI1 "value" (ca K 13)) := by
  obtain ⟨fd, F⟩ := c.def_ 13 (d := dI13) rfl
  exact xcls1 F ⟨rfl, rfl, rfl, by decide +kernel, rfl, by decide +kernel, by decide +kernel⟩ rfl rfl (by decide) (by decide) (fun _ _ _ _ _ _ us hl => match us, hl with | [_, _], _ => rfl) (fun _ _ _ _ _ _ us ws hl hm => match us, ws, hl, hm with | [_], [_], _, _ => rfl) (T.g 13 (by decide)) (T.xc 13 (by decide)) (T.f1 13 (by decide) (by decide) (by decide)) (T.ini 13 (by decide))
theorem xcl14 (T : Tops K mg) (c : He.SaysD fa fn K) : XCls P w K mg base 1 (nm 14) (ca K 14) ["self", "value"] (spI1 "value" (ca K 14)) := by
  obtain ⟨fd, F⟩ := c.def_ 14 (d := dI14) rfl
  exact xcls1 F ⟨rfl, rfl, rfl, by decide +kernel, rfl, by decide +kernel, by decide +kernel⟩ rfl rfl (by decide) (by decide) (fun _ _ _ _ _ _ us hl => match us, hl with | [_, _], _ => rfl) (fun _ _ _ _ _ _ us ws hl hm => match us, ws, hl, hm with | [_], [_], _, _ => rfl) (T.g 14 (by decide)) (T.xc 14 (by decide)) (T.f1 14 (by decide) (by decide) (by decide)) (T.ini 14 (by decide))
theorem xcl15 (T : Tops K mg) (c : He.SaysD fa fn K) : XCls P w K mg base 1 (nm 15) (ca K 15) ["self", "position"] (spI1 "position" (ca K 15)) := by
  obtain ⟨fd, F⟩ := c.def_ 15 (d := dI15) rfl
  exact xcls1 F ⟨rfl, rfl, rfl, by decide +kernel, rfl, by decide +kernel, by decide +kernel⟩ rfl rfl (by decide) (by decide) (fun _ _ _ _ _ _ us hl => match us, hl with | [_, _], _ => rfl) (fun _ _ _ _ _ _ us ws hl hm => match us, ws, hl, hm with | [_], [_], _, _ => rfl) (T.g 15 (by decide)) (T.xc 15 (by decide)) (T.f1 15 (by decide) (by decide) (by decide)) (T.ini 15 (by decide))
theorem xcl16 (T : Tops K mg) (c : He.SaysD fa fn K) : XCls P w K mg base 1 (nm 16) (ca K 16) ["self", "position"] (spI1 "position" (ca K 16)) := by
  obtain ⟨fd, F⟩ := c.def_ 16 (d := dI16) rfl
  exact xcls1 F ⟨rfl, rfl, rfl, by decide +kernel, rfl, by decide +kernel, by decide +kernel⟩ rfl rfl (by decide) (by decide) (fun _ _ _ _ _ _ us hl => match us, hl with | [_, _], _ => rfl) (fun _ _ _ _ _ _ us ws hl hm => match us, ws, hl, hm with | [_], [_], _, _ => rfl) (T.g 16 (by decide)) (T.xc 16 (by decide)) (T.f1 16 (by decide) (by decide) (by decide)) (T.ini 16 (by decide))
theorem xcl17 (T : Tops K mg) (c : He.SaysD fa fn K) : XCls P w K mg base 1 (nm 17) (ca K 17) ["self", "position"] (spI1 "position" (ca K 17)) := by
  obtain ⟨fd, F⟩ := c.def_ 17 (d := dI17) rfl
  exact xcls1 F ⟨rfl, rfl, rfl, by decide +kernel, rfl, by decide +kernel, by decide +kernel⟩ rfl rfl (by decide) (by decide) (fun _ _ _ _ _ _ us hl => match us, hl with | [_, _], _ => rfl) (fun _ _ _ _ _ _ us ws hl hm => match us, ws, hl, hm with | [_], [_], _, _ => rfl) (T.g 17 (by decide)) (T.xc 17 (by decide)) (T.f1 17 (by decide) (by decide) (by decide)) (T.ini 17 (by decide))
theorem xcl18 (T : Tops K mg) (c : He.SaysD fa fn K) : XCls P w K mg base 1 (nm 18) (ca K 18) ["self", "position"] (spI1 "position" (ca K 18)) := by
  obtain ⟨fd, F⟩ := c.def_ 18 (d := dI18) rfl
  exact xcls1 F ⟨rfl, rfl, rfl, by decide +kernel, rfl, by decide +kernel, by decide +kernel⟩ rfl rfl (by decide) (by decide) (fun _ _ _ _ _ _ us hl => match us, hl with | [_, _], _ => rfl) (fun _ _ _ _ _ _ us ws hl hm => match us, ws, hl, hm with | [_], [_], _, _ => rfl) (T.g 18 (by decide)) (T.xc 18 (by decide)) (T.f1 18 (by decide) (by decide) (by decide)) (T.ini 18 (by decide))
theorem xcl19 (T : Tops K mg) (c : He.SaysD fa fn K) : XCls P w K mg base 1 (nm 19) (ca K 19) ["self", "position"] (spI1 "position" (ca K 19)) := by
  obtain ⟨fd, F⟩ := c.def_ 19 (d := dI19) rfl
  exact xcls1 F ⟨rfl, rfl, rfl, by decide +kernel, rfl, by decide +kernel, by decide +kernel⟩ rfl rfl (by decide) (by decide) (fun _ _ _ _ _ _ us hl => match us, hl with | [_, _], _ => rfl) (fun _ _ _ _ _ _ us ws hl hm => match us, ws, hl, hm with | [_], [_], _, _ => rfl) (T.g 19 (by decide)) (T.xc 19 (by decide)) (T.f1 19 (by decide) (by decide) (by decide)) (T.ini 19 (by decide))
theorem xcl20 (T : Tops K mg) (c : He.SaysD fa fn K) : XCls P w K mg base 1 (nm 20) (ca K 20) ["self", "position"] (spI1 "position" (ca K 20)) := by
  obtain ⟨fd, F⟩ := c.def_ 20 (d := dI20) rfl
  exact xcls1 F ⟨rfl, rfl, rfl, by decide +kernel, rfl, by decide +kernel, by decide +kernel⟩ rfl rfl (by decide) (by decide) (fun _ _ _ _ _ _ us hl => match us, hl with | [_, _], _ => rfl) (fun _ _ _ _ _ _ us ws hl hm => match us, ws, hl, hm with | [_], [_], _, _ => rfl) (T.g 20 (by decide)) (T.xc 20 (by decide)) (T.f1 20 (by decide) (by decide) (by decide)) (T.ini 20 (by decide))
theorem xcl21 (T : Tops K mg) (c : He.SaysD fa fn K) : XCls P w K mg base 1 (nm 21) (ca K 21) ["self", "position"] (spI1 "position" (ca K 21)) := by
  obtain ⟨fd, F⟩ := c.def_ 21 (d := dI21) rfl
  exact xcls1 F ⟨rfl, rfl, rfl, by decide +kernel, rfl, by decide +kernel, by decide +kernel⟩ rfl rfl (by decide) (by decide) (fun _ _ _ _ _ _ us hl => match us, hl with | [_, _], _ => rfl) (fun _ _ _ _ _ _ us ws hl hm => match us, ws, hl, hm with | [_], [_], _, _ => rfl) (T.g 21 (by decide)) (T.xc 21 (by decide)) (T.f1 21 (by decide) (by decide) (by decide)) (T.ini 21 (by decide))
theorem xcl22 (T : Tops K mg) (c : He.SaysD fa fn K) : XCls P w K mg base 1 (nm 22) (ca K 22) ["self", "position"] (spI1 "position" (ca K 22)) := by
  obtain ⟨fd, F⟩ := c.def_ 22 (d := dI22) rfl
  exact xcls1 F ⟨rfl, rfl, rfl, by decide +kernel, rfl, by decide +kernel, by decide +kernel⟩ rfl rfl (by decide) (by decide) (fun _ _ _ _ _ _ us hl => match us, hl with | [_, _], _ => rfl) (fun _ _ _ _ _ _ us ws hl hm => match us, ws, hl, hm with | [_], [_], _, _ => rfl) (T.g 22 (by decide)) (T.xc 22 (by decide)) (T.f1 22 (by decide) (by decide) (by decide)) (T.ini 22 (by decide))
theorem xcl23 (T : Tops K mg) (c : He.SaysD fa fn K) : XCls P w K mg base 1 (nm 23) (ca K 23) ["self", "position"] (spI1 "position" (ca K 23)) := by
  obtain ⟨fd, F⟩ := c.def_ 23 (d := dI23) rfl
  exact xcls1 F ⟨rfl, rfl, rfl, by decide +kernel, rfl, by decide +kernel, by decide +kernel⟩ rfl rfl (by decide) (by decide) (fun _ _ _ _ _ _ us hl => match us, hl with | [_, _], _ => rfl) (fun _ _ _ _ _ _ us ws hl hm => match us, ws, hl, hm with | [_], [_], _, _ => rfl) (T.g 23 (by decide)) (T.xc 23 (by decide)) (T.f1 23 (by decide) (by decide) (by decide)) (T.ini 23 (by decide))
theorem xcl24 (T : Tops K mg) (c : He.SaysD fa fn K) : XCls P w K mg base 1 (nm 24) (ca K 24) ["self", "line"] (spI1 "line" (ca K 24)) := by
  obtain ⟨fd, F⟩ := c.def_ 24 (d := dI24) rfl
  exact xcls1 F ⟨rfl, rfl, rfl, by decide +kernel, rfl, by decide +kernel, by decide +kernel⟩ rfl rfl (by decide) (by decide) (fun _ _ _ _ _ _ us hl => match us, hl with | [_, _], _ => rfl) (fun _ _ _ _ _ _ us ws hl hm => match us, ws, hl, hm with | [_], [_], _, _ => rfl) (T.g 24 (by decide)) (T.xc 24 (by decide)) (T.f1 24 (by decide) (by decide) (by decide)) (T.ini 24 (by decide))
theorem xcl25 (T : Tops K mg) (c : He.SaysD fa fn K) : XCls P w K mg base 1 (nm 25) (ca K 25) ["self", "value"] (spI1 "value" (ca K 25)) := by
  obtain ⟨fd, F⟩ := c.def_ 25 (d := dI25) rfl
  exact xcls1 F ⟨rfl, rfl, rfl, by decide +kernel, rfl, by decide +kernel, by decide +kernel⟩ rfl rfl (by decide) (by decide) (fun _ _ _ _ _ _ us hl => match us, hl with | [_, _], _ => rfl) (fun _ _ _ _ _ _ us ws hl hm => match us, ws, hl, hm with | [_], [_], _, _ => rfl) (T.g 25 (by decide)) (T.xc 25 (by decide)) (T.f1 25 (by decide) (by decide) (by decide)) (T.ini 25 (by decide))
theorem xcl26 (T : Tops K mg) (c : He.SaysD fa fn K) : XCls P w K mg base 1 (nm 26) (ca K 26) ["self", "value"] (spI1 "value" (ca K 26)) := by
  obtain ⟨fd, F⟩ := c.def_ 26 (d := dI26) rfl
  exact xcls1 F ⟨rfl, rfl, rfl, by decide +kernel, rfl, by decide +kernel, by decide +kernel⟩ rfl rfl (by decide) (by decide) (fun _ _ _ _ _ _ us hl => match us, hl with | [_, _], _ => rfl) (fun _ _ _ _ _ _ us ws hl hm => match us, ws, hl, hm with | [_], [_], _, _ => rfl) (T.g 26 (by decide)) (T.xc 26 (by decide)) (T.f1 26 (by decide) (by decide) (by decide)) (T.ini 26 (by decide))
theorem xcl27 (T : Tops K mg) (c : He.SaysD fa fn K) : XCls P w K mg base 1 (nm 27) (ca K 27) ["self", "value"] (spI1 "value" (ca K 27)) := by
  obtain ⟨fd, F⟩ := c.def_ 27 (d := dI27) rfl
  exact xcls1 F ⟨rfl, rfl, rfl, by decide +kernel, rfl, by decide +kernel, by decide +kernel⟩ rfl rfl (by decide) (by decide) (fun _ _ _ _ _ _ us hl => match us, hl with | [_, _], _ => rfl) (fun _ _ _ _ _ _ us ws hl hm => match us, ws, hl, hm with | [_], [_], _, _ => rfl) (T.g 27 (by decide)) (T.xc 27 (by decide)) (T.f1 27 (by decide) (by decide) (by decide)) (T.ini 27 (by decide))
theorem xcl28 (T : Tops K mg) (c : He.SaysD fa fn K) : XCls P w K mg base 1 (nm 28) (ca K 28) ["self"] (spI0 (ca K 28)) := by
  obtain ⟨fd, F⟩ := c.def_ 28 (d := dI28) rfl
  exact xcls0 F ⟨rfl, rfl, rfl, by decide +kernel, rfl, by decide +kernel, by decide +kernel⟩  (fun _ _ _ _ _ _ us hl => match us, hl with | [_], _ => rfl) (fun _ _ _ _ _ _ us ws hl hm => match us, ws, hl, hm with | [_], [], _, _ => rfl) (T.g 28 (by decide)) (T.xc 28 (by decide))  (T.ini 28 (by decide))
theorem xcl29 (T : Tops K mg) (c : He.SaysD fa fn K) : XCls P w K mg base 1 (nm 29) (ca K 29) ["self", "number", "term"] (spI2 "number" "term" (ca K 29)) := by
  obtain ⟨fd, F⟩ := c.def_ 29 (d := dI29) rfl
  exact xcls2 F ⟨rfl, rfl, rfl, by decide +kernel, rfl, by decide +kernel, by decide +kernel⟩ rfl rfl rfl (by decide) (by decide) (by decide) (by decide) (fun _ _ _ _ _ _ us hl => match us, hl with | [_, _, _], _ => rfl) (fun _ _ _ _ _ _ us ws hl hm => match us, ws, hl, hm with | [_], [_, _], _, _ => rfl) (T.g 29 (by decide)) (T.xc 29 (by decide)) (T.f2 29 (by decide)).1 (T.f2 29 (by decide)).2 (T.ini 29 (by decide))
theorem xcl30 (T : Tops K mg) (c : He.SaysD fa fn K) : XCls P w K mg base 1 (nm 30) (ca K 30) ["self", "position"] (spI1 "position" (ca K 30)) := by
  obtain ⟨fd, F⟩ := c.def_ 30 (d := dI30) rfl
  exact xcls1 F ⟨rfl, rfl, rfl, by decide +kernel, rfl, by decide +kernel, by decide +kernel⟩ rfl rfl (by decide) (by decide) (fun _ _ _ _ _ _ us hl => match us, hl with | [_, _], _ => rfl) (fun _ _ _ _ _ _ us ws hl hm => match us, ws, hl, hm with | [_], [_], _, _ => rfl) (T.g 30 (by decide)) (T.xc 30 (by decide)) (T.f1 30 (by decide) (by decide) (by decide)) (T.ini 30 (by decide))
theorem xcl31 (T : Tops K mg) (c : He.SaysD fa fn K) : XCls P w K mg base 1 (nm 31) (ca K 31) ["self", "what", "limit"] (spI2 "what" "limit" (ca K 31)) := by
  obtain ⟨fd, F⟩ := c.def_ 31 (d := dI31) rfl
  exact xcls2 F ⟨rfl, rfl, rfl, by decide +kernel, rfl, by decide +kernel, by decide +kernel⟩ rfl rfl rfl (by decide) (by decide) (by decide) (by decide) (fun _ _ _ _ _ _ us hl => match us, hl with | [_, _, _], _ => rfl) (fun _ _ _ _ _ _ us ws hl hm => match us, ws, hl, hm with | [_], [_, _], _, _ => rfl) (T.g 31 (by decide)) (T.xc 31 (by decide)) (T.f2 31 (by decide)).1 (T.f2 31 (by decide)).2 (T.ini 31 (by decide))
theorem tx (X : K.In h) (G : h.Ns mainGlobals mg) (c : He.SaysD fa fn K) (e : ex K = true) : Tx P w K mg base := by
  have T := tops X G e
  refine ⟨He.free_ok X G (c.fact 14 (f := .free "len") rfl), He.free_ok X G (c.fact 15 (f := .free "range") rfl), He.free_ok X G (c.fact 16 (f := .free "abs") rfl), He.free_ok X G (c.fact 17 (f := .free "max") rfl), He.free_ok X G (c.fact 18 (f := .free "min") rfl), He.free_ok X G (c.fact 19 (f := .free "int") rfl), He.free_ok X G (c.fact 20 (f := .free "divmod") rfl), He.free_ok X G (c.fact 21 (f := .free "all") rfl), He.free_ok X G (c.fact 22 (f := .free "isinstance") rfl), He.free_ok X G (c.fact 23 (f := .free "enumerate") rfl), He.free_ok X G (c.fact 24 (f := .free "repr") rfl), He.free_ok X G (c.fact 25 (f := .free "ValueError") rfl), He.free_ok X G (c.fact 26 (f := .free "LookupError") rfl), He.free_ok X G (c.fact 27 (f := .free "RuntimeError") rfl), He.free_ok X G (c.fact 28 (f := .free "ArithmeticError") rfl), He.free_ok X G (c.fact 29 (f := .free "TypeError") rfl), He.free_ok X G (c.fact 30 (f := .free "KeyError") rfl), He.free_ok X G (c.fact 31 (f := .free "IndexError") rfl), He.free_ok X G (c.fact 32 (f := .free "OverflowError") rfl), He.free_ok X G (c.fact 33 (f := .free "ZeroDivisionError") rfl), He.free_ok X G (c.fact 34 (f := .free "NotImplementedError") rfl), He.free_ok X G (c.fact 35 (f := .free "AttributeError") rfl), T.g, T.gb, T.xc, fun n hn => ?_, fun n hn => ?_, xcl28 T c, T.kr, T.kb, T.kt, T.f1, T.f2⟩
  · obtain ⟨h1, h2, h3⟩ := hn
    match n, h1, h2, h3 with
    | 0, _, _, _ => exact xcl0 T c
    | 1, _, _, _ => exact xcl1 T c
    | 2, _, _, _ => exact xcl2 T c
    | 3, _, _, _ => exact xcl3 T c
    | 4, _, _, _ => exact xcl4 T c
    | 5, _, _, _ => exact xcl5 T c
    | 6, _, _, _ => exact xcl6 T c
    | 7, _, _, _ => exact xcl7 T c
    | 8, _, _, _ => exact xcl8 T c
    | 9, _, _, _ => exact xcl9 T c
    | 10, _, _, _ => exact xcl10 T c
    | 11, _, _, _ => exact xcl11 T c
    | 12, _, _, _ => exact xcl12 T c
    | 13, _, _, _ => exact xcl13 T c
    | 14, _, _, _ => exact xcl14 T c
    | 15, _, _, _ => exact xcl15 T c
    | 16, _, _, _ => exact xcl16 T c
    | 17, _, _, _ => exact xcl17 T c
    | 18, _, _, _ => exact xcl18 T c
    | 19, _, _, _ => exact xcl19 T c
    | 20, _, _, _ => exact xcl20 T c
    | 21, _, _, _ => exact xcl21 T c
    | 22, _, _, _ => exact xcl22 T c
    | 23, _, _, _ => exact xcl23 T c
    | 24, _, _, _ => exact xcl24 T c
    | 25, _, _, _ => exact xcl25 T c
    | 26, _, _, _ => exact xcl26 T c
    | 27, _, _, _ => exact xcl27 T c
    | 28, _, h2, _ => exact absurd rfl h2
    | 29, _, _, h3 => exact absurd h3 (by decide)
    | 30, _, _, _ => exact xcl30 T c
    | 31, _, _, h3 => exact absurd h3 (by decide)
    | n + 32, h1, _, _ => omega
  · unfold two at hn
    rcases Bool.or_eq_true_iff.mp hn with q | q
    · have z := eq_of_beq q
      subst z
      exact xcl29 T c
    · have z := eq_of_beq q
      subst z
      exact xcl31 T c
theorem mkCal {k : Nat} {x : Str} {ps : List Str} {sp : Sp} {f : Addr} {fd : FuncData} (g : mg x = some (.ref f)) (kp : PySem.W.keepIn K (.ref f) = true) (b : Binds K fd ps []) (H : FnG P w K mg base CX0 k f fd ps sp) : Cal P w K mg base CX0 k x ps sp := ⟨f, fd, g, kp, b, H⟩
theorem facts {f : Addr} (X : K.In h) (G : h.Ns mainGlobals mg) (hfa : mg ("law" : Str) = some (.ref f)) (c : He.SaysD fa fn K) (e : ex K = true) :
    ∃ fd : FuncData, (∀ (s : Shared) (v : Value), BindsTo s fd ⟨[v], []⟩ [("_law_script", v)]) ∧ ∀ base : Heap, FnG P w K mg base CX0 6 f fd ["_law_script"] (spLaw K) := by
  obtain ⟨fd0, F0⟩ := c.def_ 32 (d := dF0) rfl
  have g0 : mg "_law_pot" = some (.ref (He.ga K "_law_pot")) := He.glo_ok X G (c.fact 0 (f := .glo "_law_pot") rfl)
  have b0 : Binds K fd0 ["_law_script", "_law_k"] [] := F0.bindsN fun _ _ _ _ _ _ us hl => match us, hl with | [_, _], _ => rfl
  obtain ⟨fd1, F1⟩ := c.def_ 33 (d := dF1) rfl
  have g1 : mg "_law_draw" = some (.ref (He.ga K "_law_draw")) := He.glo_ok X G (c.fact 1 (f := .glo "_law_draw") rfl)
  have b1 : Binds K fd1 ["_law_pot_here", "_law_size"] [] := F1.bindsN fun _ _ _ _ _ _ us hl => match us, hl with | [_, _], _ => rfl
  obtain ⟨fd2, F2⟩ := c.def_ 34 (d := dF2) rfl
  have g2 : mg "_law_pick" = some (.ref (He.ga K "_law_pick")) := He.glo_ok X G (c.fact 2 (f := .glo "_law_pick") rfl)
  have b2 : Binds K fd2 ["_law_pot_here", "_law_some"] [] := F2.bindsN fun _ _ _ _ _ _ us hl => match us, hl with | [_, _], _ => rfl
  obtain ⟨fd3, F3⟩ := c.def_ 35 (d := dF3) rfl
  have g3 : mg "_law_thing" = some (.ref (He.ga K "_law_thing")) := He.glo_ok X G (c.fact 3 (f := .glo "_law_thing") rfl)
  have b3 : Binds K fd3 ["_law_pot_here"] [] := F3.bindsN fun _ _ _ _ _ _ us hl => match us, hl with | [_], _ => rfl
  obtain ⟨fd4, F4⟩ := c.def_ 36 (d := dF4) rfl
  have g4 : mg "_law_wakes" = some (.ref (He.ga K "_law_wakes")) := He.glo_ok X G (c.fact 4 (f := .glo "_law_wakes") rfl)
  have b4 : Binds K fd4 ["_law_some"] [] := F4.bindsN fun _ _ _ _ _ _ us hl => match us, hl with | [_], _ => rfl
  obtain ⟨fd5, F5⟩ := c.def_ 37 (d := dF5) rfl
  have g5 : mg "_law_which_wake" = some (.ref (He.ga K "_law_which_wake")) := He.glo_ok X G (c.fact 5 (f := .glo "_law_which_wake") rfl)
  have b5 : Binds K fd5 ["_law_e"] [] := F5.bindsN fun _ _ _ _ _ _ us hl => match us, hl with | [_], _ => rfl
  obtain ⟨fd6, F6⟩ := c.def_ 38 (d := dF6) rfl
  have g6 : mg "_law_rest" = some (.ref (He.ga K "_law_rest")) := He.glo_ok X G (c.fact 6 (f := .glo "_law_rest") rfl)
  have b6 : Binds K fd6 ["_law_some", "_law_more"] [] := F6.bindsN fun _ _ _ _ _ _ us hl => match us, hl with | [_, _], _ => rfl
  obtain ⟨fd7, F7⟩ := c.def_ 39 (d := dF7) rfl
  have g7 : mg "_law_which_rest" = some (.ref (He.ga K "_law_which_rest")) := He.glo_ok X G (c.fact 7 (f := .glo "_law_which_rest") rfl)
  have b7 : Binds K fd7 ["_law_e"] [] := F7.bindsN fun _ _ _ _ _ _ us hl => match us, hl with | [_], _ => rfl
  obtain ⟨fd8, F8⟩ := c.def_ 40 (d := dF8) rfl
  have g8 : mg "_law_bases" = some (.ref (He.ga K "_law_bases")) := He.glo_ok X G (c.fact 8 (f := .glo "_law_bases") rfl)
  have b8 : Binds K fd8 ["_law_e"] [] := F8.bindsN fun _ _ _ _ _ _ us hl => match us, hl with | [_], _ => rfl
  obtain ⟨fd9, F9⟩ := c.def_ 41 (d := dF9) rfl
  have g9 : mg "_law_classes_right" = some (.ref (He.ga K "_law_classes_right")) := He.glo_ok X G (c.fact 9 (f := .glo "_law_classes_right") rfl)
  have b9 : Binds K fd9 ["_law_some", "_law_more"] [] := F9.bindsN fun _ _ _ _ _ _ us hl => match us, hl with | [_, _], _ => rfl
  obtain ⟨fd10, F10⟩ := c.def_ 42 (d := dF10) rfl
  have g10 : mg "_law_fields_right" = some (.ref (He.ga K "_law_fields_right")) := He.glo_ok X G (c.fact 10 (f := .glo "_law_fields_right") rfl)
  have b10 : Binds K fd10 ["_law_some", "_law_more"] [] := F10.bindsN fun _ _ _ _ _ _ us hl => match us, hl with | [_, _], _ => rfl
  obtain ⟨fd11, F11⟩ := c.def_ 43 (d := dF11) rfl
  have g11 : mg "_law_named_right" = some (.ref (He.ga K "_law_named_right")) := He.glo_ok X G (c.fact 11 (f := .glo "_law_named_right") rfl)
  have b11 : Binds K fd11 ["_law_some", "_law_more"] [] := F11.bindsN fun _ _ _ _ _ _ us hl => match us, hl with | [_, _], _ => rfl
  obtain ⟨fd12, F12⟩ := c.def_ 44 (d := dF12) rfl
  have g12 : mg "_law_right" = some (.ref (He.ga K "_law_right")) := He.glo_ok X G (c.fact 12 (f := .glo "_law_right") rfl)
  have b12 : Binds K fd12 ["_law_pot_here"] [] := F12.bindsN fun _ _ _ _ _ _ us hl => match us, hl with | [_], _ => rfl
  obtain ⟨fd13, F13⟩ := c.def_ 45 (d := dF13) rfl
  have g13 : mg "law" = some (.ref (He.ga K "law")) := He.glo_ok X G (c.fact 13 (f := .glo "law") rfl)
  have ee := hfa.symm.trans g13
  cases ee
  have bl := FunD.bindsA (ps := ["_law_script"]) F13 fun _ _ _ _ _ _ us hl => match us, hl with | [_], _ => rfl
  refine ⟨fd13, fun s v => bl s [v] rfl, fun base => ?_⟩
  have T : Tx P w K mg base := tx X G c e
  have c_draw := mkCal g1 F1.kp b1 (ok_draw F1 T)
  have c_pick := mkCal g2 F2.kp b2 (ok_pick F2 T c_draw)
  have c_pot := mkCal g0 F0.kp b0 (ok_pot F0 T)
  have c_thing := mkCal g3 F3.kp b3 (ok_thing F3 T c_draw c_pick)
  have c_wakes := fun u => mkCal g4 F4.kp b4 (ok_wakes F4 T u)
  have c_ww := mkCal g5 F5.kp b5 (ok_which_wake F5 T)
  have c_rest := mkCal g6 F6.kp b6 (ok_rest F6 T)
  have c_wr := mkCal g7 F7.kp b7 (ok_which_rest F7 T)
  have c_bases := mkCal g8 F8.kp b8 (ok_bases F8 T)
  have c_cr := mkCal g9 F9.kp b9 (ok_classes_right F9 T c_wakes c_rest c_ww c_wr c_bases)
  have c_fr := mkCal g10 F10.kp b10 (ok_fields_right F10 T c_wakes c_rest)
  have c_nr := mkCal g11 F11.kp b11 (ok_named_right F11 T)
  have c_right := mkCal g12 F12.kp b12 (ok_right F12 T c_thing c_cr c_fr c_nr)
  exact ok_law F13 T c_pot c_right
end
end K16
open PySem PySem.W PySem.Calls PyProof.Rows
set_option maxHeartbeats 0 in
theorem PySem.Challenge.cw_wakesayings_k16_errors_holds : PySem.Challenge.rw_wakesayings_k16_errors.Holds := by
  w_on; o_law
  refine HandSHeadRun.head_any (r := OpenLaw.row PySem.Challenge.rw_wakesayings_k16_errors) (q := view (OpenLaw.row PySem.Challenge.rw_wakesayings_k16_errors).prog [51]) (H := K16.hk) (ob := K16.ob) (M := 12000) (loose := K16.loose) (d := HandSHeadRun.topDef (OpenLaw.row PySem.Challenge.rw_wakesayings_k16_errors).prog 51) (kwd := []) K16.ob_eq
    (by kernel_rfl) (fun s => by kernel_rfl) K16.run (by kernel_rfl) (by kernel_rfl) (by kernel_rfl) (by rfl) (by first | assumption | decide +kernel) (by decide +kernel) ⟨rfl, rfl, rfl, rfl, rfl, by decide +kernel⟩ ?hw ?hc
  case hw => w_witness2
  case hc =>
    refine Lw.walkG (l := PySem.Challenge.rw_wakesayings_k16_errors) (n := 63) (k := 6) (x := "_law_script") rfl (by decide) (by kernel_rfl) ⟨rfl, by decide, by decide⟩ ?F
    intro w mg fa h Y G hmg0
    obtain ⟨K, KX, c⟩ := Y
    have hmg : mg ("law" : PySem.Str) = some (.ref fa) := by
      have e : (HandSHeadRun.topDef (OpenLaw.row PySem.Challenge.rw_wakesayings_k16_errors).prog 51).name = ("law" : PySem.Str) := by kernel_rfl
      rw [← e]
      exact hmg0
    obtain ⟨fd, hb, hF⟩ := K16.facts (P := (PySem.Challenge.rw_wakesayings_k16_errors).prog) (w := w) KX G hmg c.t.d c.more
    exact ⟨K, fd, K16.spLaw K, KX, hb, fun H a ns hl hS => ⟨a, ns, rfl, hS, hl, fun _ => rfl⟩, fun base _ _ => hF base⟩
