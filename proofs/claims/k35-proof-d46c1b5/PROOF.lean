import PyProof.Rows.All
import Wide.All
import OpenK.AllK
import Wide.FinOn
import HandS.ForMost
import HandS.ForExc
import HandS.More
import HandS.Evl
import HandS.Defaults
import HandS.IsInst
import HandS.HeadEnd
import PyProof.ReprRoads
import HandS.ExcInit
import HandS.ExcIs
import HandS.MakeKw
import KE.KExcIs
import KE.KExcInit
import HandS.Text
import HandS.Iter
import HandS.Walk
import HandS.TupAny
import HandS.Deep
import HandS.Style
import KE.SortKeyHeap
import KE.SortData
import KE.GoesMore
import PyProof.Draws
import PyProof.EnumMake
import HandS.DictComp
import HandS.Conv
import HandS.Lambda
import HandS.List
import KE.KSortKey
import HandS.EndTab
import HandS.HeadHook4
import HandS.NestedK
import HandS.ExcField
import HandS.TryMany
import PyProof.InstSpecial
import HandS.ClsMeth
import HandS.Property
import HandS.MakeKwOnly
import HandS.RaiseMore
import HandS.Head0
import PyProof.StrLawsRepr
import PyProof.Rows.StrCase
import PyProof.Rows.TupDisplay
import PyProof.P3In
import HandS.SortKw
import HandS.Set
import HandS.SetFor
import HandS.Strs
import PyProof.InstNe
import HandS.DictEq
import HandS.NoneIn
import PyProof.EqKinds
import HandS.Dict
import HandS.FStr
import HandS.Comp
import HandS.TupLen
import HandS.TupMul
import OpenK.KMeth
import KE.DataCmp
import KE.LtData
import HandS.HeadHook1
import KE.KDictItemsList
import KE.KDictCopyH
import KE.KDictPairs
import PyProof.Rows.SortShellAny
import HandS.HeadNt
import PyProof.EqAt
import PyProof.ReprNest
import PyProof.ReprText
import KE.KOpsOwn
import HandS.DeepEq
import HandS.Head1
import HandS.Head2
import HandS.Flow
import HandS.Flt
import PySem.Challenge.RW_wakesayings_k35_loops_by_divisors
set_option Elab.async false
set_option linter.all false
set_option maxRecDepth 100000
set_option maxHeartbeats 4000000
namespace Lw
open PySem PySem.Spec PyProof.Rows L2
structure FnG (P : Program) (w : World) (K : PySem.W.Frag) (mg : Str → Option Value) (base : Heap) (CX : CXT) (k : Nat) (f : Addr) (fd : FuncData) (ps : List Str) (sp : Sp) : Prop where
  len : ∀ vs H Q E, sp vs H Q E → vs.length = ps.length
  go : ∀ {A : Around} {outer : List Env} {s : Shared} {H : Hp} {args : Args} {us : List Value} {vs : List V} {Q : VK} {E : XK},
    A.guards = some [] → Room k A → Env0 P w K mg base A outer s H → BindsTo s fd args (ps.zip us) → Vals vs us → sp vs H Q E →
    codeAny (model P w) A (.call (.ref f) args) (CR CX outer P w H s Q E) s
section
variable {P : Program} {w : World} {K : PySem.W.Frag} {mg : Str → Option Value} {base : Heap} {CX : CXT}
theorem FnG.up {j k : Nat} {f : Addr} {fd : FuncData} {ps : List Str} {sp : Sp} (F : FnG P w K mg base CX j f fd ps sp) (h : j ≤ k) : FnG P w K mg base CX k f fd ps sp :=
  ⟨F.len, fun g r => F.go g (r.mono h)⟩
/-- a def by its body: the body's reading, at a place where no repr is under way -/
theorem fnG {x qual : Str} {params : Arguments} {body : List Stmt} {scope : Scope} {dvs : List V} {kws : List (Str × V)} {f : Addr} {fd : FuncData} {N ps : List Str} {k : Nat} {sp : Sp}
    (F : FunD K x qual params body scope dvs kws f fd) (S : FnScope N ps scope) (len : ∀ vs H Q E, sp vs H Q E → vs.length = ps.length)
    (walk : ∀ (cdv : Value) (A : Around) (outer : List Env) (s : Shared) (H : Hp) (vs : List V) (Q : VK) (E : XK), A.guards = some [] → Room k (A.deeper (envOfC qual scope s.heap.objs.size f cdv)) → sp vs H Q E →
      ∃ t, PSs (cxOf CX P w K mg base N qual scope f cdv A outer s H E) body t ∧ t { nx := fun _ H' => Q .non H', rt := Q } (start N vs) H) :
    FnG P w K mg base CX (k + 1) f fd ps sp := by
  obtain ⟨_, _, dV, kV, doc, pm, an, cdv, ct, osl, rfl, lk, hcd, _, _⟩ := F.ex
  refine ⟨len, ?_⟩
  intro A outer s H args us vs Q E hg hr e0 hb rv hsp
  have hsz : (us.length = ps.length) := by
    rw [← rv.length]
    exact len _ _ _ _ hsp
  have kIn : K.In s.heap := e0.mod.kin.keeps fun b o e => (e0.bs b o e).1
  have noL : s.heap.NoLimit := e0.mod.nolimit.keeps fun b o e => (e0.bs b o e).1
  refine codeAny_call_function hr.depth (kIn _ _ lk) rfl S.co S.gen rfl (PySem.W.codeRec_of kIn hcd) (hb _ _ _ _ ?_)
  refine wpAny_newFunctionEnv_cells S.kind ?_ ?_
  · rintro ⟨n, v⟩ hm
    cases S.par n (List.of_mem_zip hm).1 with
    | inl q => exact .inl q
    | inr q => exact .inr ⟨q, PySem.W.cellsFrom_some _ _ _ (.inl q)⟩
  · rintro env rfl s1 x
    refine ⟨noL.keeps x.toInCall.keep, codeAny_func ?_⟩
    obtain ⟨t, ht, hq⟩ := walk cdv A outer s H vs Q E hg (hr.deeper _) hsp
    refine wpAny_mono (ht.run [] s1 (start N vs) H _ (inv_start S hr.hd e0 (len _ _ _ _ hsp) rv x) hq) (fun fl s2 hs => ?_) fun _ _ z => z
    cases fl with
    | ret u => exact match hs with
      | ⟨v, _, H', J, r, q⟩ => ⟨v, H', J.os, J.bare, J.base, J.hok, r, q⟩
    | next => exact match hs with
      | ⟨_, H', J, q⟩ => ⟨V.non, H', J.os, J.bare, J.base, J.hok, rfl, q⟩
    | brk => exact match hs with
      | ⟨_, _, _, q⟩ => q.elim
    | cont => exact match hs with
      | ⟨_, _, _, q⟩ => q.elim
def Cal (P : Program) (w : World) (K : PySem.W.Frag) (mg : Str → Option Value) (base : Heap) (CX : CXT) (k : Nat) (x : Str) (ps : List Str) (sp : Sp) : Prop :=
  ∃ f fd, mg x = some (.ref f) ∧ PySem.W.keepIn K (.ref f) = true ∧ Binds K fd ps [] ∧ FnG P w K mg base CX k f fd ps sp
end
section
variable {X : Cx} {CX : CXT} {k : Nat} {x : Str} {ps : List Str} {sp : Sp} {p pos : Pos} {e : Expr} {es : List Expr} {t : TA} {E : XK}
theorem runG {pins : List (Addr × Obj)} {σ : L2.St} {H : Hp} {s : Shared} {Q : VK} {f : Addr} {fd : FuncData} {us : List Value} {vs : List V} (F : FnG X.prog X.w X.K X.mg X.base CX k f fd ps sp) (hg : X.A.guards = some []) (hr : Room k X.A) (hb : Binds X.K fd ps [])
    (hx : Passes CX X E) (I : Inv X pins σ H s) (r : Vals vs us) (h : sp vs H Q E) : wpAny (model X.prog X.w) X.A (call (.ref f) us) (EP X pins σ Q) X.xe s := by
  have hl : (us ++ []).length = ps.length := by
    rw [List.append_nil, ← r.length]
    exact F.len _ _ _ _ h
  have bt := hb s us I.kIn hl
  rw [List.append_nil] at bt
  refine wpAny_call (codeAny_mono (F.go hg hr I.env0 bt r h) fun r s2 hq => ?_)
  cases r with
  | error er => exact hx pins σ H s er s2 I hq
  | ok fl =>
    cases fl with
    | ret u => exact I.after hq
    | next => exact hq.elim
    | brk => exact hq.elim
    | cont => exact hq.elim
theorem pe_calX (C : Cal X.prog X.w X.K X.mg X.base CX k x ps sp) {j : Nat} (gd : X.A.guards = some []) (hr : Room j X.A) (hx : Passes CX X E) (ha : PA X (e :: es) t) (hj : k ≤ j := by decide) (hg : Gl X x := by rfl) (hdb : (x == ("__debug__" : Str)) = false := by decide)
    (he : starEach (e :: es) X.env = (false, eval e X.env) :: starEach es X.env := by rfl) (hpl : (backTo pos (starEach es X.env)).any (·.1) = false := by rfl) :
    PE X (.Call (.Name x p) (e :: es) [] pos) (tCall sp [] E t) := by
  obtain ⟨f, fd, hm, hk, hb, F⟩ := C
  constructor
  intro pins s σ H Q I h
  refine wpAny_Call_Name_kw (ld_glob I hg hm ?_ hdb)
  refine PySem.W.callWith_K (h₀ := X.base) I.ok.mod.kin hk (thn (ha.run pos pins s σ H _ I h) fun us s1 hh => ?_) he hpl
  obtain ⟨vs, H1, I1, r, q⟩ := hh
  rw [List.append_nil] at q
  exact ⟨I1.kIn, runG F gd (hr.mono hj) hb hx I1 r q⟩
/-- .. that lets no error out -/
theorem pe_cal (C : Cal X.prog X.w X.K X.mg X.base CX0 k x ps sp) {j : Nat} (gd : X.A.guards = some []) (hr : Room j X.A) (ha : PA X (e :: es) t) (hj : k ≤ j := by decide) (hg : Gl X x := by rfl) (hdb : (x == ("__debug__" : Str)) = false := by decide)
    (he : starEach (e :: es) X.env = (false, eval e X.env) :: starEach es X.env := by rfl) (hpl : (backTo pos (starEach es X.env)).any (·.1) = false := by rfl) :
    PE X (.Call (.Name x p) (e :: es) [] pos) (tCall sp [] E0 t) := pe_calX C gd hr pass0 ha hj hg hdb he hpl
end
/-- what the law's heap holds at the entry: the script, locked -/
def scr (a : Addr) (o : Obj) (ns : List Int) : Hp := fun b => if b = a then some (.frz o (.lst (ns.map V.int))) else none
theorem scr_at {a : Addr} {o : Obj} {ns : List Int} : scr a o ns a = some (.frz o (.lst (ns.map V.int))) := if_pos rfl
theorem scr_off {a b : Addr} {o : Obj} {ns : List Int} (h : b ≠ a) : scr a o ns b = none := if_neg h
/-- a heap at which a pot stands at p -/
def Po (p : Addr) (H : Hp) : Prop := ∃ i j : Int, H p = some (.lst [.int i, .int j]) ∧ 0 ≤ i ∧ 0 ≤ j ∧ j < 2147483648
/-- all that was tracked, but the pot, stands -/
def Xp (p : Addr) (H H' : Hp) : Prop := (∀ a o, a ≠ p → H a = some o → H' a = some o) ∧ Po p H'
theorem Xp.refl {p : Addr} {H : Hp} (h : Po p H) : Xp p H H := ⟨fun _ _ _ e => e, h⟩
theorem Xp.trans {p : Addr} {H H1 H2 : Hp} (a : Xp p H H1) (b : Xp p H1 H2) : Xp p H H2 := ⟨fun c o n e => b.1 c o n (a.1 c o n e), b.2⟩
theorem Po.some {p : Addr} {H : Hp} (h : Po p H) : ∃ o, H p = some o := ⟨_, h.choose_spec.choose_spec.1⟩
/-- a new object beside the pot -/
theorem Xp.new {p q : Addr} {H : Hp} {o : HO} (h : Po p H) (hq : H q = none) : Xp p H (upd H q o) := by
  obtain ⟨i, j, e, r⟩ := h
  refine ⟨fun a u _ ea => ?_, i, j, ?_, r⟩
  · rw [upd_ne (ne_of_none ea hq)]
    exact ea
  · rw [upd_ne (ne_of_none e hq)]
    exact e
/-- what is seen of a list, a tuple that isn't the pot -/
theorem Xp.at {p : Addr} {H H' : Hp} (x : Xp p H H') {a : Addr} {o : HO} (e : H a = some o) (n : a ≠ p) : H' a = some o := x.1 a o n e
/-- a draw: some number below the size -/
def spDraw : Sp := fun vs H Q _ => ∃ (p : Addr) (n : Int), vs = [.ref p, .int n] ∧ Po p H ∧ 0 < n ∧ n < 1073741824 ∧
  ∀ (d : Int) (H' : Hp), 0 ≤ d → d < n → Xp p H H' → Q (.int d) H'
/-- one of a list, at any place -/
def spPick (K : PySem.W.Frag) : Sp := fun vs H Q _ => ∃ (p l : Addr) (xs : List V), vs = [.ref p, .ref l] ∧ Po p H ∧ H l = some (.lst xs) ∧ l ≠ p ∧ 0 < xs.length ∧ xs.length < 100000 ∧
  ∀ (v : V) (H' : Hp), v ∈ xs → Xp p H H' → Q v H'
/-- a new pot -/
def spPot (K : PySem.W.Frag) : Sp := fun vs H Q _ => ∃ (a : Addr) (ns : List Int) (k : Int), vs = [.ref a, .int k] ∧ SqL K H a (ns.map V.int) ∧ ns.length ≤ 63 ∧ 0 ≤ k ∧ k ≤ 63 ∧
  ∀ (p : Addr) (H' : Hp), H p = none → Same H H' → Po p H' → Q (.ref p) H'
theorem atI_mem {xs : List V} {d : Int} (h0 : 0 ≤ d) (h1 : d < xs.length) : ∃ v, atI xs d = some v ∧ v ∈ xs := by
  obtain ⟨n, rfl⟩ := Int.eq_ofNat_of_zero_le h0
  have hn : n < xs.length := by omega
  exact ⟨xs[n], atI_nat (List.getElem?_eq_getElem hn), List.getElem_mem hn⟩
end Lw
namespace Lw
open PySem PySem.Spec PyProof.Rows L2
/-- wherever H is kept, v is read as d; no dict stands at sys.modules -/
def Rw (P : Program) (w : World) (H : Hp) (v : V) (d : PyData) : Prop :=
  ∀ h : Heap, HOk P w H h → ∀ u : Value, RelV v u → ∃ as, Reads h u d as ∧ (d.hasDict = true → sysModules ∉ as)
end Lw
namespace LwX
open PySem PySem.W PySem.Calls PySem.HandSPX
open Builtin Builtin.ObjectAttr
section
variable {M : Model} {prog : Program} {w : World} {A : Around} {E : Value → Shared → Prop} {R : Result → Shared → Prop} {h : Heap} {g : Array GenState} {d : Drawn} {t : Nat} {os : OsState}
variable {nm q : Str} {C N : Addr} {bs bm bB : List Value} {hdct : Bool} {sn : List Str} {sub : List Value} {ab : Bool} {col : Option Bool} {dd : Option Addr} {k0 k1 k2 k3 k5 : Option Value} {B nI iI : String}
variable {pos : List Value} {kw : List (Str × Value)}
theorem chkK (F : ExcBaseFacts B nI iI bB) (hT : ∀ X : String, bm.contains (.type X) = bB.contains (.type X)) {Q : Unit → Shared → Prop}
    (hC : h.get? C = some (excClassObj nm q C N bs bm hdct sn sub ab col dd k0 k1 k2 k3 k5 nI)) (hq : Q () ⟨h, g, d, t, os⟩) : wpAny M A (checkBuiltinCall nI ⟨.ref C :: pos, kw⟩) Q E ⟨h, g, d, t, os⟩ := by
  have cB : (Value.ref C :: bm).contains (.type B) = true := by rw [List.contains_cons, hT, F.hasB, Bool.or_true]
  have ns := F.noStar
  simp only [checkBuiltinCall, F.newKind, F.newSplit, F.newRow]
  repeat (first
    | refine wpAny_loadPart_at hC ?_
    | (refine wpAny_isSubtype_exc hC ?_; rw [cB])
    | refine wpAny_staticBase_exc hC ?_
    | refine wpAny_madeBy_exc hC ?_
    | simp only [bne_self_eq_false, Bool.false_eq_true, if_false]
    | wp_step)
  exact hq
theorem newK (F : ExcBaseFacts B nI iI bB) (hT : ∀ X : String, bm.contains (.type X) = bB.contains (.type X))
    (hC : h.get? C = some (excClassObj nm q C N bs bm hdct sn sub ab col dd k0 k1 k2 k3 k5 nI)) (hz : pos.length ≤ sizeLine)
    (hq : R (.ok (.ret (.ref (h.objs.size + 1)))) ⟨(h.push (W.kdv_tup pos)).push (excO C h.objs.size), g, d, t, os⟩) :
    codeAny (model prog w) A (.builtin nI ⟨.ref C :: pos, kw⟩) R ⟨h, g, d, t, os⟩ := by
  have ends := F.ends
  have cB : (Value.ref C :: bm).contains (.type B) = true := by rw [List.contains_cons, hT, F.hasB, Bool.or_true]
  have cA : (Value.ref C :: bm).contains (.type "AttributeError") = false := by rw [List.contains_cons, hT, F.noAttr]; rfl
  have cN : (Value.ref C :: bm).contains (.type "NameError") = false := by rw [List.contains_cons, hT, F.noName]; rfl
  have hrest : pos.length ≤ sizeLine := hz
  refine codeAny_builtinAt F.entry ?_
  unfold Builtin.«BaseException.__new__»
  refine wpAt_bind ?_
  show wpAt _ _ _ (stack >>= _) _ _ _
  refine wpAt_bind (wpAt_stack fun p below => wpAt_of_wpAny ?_)
  wp_walk
  refine wpAt_of_wpAny ?_
  rw [F.owner]
  repeat (first
    | with_reducible refine wpAny_madeHere_exc F.canon hC ?_
    | with_reducible refine wpAny_loadPart_at hC ?_
    | (with_reducible refine wpAny_isSubtype_exc hC ?_; first | rw [cB] | rw [cA] | rw [cN])
    | wp_step)
  show R _ _
  rw [Heap.size_push]
  exact hq
theorem tcK (F : ExcBaseFacts B nI iI bB) (hT : ∀ X : String, bm.contains (.type X) = bB.contains (.type X)) {fI : Addr} {Q : Fin → Shared → Prop}
    (hC : h.get? C = some (excClassObj nm q C N bs bm hdct sn sub ab col dd k0 k1 k2 k3 k5 nI))
    (hi : W.Looks (model prog w) h (typeLookup (.ref C) "__init__") (some (.ref fI))) (hb : ∀ self, W.Looks (model prog w) h (bindSpecial (.ref fI) self) (.ref fI, [self])) (hz : pos.length ≤ sizeLine)
    (hq : codeAny (model prog w) A (.call (.ref fI) ⟨.ref (h.objs.size + 1) :: pos, kw⟩)
      (fun r s' => match r with | .ok (.ret v) => v = .none ∧ Q (.done (.ret (.ref (h.objs.size + 1)))) s' | .ok _ => False | .error e => E e s')
      ⟨(h.push (W.kdv_tup pos)).push (excO C h.objs.size), g, d, t, os⟩) :
    wpAny (model prog w) A (Builtin.«type.__call__» ⟨.ref C :: pos, kw⟩) Q E ⟨h, g, d, t, os⟩ := by
  have hrest : pos.length ≤ sizeLine := hz
  repeat (first
    | with_reducible refine wpAny_loadPart_at hC ?_
    | with_reducible refine wpAny_madeBy_exc hC ?_
    | wp_step)
  refine codeAny_call_builtin_code (Code.quiet_builtin _ F.quiet) (chkK F hT hC ?_)
  refine newK F hT hC hz ?_
  show wpAny _ _ _ _ _ _
  have k : ∀ b o, h.get? b = some o → ((h.push (W.kdv_tup pos)).push (excO C h.objs.size)).get? b = some o := fun b o e => Heap.get?_push_of_some _ (Heap.get?_push_of_some _ e)
  have hC1 := k _ _ hC
  have made : ((h.push (W.kdv_tup pos)).push (excO C h.objs.size)).get? (h.objs.size + 1) = some (excO C h.objs.size) := by heap_get
  have cC : (Value.ref C :: bm).contains (.ref C) = true := by simp
  have i1 := hi.keeps k
  have b1 := (hb (.ref (h.objs.size + 1))).keeps k
  unfold isInstance
  repeat (first
    | with_reducible refine wpAny_loadPart_at made ?_
    | (with_reducible refine wpAny_isSubtype_exc hC1 ?_; rw [cC])
    | wp_step)
  show wpAny _ _ (typeLookup (.ref C) _) _ _ _
  refine i1.at ?_
  refine wpAny_holding (wpAny_bind (b1.at ?_))
  refine wpAny_bind (wpAny_call (codeAny_mono hq fun r s' z => ?_))
  rcases r with e | (v | _ | _ | _)
  all_goals (first | exact z | exact z.elim | skip)
  obtain ⟨rfl, z⟩ := z
  first
    | exact wpAny_pure (wpAny_pure z)
    | (wp_walk; exact z)
theorem callK (F : ExcBaseFacts B nI iI bB) (hT : ∀ X : String, bm.contains (.type X) = bB.contains (.type X)) {fI : Addr}
    (hC : h.get? C = some (excClassObj nm q C N bs bm hdct sn sub ab col dd k0 k1 k2 k3 k5 nI))
    (hi : W.Looks (model prog w) h (typeLookup (.ref C) "__init__") (some (.ref fI))) (hb : ∀ self, W.Looks (model prog w) h (bindSpecial (.ref fI) self) (.ref fI, [self])) (hz : pos.length ≤ sizeLine)
    (hq : codeAny (model prog w) (A.under (.builtin "type.__call__" ⟨.ref C :: pos, kw⟩)) (.call (.ref fI) ⟨.ref (h.objs.size + 1) :: pos, kw⟩) (W.InitBack (h.objs.size + 1) R)
      ⟨(h.push (W.kdv_tup pos)).push (excO C h.objs.size), g, d, t, os⟩) :
    codeAny (model prog w) A (.call (.ref C) ⟨pos, kw⟩) R ⟨h, g, d, t, os⟩ := by
  have f1 := tc_lookup
  have f2 := tc_bind (.ref C)
  have ty : (⟨h, g, d, t, os⟩ : Shared).TypeIs (.ref C) "type" := ⟨_, hC, rfl⟩
  refine codeAny_of_tree ?_
  show wpAny _ _ (callAny (.ref C) _) _ _ _
  repeat (any_goals (first
    | assumption
    | with_reducible refine wpAny_loadPart_at hC ?_
    | wp_step))
  refine ⟨rfl, ?_⟩
  refine codeAny_call_builtin_at (Code.quiet_builtin _ (by decide +kernel)) entry_typeCall (wpAny_check_type_call_sub hC (tcK F hT hC hi hb hz ?_))
  refine codeAny_mono hq fun r s' z => ?_
  rcases r with e | (v | _ | _ | _) <;> exact z
end
end LwX
namespace LwX
open PySem PySem.W PySem.Calls
open Builtin Builtin.ObjectAttr
structure XC (K : Frag) (C : Addr) : Prop where
  base : ∃ (B nI iI : String) (bB : List Value), ExcBaseFacts B nI iI bB ∧ StoreFacts B bB "object.__setattr__" "object" ∧ excInitIn K C bB nI = true ∧ excOver K C bB = true
  hd : hasDictIn K C = true
  kp : keepIn K (.ref C) = true
  sa : findIn K (.ref C) "__setattr__" = some (some (.builtin "object.__setattr__"))
  ga : findIn K (.ref C) "__getattribute__" = some (some (.builtin "BaseException.__getattribute__"))
  gg : findIn K (.ref C) "__getattr__" = some none
  sub : subIn K (.ref C) (.type "BaseException") = some true
  ty : typeIn K (.ref C) = some (.type "type")
  cl : findIn K (.ref C) "__class__" = some (some (.builtin "object.__class__"))
  gt : specialIn K (.builtin "object.__class__") "__get__" = some (some (.builtin "getset_descriptor.__get__"))
  tk : takesIn K (.builtin "object.__class__") = some true
  mo : mroIn K C (.type "object") = some true
/-- a class whose attribute f is the instances' own -/
structure XF (K : Frag) (C : Addr) (f : Str) : Prop where
  no : findIn K (.ref C) f = some none
  tk : takerIn K C f = some none
/-- the mro of the built-in base -/
def bmOf (B : String) : List Value := [.type B, .type "Exception", .type "BaseException", .type "object"]
def baseB (K : Frag) (C : Addr) : Bool :=
  (excInitIn K C (bmOf "ValueError") "ValueError.__new__" && excOver K C (bmOf "ValueError")) || ((excInitIn K C (bmOf "LookupError") "LookupError.__new__" && excOver K C (bmOf "LookupError")) ||
  ((excInitIn K C (bmOf "RuntimeError") "RuntimeError.__new__" && excOver K C (bmOf "RuntimeError")) || (excInitIn K C (bmOf "ArithmeticError") "ArithmeticError.__new__" && excOver K C (bmOf "ArithmeticError"))))
def xcB (K : Frag) (C : Addr) : Bool := baseB K C && (hasDictIn K C && (keepIn K (.ref C) && (decide (findIn K (.ref C) "__setattr__" = some (some (.builtin "object.__setattr__"))) &&
  (decide (findIn K (.ref C) "__getattribute__" = some (some (.builtin "BaseException.__getattribute__"))) && (decide (findIn K (.ref C) "__getattr__" = some none) && (decide (subIn K (.ref C) (.type "BaseException") = some true) &&
  (decide (typeIn K (.ref C) = some (.type "type")) && (decide (findIn K (.ref C) "__class__" = some (some (.builtin "object.__class__"))) && (decide (specialIn K (.builtin "object.__class__") "__get__" = some (some (.builtin "getset_descriptor.__get__"))) &&
  (decide (takesIn K (.builtin "object.__class__") = some true) && decide (mroIn K C (.type "object") = some true)))))))))))
def xfB (K : Frag) (C : Addr) (f : Str) : Bool := decide (findIn K (.ref C) f = some none) && decide (takerIn K C f = some none)
theorem xf_ok {K : Frag} {C : Addr} {f : Str} (h : xfB K C f = true) : XF K C f := by
  obtain ⟨h1, h2⟩ := Bool.and_eq_true_iff.mp h
  exact ⟨of_decide_eq_true h1, of_decide_eq_true h2⟩
theorem xc_ok {K : Frag} {C : Addr} (h : xcB K C = true) : XC K C := by
  obtain ⟨h1, h⟩ := Bool.and_eq_true_iff.mp h
  obtain ⟨h2, h⟩ := Bool.and_eq_true_iff.mp h
  obtain ⟨h3, h⟩ := Bool.and_eq_true_iff.mp h
  obtain ⟨h4, h⟩ := Bool.and_eq_true_iff.mp h
  obtain ⟨h5, h⟩ := Bool.and_eq_true_iff.mp h
  obtain ⟨h6, h⟩ := Bool.and_eq_true_iff.mp h
  obtain ⟨h7, h⟩ := Bool.and_eq_true_iff.mp h
  obtain ⟨h8, h⟩ := Bool.and_eq_true_iff.mp h
  obtain ⟨h9, h⟩ := Bool.and_eq_true_iff.mp h
  obtain ⟨h10, h⟩ := Bool.and_eq_true_iff.mp h
  obtain ⟨h11, h12⟩ := Bool.and_eq_true_iff.mp h
  refine ⟨?_, h2, h3, of_decide_eq_true h4, of_decide_eq_true h5, of_decide_eq_true h6, of_decide_eq_true h7, of_decide_eq_true h8, of_decide_eq_true h9, of_decide_eq_true h10, of_decide_eq_true h11, of_decide_eq_true h12⟩
  unfold baseB at h1
  rcases Bool.or_eq_true_iff.mp h1 with z | h1
  · obtain ⟨z1, z2⟩ := Bool.and_eq_true_iff.mp z
    exact ⟨_, _, _, _, F.excBase_ValueError, F.store_ValueError, z1, z2⟩
  rcases Bool.or_eq_true_iff.mp h1 with z | h1
  · obtain ⟨z1, z2⟩ := Bool.and_eq_true_iff.mp z
    exact ⟨_, _, _, _, F.excBase_LookupError, F.store_LookupError, z1, z2⟩
  rcases Bool.or_eq_true_iff.mp h1 with z | z
  · obtain ⟨z1, z2⟩ := Bool.and_eq_true_iff.mp z
    exact ⟨_, _, _, _, F.excBase_RuntimeError, F.store_RuntimeError, z1, z2⟩
  · obtain ⟨z1, z2⟩ := Bool.and_eq_true_iff.mp z
    exact ⟨_, _, _, _, F.excBase_ArithmeticError, F.store_ArithmeticError, z1, z2⟩
section
variable {prog : Program} {w : World} {A : Around} {R : Result → Shared → Prop} {K : Frag} {x C dx : Addr} {f : Str} {tk : Tok} {v : Value}
variable {hp : Heap} {g : Array GenState} {d : Drawn} {t : Nat} {os : OsState} {fv : Array Value} {t0 : Addr}
theorem osaN (T : XC K C) (F : XF K C f) (X : K.In hp) (hx : hp.get? x = some (PySem.HandSPX.excO C t0))
    (hq : ∀ h' tk' dx, (∀ b o, b ≠ x → hp.get? b = some o → h'.get? b = some o) → hp.objs.size ≤ dx → dx ≠ x → h'.get? x = some { cls := .ref C, dict := some dx, data := .fields #[.ref t0, .none, .none, .none, .bool false, .none] } →
      h'.Ns1 dx (fun y => if y = f then some v else none) → R (.ok (.ret .none)) ⟨h', g, d, tk', os⟩) :
    codeAny (model prog w) A (.call (.builtin "object.__setattr__") ⟨[.ref x, .str f tk, v], []⟩) R ⟨hp, g, d, t, os⟩ := by
  obtain ⟨B, nI, iI, bB, _, SF, _, ov⟩ := T.base
  have I : InstAt hp x (PySem.HandSPX.excO C t0) C none := ⟨hx, rfl, rfl, trivial⟩
  refine osa_openX (s := ⟨hp, g, d, t, os⟩) SF X I ov F.tk fun b => ?_
  show wpAny _ _ (storeInOwnDict (.ref x) (.ref C) (.str f tk) f v b) _ _ _
  obtain ⟨cd, hc, hh⟩ := any_some T.hd
  have Lc : Looks (model prog w) hp (classData C) cd := looks_clsIn X hc
  have nx : x ≠ hp.objs.size := Nat.ne_of_lt (Heap.lt_size hx)
  obtain ⟨nm, bs, mro, ns, qn, hd, sn, sb, ab, col, del⟩ := cd
  dsimp only at hh
  subst hh
  unfold storeInOwnDict ownDictForStores
  repeat (first
    | with_reducible refine PySem.HandSPX.store_in_new ?_ ?_
    | with_reducible refine wpAny_loadPart_at hx ?_
    | with_reducible refine Lc.at ?_
    | wp_step)
  · exact ⟨_, #[], _, (Heap.get?_update_ne _ _ _ _ nx.symm).trans (Heap.get?_push_at rfl rfl), rfl, fun e he => absurd he (by simp), fun _ => rfl⟩
  · intro h' tk' hn' hs
    have hx1 : (hp.push { cls := .type "dict", data := .dict #[] }).get? x = some (PySem.HandSPX.excO C t0) := Heap.get?_push_of_some _ hx
    refine hq h' tk' hp.objs.size (fun b o hb ho => ?_) (Nat.le_refl _) nx.symm ?_ hn'
    · exact (hs.2 b (Nat.ne_of_lt (Heap.lt_size ho))).trans ((Heap.get?_update_ne _ _ _ _ hb).trans (Heap.get?_push_of_some _ ho))
    · exact (hs.2 x nx).trans (Heap.get?_update_self _ hx1 rfl)
theorem osaD {m0 : Str → Option Value} {nl : List Str} (T : XC K C) (F : XF K C f) (X : K.In hp) (hx : hp.get? x = some { cls := .ref C, dict := some dx, data := .fields fv }) (hns : hp.Ns1 dx m0) (hw : Within m0 nl) (hz : nl.length ≤ 1000)
    (hq : ∀ h' tk', (∀ b o, b ≠ dx → hp.get? b = some o → h'.get? b = some o) → h'.Ns1 dx (fun y => if y = f then some v else m0 y) → R (.ok (.ret .none)) ⟨h', g, d, tk', os⟩) :
    codeAny (model prog w) A (.call (.builtin "object.__setattr__") ⟨[.ref x, .str f tk, v], []⟩) R ⟨hp, g, d, t, os⟩ := by
  obtain ⟨B, nI, iI, bB, _, SF, _, ov⟩ := T.base
  obtain ⟨oD, _, _, hoD, _, _⟩ := hns.count hw
  have I : InstAt hp x { cls := .ref C, dict := some dx, data := .fields fv } C (some oD) := ⟨hx, rfl, rfl, hoD⟩
  refine osa_openX (s := ⟨hp, g, d, t, os⟩) SF X I ov F.tk fun b => ?_
  show wpAny _ _ (storeInOwnDict (.ref x) (.ref C) (.str f tk) f v b) _ _ _
  obtain ⟨cd, hc, hh⟩ := any_some T.hd
  have Lc : Looks (model prog w) hp (classData C) cd := looks_clsIn X hc
  obtain ⟨nm, bs, mro, ns, qn, hd, sn, sb, ab, col, del⟩ := cd
  dsimp only at hh
  subst hh
  unfold storeInOwnDict ownDictForStores
  repeat (first
    | with_reducible refine PySem.OEX.store_in_old hns hw hz ?_
    | with_reducible refine wpAny_loadPart_at hx ?_
    | with_reducible refine Lc.at ?_
    | wp_step)
  intro h' tk' hn' hs
  exact hq h' tk' (fun b o hb ho => (hs.2 b hb).trans ho) hn'
end
end LwX
namespace Lw
open PySem PySem.Spec PyProof.Rows L2
open LwX (XC XF)
section
variable {X : Cx} {pins : List (Addr × Obj)} {σ : L2.St} {H : Hp} {s : Shared} {a C dx : Addr} {f : Str} {y : V} {u : Value} {fs : List (Str × V)} {Q : Unit → Shared → Prop} {E : Value → Shared → Prop} {A : Around}
theorem xst_new (T : XC X.K C) (F : XF X.K C f) (I : Inv X pins σ H s) (e : H a = some (exo a C none)) (ry : RelV y u)
    (h : ∀ dx s', H dx = none → dx ≠ a → Inv X pins σ (upd (upd H dx (exd dx [(f, y)])) a (exo a C (some dx))) s' → Q () s') : wpAny (model X.prog X.w) A (setAttr (.ref a) f u) Q E s := by
  obtain ⟨t1, ho⟩ := exo_at I.hok e
  obtain ⟨hp, g, d, t, os⟩ := s
  refine PySem.W.set_plain I.kIn (ox := { cls := .ref C, dict := none, data := .fields #[.ref t1, .none, .none, .none, .bool false, .none] }) (od := none) ⟨ho, rfl, rfl, trivial⟩ T.sa ?_
  refine LwX.osaN T F I.kIn ho fun h2 tk2 dx k dn dne hx hn => ?_
  have free : H dx = none := I.hok.fresh dn
  have old : ∀ {b : Addr} {o : Obj}, hp.get? b = some o → b ≠ dx := fun {b o} q => Nat.ne_of_lt (Nat.lt_of_lt_of_le (Heap.lt_size q) dn)
  have off : ∀ {b : Addr}, H b = none → b ≠ a := fun {b} n z => by
    rw [z, e] at n
    cases n
  have un : Un X.fs [] H (upd (upd H dx (exd dx [(f, y)])) a (exo a C (some dx))) hp h2 := {
    keep := fun b o q n _ _ => k b o (off n) q
    slot := fun b o q n _ _ => ⟨o.slots, k b o (off n) q⟩
    free := fun b o q n _ => by
      rw [upd_ne (off n), upd_ne (old q)]
      exact n
    there := fun b o q _ => by
      by_cases hb : b = a
      · exact ⟨_, hb ▸ hx⟩
      · exact ⟨o, k b o hb q⟩
    tups := fun b xs q => by
      rw [upd_ne (at_ne e q exo_tup), upd_ne (ne_of_none q free)]
      exact q
    frzs := fun b o v q => by
      rw [upd_ne (at_ne e q exo_frz), upd_ne (ne_of_none q free)]
      exact q
    tbls := fun b ps q => ⟨#[], by
      rw [upd_ne (at_ne e q exo_tbl), upd_ne (ne_of_none q free), q]
      simp⟩ }
  refine h dx _ free dne (I.un (t' := tk2) un fun b o q => ?_)
  by_cases hb : b = a
  · subst hb
    rw [upd_same] at q
    cases q
    exact exo_ok hx
  rw [upd_ne hb] at q
  by_cases hd : b = dx
  · subst hd
    rw [upd_same] at q
    cases q
    exact exd_ok hn (relO_put (fs := []) ry fun _ => True.intro)
  rw [upd_ne hd] at q
  refine (I.hok b o q).stay (fun c v hc z => k c v ?_ z) (fun c hc => ?_) (fun c xs hc => ?_)
  · rcases hc with rfl | hc
    · exact hb
    · exact at_ne e hc exo_own
  · rw [upd_ne (at_ne e hc exo_own), upd_ne (ne_of_none hc free)]
    exact hc
  · rw [upd_ne (at_ne e hc exo_tup), upd_ne (ne_of_none hc free)]
    exact hc
theorem xst_old (T : XC X.K C) (F : XF X.K C f) (I : Inv X pins σ H s) (e : H a = some (exo a C (some dx))) (ed : H dx = some (exd dx fs)) (hl : fs.length ≤ 900) (ry : RelV y u)
    (h : ∀ s', Inv X pins σ (upd H dx (exd dx ((f, y) :: fs))) s' → Q () s') : wpAny (model X.prog X.w) A (setAttr (.ref a) f u) Q E s := by
  obtain ⟨t1, ho⟩ := exo_at I.hok e
  obtain ⟨mA, hns, rel⟩ := exd_at I.hok ed
  have hw := within_of rel
  obtain ⟨hp, g, d, t, os⟩ := s
  obtain ⟨oD, _, _, hoD, _, _⟩ := hns.count hw
  refine PySem.W.set_plain I.kIn (ox := { cls := .ref C, dict := some dx, data := .fields #[.ref t1, .none, .none, .none, .bool false, .none] }) (od := some oD) ⟨ho, rfl, rfl, hoD⟩ T.sa ?_
  refine LwX.osaD T F I.kIn ho hns hw (by rw [List.length_map]; omega) fun h2 tk2 k hn => ?_
  obtain ⟨o2, es2, ep2, e2, r2⟩ := hn
  exact h _ (I.write (t' := tk2) (x := dx) (e := dx) (o := exd dx ((f, y) :: fs)) (by rw [ed]; exact True.intro) (.inl rfl) k ⟨o2, e2⟩ (exd_ok ⟨o2, es2, ep2, e2, r2⟩ (relO_put ry rel)))
end
/-- self.f = e: the reading -/
def tXst (K : PySem.W.Frag) (f : Str) (to te : TE) : TS := fun D σ H => te σ H fun y H1 => to σ H1 fun x H2 => ∃ a C : Addr, x = .ref a ∧ XC K C ∧ XF K C f ∧
  ((H2 a = some (exo a C none) ∧ ∀ dx, H2 dx = none → dx ≠ a → D.nx σ (upd (upd H2 dx (exd dx [(f, y)])) a (exo a C (some dx)))) ∨
    ∃ (dx : Addr) (fs : List (Str × V)), H2 a = some (exo a C (some dx)) ∧ H2 dx = some (exd dx fs) ∧ fs.length ≤ 900 ∧ D.nx σ (upd H2 dx (exd dx ((f, y) :: fs))))
theorem ps_xst {X : Cx} {o e : Expr} {to te : TE} {f : Str} {p' pos : Pos} (ho : PE X o to) (he : PE X e te) (hs : swapsWith e (some (.Attribute o f p')) pos.line X.env = pure false := by rfl) : PS X (.Assign [.Attribute o f p'] e pos) (tXst X.K f to te) := by
  constructor
  intro pins s σ H D I h
  refine plainObj_wpAny_Assign_Attribute (thn (he.run pins s σ H _ I h) fun v s1 h1 => ?_) hs
  obtain ⟨y, H1, I1, r1, q1⟩ := h1
  refine thn (ho.run pins s1 σ H1 _ I1 q1) fun u s2 h2 => ?_
  obtain ⟨x, H2, I2, r2, a, C, rfl, T, F, q⟩ := h2
  obtain rfl : u = Value.ref a := r2
  rcases q with ⟨ea, q⟩ | ⟨dx, fs, ea, ed, hl, q⟩
  · exact xst_new T F I2 ea r1 fun dx s3 n ne J => ⟨σ, _, J, q dx n ne⟩
  · exact xst_old T F I2 ea ed hl r1 fun s3 J => ⟨σ, _, J, q⟩
theorem Vals.reverse : ∀ {xs : List V} {us : List Value}, Vals xs us → Vals xs.reverse us.reverse
  | _, _, .nil => .nil
  | _, _, .cons r t => by
    rw [List.reverse_cons, List.reverse_cons]
    exact L2.Vals.append (Vals.reverse t) (.cons r .nil)
end Lw
namespace Lw
open PySem PySem.Spec PyProof.Rows L2 Evl
open LwX (XC XF)
section
variable {K : PySem.W.Frag} {σ : L2.St} {H H' : Hp} {ta tb te : TE} {xs ys : List V}
theorem el_cat (ha : EvL ta σ H xs) (hb : EvL tb σ H ys) (hz : xs.length + ys.length ≤ 100000) : EvL (tOp rCat ta tb) σ H (xs ++ ys) := fun H1 e Q q =>
  ha H1 e _ fun p H2 hp e2 hl => hb H2 (e.trans e2) _ fun r H3 hr e3 hl3 => ⟨p, r, xs, ys, rfl, rfl, e3 _ _ hl, hl3, sz_of hz, fun t ht => q t _ (fresh_back (e2.trans e3) ht) ((e2.trans e3).trans (Ex.new ht)) upd_same⟩
end
def spI1 (f : Str) (C : Addr) : Sp := fun vs H Q _ => ∃ (a : Addr) (v : V), vs = [.ref a, v] ∧ H a = some (exo a C none) ∧ ∀ dx, H dx = none → dx ≠ a → Q .non (upd (upd H dx (exd dx [(f, v)])) a (exo a C (some dx)))
section
variable {P : Program} {w : World} {K : PySem.W.Frag} {mg : Str → Option Value} {base : Heap} {C fI : Addr} {fd : FuncData} {qual : Str} {params : Arguments} {scope : Scope}
/-- the body: self.f = f -/
theorem init1 {f : Str} {q1 q2 q3 q4 : Pos} (F : FunD K "__init__" qual params [.Assign [.Attribute (.Name "self" q1) f q2] (.Name f q3) q4] scope [] [] fI fd) (S : FnScope ["self", f] ["self", f] scope) (T : XC K C) (A : XF K C f)
    (l1 : scope.names.lookup ("self" : Str) = some .local) (l2 : scope.names.lookup f = some .local) (n1 : (f == ("__debug__" : Str)) = false) (n2 : (f == ("__classdict__" : Str)) = false) :
    FnG P w K mg base CX0 1 fI fd ["self", f] (spI1 f C) := by
  refine fnG F S (fun vs H Q E h => ?_) (fun cdv A' outer s H vs Q E gd hr h => ?_)
  · obtain ⟨a, v, rfl, _⟩ := h
    rfl
  · obtain ⟨a, v, rfl, ha, q⟩ := h
    refine ⟨_, PSs.nox (pss_one (ps_xst (pv 0 rfl (.inl l1)) (pv 1 rfl (.inl l2) n1 n2))), ?_⟩
    exact ⟨v, rfl, .ref a, rfl, a, C, rfl, T, A, .inl ⟨ha, fun dx hd ne => q dx hd ne⟩⟩
end
end Lw
namespace Lw
open PySem PySem.Spec PyProof.Rows L2 Evl
/-- data whose text is short -/
def Rok (d : PyData) : Prop := d.showable = true ∧ d.shown.length ≤ 2500 ∧ d.depth ≤ 10
/-- v is such data, whatever is drawn later -/
def Sm (P : Program) (w : World) (p : Addr) (H : Hp) (v : V) : Prop := ∃ d, Rok d ∧ ∀ H', Xp p H H' → Rw P w H' v d
section
variable {P : Program} {w : World} {p : Addr} {H H' : Hp} {σ : L2.St}
/-- a display of constants -/
def CA (ta : TA) (vs : List V) : Prop := ∀ (σ : L2.St) (H : Hp) (Q : List V → Hp → Prop), Q vs H → ta σ H Q
end
end Lw
namespace Lw
open PySem PySem.Spec PyProof.Rows L2 Evl
section
variable {K : PySem.W.Frag} {σ : L2.St} {H : Hp} {ta tb : TE}
theorem given_all (n : Nat) (v : Nat → V) : given n (fun _ => true) v = (List.range n).map v := by
  unfold given
  rw [List.filter_eq_self.mpr (fun _ _ => rfl)]
theorem et_yes : EvT tYes σ H true := fun H1 e Q q => q H1 (Ex.refl H1)
end
section
variable {X : Cx} {K : PySem.W.Frag}
theorem ix_listK (h : X.K = K := by rfl) : IxR X (rIxL K) := h ▸ ix_list
theorem ix_tupK (h : X.K = K := by rfl) : IxR X (rIxT K) := h ▸ ix_tup
theorem sl_listK (h : X.K = K := by rfl) : SlR X (rSlL K) := h ▸ sl_list
theorem op_neDK (hu : X.A.units + 64 < cLine) (h : X.K = K := by rfl) : OpR X (compareOp .NotEq) (rNeD K) := h ▸ op_neD hu
theorem cr_allK (hc : X.calm = true := by rfl) (h : X.K = K := by rfl) : CallR X (.builtin "all") (rAll K) := h ▸ cr_all hc
theorem call_lenK (h : X.K = K := by rfl) : CallR X (.builtin "len") (rLenS K) := by
  subst h
  exact call_len_seq
theorem pi_listK {tg e : Expr} {te : TE} (he : PE X e te) (h : X.K = K := by rfl) : PI X tg e (iList K te) := by
  subst h
  exact pi_list he
end
end Lw
namespace Lw
open PySem PySem.Spec PyProof.Rows L2 Evl TL
def sgn (c : Nat) : Str := ⟨#[c]⟩
/-- a letter: one to eight signs of the alphabet -/
def isL (s : Str) : Bool := (1 ≤ s.cps.toList.length && s.cps.toList.length ≤ 8) && s.cps.toList.all fun c => 97 ≤ c && c ≤ 122
theorem isL_iff {s : Str} : isL s = true ↔ (1 ≤ s.cps.toList.length ∧ s.cps.toList.length ≤ 8) ∧ ∀ c ∈ s.cps.toList, 97 ≤ c ∧ c ≤ 122 := by
  unfold isL
  rw [Bool.and_eq_true, Bool.and_eq_true, decide_eq_true_iff, decide_eq_true_iff, List.all_eq_true]
  exact ⟨fun ⟨a, b⟩ => ⟨a, fun c hc => by
    obtain ⟨x, y⟩ := Bool.and_eq_true_iff.mp (b c hc)
    exact ⟨of_decide_eq_true x, of_decide_eq_true y⟩⟩, fun ⟨a, b⟩ => ⟨a, fun c hc => Bool.and_eq_true_iff.mpr ⟨decide_eq_true (b c hc).1, decide_eq_true (b c hc).2⟩⟩⟩
theorem tl_sgn (c : Nat) : (sgn c).cps.toList = [c] := rfl
theorem sgn_inj {c d : Nat} (h : sgn c = sgn d) : c = d := by
  have e : (sgn c).cps.toList = (sgn d).cps.toList := by rw [h]
  rw [tl_sgn, tl_sgn] at e
  injection e
theorem len_cps (s : Str) : s.length = s.cps.toList.length := by simp [Str.length]
theorem isL_len {s : Str} (h : isL s = true) : 1 ≤ s.length ∧ s.length ≤ 8 := by
  rw [len_cps]
  exact (isL_iff.mp h).1
theorem nodup_le {α : Type} [DecidableEq α] : ∀ {l m : List α}, l.Nodup → (∀ x ∈ l, x ∈ m) → l.length ≤ m.length
  | [], _, _, _ => Nat.zero_le _
  | x :: l, m, h, hs => by
    obtain ⟨hx, hl⟩ := List.nodup_cons.mp h
    have mx : x ∈ m := hs x List.mem_cons_self
    have z := nodup_le (m := m.erase x) hl fun y hy => (List.mem_erase_of_ne (fun e => hx (by rw [← e]; exact hy))).mpr (hs y (List.mem_cons_of_mem _ hy))
    rw [List.length_erase_of_mem mx] at z
    have : 0 < m.length := List.length_pos_of_mem mx
    show l.length + 1 ≤ m.length
    omega
theorem dpa_str {K : PySem.W.Frag} {H : Hp} : ∀ xs : List Str, DpAll K H (xs.map V.str) (xs.map PyData.str)
  | [] => .nil
  | x :: xs => .cons (.str x) (dpa_str xs)
end Lw
namespace Lw
open PySem PySem.Spec PyProof.Rows L2 Evl TL
theorem strOk_of {s : Str} (h : isL s = true) : PyData.strOk s = true := by
  obtain ⟨_, d⟩ := isL_iff.mp h
  show s.cps.all (· < 0x110000) = true
  rw [← Array.all_toList]
  exact List.all_eq_true.mpr fun c hc => decide_eq_true (by have := d c hc; omega)
theorem lay_strs : ∀ {xs : List Str}, (∀ x ∈ xs, PyData.strOk x = true) → PyData.canLayAll0 (xs.map PyData.str) = true ∧ PyData.depthAll (xs.map PyData.str) = 0
  | [], _ => ⟨rfl, rfl⟩
  | x :: xs, h => by
    obtain ⟨h1, h2⟩ := lay_strs fun y hy => h y (List.mem_cons_of_mem _ hy)
    exact ⟨by simp [PyData.canLayAll0, PyData.canLay0, h1, h x List.mem_cons_self], by simp [PyData.depthAll, PyData.depth, h2]⟩
theorem shaped_strsT {xs : List Str} (h : ∀ x ∈ xs, PyData.strOk x = true) : SeqAt.shaped (.tuple (xs.map PyData.str)) = true := by
  obtain ⟨h1, h2⟩ := lay_strs h
  simp [SeqAt.shaped, PyData.canLay0, PyData.depth, h1, h2]
end Lw
namespace Lw
open PySem PySem.Spec PyProof.Rows L2 Evl TL
end Lw
namespace Lw
open PySem PySem.Spec PyProof.Rows L2 Evl TL
theorem Xp.own {p D : Addr} {H H3 : Hp} {o : HO} (x : Xp p H H3) (hD : H D = none) (ne : D ≠ p) : Xp p H (upd H3 D o) := by
  refine ⟨fun a u na ea => ?_, ?_⟩
  · rw [upd_ne (ne_of_none ea hD)]
    exact x.1 a u na ea
  · obtain ⟨i, j, e, r⟩ := x.2
    exact ⟨i, j, by rw [upd_ne ne.symm]; exact e, r⟩
end Lw
namespace Lw
open PySem PySem.Spec PyProof.Rows L2 Evl TL
end Lw
namespace Lw
open PySem PySem.Spec PyProof.Rows L2 Evl TL
/-- the first n letters of one sign -/
def firsts (n : Nat) : List Str := (List.range n).map fun j => sgn (97 + j)
theorem firsts_nodup (n : Nat) : (firsts n).Nodup := by
  unfold firsts
  have z : (List.range n).Pairwise (fun a b => a ≠ b) := List.nodup_range
  refine List.pairwise_map.mpr (z.imp fun {a b} h (e : sgn (97 + a) = sgn (97 + b)) => h ?_)
  have := sgn_inj e
  omega
end Lw
namespace Lw
open PySem PySem.Spec PyProof.Rows L2 Evl TL
section
variable {X : Cx} {K : PySem.W.Frag}
theorem call_isiK1 (h : X.K = K := by rfl) : CallR X (.builtin "isinstance") (rIsi K) := h ▸ call_isi
theorem pi_tupK {tg e : Expr} {te : TE} (he : PE X e te) (h : X.K = K := by rfl) : PI X tg e (iTup K te) := by
  subst h
  exact pi_tup he
theorem ix_tupK2 (h : X.K = K := by rfl) : IxR X (rIxT K) := h ▸ ix_tup
end
/-- what a value tells when it is asked whether it is a letter -/
inductive LB (K : PySem.W.Frag) (H : Hp) : V → Bool → Prop
  | str (s : Str) (h : s.length ≤ 100000) : LB K H (.str s) (isL s)
  | oth {v : V} {t : String} (h : TyX K H v (.type t)) (hn : kitB t "str" = some false) : LB K H v false
theorem isL_app0 (s : Str) : isL s = ((decide (1 ≤ s.length) && decide (s.length ≤ 8)) && s.cps.toList.all fun c => decide (97 ≤ c) && decide (c ≤ 122)) := by
  unfold isL
  rw [len_cps]
end Lw
namespace Lw
open PySem PySem.Spec PyProof.Rows L2 Evl TL
section
variable {K : PySem.W.Frag} {σ : L2.St} {H : Hp} {te tz : TE}
/-- over the signs of a text -/
theorem el_lcS {z : Str} {j : Nat} {vs : List Nat} (v : Nat → V) (h : Ev tz σ H (.str z)) (hz : z.cps.size ≤ 40000) (hw : ∀ x, wipe ((wipe σ vs).set j (some x)) vs = wipe σ vs)
    (he : ∀ (i c : Nat) H1, Ex H H1 → z.cps[i]? = some c → Ev te ((wipe σ vs).set j (some (.str ⟨#[c]⟩))) H1 (v i)) :
    EvL (tLc (iStr tz) (gName j) tYes te vs) σ H ((List.range z.cps.size).map v) := fun H0 e Q q => h H0 e _ fun H1 e1 => ⟨z, rfl, fun Dl hD =>
  lc_it walk_str (Cw H1 (fun _ => true) v Dl) ⟨hD, Ex.new hD, upd_same⟩ (fun _ _ _ _ => trivial) (fun i x H' H'' hi p y => by
    obtain ⟨rfl, c, hc, rfl⟩ := y
    exact ⟨hw _, cw_turn p (by omega) et_yes (fun _ => he i c H1 (e.trans e1) hc)⟩) (fun H' p => q Dl H' (fresh_back e1 p.1) (e1.trans p.2.1) (by rw [← given_all]; exact p.2.2))⟩
/-- over a tuple -/
theorem el_lcT {a : Addr} {xs : List V} {j : Nat} {vs : List Nat} (v : Nat → V) (h : Ev tz σ H (.ref a)) (hx : SqT K H a xs) (hz : xs.length ≤ 40000) (hw : ∀ x, wipe ((wipe σ vs).set j (some x)) vs = wipe σ vs)
    (he : ∀ (i : Nat) (x : V) H1, Ex H H1 → xs[i]? = some x → Ev te ((wipe σ vs).set j (some x)) H1 (v i)) :
    EvL (tLc (iTup K tz) (gName j) tYes te vs) σ H ((List.range xs.length).map v) := fun H0 e Q q => h H0 e _ fun H1 e1 => ⟨a, rfl, ⟨xs, ex_t (e.trans e1) hx⟩, fun Dl hD =>
  lc_it walk_tup (Cw H1 (fun _ => true) v Dl) ⟨hD, Ex.new hD, upd_same⟩ (fun i H' _ p => ex_t ((e.trans e1).trans p.2.1) hx) (fun i x H' H'' hi p y => by
    obtain ⟨rfl, hy⟩ := y
    exact ⟨hw _, cw_turn p (by omega) et_yes (fun _ => he i x H1 (e.trans e1) hy)⟩) (fun H' p => q Dl H' (fresh_back e1 p.1) (e1.trans p.2.1) (by rw [← given_all]; exact p.2.2))⟩
theorem ev_all {bs : List Bool} {xs : List V} (h : EvL te σ H xs) (hx : xs = bs.map V.bl) : Ev (tCB (rAll K) (tCons te tNil)) σ H (.bl (bs.all id)) := fun H1 e Q q => h H1 e _ fun p H2 _ e2 hl => ⟨p, bs, rfl, SqL.of (by rw [← hx]; exact hl), q H2 e2⟩
theorem ev_isi {v : V} {t cls : String} {b : Bool} (h : Ev te σ H v) (ht : ∀ H1, Ex H H1 → TyX K H1 v (.type t)) (hk : kitB t cls = some b) : Ev (tCB (rIsi K) (tCons te (tCons (tC (.ty cls)) tNil))) σ H (.bl b) := fun H1 e Q q =>
  h H1 e _ fun H2 e2 => ⟨v, .ty cls, .type t, .type cls, b, rfl, .ty cls, ht H2 (e.trans e2), hk, q H2 e2⟩
theorem ev_lenS {z : Str} (h : Ev te σ H (.str z)) (hz : z.length ≤ 100000) : Ev (tCB (fun xs H Q => ∃ z, xs = [V.str z] ∧ z.length ≤ sizeLine ∧ Q (V.int z.length) H) (tCons te tNil)) σ H (.int (z.length : Int)) := fun H1 e Q q =>
  h H1 e _ fun H2 e2 => ⟨z, rfl, sz_of hz, q H2 e2⟩
theorem et_chainI {f g : Int → Int → Bool} {ta tb tc : TE} {i j k : Int} (ha : Ev ta σ H (.int i)) (hb : Ev tb σ H (.int j)) (hc : Ev tc σ H (.int k)) :
    EvT (tTest (tChain (rI0 fun i j => V.bl (f i j)) (rI0 fun i j => V.bl (g i j)) ta tb tc)) σ H (f i j && g j k) := fun H1 e Q q => ha H1 e _ fun H2 e2 => hb H2 (e.trans e2) _ fun H3 e3 => ⟨i, j, rfl, rfl, f i j, rfl, by
    revert q
    cases f i j with
    | true => exact fun q => hc H3 ((e.trans e2).trans e3) _ fun H4 e4 => ⟨j, k, rfl, rfl, g j k, rfl, q H4 ((e2.trans e3).trans e4)⟩
    | false => exact fun q => ⟨false, rfl, q H3 (e2.trans e3)⟩⟩
end
theorem tyx_mono {K : PySem.W.Frag} {H H1 : Hp} {v : V} {t : Value} (e : Ex H H1) (h : TyX K H v t) : TyX K H1 v t := by
  cases h with
  | base b =>
    refine .base ?_
    cases b with
    | non => exact .non
    | bl y => exact .bl y
    | int i => exact .int i
    | str y => exact .str y
    | flt y => exact .flt y
    | lst ea => exact .lst (e _ _ ea)
    | frz ea => exact .frz (e _ _ ea)
    | tup ea => exact .tup (e _ _ ea)
    | dK ea => exact .dK (e _ _ ea)
    | dT ea => exact .dT (e _ _ ea)
    | ins ea cl ha hn htk hm => exact .ins (e _ _ ea) cl ha hn htk hm
  | byt b => exact .byt b
  | set ea => exact .set (e _ _ ea)
  | kList ea c => exact .kList ea c
  | kTuple ea c => exact .kTuple ea c
  | kDict ea c => exact .kDict ea c
  | fTuple ea => exact .fTuple (e _ _ ea)
  | fDict ea => exact .fDict (e _ _ ea)
end Lw
namespace Lw
open PySem PySem.Spec PyProof.Rows L2 Evl TL
theorem range_get {α β : Type} (l : List α) (d : α) (g : α → β) : (List.range l.length).map (fun i => g (l.getD i d)) = l.map g := by
  refine List.ext_getElem (by simp) fun i h1 h2 => ?_
  rw [List.getElem_map, List.getElem_map, List.getElem_range]
  have hi : i < l.length := by simpa using h2
  congr 1
  rw [List.getD_eq_getElem?_getD, List.getElem?_eq_getElem hi]
  rfl
def leS (a b : Str) : Bool := !decide (b.cps.toList < a.cps.toList)
theorem ev_chainS {σ : L2.St} {H : Hp} {ta tb tc : TE} {a b c : Str} (ha : Ev ta σ H (.str a)) (hb : Ev tb σ H (.str b)) (hc : Ev tc σ H (.str c)) :
    Ev (tChain (fun x y H Q => ∃ i j, x = V.str i ∧ y = V.str j ∧ Q (V.bl !decide (j.cps.toList < i.cps.toList)) H) (fun x y H Q => ∃ i j, x = V.str i ∧ y = V.str j ∧ Q (V.bl !decide (j.cps.toList < i.cps.toList)) H) ta tb tc) σ H (.bl (leS a b && leS b c)) := fun H1 e Q q => ha H1 e _ fun H2 e2 => hb H2 (e.trans e2) _ fun H3 e3 => ⟨a, b, rfl, rfl, leS a b, rfl, by
    revert q
    cases leS a b with
    | true => exact fun q => hc H3 ((e.trans e2).trans e3) _ fun H4 e4 => ⟨b, c, rfl, rfl, q H4 ((e2.trans e3).trans e4)⟩
    | false => exact fun q => q H3 (e2.trans e3)⟩
theorem lt_one (c d : Nat) : decide (([c] : List Nat) < [d]) = decide (c < d) := by
  refine decide_eq_decide.mpr ?_
  simp [List.cons_lt_cons_iff]
theorem leS_sgn (c d : Nat) : leS (sgn c) (sgn d) = decide (c ≤ d) := by
  unfold leS
  rw [tl_sgn, tl_sgn, lt_one]
  by_cases h : c ≤ d
  · rw [decide_eq_true h, decide_eq_false (by omega)]
    rfl
  · rw [decide_eq_false h, decide_eq_true (by omega)]
    rfl
end Lw
namespace Lw
open PySem PySem.Spec PyProof.Rows L2 Evl TL
section
variable {K : PySem.W.Frag} {σ : L2.St} {H : Hp} {te : TE}
theorem ev_lenT {p : Addr} {xs : List V} (ha : Ev te σ H (.ref p)) (h : SqT K H p xs) : Ev (tCB (rLenS K) (tCons te tNil)) σ H (.int (xs.length : Int)) := fun H1 e Q q =>
  ha H1 e _ fun H2 e2 => ⟨p, xs, rfl, .inr (ex_t (e.trans e2) h), q H2 e2⟩
end
theorem lb_mono {K : PySem.W.Frag} {H H1 : Hp} {v : V} {b : Bool} (e : Ex H H1) (h : LB K H v b) : LB K H1 v b := by
  cases h with
  | str s hs => exact .str s hs
  | oth ht hn => exact .oth (tyx_mono e ht) hn
theorem paired_mono {α β : Type} {R S : α → β → Prop} (h : ∀ a b, R a b → S a b) : ∀ {xs : List α} {ys : List β}, Paired R xs ys → Paired S xs ys
  | _, _, .nil => .nil
  | _, _, .cons r t => .cons (h _ _ r) (paired_mono h t)
end Lw
namespace Lw
open PySem PySem.Spec PyProof.Rows L2 Evl TL
section
variable {X : Cx} {K : PySem.W.Frag}
theorem op_catAK (h : X.K = K := by rfl) : OpR X (binaryOp .Add) (rCatA K) := h ▸ op_catA
theorem pt_truthK {a : Expr} {ta : TE} (ha : PE X a ta) (h : X.K = K := by rfl) (he : ∀ whole, isTrue a X.env whole = (do let v ← whole; standAt a.pos; holding [v] (truthy v)) := by intro _; rfl) :
    PT X a (fun σ H Q => ta σ H fun x H' => ∃ k, TruV K x H' k ∧ Q k H') := by
  subst h
  exact pt_truth ha he
end
theorem tyx_tup {K : PySem.W.Frag} {H : Hp} {a : Addr} {xs : List V} (h : SqT K H a xs) : TyX K H (.ref a) (.type "tuple") := by
  rcases h with (h | ⟨o, h⟩) | ⟨o, its, n, h, c, _⟩
  · exact .base (.tup h)
  · exact .fTuple h
  · exact .kTuple h c
/-- a tuple of texts -/
def Wd (_ : PySem.W.Frag) (H : Hp) (v : V) (ys : List Str) : Prop := ∃ a, v = .ref a ∧ H a = some (.tup (ys.map V.str))
/-- such a tuple that is a word -/
def isW (ys : List Str) : Bool := decide (ys.length ≤ 3) && ys.all isL
theorem wd_mono {K : PySem.W.Frag} {H H1 : Hp} {v : V} {ys : List Str} (e : Ex H H1) (h : Wd K H v ys) : Wd K H1 v ys := by
  obtain ⟨a, rfl, h⟩ := h
  exact ⟨a, rfl, e _ _ h⟩
/-- an expression that gives such a tuple -/
def EvW (K : PySem.W.Frag) (te : TE) (σ : L2.St) (H : Hp) (ys : List Str) : Prop := ∀ H1, Ex H H1 → ∀ Q : VK, (∀ v H2, Ex H1 H2 → Wd K H2 v ys → Q v H2) → te σ H1 Q
section
variable {K : PySem.W.Frag} {σ : L2.St} {H : Hp} {te ta tb : TE} {xs ys : List Str}
theorem ew_of {v : V} (h : Ev te σ H v) (hw : Wd K H v ys) : EvW K te σ H ys := fun H1 e Q q => h H1 e _ fun H2 e2 => q v H2 e2 (wd_mono (e.trans e2) hw)
theorem ew_cat (ha : EvW K ta σ H xs) (hb : EvW K tb σ H ys) (hz : xs.length + ys.length ≤ 100000) : EvW K (tOp (rCatA K) ta tb) σ H (xs ++ ys) := fun H1 e Q q =>
  ha H1 e _ fun v H2 e2 ⟨a, ea, hx⟩ => hb H2 (e.trans e2) _ fun u H3 e3 ⟨b, eb, hy⟩ => by
    refine ⟨a, b, xs.map V.str, ys.map V.str, ea, eb, SqT.of (e3 _ _ hx), SqT.of hy, by rw [List.length_map, List.length_map]; exact sz_of hz, fun z => ?_, fun z1 z => ?_, fun z1 z2 p hp => ?_⟩
    · have : xs = [] := List.map_eq_nil_iff.mp z
      subst this
      exact q _ H3 (e2.trans e3) ⟨b, rfl, hy⟩
    · have : ys = [] := List.map_eq_nil_iff.mp z
      subst this
      rw [List.append_nil] at q
      exact q _ H3 (e2.trans e3) ⟨a, rfl, e3 _ _ hx⟩
    · exact q _ _ ((e2.trans e3).trans (Ex.new hp)) ⟨p, rfl, by rw [List.map_append]; exact upd_same⟩
end
end Lw
namespace Lw
open PySem PySem.Spec PyProof.Rows L2 Evl TL
section
variable {K : PySem.W.Frag} {σ : L2.St} {H : Hp} {te ta : TE} {ys : List Str} {tz : TS} {D : Ends}
theorem s_retW (h : EvW K te σ H ys) (k : ∀ v H1, Ex H H1 → Wd K H1 v ys → D.rt v H1) : tRet te D σ H := h H (Ex.refl H) _ fun v H1 e hw => k v H1 e hw
/-- a list of such tuples -/
def LW (K : PySem.W.Frag) (H : Hp) (l : Addr) (ws : List (List Str)) : Prop := ∃ us, H l = some (.lst us) ∧ Paired (Wd K H) us ws
theorem lw_mono {H1 : Hp} {l : Addr} {ws : List (List Str)} (e : Ex H H1) (h : LW K H l ws) : LW K H1 l ws := by
  obtain ⟨us, h1, h2⟩ := h
  exact ⟨us, e _ _ h1, paired_mono (fun _ _ r => wd_mono e r) h2⟩
def EvLW (K : PySem.W.Frag) (te : TE) (σ : L2.St) (H : Hp) (ws : List (List Str)) : Prop := ∀ H1, Ex H H1 → ∀ Q : VK, (∀ l H2, H1 l = none → Ex H1 H2 → LW K H2 l ws → Q (.ref l) H2) → te σ H1 Q
theorem paired_app {α β : Type} {R : α → β → Prop} : ∀ {xs xs2 : List α} {ys ys2 : List β}, Paired R xs ys → Paired R xs2 ys2 → Paired R (xs ++ xs2) (ys ++ ys2)
  | _, _, _, _, .nil, h => h
  | _, _, _, _, .cons r t, h => .cons r (paired_app t h)
end
end Lw
namespace Lw
open PySem PySem.Spec PyProof.Rows L2 Evl TL
section
variable {P : Program} {w : World} {K : PySem.W.Frag} {σ : L2.St} {H : Hp} {te ta : TE} {ys : List Str}
def wD (ys : List Str) : PyData := .tuple (ys.map PyData.str)
end
end Lw
namespace Lw
open PySem PySem.Spec PyProof.Rows L2 Evl TL
/-- the text of a word -/
def tx (ys : List Str) : Str := if ys = [] then "-" else Str.join "." ys
/-- its beginnings -/
def begs (ys : List Str) : List (List Str) := (List.range (ys.length + 1)).map fun i => ys.take i
end Lw
namespace Lw
open PySem PySem.Spec PyProof.Rows L2 Evl TL
end Lw
namespace Lw
open PySem PySem.Spec PyProof.Rows L2 Evl TL
end Lw
namespace Lw
open PySem PySem.Spec PyProof.Rows L2 Evl TL
/-- what stands aheadW of what: by the number of letters, then by the first unequal ones -/
def lexW : List Str → List Str → Bool
  | x :: xs, y :: ys => if x = y then lexW xs ys else decide (x.cps.toList < y.cps.toList)
  | _, _ => false
def aheadW (xs ys : List Str) : Bool := if xs.length = ys.length then lexW xs ys else decide (xs.length < ys.length)
end Lw
namespace Lw
open PySem PySem.Spec PyProof.Rows L2 Evl TL
end Lw
namespace Lw
open PySem PySem.Spec PyProof.Rows L2 Evl TL
theorem paired_drop {α β : Type} {R : α → β → Prop} : ∀ (n : Nat) {xs : List α} {ys : List β}, Paired R xs ys → Paired R (xs.drop n) (ys.drop n)
  | 0, _, _, h => h
  | _ + 1, _, _, .nil => .nil
  | n + 1, _, _, .cons r t => paired_drop n t
theorem cut_from (xs : List V) (n : Nat) (h : n ≤ xs.length) : cutV xs (some (n : Int)) none = xs.drop n := by
  unfold cutV
  rw [show HT.sIx xs.length 0 (some (n : Int)) = min n xs.length from HT.sIx_nat _ _ n, HT.sIx_none, Nat.min_eq_left h]
  rw [List.take_of_length_le (by rw [List.length_drop]; omega)]
/-- a word put into a list of different ones, behind those that stand aheadW of it -/
def insW (fs : List (List Str)) (w : List Str) : List (List Str) := if w ∈ fs then fs else fs.take (fs.filter (aheadW · w)).length ++ [w] ++ fs.drop (fs.filter (aheadW · w)).length
def srtW (ws : List (List Str)) : List (List Str) := ws.foldl insW []
theorem insW_mem {fs : List (List Str)} {w u : List Str} : u ∈ insW fs w ↔ u ∈ fs ∨ u = w := by
  unfold insW
  split
  · rename_i h
    exact ⟨.inl, fun z => z.elim id fun e => e ▸ h⟩
  · have e : fs.take (fs.filter (aheadW · w)).length ++ fs.drop (fs.filter (aheadW · w)).length = fs := List.take_append_drop _ _
    constructor
    · intro z
      rcases List.mem_append.mp z with z | z
      · rcases List.mem_append.mp z with z | z
        · exact .inl (List.mem_of_mem_take z)
        · exact .inr (List.mem_singleton.mp z)
      · exact .inl (List.mem_of_mem_drop z)
    · rintro (z | z)
      · rw [← e] at z
        rcases List.mem_append.mp z with z | z
        · exact List.mem_append_left _ (List.mem_append_left _ z)
        · exact List.mem_append_right _ z
      · exact List.mem_append_left _ (List.mem_append_right _ (List.mem_singleton.mpr z))
theorem srtW_mem {ws : List (List Str)} {u : List Str} : u ∈ srtW ws ↔ u ∈ ws := by
  have key : ∀ (ws fs : List (List Str)), u ∈ ws.foldl insW fs ↔ u ∈ fs ∨ u ∈ ws := fun ws => by
    induction ws with
    | nil => intro fs; simp
    | cons w ws ih =>
      intro fs
      rw [List.foldl_cons, ih, insW_mem, List.mem_cons, or_assoc]
  unfold srtW
  rw [key]
  simp
theorem eqvAll_strs : ∀ xs ys : List Str, PyData.eqvAll (xs.map PyData.str) (ys.map PyData.str) = decide (xs = ys)
  | [], [] => rfl
  | [], _ :: _ => rfl
  | _ :: _, [] => rfl
  | x :: xs, y :: ys => by
    rw [List.map_cons, List.map_cons]
    unfold PyData.eqvAll
    rw [eqvAll_strs xs ys]
    by_cases h : x = y
    · subst h
      by_cases h2 : xs = ys
      · subst h2
        simp [PyData.eqv]
      · simp [PyData.eqv, h2]
    · simp [PyData.eqv, h]
theorem eqv_wD (xs ys : List Str) : PyData.eqv (wD xs) (wD ys) = decide (xs = ys) := by
  unfold wD
  unfold PyData.eqv
  exact eqvAll_strs xs ys
theorem dp_word {K : PySem.W.Frag} {H : Hp} {v : V} {ys : List Str} (h : Wd K H v ys) : Dp K H v (wD ys) := by
  obtain ⟨a, rfl, h⟩ := h
  exact .tup (SqT.of h) (dpa_str ys)
theorem dpa_words {K : PySem.W.Frag} {H : Hp} {us : List V} {ws : List (List Str)} (h : Paired (Wd K H) us ws) : DpAll K H us (ws.map wD) := by
  induction h with
  | nil => exact .nil
  | cons r t ih => exact .cons (dp_word r) ih
end Lw
namespace Lw
open PySem PySem.Spec PyProof.Rows L2 Evl TL
end Lw
namespace Lw
open PySem PySem.Spec PyProof.Rows L2 Evl TL
end Lw
namespace Lw
open PySem PySem.Spec PyProof.Rows L2 Evl TL
end Lw
namespace Lw
open PySem PySem.Spec PyProof.Rows L2 Evl TL
end Lw
namespace Lw
open PySem PySem.Spec PyProof.Rows L2 Evl TL
/-- a list that changes leaves tuples and other lists of them -/
theorem wd_upd {K : PySem.W.Frag} {H : Hp} {l : Addr} {xs : List V} {o : HO} {v : V} {ys : List Str} (hl : H l = some (.lst xs)) (h : Wd K H v ys) : Wd K (upd H l o) v ys := by
  obtain ⟨a, rfl, h⟩ := h
  refine ⟨a, rfl, ?_⟩
  rw [upd_ne (fun q => by rw [q, hl] at h; cases h)]
  exact h
end Lw
namespace Lw
open PySem PySem.Spec PyProof.Rows L2 Evl TL
theorem lexW_irr : ∀ xs : List Str, lexW xs xs = false
  | [] => rfl
  | x :: xs => by
    show (if x = x then lexW xs xs else decide (x.cps.toList < x.cps.toList)) = false
    rw [if_pos rfl, lexW_irr xs]
theorem lexW_trans : ∀ {xs ys zs : List Str}, lexW xs ys = true → lexW ys zs = true → lexW xs zs = true
  | [], _, _, h, _ => by cases h
  | _ :: _, [], _, h, _ => by cases h
  | _ :: _, _ :: _, [], _, h => by cases h
  | x :: xs, y :: ys, z :: zs, h1, h2 => by
    have h1 : (if x = y then lexW xs ys else decide (x.cps.toList < y.cps.toList)) = true := h1
    have h2 : (if y = z then lexW ys zs else decide (y.cps.toList < z.cps.toList)) = true := h2
    show (if x = z then lexW xs zs else decide (x.cps.toList < z.cps.toList)) = true
    by_cases e1 : x = y
    · subst e1
      rw [if_pos rfl] at h1
      by_cases e2 : x = z
      · subst e2
        rw [if_pos rfl] at h2 ⊢
        exact lexW_trans h1 h2
      · rw [if_neg e2] at h2 ⊢
        exact h2
    · rw [if_neg e1] at h1
      have l1 := of_decide_eq_true h1
      by_cases e2 : y = z
      · subst e2
        rw [if_neg e1]
        exact h1
      · rw [if_neg e2] at h2
        have l2 := of_decide_eq_true h2
        have l3 : x.cps.toList < z.cps.toList := List.lt_trans l1 l2
        have e3 : x ≠ z := fun e => by
          rw [e] at l3
          exact List.lt_irrefl _ l3
        rw [if_neg e3]
        exact decide_eq_true l3
theorem lt_conn {a b : List Nat} (h : a ≠ b) : a < b ∨ b < a := by
  rcases Decidable.em (a < b) with z | z
  · exact .inl z
  · refine .inr ?_
    have h1 : b ≤ a := List.not_lt.mp z
    rcases Decidable.em (b < a) with y | y
    · exact y
    · have h2 : a ≤ b := List.not_lt.mp y
      exact absurd (List.le_antisymm h2 h1) h
theorem lexW_conn : ∀ {xs ys : List Str}, xs.length = ys.length → xs ≠ ys → lexW xs ys = true ∨ lexW ys xs = true
  | [], [], _, h => absurd rfl h
  | [], _ :: _, h, _ => by cases h
  | _ :: _, [], h, _ => by cases h
  | x :: xs, y :: ys, hl, h => by
    show (if x = y then lexW xs ys else decide (x.cps.toList < y.cps.toList)) = true ∨ (if y = x then lexW ys xs else decide (y.cps.toList < x.cps.toList)) = true
    by_cases e : x = y
    · subst e
      rw [if_pos rfl, if_pos rfl]
      exact lexW_conn (Nat.succ.inj hl) fun z => h (by rw [z])
    · rw [if_neg e, if_neg fun z => e z.symm]
      have ne : x.cps.toList ≠ y.cps.toList := fun z => e (ext_tl z)
      rcases lt_conn ne with z | z
      · exact .inl (decide_eq_true z)
      · exact .inr (decide_eq_true z)
theorem ahead_irr (xs : List Str) : aheadW xs xs = false := by
  unfold aheadW
  rw [if_pos rfl, lexW_irr]
theorem ahead_le {xs ys : List Str} (h : aheadW xs ys = true) : xs.length ≤ ys.length := by
  unfold aheadW at h
  split at h
  · omega
  · have := of_decide_eq_true h
    omega
theorem ahead_trans {xs ys zs : List Str} (h1 : aheadW xs ys = true) (h2 : aheadW ys zs = true) : aheadW xs zs = true := by
  have a := ahead_le h1
  have b := ahead_le h2
  unfold aheadW at h1 h2 ⊢
  by_cases e : xs.length = zs.length
  · rw [if_pos (by omega)] at h1 h2
    rw [if_pos e]
    exact lexW_trans h1 h2
  · rw [if_neg e]
    exact decide_eq_true (by omega)
theorem ahead_conn {xs ys : List Str} (h : xs ≠ ys) : aheadW xs ys = true ∨ aheadW ys xs = true := by
  unfold aheadW
  by_cases e : xs.length = ys.length
  · rw [if_pos e, if_pos e.symm]
    exact lexW_conn e h
  · rw [if_neg e, if_neg fun z => e z.symm]
    rcases Nat.lt_or_gt_of_ne e with z | z
    · exact .inl (decide_eq_true z)
    · exact .inr (decide_eq_true z)
theorem ahead_asymm {xs ys : List Str} (h : aheadW xs ys = true) : aheadW ys xs = false := by
  cases q : aheadW ys xs with
  | false => rfl
  | true =>
    have z := ahead_trans h q
    rw [ahead_irr] at z
    cases z
def Sd (ws : List (List Str)) : Prop := ws.Pairwise fun a b => aheadW a b = true
theorem sd_uniq : ∀ {xs ys : List (List Str)}, Sd xs → Sd ys → (∀ u, u ∈ xs ↔ u ∈ ys) → xs = ys
  | [], [], _, _, _ => rfl
  | [], y :: ys, _, _, h => absurd ((h y).mpr List.mem_cons_self) List.not_mem_nil
  | x :: xs, [], _, _, h => absurd ((h x).mp List.mem_cons_self) List.not_mem_nil
  | x :: xs, y :: ys, hx, hy, h => by
    obtain ⟨x1, x2⟩ := List.pairwise_cons.mp hx
    obtain ⟨y1, y2⟩ := List.pairwise_cons.mp hy
    have e : x = y := by
      rcases List.mem_cons.mp ((h x).mp List.mem_cons_self) with z | z
      · exact z
      · rcases List.mem_cons.mp ((h y).mpr List.mem_cons_self) with w | w
        · exact w.symm
        · have a := x1 y w
          rw [ahead_asymm (y1 x z)] at a
          cases a
    subst e
    have e2 : xs = ys := sd_uniq x2 y2 fun u => by
      constructor
      · intro hu
        rcases List.mem_cons.mp ((h u).mp (List.mem_cons_of_mem _ hu)) with z | z
        · have a := x1 u hu
          rw [z, ahead_irr] at a
          cases a
        · exact z
      · intro hu
        rcases List.mem_cons.mp ((h u).mpr (List.mem_cons_of_mem _ hu)) with z | z
        · have a := y1 u hu
          rw [z, ahead_irr] at a
          cases a
        · exact z
    rw [e2]
/-- those aheadW of w stand at the beginning -/
theorem sd_split {w : List Str} : ∀ {fs : List (List Str)}, Sd fs → w ∉ fs → (∀ u ∈ fs.take (fs.filter (aheadW · w)).length, aheadW u w = true) ∧ (∀ u ∈ fs.drop (fs.filter (aheadW · w)).length, aheadW w u = true)
  | [], _, _ => ⟨fun u hu => absurd hu (by simp), fun u hu => absurd hu (by simp)⟩
  | f :: fs, h, hw => by
    obtain ⟨h1, h2⟩ := List.pairwise_cons.mp h
    have hwf : w ≠ f := fun e => hw (by rw [e]; exact List.mem_cons_self)
    have hwfs : w ∉ fs := fun z => hw (List.mem_cons_of_mem _ z)
    by_cases q : aheadW f w = true
    · obtain ⟨i1, i2⟩ := sd_split h2 hwfs
      rw [List.filter_cons, if_pos q, List.length_cons, List.take_succ_cons, List.drop_succ_cons]
      refine ⟨fun u hu => ?_, i2⟩
      rcases List.mem_cons.mp hu with z | z
      · rw [z]
        exact q
      · exact i1 u z
    · have hf : aheadW w f = true := (ahead_conn hwf).resolve_right q
      have all : ∀ u ∈ fs, aheadW w u = true := fun u hu => ahead_trans hf (h1 u hu)
      have none : fs.filter (aheadW · w) = [] := List.filter_eq_nil_iff.mpr fun u hu z => by
        rw [ahead_asymm (all u hu)] at z
        cases z
      rw [List.filter_cons, if_neg q, none]
      refine ⟨fun u hu => absurd hu (by simp), fun u hu => ?_⟩
      rw [List.length_nil, List.drop_zero] at hu
      rcases List.mem_cons.mp hu with z | z
      · rw [z]
        exact hf
      · exact all u z
theorem insW_sd {fs : List (List Str)} {w : List Str} (h : Sd fs) : Sd (insW fs w) := by
  unfold insW
  split
  · exact h
  · rename_i hw
    obtain ⟨a, b⟩ := sd_split h hw
    have e : fs.take (fs.filter (aheadW · w)).length ++ fs.drop (fs.filter (aheadW · w)).length = fs := List.take_append_drop _ _
    have h' : Sd (fs.take (fs.filter (aheadW · w)).length ++ fs.drop (fs.filter (aheadW · w)).length) := by rw [e]; exact h
    obtain ⟨p1, p2, p3⟩ := List.pairwise_append.mp h'
    refine List.pairwise_append.mpr ⟨List.pairwise_append.mpr ⟨p1, List.pairwise_singleton _ _, fun u hu v hv => ?_⟩, p2, fun u hu v hv => ?_⟩
    · rw [List.mem_singleton.mp hv]
      exact a u hu
    · rcases List.mem_append.mp hu with z | z
      · exact p3 u z v hv
      · rw [List.mem_singleton.mp z]
        exact b v hv
theorem srtW_sd (ws : List (List Str)) : Sd (srtW ws) := by
  have key : ∀ (ws fs : List (List Str)), Sd fs → Sd (ws.foldl insW fs) := fun ws => by
    induction ws with
    | nil => intro fs h; exact h
    | cons w ws ih => intro fs h; exact ih _ (insW_sd h)
  exact key ws [] .nil
end Lw
namespace Lw
open PySem PySem.Spec PyProof.Rows L2 Evl TL
section
variable {K : PySem.W.Frag} {σ : L2.St} {H : Hp} {te ta tb : TE} {tA tr : TA} {ys w : List Str} {ws us : List (List Str)}
theorem ew_tup (h : EvA tA σ H (ys.map V.str)) (hz : ys.length ≤ 100000) : EvW K (tTup tA) σ H ys := fun H1 e Q q => h H1 e _ fun H2 e2 => ⟨by rw [List.length_map]; exact sz_of hz, fun p hp => q _ _ (e2.trans (Ex.new hp)) ⟨p, rfl, upd_same⟩⟩
theorem elw_drop {l : Addr} {n : Nat} {to th : TO} (ha : Ev ta σ H (.ref l)) (hl : LW K H l ws) (h1 : EvO to σ H (some (n : Int))) (h2 : EvO th σ H none) (hn : n ≤ ws.length) : EvLW K (tSl (rSlL K) ta to th) σ H (ws.drop n) := fun H1 e Q q => by
  obtain ⟨xs, x1, x2⟩ := lw_mono e hl
  refine el_sl (K := K) (H := H1) (ha.mono e) (fun H2 e2 => h1 H2 (e.trans e2)) (fun H2 e2 => h2 H2 (e.trans e2)) (SqL.of x1) H1 (Ex.refl H1) _ fun p H2 hp e2 h => ?_
  rw [cut_from xs n (by rw [Paired.length x2]; exact hn)] at h
  exact q p H2 hp e2 ⟨_, h, paired_mono (fun _ _ r => wd_mono e2 r) (paired_drop n x2)⟩
theorem paired_rev {α β : Type} {R : α → β → Prop} : ∀ {xs : List α} {ys : List β}, Paired R xs ys → Paired R xs.reverse ys.reverse
  | _, _, .nil => .nil
  | _, _, .cons r t => by
    rw [List.reverse_cons, List.reverse_cons]
    exact paired_app (paired_rev t) (.cons r .nil)
end
end Lw
namespace Lw
open PySem PySem.Spec PyProof.Rows L2 Evl TL
end Lw
namespace Lw
open PySem PySem.Spec PyProof.Rows L2 Evl TL PySem.W
end Lw
namespace Lw
open PySem PySem.Spec PyProof.Rows L2 Evl
theorem drawsT {prog : Program} {w : World} {A : Around} (hn : A.handled = none) (r t : Addr) (ne : t ≠ r) (ys : Array Value) :
    Draws prog w A r [r, t] ys.size (fun j v => ys[j]? = some v) (fun j h => h.IsTupleIter r t j ∧ h.IsTuple t ys) where
  live := fun _ _ z => by
    obtain ⟨⟨o, e, _⟩, _⟩ := z
    exact ⟨o, e⟩
  frame := fun _ _ _ z k => ⟨z.1.at fun o e => k r (by simp) o e, z.2.at fun o e => k t (by simp) o e⟩
  item := fun j s Q E lt z q => by
    refine PySem.wpAny_nextOf_tuple_item z.1 z.2 (x := ys[j]) (by simp [lt]) fun h2 z2 sb => ?_
    exact q _ h2 s.toks (by simp [lt]) ⟨z2, z.2.at fun o e => sb.extBut t o ne e⟩ sb
  done := fun s Q E z q => PySem.wpAny_nextOf_tuple_end hn z.1 z.2 (by simp) q
theorem newEnumT (t : Addr) (ys : Array Value) (n : Nat) (d : Option Addr) (sl : Array (Option Value)) :
    Meets (Builtin.«enumerate.__new__» ⟨[.type "enumerate", .ref t], []⟩) (fun _ R s => s.heap.get? t = some { cls := .type "tuple", dict := d, data := .seq ys n, slots := sl } ∧
      R (.ok (.ret (.ref (s.heap.push { cls := .type "tuple_iterator", data := .fields #[.ref t, .int 0 0] }).objs.size)))
        { s with heap := (s.heap.push { cls := .type "tuple_iterator", data := .fields #[.ref t, .int 0 0] }).push { cls := .type "enumerate", data := .fields #[.none, .bool false, .ref s.heap.objs.size, rawInt 0, .none, .none] } }) :=
  .of_wp fun prog w A R s z => by
    obtain ⟨hp, g, dr, tk, os⟩ := s
    obtain ⟨ht, z⟩ := z
    have su := sub_enumerate
    have hT : Heap.IsTuple (Shared.heap ⟨hp, g, dr, tk, os⟩) t ys := ⟨_, ht, rfl, n, rfl⟩
    wp_walk using AutoSeq1.wpAny_loadPart' ht
    refine wpAny_stack_any fun st => wpAny_pure ?_
    split
    · rename_i c _ _ _ _ _
      cases (c == Value.type "enumerate") <;>
      · wp_walk using AutoSeq1.wpAny_loadPart' ht, wpAny_pyIter_tuple hT
        exact ⟨_, rfl, z⟩
    · wp_walk using AutoSeq1.wpAny_loadPart' ht, wpAny_pyIter_tuple hT
      exact ⟨_, rfl, z⟩
section
variable {prog : Program} {w : World} {A : Around} {E : Value → Shared → Prop} {s : Shared}
theorem callEnumT {t : Addr} {ys : Array Value} {Q : Value → Shared → Prop} (ht : s.heap.IsTuple t ys)
    (q : ∀ h2, IsEnum h2 (s.heap.objs.size + 1) s.heap.objs.size 0 .none → h2.IsTupleIter s.heap.objs.size t 0 → (∀ b o, s.heap.get? b = some o → h2.get? b = some o) → Q (.ref (s.heap.objs.size + 1)) { s with heap := h2 }) :
    wpAny (model prog w) A (call (.type "enumerate") [.ref t]) Q E s := by
  obtain ⟨⟨c, d, dt, sl⟩, ho, hc, n, hd⟩ := ht
  obtain rfl : c = .type "tuple" := hc
  obtain rfl : dt = .seq ys n := hd
  refine callType_new F.called_enumerate (by decide) (F.typeCall_enumerate_1 _) (F.newCall_enumerate_1 _) (fun obj => F.args_object_init_2 obj _) F.entry_enumerate_new (newEnumT t ys n d sl) ⟨ho, ?_⟩
  let r : Obj := { cls := .type "tuple_iterator", data := .fields #[.ref t, .int 0 0] }
  have sz : (s.heap.push r).objs.size = s.heap.objs.size + 1 := Heap.size_push ..
  have en := Heap.get?_push_size (s.heap.push r) (o := { cls := .type "enumerate", data := .fields #[.none, .bool false, .ref s.heap.objs.size, rawInt 0, .none, .none] }) rfl
  show _ ∧ _
  rw [sz] at en ⊢
  exact ⟨⟨_, en, rfl⟩, q _ en ⟨_, Heap.get?_push_of_some _ (Heap.get?_push_size _ rfl), rfl, rfl⟩ fun b o e => Heap.get?_push_of_some _ (Heap.get?_push_of_some _ e)⟩
end
/-- the tuple at a, each item in a new pair -/
def IteT (K : PySem.W.Frag) (a : Addr) : It where
  go := fun i H => ∃ (xs : List V) (x : V), SqT K H a xs ∧ xs[i]? = some x
  yld := fun i H v H' => ∃ T x, v = .ref T ∧ H T = none ∧ H' = upd H T (.tup [.int (i : Nat), x]) ∧ ∀ xs, SqT K H a xs → xs[i]? = some x
  stop := fun i H => ∃ xs : List V, SqT K H a xs ∧ i = xs.length
theorem turnEnumT {P : Program} {w : World} {K : PySem.W.Frag} {es : List Expr} {kk : Nat} {tp : Pos} (a e r : Addr) :
    Turn P w K (.Tuple es kk tp) (IteT K a) [e, r] e (fun i h => (∃ old, IsEnum h e r ((i : Nat) : Int) old) ∧ h.IsTupleIter r a i ∧ e ≠ r) where
  mem := List.mem_cons_self
  obj := fun i h z b hb => by
    obtain ⟨⟨old, z1⟩, ⟨o, e1, _, e2⟩, _⟩ := z
    rcases List.mem_cons.mp hb with rfl | hb
    · exact ⟨_, z1, fun v q => nomatch q⟩
    · obtain rfl := List.mem_singleton.mp hb
      exact ⟨o, e1, fun v q => by
        rw [e2] at q
        cases q⟩
  keep := fun i h h2 z k => by
    obtain ⟨⟨old, z1⟩, z2, z3⟩ := z
    exact ⟨⟨old, k e (by simp) _ z1⟩, z2.at fun o q => k r (by simp) o q, z3⟩
  item := by
    intro X hP hw hK hc i pins s σ H E I hf z hg
    subst hP hw hK
    obtain ⟨⟨old, z1⟩, z2, z3⟩ := z
    obtain ⟨xs, x, hq, hx⟩ := hg
    obtain ⟨its, rv, p, hz⟩ := I.tuple hq
    obtain ⟨u, hu, ru⟩ := rv.get hx
    have le : e < s.heap.objs.size := Heap.lt_size z1
    have lr : r < s.heap.objs.size := by
      obtain ⟨_, q, _⟩ := z2
      exact Heap.lt_size q
    have pT : s.heap.IsTuple a its.toArray := p
    have ar : a ≠ r := fun q => by
      obtain ⟨o1, g1, c1, _⟩ := pT
      obtain ⟨o2, g2, c2, _⟩ := z2
      rw [q, g2] at g1
      cases g1
      rw [c1] at c2
      injection c2 with c3
      exact absurd c3 (by decide)
    have ea : e ∉ [r, a] := fun q => by
      rcases List.mem_cons.mp q with q | q
      · exact z3 q
      · obtain ⟨o1, g1, c1, _⟩ := pT
        rw [← List.mem_singleton.mp q, z1] at g1
        cases g1
        injection c1 with c3
        exact absurd c3 (by decide)
    have hil : i < its.toArray.size := by
      have := (List.getElem?_eq_some_iff.mp hu).1
      simpa using this
    refine wpAny_pyNext_enum_itemD (drawsT (A := X.A.in1) (I.ok.hd hc) r a ar its.toArray) z1 ⟨z2, pT⟩ hil z3 ea fun v h1 tk hv ho st hT hsz hk => ?_
    obtain rfl : v = u := by
      have e1 : its[i]? = some v := by simpa using hv
      rw [hu] at e1
      exact (Option.some.inj e1).symm
    refine ⟨_, rfl, wpAny_letOwnedTupleGo_enum (s := { s with heap := h1, toks := tk + 1 }) ho fun h2 he2 sb => ?_⟩
    have t2 : h2.get? s.heap.objs.size = some { cls := .type "tuple", data := .seq #[.int i tk, v] } := (sb.2 _ (Nat.ne_of_gt le)).trans hT
    have new : ObjOk X.prog X.w (upd H s.heap.objs.size (.tup [.int (i : Nat), x])) h2 s.heap.objs.size (.tup [.int (i : Nat), x]) :=
      ⟨by show 2 ≤ sizeLine; decide, [.int i tk, v], .cons ⟨_, rfl⟩ (.cons ru .nil), ⟨_, t2, rfl, _, rfl⟩⟩
    have J := I.turnedNew (t' := tk + 1) (ch := [e, r]) (h' := h2) (fun b o nb q => (sb.2 b fun y => nb (by simp [y])).trans (hk b o (fun y => nb (by simp [y])) (fun y => nb (by simp [y])) q)) hf (Nat.le_refl _) new
    refine ⟨.ref s.heap.objs.size, _, J, rfl, ⟨_, x, rfl, I.hok.fresh (Nat.le_refl _), rfl, fun ys hy => ?_⟩, ⟨⟨v, ?_⟩, st.1.at fun o q => (sb.2 r (Ne.symm z3)).trans q, z3⟩, fun b hb => ?_⟩
    · rw [I.tuple_inj hy hq]
      exact hx
    · rw [show ((i + 1 : Nat) : Int) = (i : Int) + 1 by omega]
      exact he2
    · have lb : b < s.heap.objs.size := by
        rcases List.mem_cons.mp hb with rfl | hb
        · exact le
        · rw [List.mem_singleton.mp hb]
          exact lr
      rw [upd_ne (Nat.ne_of_lt lb)]
      exact (hf b hb).1
  done := by
    intro X hP hw hK hc i pins s σ H E I hf z hg
    subst hP hw hK
    obtain ⟨⟨old, z1⟩, z2, z3⟩ := z
    obtain ⟨xs, hq, hx⟩ := hg
    obtain ⟨its, rv, p, hz⟩ := I.tuple hq
    have pT : s.heap.IsTuple a its.toArray := p
    obtain ⟨f0, f1, f2, f3, f4, f5⟩ := hf r (by simp)
    have hl := rv.length
    have ar : a ≠ r := fun q => by
      obtain ⟨o1, g1, c1, _⟩ := pT
      obtain ⟨o2, g2, c2, _⟩ := z2
      rw [q, g2] at g1
      cases g1
      rw [c1] at c2
      injection c2 with c3
      exact absurd c3 (by decide)
    have en : i = its.toArray.size := by
      rw [List.size_toArray, ← hl]
      exact hx
    rw [en] at z2
    exact wpAny_pyNext_enum_endD (drawsT (A := X.A.in1) (I.ok.hd hc) r a ar its.toArray) z1 ⟨z2, pT⟩ fun h2 eb => ⟨rfl, I.turned (t' := s.toks) (fun b o nb q => eb b o nb q) f0 f1 f3 f4 f5⟩
  self := fun A i s Q E z h => by
    obtain ⟨⟨_, z1⟩, _⟩ := z
    exact wpAny_pyIter_enum z1 h
/-- over a list or a tuple -/
def iEnumS (K : PySem.W.Frag) (ta : TA) : TI := fun σ H R => ta σ H fun vs H1 => ∃ a, vs = [.ref a] ∧ ((∃ xs, SqL K H1 a xs ∧ R (Ite K a) H1) ∨ ∃ xs, SqT K H1 a xs ∧ R (IteT K a) H1)
theorem pi_enumS {X : Cx} {e : Expr} {ta : TA} {p pos tp : Pos} {es : List Expr} {kk : Nat} (hg : Gl X "enumerate") (hm : X.mg "enumerate" = none) (ha : PA X [e] ta) (hs : starEach [e] X.env = [(false, eval e X.env)] := by rfl) :
    PI X (.Tuple es kk tp) (.Call (.Name "enumerate" p) [e] [] pos) (iEnumS X.K ta) := by
  constructor
  intro pins s σ H R I h
  refine Call_ (ld_blt I hg hm boot_enumerate (PyProof.Rows.callWith_type1 (thn (ha.run pos pins s σ H _ I h) fun us s1 g => ?_) hs rfl))
  obtain ⟨vs, H1, I1, r1, a, rfl, q⟩ := g
  obtain ⟨u, rfl, ru⟩ := r1.one
  obtain rfl : u = Value.ref a := ru
  have fp : ∀ b ∈ [s1.heap.objs.size + 1, s1.heap.objs.size], FpOk X pins H1 b := fun b hb => by
    have le : s1.heap.objs.size ≤ b := by
      rcases List.mem_cons.mp hb with rfl | hb
      · exact Nat.le_succ _
      · rw [List.mem_singleton.mp hb]
        exact Nat.le_refl _
    exact I1.fpOk le (I1.hok.fresh le)
  rcases q with ⟨xs, hq, q⟩ | ⟨xs, hq, q⟩
  · obtain ⟨its, rv, pL, hz⟩ := I1.list hq
    exact call_enumerate_list pL.isList fun h2 he hit _ hk => wpAny_pyIter_enum he
      ⟨_, _, _, _, H1, rfl, I1.kept (t' := s1.toks) hk, turn_enum a (s1.heap.objs.size + 1) s1.heap.objs.size, ⟨⟨.none, he⟩, hit, Nat.succ_ne_self _⟩, fp, q⟩
  · obtain ⟨its, rv, pT, hz⟩ := I1.tuple hq
    exact callEnumT (show s1.heap.IsTuple a its.toArray from pT) fun h2 he hit hk => wpAny_pyIter_enum he
      ⟨_, _, _, _, H1, rfl, I1.kept (t' := s1.toks) hk, turnEnumT a (s1.heap.objs.size + 1) s1.heap.objs.size, ⟨⟨.none, he⟩, hit, Nat.succ_ne_self _⟩, fp, q⟩
theorem walkEnumT {K : PySem.W.Frag} {a : Addr} {xs : List V} : Walk (IteT K a) xs.length (fun H => SqT K H a xs) (YPair (fun i => some (.int (i : Nat))) (fun i => xs[i]?)) := by
  refine ⟨fun i _ hi q => ⟨xs, xs[i], q, by simp [hi]⟩, fun _ q => ⟨xs, q, rfl⟩, fun i H v H' _ q y => ?_⟩
  obtain ⟨T, x, h1, h2, h3, h4⟩ := y
  exact ⟨T, .int (i : Nat), x, h1, h2, h3, rfl, h4 xs q⟩
/-- a list or a tuple is walked -/
def iSeqS (K : PySem.W.Frag) (te : TE) : TI := fun σ H R => te σ H fun v H1 => ∃ a, v = .ref a ∧ ((∃ xs, SqL K H1 a xs ∧ R (Itl K a) H1) ∨ ∃ xs, SqT K H1 a xs ∧ R (Itt K a) H1)
theorem pi_seqS {X : Cx} {K : PySem.W.Frag} {tg l : Expr} {te : TE} (he : PE X l te) (hK : X.K = K := by rfl) : PI X tg l (iSeqS K te) := by
  subst hK
  constructor
  intro pins s σ H R I h
  refine thn (he.run pins s σ H _ I h) fun u s1 g => ?_
  obtain ⟨v, H1, I1, rv, a, rfl, q⟩ := g
  obtain rfl : u = Value.ref a := rv
  have fp : ∀ b ∈ [s1.heap.objs.size], FpOk X pins H1 b := fun b hb => by
    rw [List.mem_singleton.mp hb]
    exact I1.fpOk (Nat.le_refl _) (I1.hok.fresh (Nat.le_refl _))
  rcases q with ⟨xs, hq, q⟩ | ⟨xs, hq, q⟩
  · obtain ⟨its, _, pL, _⟩ := I1.list hq
    exact wpAny_pyIter_list pL.isList ⟨_, _, _, _, H1, rfl, I1.kept (t' := s1.toks) fun b o e => Heap.get?_push_of_some _ e, turn_list a _, ⟨_, Heap.get?_push_size _ rfl, rfl, rfl⟩, fp, q⟩
  · obtain ⟨its, _, pT, _⟩ := I1.tuple hq
    exact wpAny_pyIter_tuple (show s1.heap.IsTuple a its.toArray from pT) ⟨_, _, _, _, H1, rfl, I1.kept (t' := s1.toks) fun b o e => Heap.get?_push_of_some _ e, turn_tuple a _, ⟨_, Heap.get?_push_size _ rfl, rfl, rfl⟩, fp, q⟩
theorem pi_enumSK {X : Cx} {K : PySem.W.Frag} {e : Expr} {ta : TA} {p pos tp : Pos} {es : List Expr} {kk : Nat} (hg : Gl X "enumerate") (hm : X.mg "enumerate" = none) (ha : PA X [e] ta) (hK : X.K = K := by rfl) (hs : starEach [e] X.env = [(false, eval e X.env)] := by rfl) :
    PI X (.Tuple es kk tp) (.Call (.Name "enumerate" p) [e] [] pos) (iEnumS K ta) := by
  subst hK
  exact pi_enumS hg hm ha hs
end Lw
namespace Lw
open PySem PySem.Spec PyProof.Rows L2 Evl
section
variable {X : Cx} {pins : List (Addr × Obj)} {σ : L2.St} {H : Hp} {s : Shared}
/-- d[y] = v on the way of a comprehension, y a tuple -/
theorem putT {E : Value → Shared → Prop} {D b : Addr} {kvs : List (List L2.Key × V)} {k : List L2.Key} {z : V} {r : Value} {Q : Unit → Shared → Prop} (I : Inv X pins σ H s) (hu : X.A.units < cLine) (hD : H D = some (.dT kvs)) (hb : H b = some (.tup (k.map kV))) (lt : kvs.length < sizeLine) (rz : RelV z r)
    (q : ∀ t, Inv X pins σ (upd H D (.dT (putK kvs k z))) t → Q () t) : wpAny (model X.prog X.w) X.A (dictSet D (.ref b) r) Q E s := by
  obtain ⟨le, sm, xs, kt, dd⟩ := dt_of I.hok hD
  have lx : xs.length ≤ sizeLine := by
    rw [← Paired.length kt]
    exact le
  have lp : (putK kvs k z).length ≤ sizeLine := by
    have := length_putK kvs k z
    omega
  refine wpAny_dictSet_heap (hsz := lx) (knd := tupleKind (mixKind X.prog X.w)) (by first | exact tupleKind_room_in1 hu | exact tupleKind_room hu | exact hu) (key_of I.hok hb) dd fun h2 d2 sb => q _ ?_
  obtain ⟨o, es, ep, a1, a2, a3, a4, _, a5⟩ := d2
  refine d_write I (by rw [hD]; trivial) sb ⟨o, a1⟩ ⟨lp, sm, _, (kt.put k hb rz).keeps fun c ys e => ?_, o, es, ep, a1, a2, a3, a4, a5⟩
  rw [upd_ne (ne_of e hD fun z => nomatch z)]
  exact e
end
/-- {k: v for target in iter}: D is the new dict -/
def tDcT (wi : TI) (g : TG) (tk tv : TE) (ws : List Nat) : TE := fun σ H Q => wi σ H fun J H1 => ∀ D, H1 D = none → ∃ W : Nat → Nat → Hp → Prop, (∃ m, W 0 m (upd H1 D (.dT []))) ∧ ∀ i m H, W i m H →
  (J.stop i H ∧ Q (.ref D) H) ∨ (J.go i H ∧ ∃ N : Hp → Prop, (∀ H2, N H2 → ∃ l, l < m ∧ W (i + 1) l H2) ∧ ∀ x H2, J.yld i H x H2 → g x (wipe σ ws) H2 fun τ H3 => wipe τ ws = wipe σ ws ∧
    tk τ H3 fun y H4 => tv τ H4 fun z H5 => ∃ kvs k b, y = .ref b ∧ H5 b = some (.tup (k.map kV)) ∧ H5 D = some (.dT kvs) ∧ kvs.length < sizeLine ∧ N (upd H5 D (.dT (putK kvs k z))))
/-- within a comprehension's block -/
abbrev InBlk (X : Cx) (scope : Scope) (p : Cx → Prop) : Prop := ∀ s H C cl fp, p (X.blk s H scope (compEnvC scope cl C X.env) fp)
section
variable {X : Cx}
/-- what follows the last turn -/
def DcEnd (X : Cx) (pins : List (Addr × Obj)) (σ : L2.St) (use : Option (Value → Sem Unit)) (Q : VK) (Qf : Value → Shared → Prop) : Prop :=
  ∀ D C t m G, Inv X pins σ G t → Q (.ref D) G → t.heap.Ns C m → FpOk X pins G C → compPost (model X.prog X.w) X.A X.xe use Qf (.ref D) C (.ok .next) t
theorem dcT_core {pins : List (Addr × Obj)} {s : Shared} {σ : L2.St} {H : Hp} {Q : VK} {kx vx tg iter : Expr} {scope : Scope} {own : List (Str × Nat)} {pos at_ : Pos} {wi : TI} {g : TG} {tk tv : TE} {use : Option (Value → Sem Unit)} {Qf : Value → Shared → Prop} (hu : X.A.units < cLine) (cm : X.calm = true) (nd : X.N.Nodup) (I : Inv X pins σ H s) (hi : PI X tg iter wi) (bo : BlkOk X.N X.env.scope scope own)
    (gg : InBlk X scope fun Y => PG Y tg g) (gk : InBlk X scope fun Y => PE Y kx tk) (gv : InBlk X scope fun Y => PE Y vx tv) (fs : ∀ x, foldedSetIterable iter X.env x = pure x) (h : tDcT wi g tk tv (own.map (·.2)) σ H Q) (fin : DcEnd X pins σ use Q Qf) :
    wpAny (model X.prog X.w) X.A (comprehension (.DictComp kx vx [⟨tg, iter, [], 0⟩] scope pos) scope X.env at_ newDict false (eval iter X.env) use) Qf X.xe s := by
  have cells : ∀ y ∈ scope.names, y.2 = .free → ∃ c, X.env.cells.lookup y.1 = some c := fun y my ey => by
    rcases bo.free y my ey with z | z
    · exact I.ok.has _ (.inl z)
    · exact I.ok.has _ (.inr z)
  refine wpAny_comprehension_free (use := use) rfl fs (closure_ok cells) bo.kind (fun y my ey => by rw [bo.uniq y my, ey]) (thn (hi.run pins s σ H _ I h) fun xv s1 h1 => thn h1 fun itv s2 h2 => ?_)
  obtain ⟨r, fp, tn, J, H2, rfl, I2, T, st2, ff2, q⟩ := h2
  refine wpAny_newObj_type (newEnv_comp ?_)
  obtain ⟨D, eD⟩ : ∃ D, s2.heap.objs.size = D := ⟨_, rfl⟩
  have nD : H2 D = none := I2.hok.fresh (Nat.le_of_eq eD)
  obtain ⟨W, ⟨m0, w0⟩, turn⟩ := q D nD
  have kp3 : ∀ b o, s2.heap.get? b = some o → (s2.heap.push { cls := .type "dict", data := .dict #[] }).get? b = some o := fun b o e => Heap.get?_push_of_some _ e
  have J3 : Inv X pins σ (upd H2 D (.dT [])) { s2 with heap := s2.heap.push { cls := .type "dict", data := .dict #[] } } := by
    rw [← eD]
    exact I2.laid (t' := s2.toks) kp3 (Nat.le_refl _) (dt_empty s2.heap I2.big)
  have ff3 : ∀ b ∈ fp, FpOk X pins (upd H2 D (.dT [])) b ∧ b < (s2.heap.push { cls := .type "dict", data := .dict #[] }).objs.size := fun b mb => by
    obtain ⟨o, e, _⟩ := T.obj _ _ st2 b mb
    have l := Heap.lt_size e
    refine ⟨⟨?_, (ff2 b mb).2⟩, by rw [Heap.size_push]; exact Nat.lt_succ_of_lt l⟩
    rw [upd_ne (by rw [← eD]; exact Nat.ne_of_lt l)]
    exact (ff2 b mb).1
  have st3 := T.keep _ _ _ st2 fun b _ o e => kp3 b o e
  rw [eD]
  generalize e3 : ({ s2 with heap := s2.heap.push { cls := .type "dict", data := .dict #[] } } : Shared) = t3 at J3 ⊢
  have hp3 : t3.heap = s2.heap.push { cls := .type "dict", data := .dict #[] } := by rw [← e3]
  rw [← hp3] at ff3 st3
  have B4 := block_start J3 bo nd ff3
  have pg := gg t3 (upd H2 D (.dT [])) t3.heap.objs.size (cellsFrom (t3.heap.objs.size + 1) scope.names (cloFrom X.env.cells scope.names [])) fp
  have pk := gk t3 (upd H2 D (.dT [])) t3.heap.objs.size (cellsFrom (t3.heap.objs.size + 1) scope.names (cloFrom X.env.cells scope.names [])) fp
  have pv := gv t3 (upd H2 D (.dT [])) t3.heap.objs.size (cellsFrom (t3.heap.objs.size + 1) scope.names (cloFrom X.env.cells scope.names [])) fp
  have lift4 : tn 0 (pushCells (t3.heap.push { cls := .type "dict", data := .dict #[] }) scope.names) := T.keep _ _ _ st3 fun b _ o e => pushCells_keeps _ _ _ _ (Heap.get?_push_of_some _ e)
  obtain ⟨ce, hce⟩ : ∃ ce, compEnvC scope (cellsFrom (t3.heap.objs.size + 1) scope.names (cloFrom X.env.cells scope.names [])) t3.heap.objs.size X.env = ce := ⟨_, rfl⟩
  have cl : ce.locals = t3.heap.objs.size := by rw [← hce]; rfl
  rw [hce] at B4 pg pk pv
  obtain ⟨G, hG⟩ : ∃ G, upd H2 D (.dT []) = G := ⟨_, rfl⟩
  rw [hG] at J3 ff3 B4 pg pk pv w0
  have fin0 : ∀ b ∈ fp, G b = none := fun b mb => (ff3 b mb).1.1
  have fpOk : ∀ {τ : L2.St} {K1 : Hp} {t : Shared}, Inv (X.blk t3 G scope ce fp) [] τ K1 t → (∀ b ∈ fp, K1 b = none) → ∀ b ∈ fp, FpOk (X.blk t3 G scope ce fp) [] K1 b := fun {τ K1 t} I' nn b mb => by
    have z := I'.ok.exf b mb
    exact ⟨nn b mb, z.1, I'.ok.exfs b mb, .inl mb, fun x c e => z.2 x c e, fun p mp => nomatch (show p ∈ ([] : List (Addr × Obj)) from mp)⟩
  change codeAny _ _ (.compStart _ 0 (.ref r) (.ref D) (compEnvC scope (cellsFrom (t3.heap.objs.size + 1) scope.names (cloFrom X.env.cells scope.names [])) t3.heap.objs.size X.env)) (compPost _ _ _ use Qf (.ref D) t3.heap.objs.size)
    { t3 with heap := pushCells (t3.heap.push { cls := .type "dict", data := .dict #[] }) scope.names }
  rw [hce]
  replace lift4 : tn 0 ({ t3 with heap := pushCells (t3.heap.push { cls := .type "dict", data := .dict #[] }) scope.names } : Shared).heap := lift4
  generalize ({ t3 with heap := pushCells (t3.heap.push { cls := .type "dict", data := .dict #[] }) scope.names } : Shared) = t4 at B4 lift4 ⊢
  -- the state between two turns, and behind the last one
  let St : Nat → Shared → Prop := fun m t => ∃ i K1, Inv (X.blk t3 G scope ce fp) [] (wipe σ (own.map (·.2))) K1 t ∧ tn i t.heap ∧ (∀ b ∈ fp, K1 b = none) ∧ W i m K1
  have walk : codeAny (model X.prog X.w) X.A (.compLoop (.DictComp kx vx [⟨tg, iter, [], 0⟩] scope pos) 0 (.ref r) (.ref D) ce) (compPost (model X.prog X.w) X.A X.xe use Qf (.ref D) t3.heap.objs.size) t4 := by
    refine compLoop_anyD St ?_ m0 ⟨0, G, B4, lift4, fin0, w0⟩
    rintro m t5 ⟨i, K5, B5, z5, n5, w5⟩
    rcases turn i m K5 w5 with ⟨over, done⟩ | ⟨go, N, less, body⟩
    · refine thnF (T.done (X.blk t3 G scope ce fp) rfl rfl rfl cm i [] t5 _ K5 (fun _ _ => False) B5 (fpOk B5 n5) z5 over) fun rr t6 h6 => ?_
      obtain ⟨rfl, B6⟩ := h6
      have J6 : Inv X pins σ K5 t6 := J3.call' (ch := fp) B6.os B6.base B6.hok B6.bare fun b mb => by
        have z := (ff3 b mb).1.2
        exact ⟨z.2.2.1, z.1, z.2.2.2.1, z.2.2.2.2⟩
      obtain ⟨mm, ns, _⟩ := B6.loc
      replace ns : t6.heap.Ns ce.locals mm := ns
      rw [cl] at ns
      have y0 : K5 t3.heap.objs.size = none := by
        rw [← cl]
        exact B6.free
      exact fin D t3.heap.objs.size t6 mm K5 J6 done ns (J3.fpOk (Nat.le_refl _) y0)
    · refine thnF (T.item (X.blk t3 G scope ce fp) rfl rfl rfl cm i [] t5 _ K5 (fun _ _ => False) B5 (fpOk B5 n5) z5 go) fun rr t6 h6 => ?_
      obtain ⟨u, rfl, h6⟩ := h6
      refine thnF h6 fun _ t7 h7 => ?_
      obtain ⟨x, K7, B7, r7, y7, z7, n7⟩ := h7
      have P7 := B7.pinned (fpOk B7 n7) (T.obj _ _ z7)
      refine thnF (pg.run _ t7 _ K7 x u _ P7 r7 (body x K7 y7)) fun _ t8 h8 => ?_
      obtain ⟨τ, K8, B8, wp8, q8⟩ := h8
      rw [List.forIn_nil]
      refine wpAny_pure ?_
      rw [if_pos rfl]
      refine thnF (pk.run _ t8 τ K8 _ B8 q8) fun ky t9 h9 => ?_
      obtain ⟨yk, K9, B9, r9, q9⟩ := h9
      refine thnF (pv.run _ t9 τ K9 _ B9 q9) fun vz t10 h10 => ?_
      obtain ⟨yv, K10, B10, r10, kvs, k, b, rfl, hb, hD, lt, nx⟩ := h10
      obtain rfl : ky = Value.ref b := r9
      refine putT (X := X.blk t3 G scope ce fp) B10 hu hD hb lt r10 fun t11 B11 => ?_
      obtain ⟨l, ll, wl⟩ := less _ nx
      have pin : ∀ b ∈ fp, ∀ o, t7.heap.get? b = some o → t11.heap.get? b = some o ∧ (upd K10 D (.dT (putK kvs k yv))) b = none := fun b mb o e => by
        have z := B11.pin (b, o) (List.mem_append_right _ (List.mem_append_right _ (mem_pinsAt mb e)))
        exact ⟨z.1, z.2.1⟩
      have len : (wipe σ (own.map (·.2))).length = τ.length := by rw [← wp8, wipe_length]
      refine ⟨l, ll, i + 1, _, (B11.unpinned (pins := [])).weak len (fun j v e => ?_), T.keep _ _ _ z7 fun b mb o e => (pin b mb o e).1, fun b mb => ?_, wl⟩
      · rw [← wp8] at e
        exact (wipe_some e).1
      · obtain ⟨o, e, _⟩ := T.obj _ _ z7 b mb
        exact (pin b mb o e).2
  exact codeAny_compStart_dict walk (T.self X.A 0 _ _ _ lift4 walk)
theorem swD {kx vx : Expr} {gs : List Comprehension} {scope : Scope} {pos py : Pos} {y : Str} {l : Nat} {env : Env} (hk : env.scope.kind = .function) (hy : env.scope.names.lookup y = some .local) (hl : (py.line == pos.line) = true)
    (no : (scope.names.any fun (n, k) => n == y && (k == .local || k == .cell)) = false) : swapsWith (.DictComp kx vx gs scope pos) (some (.Name y py)) l env = pure true := by
  have k1 : env.kindOf y = some .local := hy
  have k2 : env.blockKind = .function := by
    unfold Env.blockKind
    rw [hk]
    rfl
  unfold swapsWith
  simp only [k1, k2, no, hl, Expr.pos]
  rfl
/-- y = {k: v for ..} -/
theorem ps_setDcT {i : Nat} {y : Str} {py : Pos} {kx vx tg iter : Expr} {scope : Scope} {own : List (Str × Nat)} {pos sp : Pos} {wi : TI} {g : TG} {tk tv : TE} (hu : X.A.units < cLine) (cm : X.calm = true) (nd : X.N.Nodup) (hy : X.N[i]? = some y) (yl : X.env.scope.names.lookup y = some .local)
    (sw : swapsWith (.DictComp kx vx [⟨tg, iter, [], 0⟩] scope pos) (some (.Name y py)) sp.line X.env = pure true) (hi : PI X tg iter wi) (bo : BlkOk X.N X.env.scope scope own)
    (gg : InBlk X scope fun Y => PG Y tg g) (gk : InBlk X scope fun Y => PE Y kx tk) (gv : InBlk X scope fun Y => PE Y vx tv) (fs : ∀ x, foldedSetIterable iter X.env x = pure x := by intro _; rfl) :
    PS X (.Assign [.Name y py] (.DictComp kx vx [⟨tg, iter, [], 0⟩] scope pos) sp) (tAsg (tDcT wi g tk tv (own.map (·.2))) (gName i)) := by
  constructor
  intro pins s σ H D I h
  rw [exec_Assign_Name_used _ _ _ _ sw]
  refine wpAny_bind (wpAny_standAt (wpAny_bind ?_))
  show wpAny _ X.A (do let _ ← comprehension (.DictComp kx vx [⟨tg, iter, [], 0⟩] scope pos) scope X.env (firstIterPos [⟨tg, iter, [], 0⟩] pos) newDict false (eval iter X.env) (some (assign (.Name y py) X.env))) _ _ s
  refine wpAny_bind (thn (dcT_core (Qf := fun _ t => SP X pins D .next t) (Q := fun x H1 => gName i x σ H1 D.nx) hu cm nd I hi bo gg gk gv fs h fun L C t m G J q ns fp => ?_) fun _ t e => wpAny_pure (wpAny_pure e))
  show wpAny _ _ (assign (.Name y py) X.env (.ref L)) _ _ _
  refine wpAny_assign_Name (store_ok2 (v := V.ref L) J nd hy (.inl yl) rfl (fun t2 J2 z => ?_) (.inr yl))
  obtain ⟨a, sb, ha⟩ := z
  obtain ⟨y0, y1, y2, y3, y4, y5⟩ := fp
  have nC : C ≠ a := by
    rcases ha with e | ha
    · rw [e]
      exact y1
    · exact fun e => y4 y a ha e.symm
  exact ⟨m, ns.sameBut sb nC, fun h3 sb3 => ⟨_, G, J2.turned (t' := t2.toks) (fun b o nb e => (sb3.2 b nb).trans e) y0 y1 y3 y4 y5, q⟩⟩
end
end Lw
namespace Lw
open PySem PySem.Spec PyProof.Rows L2 Evl
end Lw
namespace Lw
open PySem PySem.Spec PyProof.Rows L2 Evl LamX
/-- all but the table at P stands, and nothing that was there is free -/
def ExtP (P : Addr) (H H2 : Hp) : Prop := (∀ b o, b ≠ P → H b = some o → H2 b = some o) ∧ ∀ b, H2 b = none → H b = none
theorem ExtP.trans {P : Addr} {H H2 H3 : Hp} (a : ExtP P H H2) (b : ExtP P H2 H3) : ExtP P H H3 := ⟨fun c o n e => b.1 c o n (a.1 c o n e), fun c e => a.2 c (b.2 c e)⟩
theorem ExtP.of {P : Addr} {H H2 : Hp} (e : Ex H H2) : ExtP P H H2 := ⟨fun c o _ q => e c o q, fun c q => fresh_back e q⟩
end Lw
namespace Lw
open PySem PySem.Spec PyProof.Rows L2 Evl
end Lw
namespace Rm
open PySem PySem.Spec PyProof.Rows L2 Lw Evl LamX
structure Zn where
  T : List (Addr × Str)
  M : Addr → Prop
abbrev Z0 (T : List (Addr × Str)) : Zn := ⟨T, fun _ => False⟩
abbrev Zp (T : List (Addr × Str)) (p : Addr) : Zn := ⟨T, fun a => a = p⟩
def Ok (Z : Zn) (H : Hp) : Prop := Tabs Z.T H ∧ ∀ a, Z.M a → Po a H
def NT (o : HO) : Prop := ∀ ps, o ≠ .tbl ps
theorem nt_lst {xs : List V} : NT (.lst xs) := fun _ z => nomatch z
theorem nt_tup {xs : List V} : NT (.tup xs) := fun _ z => nomatch z
theorem nt_frz {o : Obj} {u : HO} : NT (.frz o u) := fun _ z => nomatch z
theorem nt_dT {kvs : List (List L2.Key × V)} : NT (.dT kvs) := fun _ z => nomatch z
theorem nt_ins {C d : Addr} {fs : List (Str × V)} : NT (.ins C d fs) := fun _ z => nomatch z
/-- nothing stands there, but a table at most -/
def Fr (H : Hp) (x : Addr) : Prop := ∀ o, H x = some o → ¬ NT o
theorem fr_none {H : Hp} {x : Addr} (h : H x = none) : Fr H x := fun o e => by rw [h] at e; cases e
theorem fr_ne {H : Hp} {x b : Addr} {o : HO} (h : Fr H x) (e : H b = some o) (n : NT o) : b ≠ x := fun z => by
  rw [z] at e
  exact h o e n
structure R (Z : Zn) (H H2 : Hp) : Prop where
  a : Ok Z H
  b : Ok Z H2
  st : ∀ x o, H x = some o → NT o → ¬ Z.M x → H2 x = some o
section
variable {Z : Zn} {H H1 H2 H3 : Hp} {x p : Addr} {o u : HO} {K : PySem.W.Frag}
theorem R.refl (h : Ok Z H) : R Z H H := ⟨h, h, fun _ _ e _ _ => e⟩
theorem R.trans (r : R Z H H1) (q : R Z H1 H2) : R Z H H2 := ⟨r.a, q.b, fun x o e n m => q.st x o (r.st x o e n m) n m⟩
theorem R.fr (r : R Z H H1) (h : Fr H1 x) : Fr H x := fun o e n => by
  by_cases m : Z.M x
  · obtain ⟨i, j, q, _⟩ := r.b.2 x m
    exact h _ q nt_lst
  · exact h o (r.st x o e n m) n
theorem po_ex (e : Ex H H1) (h : Po p H) : Po p H1 := by
  obtain ⟨i, j, q, z⟩ := h
  exact ⟨i, j, e _ _ q, z⟩
theorem R.of (h : Ok Z H) (e : Ex H H1) : R Z H H1 := ⟨h, ⟨h.1.ext e, fun a m => po_ex e (h.2 a m)⟩, fun x o q _ _ => e x o q⟩
theorem R.ex (r : R Z H H1) (e : Ex H1 H2) : R Z H H2 := r.trans (.of r.b e)
theorem R.new (r : R Z H H1) (h : H1 p = none) : R Z H (upd H1 p o) := r.ex (.new h)
theorem Ok.nm (h : Ok Z H) (e : H x = some o) (n : ∀ xs, o ≠ .lst xs) : ¬ Z.M x := fun m => by
  obtain ⟨i, j, q, _⟩ := h.2 x m
  rw [e] at q
  exact n _ (Option.some.inj q)
theorem Ok.fresh (h : Ok Z H) (e : Fr H x) : ¬ Z.M x := fun m => by
  obtain ⟨i, j, q, _⟩ := h.2 x m
  exact e _ q nt_lst
theorem R.tup {us : List V} (r : R Z H H1) (h : H x = some (.tup us)) : H1 x = some (.tup us) := r.st x _ h nt_tup (r.a.nm h fun _ z => nomatch z)
theorem R.frz {w : Obj} (r : R Z H H1) (h : H x = some (.frz w u)) : H1 x = some (.frz w u) := r.st x _ h nt_frz (r.a.nm h fun _ z => nomatch z)
theorem R.lst {us : List V} (r : R Z H H1) (h : H x = some (.lst us)) (n : ¬ Z.M x) : H1 x = some (.lst us) := r.st x _ h nt_lst n
/-- an object that was not there may change; it is no table and no code object -/
def Pl : HO → Prop
  | .tbl _ => False
  | .ext _ => False
  | _ => True
theorem R.mut (r : R Z H H1) (h : Fr H p) (h1 : H1 p = some u) (pl : Pl u) : R Z H (upd H1 p o) := by
  have np : ¬ Z.M p := r.a.fresh h
  refine ⟨r.a, ⟨fun z hz => ?_, fun a m => ?_⟩, fun x v e n m => ?_⟩
  · obtain ⟨ps, e1, e2, e3⟩ := r.b.1 z hz
    have n1 : z.1 ≠ p := fun y => by
      rw [y, h1] at e1
      cases Option.some.inj e1
      exact pl
    refine ⟨ps, by rw [upd_ne n1]; exact e1, e2, fun q v hv => ?_⟩
    obtain ⟨c, y, e4⟩ := e3 q v hv
    refine ⟨c, y, ?_⟩
    rw [upd_ne fun y2 => by
      rw [y2, h1] at e4
      cases Option.some.inj e4
      exact pl]
    exact e4
  · obtain ⟨i, j, q, z⟩ := r.b.2 a m
    exact ⟨i, j, by rw [upd_ne fun y => np (by rw [← y]; exact m)]; exact q, z⟩
  · rw [upd_ne (fr_ne h e n)]
    exact r.st x v e n m
theorem Tabs.po {T : List (Addr × Str)} (t : Tabs T H) (h : Po p H) (x : Xp p H H1) : Tabs T H1 := fun z hz => by
  obtain ⟨i, j, q, _⟩ := h
  obtain ⟨ps, e1, e2, e3⟩ := t z hz
  refine ⟨ps, x.1 _ _ (fun y => by rw [y, q] at e1; cases e1) e1, e2, fun a v hv => ?_⟩
  obtain ⟨c, y, e4⟩ := e3 a v hv
  exact ⟨c, y, x.1 _ _ (fun y => by rw [y, q] at e4; cases e4) e4⟩
theorem R.xp {T : List (Addr × Str)} (t : Tabs T H) (h : Po p H) (x : Xp p H H1) : R (Zp T p) H H1 :=
  ⟨⟨t, fun a m => by rw [m]; exact h⟩, ⟨Tabs.po t h x, fun a m => by rw [m]; exact x.2⟩, fun a o e _ n => x.1 a o n e⟩
theorem R.sub {T : List (Addr × Str)} (r : R (Z0 T) H H1) (h : Po p H) : R (Zp T p) H H1 :=
  ⟨⟨r.a.1, fun a m => by rw [m]; exact h⟩, ⟨r.b.1, fun a m => by
    obtain ⟨i, j, e, z⟩ := h
    rw [m]
    exact ⟨i, j, r.st _ _ e nt_lst fun y => y, z⟩⟩, fun a o e n _ => r.st a o e n fun y => y⟩
theorem wd_R {v : V} {ys : List Str} (r : R Z H H1) (h : Wd K H v ys) : Wd K H1 v ys := by
  obtain ⟨a, e, h⟩ := h
  exact ⟨a, e, r.tup h⟩
theorem lw_R {l : Addr} {ws : List (List Str)} (r : R Z H H1) (n : ¬ Z.M l) (h : LW K H l ws) : LW K H1 l ws := by
  obtain ⟨us, h1, h2⟩ := h
  exact ⟨us, r.lst h1 n, paired_mono (fun _ _ q => wd_R r q) h2⟩
end
theorem sql_R {Z : Zn} {H H1 : Hp} {K : PySem.W.Frag} {a : Addr} {ns : List Int} (r : R Z H H1) (h : SqL K H a (ns.map V.int)) (n : ¬ Z.M a := by exact fun z => z) : SqL K H1 a (ns.map V.int) := by
  rcases h with (h | ⟨o, h⟩) | h
  · exact .inl (.inl (r.lst h n))
  · exact .inl (.inr ⟨o, r.frz h⟩)
  · exact .inr h
/-- a value | a truth | a new list of words | a list or tuple of words -/
def Ew (Z : Zn) (te : TE) (σ : L2.St) (H : Hp) (v : V) : Prop := ∀ H1, R Z H H1 → ∀ Q : VK, (∀ H2, R Z H1 H2 → Q v H2) → te σ H1 Q
def Et (Z : Zn) (tt : TT) (σ : L2.St) (H : Hp) (b : Bool) : Prop := ∀ H1, R Z H H1 → ∀ Q : Bool → Hp → Prop, (∀ H2, R Z H1 H2 → Q b H2) → tt σ H1 Q
section
variable {Z : Zn} {K : PySem.W.Frag} {P : Program} {w : World} {σ : L2.St} {H H1 : Hp} {te ta tb : TE} {tt tu : TT} {v x y : V} {ws : List (List Str)} {b c : Bool} {D : Ends} {tz : TS}
theorem ew_of (h : ∀ H1, R Z H H1 → Ev te σ H1 v) : Ew Z te σ H v := fun H1 r Q q => h H1 r H1 (Ex.refl H1) Q fun H2 e => q H2 (.of r.b e)
theorem et_test (h : Ew Z te σ H (.bl b)) : Et Z (tTest te) σ H b := fun H1 e _ q => h H1 e _ fun H2 e2 => ⟨b, rfl, q H2 e2⟩
theorem et_not (h : Et Z tt σ H b) : Et Z (tNot tt) σ H (!b) := fun H1 e _ q => h H1 e _ fun H2 e2 => q H2 e2
theorem et_and (h : Et Z tt σ H b) (k : b = true → Et Z tu σ H c) : Et Z (tAnd tt tu) σ H (b && c) := fun H1 e Q q => h H1 e _ fun H2 e2 => by
  cases b with
  | true => exact k rfl H2 (e.trans e2) Q fun H3 e3 => q H3 (e2.trans e3)
  | false => exact q H2 e2
theorem et_or (h : Et Z tt σ H b) (k : b = false → Et Z tu σ H c) : Et Z (tOr tt tu) σ H (b || c) := fun H1 e Q q => h H1 e _ fun H2 e2 => by
  cases b with
  | true => exact q H2 e2
  | false => exact k rfl H2 (e.trans e2) Q fun H3 e3 => q H3 (e2.trans e3)
theorem s_ret (o : Ok Z H) (h : Ew Z te σ H v) (k : ∀ H1, R Z H H1 → D.rt v H1) : tRet te D σ H := h H (.refl o) _ k
theorem q_when {tu : TS} (o : Ok Z H) (h : Et Z tt σ H b) (h1 : b = true → ∀ H1, R Z H H1 → tu { D with nx := tz D } σ H1) (h2 : b = false → ∀ H1, R Z H H1 → tz D σ H1) : tSeq (tIfS tt tu tNext) tz D σ H := h H (.refl o) _ fun H1 r => by
  cases b with
  | true => exact h1 rfl H1 r
  | false => exact h2 rfl H1 r
theorem ew_andV {a : Bool} (h : Ew Z ta σ H (.bl a)) (k : a = true → Ew Z tb σ H (.bl b)) : Ew Z (tAndV ta tb) σ H (.bl (a && b)) := fun H1 r Q q => h H1 r _ fun H2 r2 => ⟨a, rfl, by
  cases a with
  | false => exact q H2 r2
  | true => exact k rfl H2 (r.trans r2) Q fun H3 r3 => q H3 (r2.trans r3)⟩
theorem et_B (h : Ew Z te σ H (.bl b)) : Et Z (tB te) σ H b := fun H1 r _ q => h H1 r _ fun H2 r2 => ⟨b, rfl, q H2 r2⟩
/-- a pot that is new, turned -/
theorem R.drop {T : List (Addr × Str)} {p : Addr} {H2 H3 : Hp} (r : R (Z0 T) H H2) (q : R (Zp T p) H2 H3) (n : Fr H p) : R (Z0 T) H H3 :=
  ⟨r.a, ⟨q.b.1, fun _ z => z.elim⟩, fun x o e t _ => q.st x o (r.st x o e t fun z => z) t (fr_ne n e t)⟩
end
end Rm
namespace Lw
open PySem PySem.Spec PyProof.Rows L2
end Lw
namespace Lw
open PySem PySem.Spec PyProof.Rows L2 LamX
abbrev tab0 : Obj := { cls := .none, data := .fields #[] }
theorem lawGT {P : Program} {w : World} {K : PySem.W.Frag} {mg mb : Str → Option Value} {k : Nat} {fa a : Addr} {fd : FuncData} {x : Str} {sp : Sp} {s : Shared} {vs : List Value} {ns : List Int} (cs : List (Addr × Addr))
    (KX : K.In s.heap) (hns : s.heap.Ns mainGlobals mg) (hb : s.heap.Ns builtinsNs mb) (hbb : ∀ x : Str, x ≠ "__name__" → mb x = bootBuiltins x) (hlim : s.heap.NoLimit) (hgen : s.gens = #[])
    (tT : ∀ z ∈ cs, s.heap.get? z.2 = some tab0) (tK : ∀ z ∈ cs, K.lookup z.2 = none) (tC : ∀ z ∈ cs, PySem.W.CodeHd s.heap z.1 z.2)
    (bmod : ∃ (m : Addr) (o : Obj), mg "__builtins__" = some (.ref m) ∧ m ≠ builtinsNs ∧ s.heap.get? m = some o ∧ o.cls = .type "module" ∧ o.dict = some builtinsNs ∧ o.data = .plain)
    (ha : s.heap.get? a = some { cls := .type "list", data := .seq vs.toArray }) (hi : IntsAre vs ns) (hl : ns.length ≤ sizeLine) (hr : Room k callerA)
    (F : ∀ base : Heap, K.In base → base.Ns mainGlobals mg → (∀ z ∈ cs, TabB base mg z.1 z.2) → FnG P w K mg base CX0 k fa fd [x] sp) (hbind : ∀ (s : Shared) (u : Value), BindsTo s fd ⟨[u], []⟩ [(x, u)])
    (hsp : ∀ H : Hp, (∀ z ∈ cs, H z.2 = some (.tbl #[])) → SqL K H a (ns.map V.int) → sp [.ref a] H (fun v _ => v = .bl true) E0) :
    codeAny (model P w) callerA (.call (.ref fa) ⟨[.ref a], []⟩) (fun r s' => r = .ok (.ret (.bool true)) ∧ OldK s.heap s'.heap ∧ s'.os = s.os ∧ AllBare s'.gens) s := by
  have rv := vals_ints hi
  have at_ : ∀ b ∈ cs.map (·.2), s.heap.get? b = some tab0 := fun b hb => by
    obtain ⟨z, hz, rfl⟩ := List.mem_map.mp hb
    exact tT z hz
  have na : a ∉ cs.map (·.2) := fun z => by
    have q := at_ a z
    rw [ha] at q
    have q2 : Data.seq vs.toArray 0 = Data.fields #[] := congrArg Obj.data (Option.some.inj q)
    cases q2
  -- a heap H that tracks the tables and, at most, the script
  have go : ∀ H : Hp, (∀ b ∈ cs.map (·.2), H b = some (.tbl #[])) → SqL K H a (ns.map V.int) → HOk P w H s.heap →
      (∀ b u, H b = some u → b ∈ cs.map (·.2) ∨ (b = a ∧ K.lookup a = none ∧ ∃ o xs, u = .frz o (.lst xs))) →
      codeAny (model P w) callerA (.call (.ref fa) ⟨[.ref a], []⟩) (fun r s' => r = .ok (.ret (.bool true)) ∧ OldK s.heap s'.heap ∧ s'.os = s.os ∧ AllBare s'.gens) s := by
    intro H hT hS hok hH
    -- what is neither a list nor an empty record is not tracked
    have off : ∀ {b : Addr} {o : Obj}, s.heap.get? b = some o → (∀ xs n, o.data ≠ .seq xs n) → o.data ≠ .fields #[] → H b = none := fun {b o} e n1 n2 => by
      cases q : H b with
      | none => rfl
      | some u =>
        rcases hH b u q with z | ⟨z, _⟩
        · rw [at_ b z] at e
          cases e
          exact absurd rfl n2
        · rw [z, ha] at e
          cases e
          exact absurd rfl (n1 _ _)
    have offD : ∀ {b : Addr} {o : Obj} {es : Array DictEntry} {n : Nat}, s.heap.get? b = some o → o.data = .dict es n → H b = none := fun e d => off e (fun xs n z => by rw [d] at z; cases z) fun z => by rw [d] at z; cases z
    have nsB : ∀ {b : Addr} {m : Str → Option Value}, s.heap.Ns b m → (hidT s.heap H).Ns b m := fun {b m} z => by
      obtain ⟨o, es, n, e, d, r⟩ := z
      exact ⟨o, es, n, hidT_get e (offD e d), d, r⟩
    have KB : K.In (hidT s.heap H) := fun b o e => hidT_get (KX b o e) (by
      cases q : H b with
      | none => rfl
      | some u =>
        rcases hH b u q with z | ⟨rfl, n, _⟩
        · obtain ⟨y, hy, rfl⟩ := List.mem_map.mp z
          rw [tK y hy] at e
          cases e
        · rw [n] at e
          cases e)
    have md : Mod K mg (hidT s.heap H) := ⟨KB, nsB hns, ⟨mb, nsB hb, hbb⟩, by
      obtain ⟨m, z1, z2⟩ := hlim
      exact ⟨m, nsB z1, z2⟩⟩
    have e0 : Env0 P w K mg (hidT s.heap H) callerA [] s H := ⟨rfl, md, fun b o e => of_hidT e, Nat.le_of_eq (hidT_size _ _), trivial, fun b z => absurd z (List.not_mem_nil), hok, .of_eq hgen⟩
    have TB : ∀ z ∈ cs, TabB (hidT s.heap H) mg z.1 z.2 := fun z hz => by
      refine ⟨?_, ?_, fun y => ?_⟩
      · obtain ⟨o, us, f1, f2, f3, f4, f5, f6, f7, c1, c2, c3, c4, r⟩ := tC z hz
        refine ⟨o, us, f1, f2, f3, f4, f5, f6, f7, hidT_get c1 (off c1 (fun xs n y => by rw [c3] at y; cases y) fun y => ?_), c2, c3, c4, r⟩
        rw [c3] at y
        injection y with y
        rw [y] at c4
        exact absurd c4 (by simp)
      · obtain ⟨m, o, b1, b2, b3, b4, b5, b6⟩ := bmod
        have m1 : m ≠ mainGlobals := fun y => by
          obtain ⟨o2, es, n, e, d, _⟩ := hns
          rw [y, e] at b3
          cases b3
          rw [d] at b6
          cases b6
        have m2 : m ≠ z.2 := fun y => by
          rw [y, tT z hz] at b3
          cases b3
          cases b6
        exact ⟨m, o, b1, b2, m1, m2, hidT_get b3 (off b3 (fun xs n y => by rw [b6] at y; cases y) fun y => by rw [b6] at y; cases y), b4, b5, b6⟩
      · obtain ⟨o2, es, n, e, d, _⟩ := hns
        rw [y, tT z hz] at e
        cases e
        cases d
    refine codeAny_mono ((F _ KB (nsB hns) TB).go (vs := [.ref a]) (us := [.ref a]) rfl hr e0 (hbind s (.ref a)) (.cons rfl .nil) (hsp H (fun z hz => hT _ (List.mem_map.mpr ⟨z, hz, rfl⟩)) hS)) fun r s2 h => ?_
    cases r with
    | error er => exact h.elim
    | ok fl =>
      cases fl with
      | next => exact h.elim
      | brk => exact h.elim
      | cont => exact h.elim
      | ret u =>
        obtain ⟨v, H2, os, bare, un, hok2, rv2, rfl⟩ := h
        obtain rfl : u = Value.bool true := rv2
        have old : ∀ b o, b ∉ cs.map (·.2) → s.heap.get? b = some o → s2.heap.get? b = some o := fun b o n e => by
          cases q : H b with
          | none => exact un.keep b o e q List.not_mem_nil List.not_mem_nil
          | some u =>
            rcases hH b u q with z | ⟨rfl, _, ob, xs, rfl⟩
            · exact absurd z n
            · have z1 := (hok b _ q).1
              have z2 := (hok2 b _ (un.frzs b ob _ q)).1
              rw [z1] at e
              cases e
              exact z2
        have more : ∀ b ∈ cs.map (·.2), ∃ us : Array Value, s2.heap.get? b = some { cls := .none, data := .fields us } := fun b hb => by
          obtain ⟨us, z⟩ := un.tbls b #[] (hT b hb)
          exact ⟨_, hok2 b _ z⟩
        refine ⟨rfl, ⟨fun b o e => ?_, fun b o e => ?_⟩, os, bare⟩
        · by_cases hb : b ∈ cs.map (·.2)
          · obtain ⟨us, z⟩ := more b hb
            rw [at_ b hb] at e
            cases e
            obtain ⟨y, hy, rfl⟩ := List.mem_map.mp hb
            exact .inr (.inl ⟨((tC y hy).tab (tT y hy)).isCodeTable, rfl, #[], us, rfl, by rw [Array.empty_append]; exact z⟩)
          · exact .inl (old b o hb e)
        · by_cases hb : b ∈ cs.map (·.2)
          · obtain ⟨us, z⟩ := more b hb
            exact ⟨_, z⟩
          · exact ⟨o, old b o hb e⟩
  cases hk : K.lookup a with
  | some o =>
    have e := KX a o hk
    rw [ha] at e
    cases e
    refine go (fun b => if b ∈ cs.map (·.2) then some (.tbl #[]) else none) (fun b hb => if_pos hb) (.inr ⟨_, vs.toArray, _, hk, rfl, rfl, rfl, by rw [List.size_toArray, hi.length]; exact hl, by simpa using rv⟩) (fun b u z => ?_) (fun b u z => ?_)
    · by_cases q : b ∈ cs.map (·.2)
      · have z2 := (if_pos q).symm.trans z
        cases z2
        exact at_ b q
      · have z2 := (if_neg q).symm.trans z
        cases z2
    · by_cases q : b ∈ cs.map (·.2)
      · exact .inl q
      · have z2 := (if_neg q).symm.trans z
        cases z2
  | none =>
    refine go (fun b => if b ∈ cs.map (·.2) then some (.tbl #[]) else scr a { cls := .type "list", data := .seq vs.toArray } ns b) (fun b hb => if_pos hb) (.inl (.inr ⟨_, (if_neg na).trans scr_at⟩)) (fun b u z => ?_) (fun b u z => ?_)
    · by_cases q : b ∈ cs.map (·.2)
      · have z2 := (if_pos q).symm.trans z
        cases z2
        exact at_ b q
      · have z2 := (if_neg q).symm.trans z
        by_cases y : b = a
        · subst y
          rw [scr_at] at z2
          cases z2
          exact ⟨ha, by rw [List.length_map]; exact hl, vs, _, rv, ha⟩
        · rw [scr_off y] at z2
          cases z2
    · by_cases q : b ∈ cs.map (·.2)
      · exact .inl q
      · have z2 := (if_neg q).symm.trans z
        by_cases y : b = a
        · subst y
          rw [scr_at] at z2
          cases z2
          exact .inr ⟨rfl, hk, _, _, rfl⟩
        · rw [scr_off y] at z2
          cases z2
/-- the end of a law's row, tables of code objects among the facts that the head tells -/
theorem walkGT {l : PySem.W.OpenLaw} {n k : Nat} {q : Program} {loose : List Str} {XP : (Str → Option Value) → Heap → Prop} {YP : World → Heap → Prop} {d : DefRec} {x : Str}
    (hn : l.most = some n) (hn2 : n ≤ sizeLine) (hdf : d.params.defaults = []) (hr : Room k callerA)
    (F : ∀ (w : World) (mg : Str → Option Value) (fa : Addr) (h : Heap), YP w h → h.Ns mainGlobals mg → mg d.name = some (.ref fa) →
      ∃ (K : PySem.W.Frag) (fd : FuncData) (sp : Sp) (cs : List (Addr × Addr)), K.In h ∧ (∀ z ∈ cs, h.get? z.2 = some tab0) ∧ (∀ z ∈ cs, K.lookup z.2 = none) ∧ (∀ z ∈ cs, PySem.W.CodeHd h z.1 z.2) ∧ (∀ (s : Shared) (u : Value), BindsTo s fd ⟨[u], []⟩ [(x, u)]) ∧
        (∀ (H : Hp) (a : Addr) (ns : List Int), ns.length ≤ n → (∀ z ∈ cs, H z.2 = some (.tbl #[])) → SqL K H a (ns.map V.int) → sp [.ref a] H (fun v _ => v = .bl true) E0) ∧
        ∀ base : Heap, K.In base → base.Ns mainGlobals mg → (∀ z ∈ cs, TabB base mg z.1 z.2) → FnG l.prog w K mg base CX0 k fa fd [x] sp) :
    PySem.W.WalkO q loose XP YP l.row.toRowW d [] (fun f vs => PySem.call f vs) := by
  refine Att.attach_call hn hdf fun w s₀ s₁ mg mb fa o pm cd doc a vs ns G Y ho hd hcd hmg hobj hints hlen hg => ?_
  obtain ⟨K, fd, sp, cs, KX, t1, t2, t3, hb, hsp, hF⟩ := F w mg fa _ Y G.T.g hmg
  exact lawGT cs KX G.T.g G.T.b G.T.builtins G.T.nolimit hg t1 t2 t3 G.T.bmain hobj hints (Nat.le_trans hlen hn2) hr hF hb fun H hT hS => hsp H a ns hlen hT hS
end Lw
namespace Lw
open PySem PySem.Spec PyProof.Rows L2 Evl
def CalO (P : Program) (w : World) (K : PySem.W.Frag) (mg : Str → Option Value) (base : Heap) (CX : CXT) (k : Nat) (x : Str) (ps : List Str) (sp : Sp) : Prop :=
  ∃ f fd, mg x = some (.ref f) ∧ PySem.W.keepIn K (.ref f) = true ∧ Binds K fd ps [] ∧ (∀ (ws : List Value) (s : Shared), ws.length = ps.length → BindsTo s fd ⟨[], ps.reverse.zip ws⟩ (ps.zip ws.reverse)) ∧ FnOk P w K mg base CX k f fd ps sp
section
variable {X : Cx} {CX : CXT} {k : Nat} {x : Str} {ps : List Str} {sp : Sp} {p pos : Pos} {e : Expr} {es : List Expr} {kws : List Keyword} {t tk : TA} {E : XK}
theorem pe_calO (C : CalO X.prog X.w X.K X.mg X.base CX k x ps sp) {j : Nat} (hr : Room j X.A) (hx : Passes CX X E) (ha : PA X (e :: es) t) (hj : k ≤ j := by decide) (hg : Gl X x := by rfl) (hdb : (x == ("__debug__" : Str)) = false := by decide)
    (he : starEach (e :: es) X.env = (false, eval e X.env) :: starEach es X.env := by rfl) (hpl : (backTo pos (starEach es X.env)).any (·.1) = false := by rfl) : PE X (.Call (.Name x p) (e :: es) [] pos) (tCall sp [] E t) := by
  obtain ⟨f, fd, hm, hk, hb, _, F⟩ := C
  exact pe_call F (hr.mono hj) hg hm hk hb .nil hx ha hdb he hpl
end
section
variable {P : Program} {w : World} {K : PySem.W.Frag} {mg : Str → Option Value} {base : Heap} {CX : CXT} {x qual : Str} {params : Arguments} {body : List Stmt} {scope : Scope} {dvs : List V} {kws : List (Str × V)} {f c : Addr} {fd : FuncData} {N ps : List Str} {k : Nat} {sp : Sp}
/-- a def by its body -/
theorem fnO (F : FunD K x qual params body scope dvs kws f fd) (S : FnScope N ps scope) (len : ∀ vs H Q E, sp vs H Q E → vs.length = ps.length)
    (walk : ∀ (cdv : Value) (A : Around) (outer : List Env) (s : Shared) (H : Hp) (vs : List V) (Q : VK) (E : XK), Room k (A.deeper (envOfC qual scope s.heap.objs.size f cdv)) → sp vs H Q E →
      ∃ t, PSs (cxOf CX P w K mg base N qual scope f cdv A outer s H E) body t ∧ t { nx := fun _ H' => Q .non H', rt := Q } (start N vs) H) : FnOk P w K mg base CX (k + 1) f fd ps sp := by
  obtain ⟨_, _, dV, kV, doc, pm, an, cdv, ct, osl, rfl, lk, hcd, _, _⟩ := F.ex
  exact fn_of lk hcd S len (walk cdv)
end
/-- C.__init__(self, f): self.f = f -/
def spIx (f : Str) (C : Addr) : Sp := fun vs H Q _ => ∃ (a : Addr) (y : V), vs = [.ref a, y] ∧ H a = some (exo a C none) ∧ ∀ dx, H dx = none → dx ≠ a → Q .non (upd (upd H dx (exd dx [(f, y)])) a (exo a C (some dx)))
/-- a class of the top whose instances keep one value, and are raised -/
structure XRz (P : Program) (w : World) (K : PySem.W.Frag) (mg : Str → Option Value) (base : Heap) (k : Nat) (x : Str) (C : Addr) (f : Str) : Prop where
  g : mg x = some (.ref C)
  ox : OexC K C
  ini : ∃ fI fd, PySem.W.findIn K (.ref C) "__init__" = some (some (.ref fI)) ∧ PySem.W.typeIn K (.ref fI) = some (.type "function") ∧ FnOk P w K mg base CX0 k fI fd ["self", f] (spIx f C) ∧ Binds K fd ["self", f] []
/-- an error of the class at C goes out, with v; all else stands -/
def Rz (C : Addr) (f : Str) (v : V) (H : Hp) (E : XK) : Prop := ∀ d H', Ex H H' → H' d = some (.xd [(f, v)]) → E (.ref C) (some d) H'
def tRz (C : Addr) (f : Str) (W : WX) (te : TE) : TS := fun _ σ H => te σ H fun v H1 => Rz C f v H1 fun cls d H' => W cls d σ H'
theorem PE.wk {X : Cx} {e : Expr} {te : TE} (he : PE X e te) : PE X e (fun σ H Q => ∃ R : VK, te σ H R ∧ ∀ v H1, R v H1 → Q v H1) :=
  ⟨fun pins s σ H Q I h => by
    obtain ⟨R, h, m⟩ := h
    refine wpAny_mono (he.run pins s σ H R I h) (fun u s1 hh => ?_) (fun _ _ z => z)
    obtain ⟨x, H1, I1, r1, q1⟩ := hh
    exact ⟨x, H1, I1, r1, m _ _ q1⟩⟩
theorem ps_rz {X : Cx} {W : WX} {k : Nat} {x : Str} {C : Addr} {f : Str} {e : Expr} {te : TE} {p pos pos' : Pos} (T : XRz X.prog X.w X.K X.mg X.base k x C f) {j : Nat} (hr : Room j X.A) (hc : X.calm = true) (tk : Takes X W) (he : PE X e te) (hj : k + 1 ≤ j := by decide)
    (hg : Gl X x := by rfl) (hdb : (x == ("__debug__" : Str)) = false := by decide) (h1 : starEach [e] X.env = (false, eval e X.env) :: starEach [] X.env := by rfl) (h2 : (backTo pos (starEach [] X.env)).any (·.1) = false := by rfl) :
    PS X (.Raise (some (.Call (.Name x p) [e] [] pos)) none pos') (tRz C f W te) := by
  obtain ⟨fI, fd, hi, ti, F, hb⟩ := T.ini
  have z := ps_raise (pos := pos') hc tk (pmk_oex (p := p) (pos := pos) T.ox hi ti F (hr.mono hj) hb .nil pass0 hg T.g (pa_cons (PE.wk he) pa_nil h1) hdb h1 h2)
  refine ⟨fun pins s σ H D I h => z.run pins s σ H D I ⟨_, h, fun v H1 r => ⟨by show 1 ≤ 1000; decide, fun a na => ⟨a, v, rfl, upd_same, fun dx nd ne => ⟨rfl, dx, [(f, v)], upd_same, ?_, ?_, ?_⟩⟩⟩⟩⟩
  · rw [upd_ne ne, upd_same]
  · by_cases q : dx = a
    · exact absurd q ne
    · rw [upd_ne q] at nd
      exact nd
  · have nd' : H1 dx = none := by
      rw [upd_ne ne] at nd
      exact nd
    refine r dx _ (fun b o eb => ?_) upd_same
    have n1 : b ≠ dx := ne_of_none eb nd'
    have n2 : b ≠ a := ne_of_none eb na
    rw [upd_ne n1, del_ne n2, upd_ne n2, upd_ne n1, upd_ne n2]
    exact eb
end Lw
namespace Lw
open PySem PySem.Spec PyProof.Rows L2 Evl
open LwX (XC XF)
def offD (i : Nat) (D : Ends) : Ends := { nx := fun σ H => D.nx (σ.set i none) H, rt := D.rt, bk := fun σ H => D.bk (σ.set i none) H, ct := fun σ H => D.ct (σ.set i none) H }
end Lw
namespace Lw
open PySem PySem.Spec PyProof.Rows L2 Evl
/-- wherever H is kept, v is read as d, and repr shows it so -/
def Sw (P : Program) (w : World) (H : Hp) (v : V) (d : PyData) : Prop :=
  ∀ h : Heap, HOk P w H h → ∀ u : Value, RelV v u → (∃ as, Reads h u d as) ∧ ∃ bs, ReadAtMost h d.depth bs ∧ ReprK P w bs h d.depth u d.shown
end Lw
namespace Lw
open PySem PySem.Spec PyProof.Rows L2 Evl TL
/-- a word as a key -/
def kw (ys : List Str) : List L2.Key := ys.map Sum.inr
/-- the different ones, in the sequence of their first places -/
def addW (ds : List (List Str)) (w : List Str) : List (List Str) := if w ∈ ds then ds else ds ++ [w]
def uniq (ws : List (List Str)) : List (List Str) := ws.foldl addW []
section
variable {K : PySem.W.Frag} {σ : L2.St} {H : Hp} {te : TE} {ws : List (List Str)}
theorem paired_at {α β : Type} {S : α → β → Prop} : ∀ {xs : List α} {ys : List β} {i : Nat} {x : α}, Paired S xs ys → xs[i]? = some x → ∃ y, ys[i]? = some y ∧ S x y
  | _, _, 0, _, .cons r _, e => ⟨_, rfl, by cases e; exact r⟩
  | _, _, i + 1, _, .cons _ t, e => paired_at (i := i) t e
end
end Lw
namespace Lw
open PySem PySem.Spec PyProof.Rows L2
section
variable {prog : Program} {w : World} {A : Around} {E : Value → Shared → Prop} {s : Shared} {K : PySem.W.Frag} {a C f : Addr} {ox : Obj} {od : Option Obj} {n : Str}
theorem special_def {args : List Value} {Q : Option Value → Shared → Prop} (X : K.In s.heap) (J : PySem.W.InstAt s.heap a ox C od) (hf : PySem.W.findIn K (.ref C) n = some (some (.ref f))) (tf : PySem.W.typeIn K (.ref f) = some (.type "function"))
    (hc : wpAny (model prog w) A (call (.ref f) (.ref a :: args)) (fun v s2 => Q (some v) s2) E s) : wpAny (model prog w) A (callSpecial? (.ref a) n args) Q E s := by
  have L1 := J.type (M := model prog w)
  have L2 := PySem.W.looks_findIn (M := model prog w) X hf
  have L3 := PySem.W.bind_fn (M := model prog w) X (.ref a) tf
  have sp : wpAny (model prog w) A (specialOf (.ref a) n) (fun r s2 => r = some (.ref f) ∧ s2 = s) E s := by
    unfold specialOf
    repeat (first
      | with_reducible refine L1.at ?_
      | with_reducible refine L2.at ?_
      | wp_step)
    exact ⟨rfl, rfl⟩
  unfold callSpecial?
  refine wpAny_bind (wpAny_mono sp (fun r s2 h => ?_) fun _ _ z => z)
  obtain ⟨rfl, rfl⟩ := h
  refine wpAny_holding (wpAny_bind (L3.at ?_))
  first
    | exact wpAny_bind (wpAny_mono hc (fun v s' h' => wpAny_pure h') fun _ _ h' => h')
    | exact wpAny_pure (wpAny_bind (wpAny_mono hc (fun v s' h' => wpAny_pure h') fun _ _ h' => h'))
end
/-- the call of a def from within a built-in that holds a frame's place -/
theorem run_in1 {X : Cx} {CX : CXT} {k : Nat} {f : Addr} {fd : FuncData} {ps : List Str} {sp : Sp} {E : XK} {pins : List (Addr × Obj)} {σ : L2.St} {H : Hp} {s : Shared} {us : List Value} {vs : List V} {Q : VK} (F : FnOk X.prog X.w X.K X.mg X.base CX k f fd ps sp) (hb : Binds X.K fd ps []) (hr : Room k X.A.in1) (hx : Passes CX X E)
    (I : Inv X pins σ H s) (r : Vals vs us) (h : sp vs H Q E) : wpAny (model X.prog X.w) X.A.in1 (call (.ref f) us) (EP X pins σ Q) X.xe s := by
  have hl := F.len _ _ _ _ h
  refine wpAny_call (codeAny_mono (F.run X.A.in1 X.stack s H ⟨us, []⟩ us vs _ E hr I.env0.in1 (by
    have z := hb s us I.kIn (by rw [List.append_nil, ← hl]; exact r.length.symm)
    rw [List.append_nil] at z
    exact z) r h) fun r2 s2 hq => ?_)
  cases r2 with
  | error er => exact hx pins σ H s er s2 I hq
  | ok fl =>
    cases fl with
    | ret u => exact I.after hq
    | next => exact hq.elim
    | brk => exact hq.elim
    | cont => exact hq.elim
/-- len(o) -/
def rLenO (C : Addr) (sp : Sp) (E : XK) : List V → Hp → VK → Prop := fun xs H Q => ∃ (a dx : Addr) (fs : List (Str × V)), xs = [.ref a] ∧ H a = some (.ins C dx fs) ∧ sp [.ref a] H (fun v H2 => ∃ n : Int, v = .int n ∧ 0 ≤ n ∧ n < 2 ^ 63 ∧ Q (.int n) H2) E
theorem call_lenO {X : Cx} {CX : CXT} {k : Nat} {C f : Addr} {fd : FuncData} {ps : List Str} {sp : Sp} {E : XK} (hf : PySem.W.findIn X.K (.ref C) "__len__" = some (some (.ref f))) (tf : PySem.W.typeIn X.K (.ref f) = some (.type "function"))
    (F : FnOk X.prog X.w X.K X.mg X.base CX k f fd ps sp) (hb : Binds X.K fd ps []) (hr : Room k X.A.in1) (hx : Passes CX X E) : CallR X (.builtin "len") (rLenO C sp E) := by
  intro pins s σ H xs us Q I r h
  obtain ⟨a, dx, fs, rfl, ha, q⟩ := h
  cases r with
  | cons r1 rr =>
    cases rr
    cases r1
    obtain ⟨mA, J, _⟩ := ins_get I.hok ha
    obtain ⟨od, J, _⟩ := J.look
    refine Calls.call_function_entry kind_len plain_len entry_len (args_len1 _) ?_; unfold Builtin.«len»; refine wpAny_bind (m := oneArg "len" _) (wpAny_pure ?_)
    refine wpAny_bind (m := callSpecial? (.ref a) (Str.ofString "__len__")) (special_def I.kIn J hf tf (wpAny_mono (run_in1 (us := [.ref a]) (vs := [.ref a]) F hb hr hx I (.cons rfl .nil) q) (fun v s2 hh => ?_) fun _ _ z => z))
    obtain ⟨x, H2, I2, rx, n, rfl, n0, n1, q2⟩ := hh
    obtain ⟨t, rfl⟩ := (show ∃ t, v = Value.int n t from rx)
    have m0 : ¬ n < 0 := by omega
    have m1 : ¬ n ≥ 2 ^ 63 := by omega
    refine wpAny_bind (wpAny_holding (wpAny_pure (wpAny_bind (wpAny_letGo ?_))))
    dsimp only
    rw [if_neg m0, if_neg m1]
    exact wpAny_bind (wpAny_mkInt (wpAny_pure ⟨_, rfl, ⟨.int n, H2, I2.tok _, ⟨_, rfl⟩, q2⟩⟩))
section
variable {prog : Program} {w : World} {A : Around} {E : Value → Shared → Prop} {s : Shared} {K : PySem.W.Frag} {a C f : Addr} {ox : Obj} {od : Option Obj} {n : Str}
theorem spec_at (X : K.In s.heap) (J : PySem.W.InstAt s.heap a ox C od) (hf : PySem.W.findIn K (.ref C) n = some (some (.ref f))) {Q : Option Value → Shared → Prop} (q : Q (some (.ref f)) s) : wpAny (model prog w) A (specialOf (.ref a) n) Q E s := by
  have L1 := J.type (M := model prog w)
  have L2 := PySem.W.looks_findIn (M := model prog w) X hf
  unfold specialOf
  repeat (first
    | with_reducible refine L1.at ?_
    | with_reducible refine L2.at ?_
    | wp_step)
  exact q
theorem in_own {x : Value} {Q : Value → Shared → Prop} (X : K.In s.heap) (J : PySem.W.InstAt s.heap a ox C od) (hf : PySem.W.findIn K (.ref C) "__contains__" = some (some (.ref f))) (tf : PySem.W.typeIn K (.ref f) = some (.type "function"))
    (hc : wpAny (model prog w) A (call (.ref f) [.ref a, x]) (fun v s2 => ∃ b, v = .bool b ∧ Q (.bool b) s2) E s) : wpAny (model prog w) A (compareOp .In x (.ref a)) Q E s := by
  have L3 := PySem.W.bind_fn (M := model prog w) X (.ref a) tf
  unfold compareOp contains
  refine wpAny_bind (wpAny_holding ?_)
  have e : stdlibNamesSay? (.ref a) x = none := by cases x <;> rfl
  rw [e]
  refine wpAny_bind (spec_at X J hf ?_)
  rw [if_neg (by simp)]
  refine wpAny_bind ?_
  unfold callSpecialUnlessNone?
  refine wpAny_bind (spec_at X J hf ?_)
  refine wpAny_holding (wpAny_bind (L3.at ?_))
  dsimp only
  rw [if_neg (by simp)]
  refine wpAny_bind (wpAny_mono hc (fun v s2 h => ?_) fun _ _ z => z)
  obtain ⟨b, rfl, q⟩ := h
  refine wpAny_pure ?_
  dsimp only
  have t : truthy (Value.bool b) = pure b := by unfold truthy; rfl
  rw [t]
  exact wpAny_pure (wpAny_pure q)
end
section
variable {X : Cx} {CX : CXT} {k : Nat} {C f : Addr} {fd : FuncData} {ps : List Str} {sp : Sp} {E : XK}
/-- x in o -/
def rInO (C : Addr) (sp : Sp) (E : XK) : R2 := fun x y H Q => ∃ (a dx : Addr) (fs : List (Str × V)), y = .ref a ∧ H a = some (.ins C dx fs) ∧ sp [.ref a, x] H (fun v H2 => ∃ b : Bool, v = .bl b ∧ Q (.bl b) H2) E
theorem op_inO (hf : PySem.W.findIn X.K (.ref C) "__contains__" = some (some (.ref f))) (tf : PySem.W.typeIn X.K (.ref f) = some (.type "function")) (F : FnOk X.prog X.w X.K X.mg X.base CX k f fd ps sp) (hb : Binds X.K fd ps []) (hr : Room k X.A) (hx : Passes CX X E) :
    OpR X (compareOp .In) (rInO C sp E) := by
  intro pins s σ H x y v u Q I rx ry h
  obtain ⟨a, dx, fs, rfl, ha, q⟩ := h
  cases ry
  obtain ⟨mA, J, _⟩ := ins_get I.hok ha
  obtain ⟨od, J, _⟩ := J.look
  refine in_own I.kIn J hf tf (wpAny_mono (run_fn (us := [.ref a, v]) (vs := [.ref a, x]) (dvs := []) (ds := []) F hr hb .nil hx I (.cons rfl (.cons rx .nil)) q) (fun w2 s2 hh => ?_) fun _ _ z => z)
  obtain ⟨z, H2, I2, rz, b, rfl, q2⟩ := hh
  obtain rfl : w2 = Value.bool b := rz
  exact ⟨b, rfl, .bl b, H2, I2, rfl, q2⟩
end
section
variable {X : Cx} {CX : CXT} {k : Nat} {C f : Addr} {fd : FuncData} {ps : List Str} {sp : Sp} {E : XK}
def rEqO (K : PySem.W.Frag) (C : Addr) (sp : Sp) (E : XK) : R2 := fun x y H Q => ∃ (a dx : Addr) (fs : List (Str × V)), x = .ref a ∧ H a = some (.ins C dx fs) ∧
  ((∃ t : String, TyX K H y (.type t) ∧ PySem.W.notFirst K C (.type t) = true) ∨ ∃ (b dy : Addr) (gs : List (Str × V)), y = .ref b ∧ H b = some (.ins C dy gs)) ∧ sp [.ref a, y] H (fun v H2 => ∃ b : Bool, v = .bl b ∧ Q (.bl b) H2) E
theorem op_eqO (hf : PySem.W.findIn X.K (.ref C) "__eq__" = some (some (.ref f))) (tf : PySem.W.isFn X.K (.ref f) = true) (F : FnOk X.prog X.w X.K X.mg X.base CX k f fd ps sp) (hb : Binds X.K fd ps []) (hr : Room k X.A) (hx : Passes CX X E) :
    OpR X (compareOp .Eq) (rEqO X.K C sp E) := by
  intro pins s σ H x y v u Q I rx ry h
  obtain ⟨a, dx, fs, rfl, ha, hy, q⟩ := h
  cases rx
  obtain ⟨mA, J, _⟩ := ins_get I.hok ha
  obtain ⟨od, J, _⟩ := J.look
  obtain ⟨m, fr⟩ := I.fr
  obtain ⟨tb, lk, nf⟩ : ∃ tb, PySem.W.Looks (model X.prog X.w) s.heap (typeOf u) tb ∧ PySem.W.notFirst X.K C tb = true := by
    rcases hy with ⟨t, ty, nf⟩ | ⟨b, dy, gs, rfl, hb2⟩
    · obtain ⟨P, kx, hp, _⟩ := kit_of I ry ty
      exact ⟨_, kx.ty _ _ I.kIn hp, nf⟩
    · cases ry
      obtain ⟨mB, J2, _⟩ := ins_get I.hok hb2
      obtain ⟨od2, J2, _⟩ := J2.look
      exact ⟨_, J2.type, by simp [PySem.W.notFirst]⟩
  refine PySem.W.cmp_K (op := .Eq) hr.units0 fr I.ok.mod.kin J lk nf hf tf (wpAny_mono (run_fn (us := [.ref a, u]) (vs := [.ref a, y]) (dvs := []) (ds := []) F hr hb .nil hx I (.cons rfl (.cons ry .nil)) q) (fun w2 s2 hh => ?_) fun _ _ z => z)
  obtain ⟨z, H2, I2, rz, b, rfl, q2⟩ := hh
  obtain rfl : w2 = Value.bool b := rz
  exact ⟨.bl b, H2, I2, rfl, q2⟩
end
end Lw
namespace Lw
open PySem PySem.Spec PyProof.Rows L2 Evl
/-- o.m(..) -/
def MeO (P : Program) (w : World) (K : PySem.W.Frag) (mg : Str → Option Value) (base : Heap) (CX : CXT) (k : Nat) (C : Addr) (m : Str) (ps : List Str) (sp : Sp) : Prop :=
  ∃ f fd, Meth K C m f ∧ Binds K fd ("self" :: ps) [] ∧ (∀ (v : Value) (ws : List Value) (s : Shared), ws.length = ps.length → BindsTo s fd ⟨[v], ps.reverse.zip ws⟩ ((("self" : Str) :: ps).zip (v :: ws.reverse))) ∧ FnOk P w K mg base CX k f fd ("self" :: ps) sp
section
variable {X : Cx} {CX : CXT} {k : Nat} {C : Addr} {x m : Str} {ps : List Str} {sp : Sp} {p pos apos : Pos} {o e : Expr} {es : List Expr} {kws : List Keyword} {ta : TE} {t tk : TA} {E : XK} {pl : Sem Bool}
theorem pe_meO (c : Cls X.K C) (M : MeO X.prog X.w X.K X.mg X.base CX k C m ps sp) {j : Nat} (ho : PE X o ta) (hr : Room j X.A) (hx : Passes CX X E) (ha : PA X (e :: es) t) (hj : k ≤ j := by decide)
    (hst : starEach (e :: es) X.env = (false, eval e X.env) :: starEach es X.env := by rfl) (hpl : (backTo pos (starEach es X.env)).any (·.1) = false := by rfl)
    (ht : eval (.Call (.Attribute o m apos) (e :: es) [] pos) X.env = (do
      let ov ← eval o X.env
      standAt apos.atName
      let (f, first) ← holding [ov] (getMethod ov m pl)
      callWith pos f first (backTo pos (starEach (e :: es) X.env)) (backToKw pos (keywordEach [] X.env))) := by rfl) :
    PE X (.Call (.Attribute o m apos) (e :: es) [] pos) (tMeth C m sp [] E ta t) := by
  obtain ⟨f, fd, hm, hb, _, F⟩ := M
  exact pe_meth ho c hm F (hr.mono hj) hb .nil hx ha hst hpl ht
theorem pe_meO0 (c : Cls X.K C) (M : MeO X.prog X.w X.K X.mg X.base CX k C m ps sp) {j : Nat} (ho : PE X o ta) (hr : Room j X.A) (hx : Passes CX X E) (hj : k ≤ j := by decide)
    (ht : eval (.Call (.Attribute o m apos) [] [] pos) X.env = (do
      let ov ← eval o X.env
      standAt apos.atName
      let (f, first) ← holding [ov] (getMethod ov m pl)
      callWith pos f first (backTo pos (starEach [] X.env)) (backToKw pos (keywordEach [] X.env))) := by rfl) :
    PE X (.Call (.Attribute o m apos) [] [] pos) (tMeth C m sp [] E ta tNil) := by
  obtain ⟨f, fd, hm, hb, _, F⟩ := M
  exact pe_meth0 ho c hm F (hr.mono hj) hb .nil hx ht
end
/-- a class of the top whose instances have a dict: attributes are read and stored plainly, isinstance tells it -/
structure OwnC (K : PySem.W.Frag) (mg : Str → Option Value) (x : Str) (C : Addr) : Prop where
  g : mg x = some (.ref C)
  cl : Cls K C
  ha : PySem.W.findIn K (.ref C) "__class__" = some (some (.builtin "object.__class__"))
  hn : PySem.W.specialIn K (.builtin "object.__class__") "__get__" = some (some (.builtin "getset_descriptor.__get__"))
  htk : PySem.W.takesIn K (.builtin "object.__class__") = some true
  hm : PySem.W.mroIn K C (.type "object") = some true
  self_ : PySem.W.kitOne K (.ref C) (.ref C) = some true
  isc : PySem.W.isClsIn K C = true
theorem OwnC.ty {K : PySem.W.Frag} {mg : Str → Option Value} {x : Str} {C a dx : Addr} {H : Hp} {fs : List (Str × V)} (c : OwnC K mg x C) (e : H a = some (.ins C dx fs)) : TyX K H (.ref a) (.ref C) := .base (.ins e c.cl c.ha c.hn c.htk c.hm)
def ownB (K : PySem.W.Frag) (x : Str) : Bool := (He.Fa.glo x).ok K && ((He.Fa.cls x).ok K && (He.eqO (PySem.W.findIn K (.ref (He.ga K x)) "__class__") (some (some (.builtin "object.__class__"))) &&
  (He.eqO (PySem.W.specialIn K (.builtin "object.__class__") "__get__") (some (some (.builtin "getset_descriptor.__get__"))) && (decide (PySem.W.takesIn K (.builtin "object.__class__") = some true) &&
  (decide (PySem.W.mroIn K (He.ga K x) (.type "object") = some true) && (decide (PySem.W.kitOne K (.ref (He.ga K x)) (.ref (He.ga K x)) = some true) && PySem.W.isClsIn K (He.ga K x)))))))
theorem own_ok {K : PySem.W.Frag} {mg : Str → Option Value} {h : Heap} {x : Str} (X : K.In h) (G : h.Ns mainGlobals mg) (e : ownB K x = true) : OwnC K mg x (He.ga K x) := by
  obtain ⟨e1, e⟩ := He.ba e
  obtain ⟨e2, e⟩ := He.ba e
  obtain ⟨e3, e⟩ := He.ba e
  obtain ⟨e4, e⟩ := He.ba e
  obtain ⟨e5, e⟩ := He.ba e
  obtain ⟨e6, e⟩ := He.ba e
  obtain ⟨e7, e8⟩ := He.ba e
  exact ⟨He.glo_ok X G e1, He.cls_ok e2, He.eqO_ok e3, He.eqO_ok e4, of_decide_eq_true e5, of_decide_eq_true e6, of_decide_eq_true e7, e8⟩
/-- a constant of a class, an int, read off the class -/
structure CInt (K : PySem.W.Frag) (C : Addr) (f : Str) (i : Int) : Prop where
  rd : ClX.CRead K C (.type "type")
  cv : ∃ u, ClX.CVal K C (.type "type") f (.int i) u
def cintB (K : PySem.W.Frag) (x f : Str) (i : Int) : Bool := PySem.W.readsIn K (He.ga K x) (.type "type") && (He.eqO (PySem.W.specialIn K (.ref (He.ga K x)) "__getattribute__") (some (some (.builtin "type.__getattribute__"))) &&
  (match PySem.W.findCls K (.ref (He.ga K x)) (.type "type") f with
    | some (.val (.int j _)) => decide (j = i)
    | _ => false))
theorem cint_ok {K : PySem.W.Frag} {x f : Str} {i : Int} (e : cintB K x f i = true) : CInt K (He.ga K x) f i := by
  obtain ⟨e1, e⟩ := He.ba e
  obtain ⟨e2, e3⟩ := He.ba e
  refine ⟨⟨e1, He.eqO_ok e2⟩, ?_⟩
  split at e3
  · rename_i j t h
    have z := of_decide_eq_true e3
    subst z
    exact ⟨_, h, ⟨t, rfl⟩⟩
  · exact absurd e3 (by decide)
section
variable {K : PySem.W.Frag} {σ : L2.St} {H : Hp} {te : TE} {v : V} {C : Addr} {f : Str} {i : Int} {mg : Str → Option Value} {x : Str}
theorem ev_cint (c : CInt K C f i) (h : Ev te σ H (.ref C)) : Ev (ClX.tCVal K te f) σ H (.int i) := fun H1 e Q q => h H1 e _ fun H2 e2 => by
  obtain ⟨u, cv⟩ := c.cv
  exact ⟨C, _, _, u, rfl, c.rd, cv, q H2 e2⟩
theorem pe_fldK {X : Cx} {K : PySem.W.Frag} {e : Expr} {te : TE} {f : Str} {pos : Pos} (he : PE X e te) (h : X.K = K := by rfl) (hb : attributeBase e f X.env (eval e X.env) = eval e X.env := by rfl) : PE X (.Attribute e f pos) (tFld K te f) := h ▸ pe_fld he hb
theorem pe_cvalK {X : Cx} {K : PySem.W.Frag} {e : Expr} {te : TE} {f : Str} {pos : Pos} (he : PE X e te) (h : X.K = K := by rfl) (hb : attributeBase e f X.env (eval e X.env) = eval e X.env := by rfl) : PE X (.Attribute e f pos) (ClX.tCVal K te f) := h ▸ ClX.pe_cval he hb
theorem ps_fldK {X : Cx} {K : PySem.W.Frag} {o value : Expr} {f : Str} {pos pos' : Pos} {ta tv : TE} (ha : PE X o ta) (hv : PE X value tv) (h : X.K = K := by rfl) (hs : swapsWith value (some (.Attribute o f pos')) pos.line X.env = pure false := by rfl) : PS X (.Assign [.Attribute o f pos'] value pos) (sFld K ta tv f) := h ▸ ps_fld ha hv hs
end
end Lw
namespace Tk
open PySem PySem.Spec PyProof.Rows L2 Lw Evl LamX TL
open Rm (R Ok Z0 Zp Fr fr_none fr_ne nt_lst nt_tup NT Zn)
open LwX (XC XF)
theorem call_isiTK {X : Cx} {K : PySem.W.Frag} (h : X.K = K := by rfl) : CallR X (.builtin "isinstance") (rIsiT K) := h ▸ call_isiT
section
variable {P : Program} {w : World} {K : PySem.W.Frag} {σ : L2.St} {H H0 H1 H2 : Hp} {te ta tb tr : TE} {tA tR : TA} {v : V} {G G2 : Hp → Prop} {d : PyData} {n m i : Nat}
/-- a part of a tuple; a value in the place of a word -/
def GB (P : Program) (w : World) (K : PySem.W.Frag) (d : PyData) (b : Bool) (v : V) (H : Hp) : Prop := Sw P w H v d ∧ LB K H v b
abbrev PG (P : Program) (w : World) (K : PySem.W.Frag) (dbs : List (PyData × Bool)) (vs : List V) (H : Hp) : Prop := Paired (fun v (p : PyData × Bool) => GB P w K p.1 p.2 v H) vs dbs
variable {dbs : List (PyData × Bool)}
/-- a text whose signs are all of the first plane -/
structure Tok' (s : Str) (n : Nat) : Prop where
  len : s.length ≤ n
  cps : ∀ c ∈ s.cps.toList, c < 65536
end
/-- what is known of a letter -/
structure Let (s : Str) (c : Nat) (r : List Nat) : Prop where
  cps : s.cps.toList = c :: r
  len : r.length ≤ 7
  az : ∀ x ∈ c :: r, 97 ≤ x ∧ x ≤ 122
section
variable {s : Str} {c : Nat} {r : List Nat}
theorem Let.lenS (h : Let s c r) : s.length ≤ 8 := by
  show s.cps.size ≤ 8
  rw [← Array.length_toList, h.cps, List.length_cons]
  have := h.len
  omega
theorem Let.tok (h : Let s c r) : Tok' s 8 := ⟨h.lenS, fun x hx => by
  rw [h.cps] at hx
  have := h.az x hx
  omega⟩
end
section
variable {Z : Zn} {σ : L2.St} {H H0 : Hp} {te ta tb : TE} {vs us : List V} {v : V} {K : PySem.W.Frag}
def El (Z : Zn) (te : TE) (σ : L2.St) (H : Hp) (vs : List V) : Prop := ∀ H1, R Z H H1 → ∀ Q : VK, (∀ l H2, Fr H1 l → R Z H1 H2 → H2 l = some (.lst vs) → Q (.ref l) H2) → te σ H1 Q
theorem El.mono {H1 : Hp} (h : El Z te σ H vs) (r : R Z H H1) : El Z te σ H1 vs := fun H2 r2 => h H2 (r.trans r2)
end
section
variable {P : Program} {w : World} {K : PySem.W.Frag} {B : Hp → Hp → V → Prop} {σ : L2.St} {H H0 H1 : Hp} {te ta tb : TE} {tA tR : TA} {v : V} {n m i : Nat}
def Sz (n k : Nat) (d : PyData) : Prop := d.shown.length ≤ n ∧ d.depth ≤ k
end
section
variable {P : Program} {w : World} {K : PySem.W.Frag} {Z : Zn} {σ : L2.St} {H H0 H1 : Hp} {te ta tb : TE} {tt : TT} {tri us : List V} {u v : V} {l b : Addr} {n j m : Nat} {ds : List PyData} {d : PyData} {nm f : Str} {CW CS CT C : Addr} {t : XK → TE} {TT : List (Addr × Str)} {E : XK} {Q : VK}
theorem ev_lenL {p : Addr} {xs : List V} (ha : Ev te σ H (.ref p)) (h : SqL K H p xs) : Ev (tCB (rLenS K) (tCons te tNil)) σ H (.int (xs.length : Int)) := fun H1 e Q q =>
  ha H1 e _ fun H2 e2 => ⟨p, xs, rfl, .inl (ex_l (e.trans e2) h), q H2 e2⟩
end
end Tk
namespace Tk
open PySem PySem.Spec PyProof.Rows L2 Lw Evl LamX TL
open Rm (R Ok Z0 Zp Fr fr_none fr_ne nt_lst nt_tup NT Zn)
def Sq (H : Hp) (l : Addr) (us : List V) : Prop := H l = some (.lst us) ∨ H l = some (.tup us)
section
variable {K : PySem.W.Frag} {Z : Zn} {σ : L2.St} {H H1 : Hp} {ta tb te : TE} {l : Addr} {us : List V} {n : Nat} {v : V} {w : List Str} {ws : List (List Str)}
theorem sq_ex (e : Ex H H1) (h : Sq H l us) : Sq H1 l us := h.imp (e _ _) (e _ _)
theorem sq_ty (h : Sq H l us) : ∃ t, TyX K H (.ref l) (.type t) ∧ PySem.W.kitAny K (.type t) [.type "list", .type "tuple"] = some true := by
  rcases h with h1 | h1
  · exact ⟨"list", .base (.lst h1), rfl⟩
  · exact ⟨"tuple", tyx_tup (SqT.of h1), rfl⟩
end
end Tk
namespace Tk
open PySem PySem.Spec PyProof.Rows L2 Lw Evl LamX TL
open Rm (R Ok Z0 Zp Fr fr_none fr_ne nt_lst nt_tup NT Zn)
def spLetter (K : PySem.W.Frag) : Sp := fun vs H Q _ => ∃ (v : V) (b : Bool), vs = [v] ∧ LB K H v b ∧ ∀ H', Ex H H' → Q (.bl b) H'
section
variable {K : PySem.W.Frag} {Z : Zn} {σ : L2.St} {H H1 : Hp} {te : TE} {v u : V} {b : Bool} {l : Addr} {us : List V} {ws : List (List Str)} {TT : List (Addr × Str)} {CS : Addr} {E : XK} {Q : VK} {m : Nat}
theorem ev_letter (h : Ev te σ H v) (hb : LB K H v b) : Ev (tCall (spLetter K) [] E0 (tCons te tNil)) σ H (.bl b) := ev_call (ea_cons h ea_nil) fun H1 e Q q E => ⟨v, b, rfl, lb_mono e hb, q⟩
/-- a list of words is no pot -/
theorem lw_nm (o : Ok Z H) (h : LW K H l ws) : ¬ Z.M l := fun m => by
  obtain ⟨i, j, q, _⟩ := o.2 l m
  obtain ⟨us, h1, h2⟩ := h
  rw [q] at h1
  cases h1
  cases h2 with
  | cons r _ =>
    obtain ⟨a, e, _⟩ := r
    cases e
theorem lw_RO (r : R Z H H1) (h : LW K H l ws) : LW K H1 l ws := Rm.lw_R r (lw_nm r.a h) h
end
end Tk
namespace Ts
open PySem PySem.Spec PyProof.Rows L2
def TxtE (P : Program) (w : World) (e : Int × Value) : Prop := ∃ k u, e = ((PySem.strKind P w).hash k, Value.str k u)
def txtOf (e : Int × Value) : Str := match e.2 with
  | .str k _ => k
  | _ => Str.empty
/-- the entries hold the texts L, in some row; the table can be walked -/
structure Ent (P : Program) (w : World) (es : Array (Int × Value)) (t : SetTable) (L : List Str) : Prop where
  ent : ∀ e ∈ es.toList, TxtE P w e
  perm : (es.toList.map txtOf).Perm L
  nd : L.Nodup
  few : L.length < scanBound
  fits : t.fits es.size = true
  ris : Ris t.place.toList
  led : w.params.followText "set-order" = true ∨ t.led = true
def TSet (P : Program) (w : World) (h : Heap) (a : Addr) (L : List Str) : Prop := ∃ o es ep t, h.get? a = some o ∧ o.ExactSet ∧ o.data = .set es ep t ∧ Ent P w es t L
section
variable {P : Program} {w : World} {A : Around} {E : Value → Shared → Prop} {s : Shared} {a : Addr} {L L' : List Str} {es : Array (Int × Value)} {t : SetTable} {k : Str} {u : Tok}
theorem TSet.keep {h h' : Heap} (R : TSet P w h a L) (q : ∀ o, h.get? a = some o → h'.get? a = some o) : TSet P w h' a L := by
  obtain ⟨o, es, ep, t, e, r⟩ := R
  exact ⟨o, es, ep, t, q o e, r⟩
theorem Ent.size (R : Ent P w es t L) : es.size = L.length := by
  have z := R.perm.length_eq
  rw [List.length_map, Array.length_toList] at z
  exact z
/-- one text more -/
theorem Ent.more {es1 : Array (Int × Value)} {t1 : SetTable} (R : Ent P w es t L) (hk : k ∉ L) (room : L.length + 1 < scanBound) (pm : es1.toList.Perm (((PySem.strKind P w).hash k, Value.str k u) :: es.toList)) (f : t1.fits es1.size = true) (r : Ris t1.place.toList)
    (l : t1.led = t.led) : Ent P w es1 t1 (k :: L) where
  ent := fun e he => (List.mem_cons.mp (pm.mem_iff.mp he)).elim (fun z => ⟨k, u, z⟩) (R.ent e)
  perm := (pm.map txtOf).trans (R.perm.cons k)
  nd := List.nodup_cons.mpr ⟨hk, R.nd⟩
  few := room
  fits := f
  ris := r
  led := R.led.imp id fun z => l.trans z
end
end Ts
namespace Ts
open PySem PySem.Spec PyProof.Rows L2
/-- the set at S holds just the texts of l -/
def Has (P : Program) (w : World) (h : Heap) (S : Addr) (l : List Str) : Prop := ∃ L, TSet P w h S L ∧ (∀ j, j ∈ L ↔ j ∈ l) ∧ L.length ≤ l.length
def newSet (w : World) : Obj := { cls := .type "set", dict := none, data := .set #[] 0 (.fresh 0 0 (!w.params.followText "set-order")) }
theorem Has.keep {P : Program} {w : World} {h h' : Heap} {S : Addr} {l : List Str} (H : Has P w h S l) (q : ∀ o, h.get? S = some o → h'.get? S = some o) : Has P w h' S l := by
  obtain ⟨L, r, z⟩ := H
  exact ⟨L, r.keep q, z⟩
end Ts
namespace Tk
open PySem PySem.Spec PyProof.Rows L2 Lw Evl LamX TL
open Rm (R Ok Z0 Zp Fr fr_none fr_ne nt_lst nt_tup NT Zn)
/-- all stands but lists and tables -/
def Nl (H H1 : Hp) : Prop := ∀ a o, NT o → (∀ xs, o ≠ .lst xs) → H a = some o → H1 a = some o
/-- what lists and tables don't matter for -/
def St (B : Hp → V → Prop) : Prop := ∀ (H H1 : Hp) (x : V), Nl H H1 → B H x → B H1 x
section
variable {Z : Zn} {K : PySem.W.Frag} {σ : L2.St} {H H1 H2 : Hp} {te : TE} {tt : TT} {B : Hp → V → Prop} {n j : Nat} {vs : List Nat} {D : Addr} {Qd : Hp → Prop} {v : V} {l : Addr}
theorem nl_R (r : R Z H H1) : Nl H H1 := fun a o t n e => r.st a o e t (r.a.nm e n)
theorem nl_upd {xs : List V} {o : HO} (h : H D = some (.lst xs)) : Nl H (upd H D o) := fun a u _ n e => by
  rw [upd_ne fun z => by
    rw [z, h] at e
    exact n _ (Option.some.inj e).symm]
  exact e
theorem st_pure {p : V → Prop} : St fun _ v => p v := fun _ _ _ _ b => b
/-- one turn's end: the made value is put into the list -/
theorem turn_end {us : List V} {v : V} (fD : Fr H D) (r : R Z H H1) (hu : H1 D = some (.lst us)) (sB : St B) (r2 : R Z H1 H2) (hb : ∀ x ∈ us, B H1 x) (b : B H2 v) (hn : us.length < 100000) :
    ∃ acc, H2 D = some (.lst acc) ∧ acc.length < sizeLine ∧ (R Z H (upd H2 D (.lst (acc ++ [v]))) ∧ ∃ us', (upd H2 D (.lst (acc ++ [v]))) D = some (.lst us') ∧ us'.length = us.length + 1 ∧ ∀ u ∈ us', B (upd H2 D (.lst (acc ++ [v]))) u) := by
  have nD : ¬ Z.M D := r.a.fresh fD
  have hu2 := r2.lst hu nD
  refine ⟨us, hu2, sz_lt hn, (r.trans r2).mut fD hu2 trivial, us ++ [v], upd_same, by rw [List.length_append]; rfl, fun u m => ?_⟩
  rcases List.mem_append.mp m with m | m
  · exact sB _ _ _ (nl_upd hu2) (sB _ _ _ (nl_R r2) (hb u m))
  · rw [List.mem_singleton.mp m]
    exact sB _ _ _ (nl_upd hu2) b
/-- [.. for x in range(n)] -/
theorem lcD_R1 (o : Ok Z H) (hD : H D = none) (hn : n ≤ 40000) (sB : St B) (hw : ∀ x, wipe ((wipe σ vs).set j (some x)) vs = wipe σ vs)
    (body : ∀ (i : Nat) H1, i < n → R Z H H1 → ∀ Q : VK, (∀ v H2, R Z H1 H2 → B H2 v → Q v H2) → te ((wipe σ vs).set j (some (.int (i : Int)))) H1 Q)
    (fin : ∀ us H2, R Z H H2 → H2 D = some (.lst us) → us.length = n → (∀ v ∈ us, B H2 v) → Qd H2) :
    ∃ W : Nat → Nat → Hp → Prop, (∃ m, W 0 m (upd H D (.lst []))) ∧ ∀ i m H, W i m H →
      ((Itr 0 n).stop i H ∧ Qd H) ∨ ((Itr 0 n).go i H ∧ ∃ Nx : Hp → Prop, (∀ H', Nx H' → ∃ m', m' < m ∧ W (i + 1) m' H') ∧ ∀ x H', (Itr 0 n).yld i H x H' → gName j x (wipe σ vs) H' fun σ2 H2 => wipe σ2 vs = wipe σ vs ∧ tYes σ2 H2 fun b H3 =>
        if b = true then te σ2 H3 fun y H4 => ∃ acc, H4 D = some (.lst acc) ∧ acc.length < sizeLine ∧ Nx (upd H4 D (.lst (acc ++ [y]))) else Nx H3) := by
  refine lc_range (lo := 0) (n := n) (fun i H' => R Z H H' ∧ ∃ us, H' D = some (.lst us) ∧ us.length = i ∧ ∀ v ∈ us, B H' v) ⟨(R.refl o).new hD, [], upd_same, rfl, fun _ z => absurd z List.not_mem_nil⟩ (fun i H' hi p => ?_) fun H' p => ?_
  · obtain ⟨r, us, hu, hl, hb⟩ := p
    have e0 : (0 : Int) + (i : Int) = (i : Int) := Int.zero_add _
    unfold gName tYes
    dsimp only
    rw [e0, if_pos rfl]
    refine ⟨hw _, body i H' hi r _ fun v H2 r2 b => ?_⟩
    have z := turn_end (fr_none hD) r hu sB r2 hb b (by omega)
    rw [hl] at z
    exact z
  · obtain ⟨r, us, hu, hl, hb⟩ := p
    exact fin us H' r hu hl hb
end
theorem q_par {i j : Nat} {ta tb : TE} {tz : TS} {D : Ends} {σ : L2.St} {H : Hp} (h : ta σ H fun v H1 => tb σ H1 fun w H2 => tz D ((σ.set i (some v)).set j (some w)) H2) : tSeq (tPar i j (tCons ta (tCons tb tNil))) tz D σ H := by
  unfold tSeq tPar
  refine (congrArg (fun z => ta σ H z) (funext fun v => funext fun H1 => ?_)).mp h
  refine congrArg (fun z => tb σ H1 z) (funext fun w => funext fun H2 => propext ⟨fun q => ⟨v, w, rfl, q⟩, fun q => ?_⟩)
  obtain ⟨v2, w2, e, q⟩ := q
  cases e
  exact q
section
variable {Z : Rm.Zn} {K : PySem.W.Frag} {σ : L2.St} {H H1 : Hp} {ta te : TE} {w : List Str} {ws : List (List Str)} {l : Addr} {us : List V} {D : Ends} {xs : List Str}
theorem s_appW (hl : H l = some (.lst us)) (ha : Ev ta σ H (.ref l)) (h : EvW K te σ H w) (hz : us.length < 100000) (k : ∀ v H1, Ex H H1 → Wd K H1 v w → D.nx σ (upd H1 l (.lst (us ++ [v])))) : tDrop (tBM K "list" rAppend ta (tCons te tNil)) D σ H := ha H (Ex.refl H) _ fun H1 e1 =>
  ⟨Or.inl ⟨rfl, us, sq_of (e1 l _ hl)⟩, h H1 e1 _ fun v H2 e2 hv => ⟨l, us, v, rfl, rfl, e2 l _ (e1 l _ hl), sz_lt hz, k v H2 (e1.trans e2) hv⟩⟩
end
end Tk
namespace Tk
open PySem PySem.Spec PyProof.Rows L2 Lw Evl LamX TL
open Rm (R Ok Z0 Zp Fr fr_none fr_ne nt_lst nt_tup NT Zn)
section
variable {K : PySem.W.Frag} {Z : Zn} {σ : L2.St} {H H1 : Hp} {ta tb te : TE} {a CY l : Addr} {ts ms ws us : List (List Str)} {o u : HO}
theorem eqvAll_wDs : ∀ xs ys : List (List Str), PyData.eqvAll (xs.map wD) (ys.map wD) = decide (xs = ys)
  | [], [] => rfl
  | [], _ :: _ => rfl
  | _ :: _, [] => rfl
  | x :: xs, y :: ys => by
    rw [List.map_cons, List.map_cons]
    unfold PyData.eqvAll
    rw [eqvAll_wDs xs ys, eqv_wD]
    by_cases h : x = y
    · subst h
      by_cases h2 : xs = ys
      · subst h2
        simp
      · simp [h2]
    · simp [h]
theorem eqv_wDs (xs ys : List (List Str)) : PyData.eqv (.list (xs.map wD)) (.list (ys.map wD)) = decide (xs = ys) := by
  unfold PyData.eqv
  exact eqvAll_wDs xs ys
end
end Tk
namespace Lw
open PySem PySem.Spec PyProof.Rows L2
end Lw
namespace Lw
open PySem PySem.Spec PyProof.Rows L2
open AutoSeq1 (wpAny_loadPart')
end Lw
namespace Lw
open PySem PySem.Spec PyProof.Rows L2
end Lw
namespace Lw
open PySem PySem.Spec PyProof.Rows L2
end Lw
namespace Tk
open PySem PySem.Spec PyProof.Rows L2 Lw Evl LamX TL
open Rm (R Ok Z0 Zp Fr fr_none fr_ne nt_lst nt_tup NT Zn)
/-- the words, closed under their beginnings, in order -/
def clW (ws : List (List Str)) : List (List Str) := srtW ([] :: ws.flatMap begs)
theorem mem_begs {w u : List Str} : u ∈ begs w ↔ ∃ k, k ≤ w.length ∧ u = w.take k := by
  unfold begs
  rw [List.mem_map]
  constructor
  · rintro ⟨k, hk, rfl⟩
    exact ⟨k, by have := List.mem_range.mp hk; omega, rfl⟩
  · rintro ⟨k, hk, rfl⟩
    exact ⟨k, List.mem_range.mpr (by omega), rfl⟩
theorem mem_clW {ws : List (List Str)} {u : List Str} : u ∈ clW ws ↔ u = [] ∨ ∃ w ∈ ws, u ∈ begs w := by
  unfold clW
  rw [srtW_mem, List.mem_cons, List.mem_flatMap]
theorem self_begs (w : List Str) : w ∈ begs w := mem_begs.mpr ⟨w.length, Nat.le_refl _, List.take_length.symm⟩
section
variable {ws us : List (List Str)} {w u : List Str}
theorem clW_sd : Sd (clW ws) := srtW_sd _
end
end Tk
namespace Tk
open PySem PySem.Spec PyProof.Rows L2 Lw Evl LamX TL
open Rm (R Ok Z0 Zp Fr fr_none fr_ne nt_lst nt_tup NT Zn)
/-- no error is wanted -/
theorem passE0 {X : Cx} : Passes (L2.CX X.prog X.w) X E0 := fun _ _ _ _ _ _ _ h => by
  obtain ⟨_, _, _, _, _, _, _, _, _, _, _, _, z⟩ := h
  exact z.elim
end Tk
namespace Lw
open PySem PySem.Spec PyProof.Rows L2 Evl
end Lw
namespace Lw
open PySem PySem.Spec PyProof.Rows L2 Evl
def SpO (P : Program) (w : World) (K : PySem.W.Frag) (mg : Str → Option Value) (base : Heap) (k : Nat) (C : Addr) (n : Str) (ps : List Str) (sp : Sp) : Prop :=
  ∃ f fd, PySem.W.findIn K (.ref C) n = some (some (.ref f)) ∧ PySem.W.typeIn K (.ref f) = some (.type "function") ∧ Binds K fd ps [] ∧ FnOk P w K mg base CX0 k f fd ps sp
def SpG (P : Program) (w : World) (K : PySem.W.Frag) (mg : Str → Option Value) (base : Heap) (k : Nat) (C : Addr) (n : Str) (ps : List Str) (sp : Sp) : Prop :=
  ∃ f fd, PySem.W.findIn K (.ref C) n = some (some (.ref f)) ∧ PySem.W.typeIn K (.ref f) = some (.type "function") ∧ Binds K fd ps [] ∧ FnG P w K mg base CX0 k f fd ps sp
section
variable {X : Cx} {K : PySem.W.Frag} {k j : Nat} {C : Addr} {sp : Sp} {ps : List Str}
theorem isFn_of {f : Addr} (h : PySem.W.typeIn K (.ref f) = some (.type "function")) : PySem.W.isFn K (.ref f) = true := by
  unfold PySem.W.isFn
  rw [h]
  rfl
theorem call_lenSp (q : SpO X.prog X.w X.K X.mg X.base k C "__len__" ps sp) (hr : Room j X.A) (hj : k + 1 ≤ j := by decide) : CallR X (.builtin "len") (rLenO C sp E0) := by
  obtain ⟨f, fd, h1, h2, hb, F⟩ := q
  exact call_lenO h1 h2 F hb (hr.mono hj).in1 pass0
theorem op_inSp (q : SpO X.prog X.w X.K X.mg X.base k C "__contains__" ps sp) (hr : Room j X.A) (hj : k ≤ j := by decide) : OpR X (compareOp .In) (rInO C sp E0) := by
  obtain ⟨f, fd, h1, h2, hb, F⟩ := q
  exact op_inO h1 h2 F hb (hr.mono hj) pass0
theorem op_eqSp (q : SpO X.prog X.w X.K X.mg X.base k C "__eq__" ps sp) (hr : Room j X.A) (hj : k ≤ j := by decide) (h : X.K = K := by rfl) : OpR X (compareOp .Eq) (rEqO K C sp E0) := by
  subst h
  obtain ⟨f, fd, h1, h2, hb, F⟩ := q
  exact op_eqO h1 (isFn_of h2) F hb (hr.mono hj) pass0
/-- o.f, a property -/
def PrO (P : Program) (w : World) (K : PySem.W.Frag) (mg : Str → Option Value) (base : Heap) (k : Nat) (C : Addr) (n : Str) (sp : Sp) : Prop :=
  Cls K C ∧ ∃ p g fd, PropOf K C n p g ∧ Binds K fd ["self"] [] ∧ FnOk P w K mg base CX0 k g fd ["self"] sp
theorem pe_propO {n : Str} {e : Expr} {pos : Pos} {ta : TE} (q : PrO X.prog X.w X.K X.mg X.base k C n sp) (he : PE X e ta) (hr : Room j X.A) (hj : k + 1 ≤ j := by decide) (hab : attributeBase e n X.env (eval e X.env) = eval e X.env := by rfl) : PE X (.Attribute e n pos) (tProp C sp [] E0 ta) := by
  obtain ⟨c, p, g, fd, hp, hb, F⟩ := q
  exact pe_prop he c hp F (hr.mono hj) hb .nil pass0 hab
theorem cr_maxK (hc : X.calm = true) (h : X.K = K := by rfl) : CallR X (.builtin "max") (rMax K) := h ▸ cr_max hc
theorem cr_sortedSK (h : X.K = K := by rfl) : CallR X (.builtin "sorted") (rSortedS K) := h ▸ cr_sortedS
end
/-- a walk, as the comprehensions want it -/
theorem w_it {J : It} {n : Nat} {G : Hp → Prop} {Y : Nat → Hp → V → Hp → Prop} (wk : Walk J n G Y) {B : V → Hp → (Hp → Prop) → Prop} {H1 : Hp} {Qd : Hp → Prop} (Pv : Nat → Hp → Prop) (h0 : Pv 0 H1) (hG : ∀ i H, i ≤ n → Pv i H → G H)
    (hs : ∀ i x H H2, i < n → Pv i H → Y i H x H2 → B x H2 (Pv (i + 1))) (hd : ∀ H, Pv n H → Qd H) :
    ∃ W : Nat → Nat → Hp → Prop, (∃ m, W 0 m H1) ∧ ∀ i m H, W i m H → (J.stop i H ∧ Qd H) ∨ (J.go i H ∧ ∃ N : Hp → Prop, (∀ H2, N H2 → ∃ l, l < m ∧ W (i + 1) l H2) ∧ ∀ x H2, J.yld i H x H2 → B x H2 N) := by
  refine ⟨fun i m H => i + m = n ∧ Pv i H, ⟨n, Nat.zero_add n, h0⟩, ?_⟩
  rintro i m H ⟨e, p⟩
  have le : i ≤ n := by omega
  rcases Nat.lt_or_eq_of_le le with lt | rfl
  · exact .inr ⟨wk.goes i H lt (hG i H le p), Pv (i + 1), fun H2 q => ⟨m - 1, by omega, by omega, q⟩, fun x H2 y => hs i x H H2 lt p (wk.yields i H x H2 lt (hG i H le p) y)⟩
  · exact .inl ⟨wk.stops H (hG i H le p), hd H p⟩
end Lw
namespace Tk
open PySem PySem.Spec PyProof.Rows L2 Lw Evl LamX TL
open Rm (R Ok Z0 Zp Fr fr_none fr_ne nt_lst nt_tup NT Zn)
def singles (ws : List (List Str)) : List Str := (ws.filter fun w => decide (w.length = 1)).map fun w => w.headD ""
section
variable {K : PySem.W.Frag} {Z : Zn} {H H1 : Hp} {a CF l d : Addr} {ws us : List (List Str)} {v p : V} {w : List Str}
theorem sd_nodup (h : Sd ws) : ws.Nodup := List.Pairwise.imp (fun {a b} z e => by rw [e, ahead_irr] at z; cases z) h
end
end Tk
namespace Tk
open PySem PySem.Spec PyProof.Rows L2 Lw Evl LamX TL
open Rm (R Ok Z0 Zp Fr fr_none fr_ne nt_lst nt_tup NT Zn)
theorem lt_ones (x y : Str) : aheadW [x] [y] = decide (x.cps.toList < y.cps.toList) := by
  unfold aheadW
  rw [if_pos (show [x].length = [y].length from rfl)]
  unfold lexW
  by_cases c : x = y
  · subst c
    simp [lexW]
  · simp [c]
theorem rising_sd : ∀ (r : List Str) (p : Str), risingS p r = true → (p :: r).Nodup → Sd ((p :: r).map fun x => [x])
  | [], p, _, _ => by
    unfold Sd
    simp
  | x :: r, p, h, n => by
    obtain ⟨h1, h2⟩ := Bool.and_eq_true_iff.mp (show (!ltCps x.cps.toList p.cps.toList && risingS x r) = true from h)
    obtain ⟨n1, n2⟩ := List.nodup_cons.mp n
    have ih := rising_sd r x h2 n2
    have px : aheadW [p] [x] = true := by
      rcases ahead_conn (xs := [p]) (ys := [x]) (fun e => n1 (by
        rw [List.cons.inj e |>.1]
        exact List.mem_cons_self ..)) with z | z
      · exact z
      · rw [lt_ones, ← ltCps_eq] at z
        rw [z] at h1
        cases h1
    unfold Sd at ih ⊢
    rw [List.map_cons, List.pairwise_cons]
    refine ⟨fun u hu => ?_, ih⟩
    rw [List.map_cons] at hu ih
    rcases List.mem_cons.mp hu with rfl | hu
    · exact px
    · exact ahead_trans px ((List.pairwise_cons.mp ih).1 u hu)
theorem sort_same {xs ys : List Str} (hp : ys.Perm xs) (hs : sortedS ys = true) (h : Sd (xs.map fun x => [x])) : ys = xs := by
  have nx : xs.Nodup := by
    have z := sd_nodup h
    exact List.Pairwise.imp (fun {a b} r e => r (by rw [e])) (List.pairwise_map.mp z)
  have ny : ys.Nodup := hp.nodup_iff.mpr nx
  have sy : Sd (ys.map fun x => [x]) := by
    cases ys with
    | nil => exact List.Pairwise.nil
    | cons y ys => exact rising_sd ys y hs ny
  have e := sd_uniq sy h fun u => by
    rw [List.mem_map, List.mem_map]
    exact ⟨fun ⟨x, hx, e⟩ => ⟨x, hp.mem_iff.mp hx, e⟩, fun ⟨x, hx, e⟩ => ⟨x, hp.mem_iff.mpr hx, e⟩⟩
  have z := congrArg (List.map fun w : List Str => w.headD "") e
  rw [List.map_map, List.map_map] at z
  simpa [Function.comp_def] using z
end Tk
namespace Tk
open PySem PySem.Spec PyProof.Rows L2 Lw Evl LamX TL
end Tk
namespace Tk
open PySem PySem.Spec PyProof.Rows L2 Lw Evl LamX TL
end Tk
namespace Tk
open PySem PySem.Spec PyProof.Rows L2 Lw Evl LamX TL
open Rm (R Ok Z0 Zp Fr fr_none)
/-- the rows of a front that the law draws -/
structure Rows (ws : List (List Str)) : Prop where
  sd : Sd ws
  w : ∀ u ∈ ws, isW u = true
  head : ws = [] :: ws.filter fun u => !u.isEmpty
  len : ws.length ≤ 185
  few : (singles ws).length < 64
theorem Rows.ne {ws : List (List Str)} (h : Rows ws) : ws ≠ [] := fun e => by
  have z := h.head
  rw [e] at z
  cases z
theorem Rows.drop {ws : List (List Str)} (h : Rows ws) : ws.drop 1 = ws.filter fun u => !u.isEmpty := by
  have z := congrArg (List.drop 1) h.head
  rw [List.drop_succ_cons, List.drop_zero] at z
  exact z
theorem Rows.pos {ws : List (List Str)} (h : Rows ws) : 1 ≤ ws.length := by
  have := List.length_pos_iff.mpr h.ne
  omega
end Tk
namespace Tk
open PySem PySem.Spec PyProof.Rows L2 Lw Evl LamX TL
theorem q_asgX {te : TE} {i : Nat} {tz : TS} {D : Ends} {σ : L2.St} {H : Hp} (h : te σ H fun v H1 => tz D (σ.set i (some v)) H1) : tSeq (tAsg te (gName i)) tz D σ H := h
end Tk
namespace Tk
open PySem PySem.Spec PyProof.Rows L2 Lw Evl LamX TL
open Rm (R Ok Z0 Zp Fr fr_none fr_ne nt_lst nt_tup NT Zn)
end Tk
namespace Lw
open PySem PySem.Spec PyProof.Rows L2 Evl
end Lw
namespace Tk
open PySem PySem.Spec PyProof.Rows L2 Lw Evl LamX TL
open Rm (R Ok Z0 Zp Fr fr_none fr_ne nt_lst nt_tup NT Zn)
end Tk
namespace Lw
open PySem PySem.Spec PyProof.Rows L2 Evl
/-- the special method n of the class x, that may let errors out -/
def SpX (P : Program) (w : World) (K : PySem.W.Frag) (mg : Str → Option Value) (base : Heap) (CX : CXT) (k : Nat) (C : Addr) (n : Str) (ps : List Str) (sp : Sp) : Prop :=
  PySem.W.selfFirst K C = true ∧ ∃ f fd, PySem.W.findIn K (.ref C) n = some (some (.ref f)) ∧ PySem.W.isFn K (.ref f) = true ∧ Binds K fd ps [] ∧ FnOk P w K mg base CX k f fd ps sp
end Lw
namespace Lw
open PySem PySem.Spec PyProof.Rows L2 Evl
end Lw
namespace Tk
open PySem PySem.Spec PyProof.Rows L2 Lw Evl LamX TL
open Rm (R Ok Z0 Zp Fr fr_none fr_ne nt_lst nt_tup NT Zn)
structure Cl (ws : List (List Str)) : Prop where
  sd : Sd ws
  nil : [] ∈ ws
  beg : ∀ w ∈ ws, ∀ u ∈ begs w, u ∈ ws
theorem Cl.self {ws : List (List Str)} (h : Cl ws) : clW ws = ws := sd_uniq clW_sd h.sd fun u => by
  rw [mem_clW]
  exact ⟨fun z => z.elim (fun e => e ▸ h.nil) fun ⟨w, hw, hu⟩ => h.beg w hw u hu, fun hu => .inr ⟨u, hu, self_begs u⟩⟩
end Tk
namespace Tk
open PySem PySem.Spec PyProof.Rows L2 Lw Evl LamX TL
open Rm (R Ok Z0 Zp Fr fr_none fr_ne nt_lst nt_tup NT Zn)
section
variable {P : Program} {w : World} {K : PySem.W.Frag} {Z : Zn} {H H0 H1 H2 : Hp} {σ : L2.St} {te ta tb td : TE} {tt : TT} {tk : TA} {v u : V} {s : Str} {a l b CF d : Addr} {ws us : List (List Str)} {x y : List Str} {j n : Nat} {vs : List Nat} {xs : List V} {E : XK} {Q : VK}
/-- all that stood stands, a dict perhaps locked -/
def Lk (H H1 : Hp) : Prop := ∀ x o, H x = some o → H1 x = some o ∨ ∃ od kvs, o = .dT kvs ∧ H1 x = some (.frz od (.dT kvs))
theorem lk_of {kvs : List (List L2.Key × V)} {od : Obj} (hd : H d = some (.dT kvs)) (e : Ex (upd H d (.frz od (.dT kvs))) H1) : Lk H H1 := fun x o hx => by
  by_cases c : x = d
  · subst c
    rw [hd] at hx
    cases hx
    exact .inr ⟨od, _, rfl, e _ _ upd_same⟩
  · exact .inl (e _ _ (by rw [upd_ne c]; exact hx))
end
end Tk
namespace Tk
open PySem PySem.Spec PyProof.Rows L2 Lw Evl LamX TL
open Rm (R Ok Z0 Zp Fr fr_none fr_ne nt_lst nt_tup NT Zn)
end Tk
namespace Tk
open PySem PySem.Spec PyProof.Rows L2 Lw Evl LamX TL
open Rm (R Ok Z0 Zp Fr fr_none fr_ne nt_lst nt_tup NT Zn)
section
variable {P : Program} {w : World} {K : PySem.W.Frag} {Z : Zn} {H H0 H1 H2 : Hp} {σ : L2.St} {te ta tb td : TE} {tt : TT} {v u : V} {a l b CF d : Addr} {ws us : List (List Str)} {j : Nat} {vs : List Nat} {Q : VK}
theorem ew_ixLW {i : Nat} {x : List Str} (ha : Ev ta σ H (.ref l)) (hb : Ev tb σ H (.int (i : Int))) (hl : LW K H l ws) (hi : ws[i]? = some x) : EvW K (tOp (rIxL K) ta tb) σ H x := fun H1 e Q q => ha H1 e _ fun H2 e2 => hb H2 (e.trans e2) _ fun H3 e3 => by
  obtain ⟨us, h1, hp⟩ := lw_mono ((e.trans e2).trans e3) hl
  have hlt : i < us.length := by
    rw [Paired.length hp]
    exact (List.getElem?_eq_some_iff.mp hi).1
  obtain ⟨w, hw, r⟩ := paired_at hp (List.getElem?_eq_getElem hlt)
  rw [hi] at hw
  cases hw
  exact ⟨l, us, i, _, rfl, rfl, SqL.of h1, atI_nat (List.getElem?_eq_getElem hlt), q _ H3 (e2.trans e3) r⟩
theorem ev_lenLW (h : Ev ta σ H (.ref l)) (hl : LW K H l ws) : Ev (tCB (rLenS K) (tCons ta tNil)) σ H (.int (ws.length : Int)) := by
  obtain ⟨us, h1, hp⟩ := hl
  rw [← Paired.length hp]
  exact ev_lenL h (SqL.of h1)
end
end Tk
namespace Tk
open PySem PySem.Spec PyProof.Rows L2 Lw Evl LamX TL
open Rm (R Ok Z0 Zp Fr fr_none fr_ne nt_lst nt_tup NT Zn)
end Tk
namespace Tk
open PySem PySem.Spec PyProof.Rows L2 Lw Evl LamX TL
open Rm (R Ok Z0 Zp Fr fr_none fr_ne nt_lst nt_tup NT Zn)
end Tk
namespace Tk
open PySem PySem.Spec PyProof.Rows L2 Lw Evl LamX TL
open Rm (R Ok Z0 Zp Fr fr_none fr_ne nt_lst nt_tup NT Zn)
end Tk
namespace Tk
open PySem PySem.Spec PyProof.Rows L2 Lw Evl LamX TL
open Rm (R Ok Z0 Zp Fr fr_none fr_ne nt_lst nt_tup NT Zn)
end Tk
namespace Lw
open PySem PySem.Spec PyProof.Rows L2 Evl
end Lw
namespace Tk
open PySem PySem.Spec PyProof.Rows L2 Lw Evl LamX TL
open Rm (R Ok Z0 Zp Fr fr_none fr_ne nt_lst nt_tup NT Zn)
end Tk
namespace Lw
open PySem PySem.Spec PyProof.Rows L2 Evl
end Lw
namespace Tk
open PySem PySem.Spec PyProof.Rows L2 Lw Evl LamX TL
open Rm (R Ok Z0 Zp Fr fr_none fr_ne nt_lst nt_tup NT Zn)
end Tk
namespace Tk
open PySem PySem.Spec PyProof.Rows L2 Lw Evl LamX TL
open Rm (R Ok Z0 Zp Fr fr_none fr_ne nt_lst nt_tup NT Zn)
end Tk
namespace L2
open PySem PySem.Spec PyProof.Rows Lw Evl
section
variable {P : Program} {w : World} {fs ex : List Addr} {H H1 : Hp} {h h' : Heap} {a : Addr} {o : HO}
theorem un_more (u : Un fs ex H H1 h h') (hp : h.objs.size ≤ a) (hn : H1 a = none) : Un fs ex H (upd H1 a o) h h' where
  keep := u.keep
  slot := u.slot
  free := fun b ob q n hx => by
    rw [upd_ne (Nat.ne_of_lt (Nat.lt_of_lt_of_le (Heap.lt_size q) hp))]
    exact u.free b ob q n hx
  there := u.there
  tups := fun b xs q => by
    have z := u.tups b xs q
    rw [upd_ne (ne_of_none z hn)]
    exact z
  frzs := fun b ob v q => by
    have z := u.frzs b ob v q
    rw [upd_ne (ne_of_none z hn)]
    exact z
  tbls := fun b ps q => by
    obtain ⟨m, z⟩ := u.tbls b ps q
    exact ⟨m, by rw [upd_ne (ne_of_none z hn)]; exact z⟩
theorem hok_more (x : HOk P w H1 h') (hn : H1 a = none) (new : ObjOk P w (upd H1 a o) h' a o) : HOk P w (upd H1 a o) h' := fun b u e => by
  by_cases hb : b = a
  · subst hb
    rw [upd_same] at e
    cases e
    exact new
  · rw [upd_ne hb] at e
    exact (x b u e).stay (fun c v _ q => q) (fun c q => by rw [upd_ne (ne_of_none q hn)]; exact q) fun c xs q => by rw [upd_ne (ne_of_none q hn)]; exact q
end
theorem paired_ix {α β : Type} {R : α → β → Prop} : ∀ {xs : List α} {ys : List β}, xs.length = ys.length → (∀ (i : Nat) x y, xs[i]? = some x → ys[i]? = some y → R x y) → Paired R xs ys
  | [], [], _, _ => .nil
  | x :: xs, y :: ys, hl, h => .cons (h 0 x y rfl rfl) (paired_ix (by simpa using hl) fun i a b ha hb => h (i + 1) a b ha hb)
theorem lay_tups {P : Program} {w : World} {fs ex : List Addr} {H0 : Hp} {h0 h' : Heap} : ∀ {as : List Addr} {kvs : List (Key × V)} {H : Hp}, Paired (fun a (kv : Key × V) => ∃ u v, h'.get? a = some { cls := .type "tuple", data := .seq #[u, v] } ∧ RelV (kV kv.1) u ∧ RelV kv.2 v) as kvs → as.Pairwise (· < ·) → (∀ a ∈ as, h0.objs.size ≤ a ∧ H a = none) → Un fs ex H0 H h0 h' → HOk P w H h' →
    ∃ H2, Un fs ex H0 H2 h0 h' ∧ HOk P w H2 h' ∧ Ex H H2 ∧ Paired (fun a kv => H2 a = some (.tup [kV kv.1, kv.2])) as kvs ∧ ∀ b, b ∉ as → H2 b = H b
  | [], [], H, _, _, _, u, x => ⟨H, u, x, Ex.refl H, .nil, fun _ _ => rfl⟩
  | a :: as, kv :: kvs, H, .cons r t, pw, hn, u, x => by
    obtain ⟨y, v, g, r1, r2⟩ := r
    obtain ⟨p1, p2⟩ := List.pairwise_cons.mp pw
    obtain ⟨n1, n2⟩ := hn a (List.mem_cons_self ..)
    have new : ObjOk P w (upd H a (.tup [kV kv.1, kv.2])) h' a (.tup [kV kv.1, kv.2]) := ⟨(by show 2 ≤ sizeLine; decide), [y, v], .cons r1 (.cons r2 .nil), ⟨_, g, rfl, _, rfl⟩⟩
    obtain ⟨H2, u2, x2, e2, q2, o2⟩ := lay_tups t p2 (fun b hb => ⟨(hn b (List.mem_cons_of_mem _ hb)).1, by rw [upd_ne (Nat.ne_of_gt (p1 b hb))]; exact (hn b (List.mem_cons_of_mem _ hb)).2⟩) (un_more u n1 n2) (hok_more x n2 new)
    refine ⟨H2, u2, x2, (Ex.new n2).trans e2, .cons (e2 _ _ upd_same) q2, fun b hb => ?_⟩
    rw [o2 b fun z => hb (List.mem_cons_of_mem _ z), upd_ne fun z => hb (by rw [z]; exact List.mem_cons_self ..)]
/-- the pairs of a dict's entries -/
def IsItems (H : Hp) (kvs : List (Key × V)) (as : List Addr) : Prop := Paired (fun a kv => H a = some (.tup [kV kv.1, kv.2])) as kvs
def tItL (to : TE) : TE := fun σ H Q => to σ H fun x H1 => ∃ d kvs, x = .ref d ∧ H1 d = some (.dK kvs) ∧ ∀ l H2 as, H1 l = none → Ex H1 H2 → H2 l = some (.lst (as.map V.ref)) → IsItems H2 kvs as → Q (.ref l) H2
section
variable {X : Cx} {o : Expr} {to : TE} {p apos cpos pos : Pos}
theorem pe_listItems (hc : X.calm = true) (hg : Gl X "list") (hm : X.mg "list" = none) (ho : PE X o to)
    (hbase : attributeBase o "items" X.env (eval o X.env) = eval o X.env := by rfl) (hline : (apos.endLine == cpos.line) = true := by rfl)
    (he : starEach [.Call (.Attribute o "items" apos) [] [] cpos] X.env = (false, eval (.Call (.Attribute o "items" apos) [] [] cpos) X.env) :: starEach [] X.env := by rfl) (hpl : (backTo pos (starEach [] X.env)).any (·.1) = false := by rfl) :
    PE X (.Call (.Name "list" p) [.Call (.Attribute o "items" apos) [] [] cpos] [] pos) (tItL to) := by
  refine ⟨fun pins s σ H Q I h => ?_⟩
  refine wpAny_Call_Name_kw (ld_blt I hg hm rfl ?_ (by decide) (by decide))
  refine PyProof.Rows.callWith_type1 ?_ he hpl
  rw [he]
  show wpAny _ _ (spliced ((false, eval (.Call (.Attribute o "items" apos) [] [] cpos) X.env) :: backTo pos (starEach [] X.env))) _ _ s
  refine Calls.spliced_cons ?_
  refine wpAny_Call_method0_late hbase hline (thn (ho.run pins s σ H _ I h) fun v s1 ⟨x, H1, I1, r1, q1⟩ => ?_)
  obtain ⟨d, kvs, rfl, hd, q⟩ := q1
  cases r1
  obtain ⟨h1, h2⟩ := tyV_is (X := X) (T := "dict") I1 (x := .ref d) (v := .ref d) rfl (.inr (.inr (.inl ⟨rfl, .inl ⟨kvs, hd⟩⟩)))
  obtain ⟨hz, hs, vs, kv, hD⟩ := dk_of I1.hok hd
  obtain ⟨es, ep, hR, hn, hE⟩ := hD.raw
  refine ⟨"dict", "dict.items", PySem.F.plainAttrs_dict, PySem.F.slot_dict_items, PySem.F.type_dict_items, h1, h2, Calls.callWith_builtin rfl (PySem.evalArgs_none ?_)⟩
  refine PySem.call_meetsIn PySem.F.slot_dict_items h1 PySem.F.entry_dict_items (PySem.F.args_dict_items_1 _) (PySem.meets_dict_items_raw d hs) ⟨⟨es, ep, hR⟩, ?_⟩
  refine Calls.spliced_nil ?_
  have I2 := I1.kept (t' := s1.toks) (h' := s1.heap.push { cls := .type "dict_items", data := .fields #[.ref d] }) fun b u e => Heap.get?_push_of_some _ e
  refine PySem.W.dil_call (I2.ok.hd hc) ⟨_, Heap.get?_push_size _ rfl, rfl, rfl⟩ (hR.at fun o e => Heap.get?_push_of_some _ e) (by rw [hn, ← Paired.length kv]; exact hz) fun h' tk acc c as kp hl hlen hG hacc => ?_
  have S0 := Nat.le_refl (s1.heap.push { cls := .type "dict_items", data := .fields #[.ref d] }).objs.size
  have lk := Paired.length kv
  have pr : Paired (fun a (kv : Key × V) => ∃ u v, h'.get? a = some { cls := .type "tuple", data := .seq #[u, v] } ∧ RelV (kV kv.1) u ∧ RelV kv.2 v) as kvs := paired_ix (by omega) fun i a y ha hy => by
    obtain ⟨hi, g⟩ := hG.pairs i a ha
    obtain ⟨⟨k, v⟩, hv, e1, e2⟩ := paired_at kv hy
    obtain ⟨e3, e4⟩ := hE i hi k v hv
    refine ⟨_, _, g, ?_, ?_⟩
    · rw [show y.1 = k from e1]
      exact keyIs_rel e3
    · rw [e4]
      exact e2
  have fresh : ∀ a ∈ as, (s1.heap.push { cls := .type "dict_items", data := .fields #[.ref d] }).objs.size ≤ a ∧ H1 a = none := fun a ha => ⟨Nat.le_of_lt (hG.above a ha), I2.hok.fresh (Nat.le_of_lt (hG.above a ha))⟩
  obtain ⟨H2, u2, x2, e2, q2, o2⟩ := lay_tups (P := X.prog) (w := X.w) (fs := X.fs) (ex := []) (H0 := H1) (h0 := s1.heap.push { cls := .type "dict_items", data := .fields #[.ref d] }) pr hG.rise fresh (Un.kept kp) (I2.hok.kept kp)
  have nS : H2 (s1.heap.push { cls := .type "dict_items", data := .fields #[.ref d] }).objs.size = none := by
    rw [o2 _ fun z => Nat.lt_irrefl _ (hG.above _ z)]
    exact I2.hok.fresh S0
  have new : ObjOk X.prog X.w (upd H2 (s1.heap.push { cls := .type "dict_items", data := .fields #[.ref d] }).objs.size (.lst (as.map V.ref))) h' (s1.heap.push { cls := .type "dict_items", data := .fields #[.ref d] }).objs.size (.lst (as.map V.ref)) := ⟨by rw [List.length_map]; omega, acc.toList, c, by rw [hacc]; exact vals_refs _, by rw [Array.toArray_toList]; exact hl⟩
  have en := Ex.new (o := .lst (as.map V.ref)) nS
  exact ⟨.ref _, _, I2.un (un_more u2 S0 nS) (hok_more x2 nS new), rfl, q _ _ as (I2.hok.fresh S0) (e2.trans en) upd_same (paired_mono (fun _ _ r => en _ _ r) q2)⟩
end
end L2
namespace Ts
open PySem PySem.Spec PyProof.Rows L2
section
variable {P : Program} {w : World} {A : Around} {E : Value → Shared → Prop} {s : Shared}
/-- what set(l) comes to -/
theorem set_callG {l : Addr} {T : String} {ol : Obj} {G : Heap → Prop} {Q : Value → Shared → Prop} (hh : A.handled = none) (hol : s.heap.get? l = some ol) (hT : ol.cls = .type T) (sub1 : isSubtype (.type T) (.type "set") = pure false) (sub2 : isSubtype (.type T) (.type "frozenset") = pure false) (nd : (Value.type T == Value.type "dict") = false)
    (TI : Obj) (itr : ∀ {A2 : Around} {E2 Q2 : Value → Shared → Prop} {s2 : Shared}, s2.heap.get? l = some ol → Q2 (.ref s2.heap.objs.size) { s2 with heap := s2.heap.push TI } → wpAny (model P w) A2 (pyIter (.ref l)) Q2 E2 s2)
    (loop : ∀ {A2 : Around} {R : Result → Shared → Prop}, A2.handled = none → (∀ h' tk, G h' → (∀ b o, s.heap.get? b = some o → h'.get? b = some o) → R (.ok (.ret .none)) { s with heap := h', toks := tk }) →
      codeAny (model P w) A2 (.builtin "set.update.loop" ⟨[.ref s.heap.objs.size, .ref (s.heap.push (newSet w)).objs.size], []⟩) R { s with heap := (s.heap.push (newSet w)).push TI })
    (q : ∀ h' tk, G h' → (∀ b o, s.heap.get? b = some o → h'.get? b = some o) → Q (.ref s.heap.objs.size) { s with heap := h', toks := tk }) : wpAny (model P w) A (call (.type "set") [.ref l]) Q E s := by
  obtain ⟨c, tl, mro⟩ := F.called_set.mro
  have made := F.called_set.made
  have subs := F.called_set.sub
  refine wpAny_call (codeAny_of_tree ?_)
  show wpAny _ _ (callAny (.type "set") _) _ _ _
  refine wpAny_pure ⟨Code.quiet_builtin _ (by decide +kernel), codeAny_builtin F.entry_type_call (Around.under_plain (weight_type_call_type "set" [.ref l] []) rfl ▸ ?_)⟩
  have a1 := F.called_set.notType
  have a2 := F.called_set.canCreate
  have a3 := F.typeCall_set_1 (.ref l)
  repeat (any_goals (first | wp_step | assumption))
  refine codeAny_mono (code_set_led1 (.ref l) (E := E) (Q₁ := fun v s2 => v = .ref s.heap.objs.size ∧ s2 = { s with heap := s.heap.push (newSet w) }) ⟨rfl, rfl⟩) fun r s2 hr => ?_
  cases r with
  | error e => exact hr
  | ok fl =>
    cases fl with
    | ret v =>
      obtain ⟨rfl, rfl⟩ := hr
      have isS : Shared.TypeIs { s with heap := s.heap.push (newSet w) } (.ref s.heap.objs.size) "set" := ⟨_, Heap.get?_push_size _ rfl, rfl⟩
      have b1 := F.called_set.init.lookup
      have b2 := F.called_set.init.bind (.ref s.heap.objs.size)
      repeat (any_goals (first | wp_step | assumption))
      refine codeAny_mono (codeAny_call_builtin (R := wants (fun r s2 => r = .none ∧ ∃ h' tk, s2 = { s with heap := h', toks := tk } ∧ G h' ∧ ∀ b o, s.heap.get? b = some o → h'.get? b = some o) E) F.called_set.init.plain F.entry_set_init (check_set_init_1 isS ?_)) fun r2 s3 hr2 => ?_
      · have hol1 : (s.heap.push (newSet w)).get? l = some ol := Heap.get?_push_of_some _ hol
        obtain ⟨oc, od, odt, osl⟩ := ol
        dsimp only at hT
        subst hT
        unfold Builtin.«set.__init__» noKeywords Builtin.Frozenset.updateFrom
        generalize hPI : pyIter = PI
        wp_walk
        subst hPI
        refine itr hol1 (wpAny_bind (wpAny_runValue ?_))
        refine loop (by simp [hh]) fun h' tk z k => ?_
        exact wpAny_pure (wpAny_pure ⟨rfl, h', tk, rfl, z, k⟩)
      · cases r2 with
        | error e => exact hr2
        | ok fl2 =>
          cases fl2 with
          | ret v2 =>
            obtain ⟨rfl, h', tk, rfl, z, k⟩ := hr2
            repeat (any_goals (first | wp_step | assumption))
            exact q h' tk z k
          | _ => exact hr2.elim
    | _ => exact hr.elim
end
end Ts
namespace Lw
open PySem PySem.Spec PyProof.Rows L2 Evl
def rSetIn (K : PySem.W.Frag) (w : World) : List V → Hp → VK → Prop := fun xs H Q => ∃ (l : Addr) (ns : List Int), xs = [V.ref l] ∧ SqL K H l (ns.map V.int) ∧ ns.length ≤ 4000 ∧
  ∀ a (S : Int → Bool) (c : Nat) (ks : List Int), H a = none → ks.Nodup → (∀ j, j ∈ ks ↔ j ∈ ns) → ks.length = c → Q (.ref a) (upd H a (SetO w a S c))
def rLenSt (w : World) : List V → Hp → VK → Prop := fun xs H Q => ∃ (a : Addr) (S : Int → Bool) (c : Nat), xs = [V.ref a] ∧ H a = some (SetO w a S c) ∧ Q (.int (c : Nat)) H
section
variable {X : Cx}
theorem setR_keys {w : World} {h : Heap} {a : Addr} {ns : List Int} {c : Nat} (R : SetR w h a (fun j => decide (j ∈ ns)) c) : ∃ ks : List Int, ks.Nodup ∧ (∀ j, j ∈ ks ↔ j ∈ ns) ∧ ks.length = c := by
  obtain ⟨o, es, ep, t, ho, hx, hd, g, nd, m, hz, f, hc, r, l⟩ := R
  refine ⟨es.toList.map keyOf, nd, fun j => ?_, ?_⟩
  · rw [← m j, decide_eq_true_iff]
  · rw [List.length_map, Array.length_toList, hc]
theorem cr_setIn (hc : X.calm = true) : CallR X (.type "set") (rSetIn X.K X.w) := by
  intro pins s σ H xs us Q I r h
  obtain ⟨l, ns, rfl, hs, hz, q⟩ := h
  rw [Vals.ref1 r]
  obtain ⟨its, rv, hl, hz2⟩ := I.list hs
  have il := hl.isList
  have hi := ints_of_vals rv
  have sz : its.toArray.size = ns.length := by rw [List.size_toArray, ← rv.length, List.length_map]
  obtain ⟨ol, e1, e2, n, e3⟩ := id il
  have lt := Heap.lt_size e1
  have few : ns.length + 1 < scanBound := by unfold scanBound; omega
  refine Ts.set_callG (G := fun h' => ∃ c, SetR X.w h' s.heap.objs.size (fun j => decide (j ∈ ns)) c) (I.ok.hd hc) e1 e2 F.sub_list_set F.sub_list_frozenset (by decide) { cls := .type "list_iterator", data := .fields #[.ref l, .int 0 0] } (fun z k => wpAny_pyIter_list ⟨_, z, e2, n, e3⟩ k) (fun {A2 R} hA k => ?_) fun h' tk ⟨c, R⟩ kp => ?_
  · have s1 : (s.heap.push (Ts.newSet X.w)).objs.size = s.heap.objs.size + 1 := Heap.size_push ..
    refine set_update_ints (n := its.toArray.size) ((Walks.list (A := A2.in1) (by simp [hA]) (s.heap.push (Ts.newSet X.w)).objs.size l (by rw [s1]; exact Nat.ne_of_lt (Nat.lt_succ_of_lt lt)) its.toArray).toS) s.heap.objs.size (fun z => by
      rcases List.mem_cons.mp z with z | z
      · exact absurd z (by rw [s1]; exact Nat.ne_of_lt (Nat.lt_succ_self _))
      · exact absurd (List.mem_singleton.mp z) (Nat.ne_of_gt lt)) ns sz few (fun i v hv => by
      have hv2 : its[i]? = some v := by rw [← Array.getElem?_toList] at hv; exact hv
      have li : i < ns.length := by rw [← sz, List.size_toArray]; exact (List.getElem?_eq_some_iff.mp hv2).1
      obtain ⟨t, e⟩ := PyProof.Rows.IntsAre.int_at hi i v hv2
      refine ⟨ns[i], t, List.getElem?_eq_getElem li, ?_⟩
      rw [e, List.getD_eq_getElem?_getD, List.getElem?_eq_getElem li] <;> rfl) (its.toArray.size - 0) 0 _ (by omega) (Nat.zero_le _) ⟨⟨_, Heap.get?_push_size _ rfl, rfl, rfl⟩, (il.push _).push _⟩ ⟨0, Nat.le_refl 0, setR_new_at (Heap.get?_push_of_some _ (Heap.get?_push_size _ rfl))⟩ fun s2 c mv hcn hS => ?_
    obtain ⟨h2, g2, d2, ty2, o2⟩ := s2
    obtain rfl : g2 = s.gens := mv.gens
    obtain rfl : d2 = s.drawn := mv.drawn
    obtain rfl : o2 = s.os := mv.os
    exact k h2 ty2 ⟨c, hS⟩ fun b o z => mv.heap b o (fun y => by
      have lt2 := Heap.lt_size z
      rcases List.mem_cons.mp y with y | y
      · exact absurd y (Nat.ne_of_lt lt2)
      · exact absurd (List.mem_singleton.mp y) (by rw [s1]; exact Nat.ne_of_lt (Nat.lt_succ_of_lt lt2))) (Heap.get?_push_of_some _ (Heap.get?_push_of_some _ z))
  · obtain ⟨ks, k1, k2, k3⟩ := setR_keys R
    exact ⟨.ref _, _, I.laid (t' := tk) kp (Nat.le_refl _) (setO_new R), rfl, q _ _ c ks (I.hok.fresh (Nat.le_refl _)) k1 k2 k3⟩
theorem call_lenSt : CallR X (.builtin "len") (rLenSt X.w) := by
  intro pins s σ H xs us Q I r h
  obtain ⟨a, S, c, rfl, ha, q⟩ := h
  rw [Vals.ref1 r]
  obtain ⟨o, es, ep, t, ho, hx, hd, g, nd, m, hz, f, hc, _⟩ : SetR X.w s.heap a S c := (I.hok a _ ha).1
  refine call_len_set ho hx hd f (by unfold scanBound at hz; omega) ⟨.int (c : Nat), H, I.tok _, ⟨_, by rw [← hc]⟩, q⟩
theorem cr_setInK {K : PySem.W.Frag} {w : World} (hc : X.calm = true := by rfl) (h : X.K = K := by rfl) (h2 : X.w = w := by rfl) : CallR X (.type "set") (rSetIn K w) := by
  subst h h2
  exact cr_setIn hc
theorem call_lenStK {w : World} (h2 : X.w = w := by rfl) : CallR X (.builtin "len") (rLenSt w) := by
  subst h2
  exact call_lenSt
end
def tVaL (to : TE) : TE := fun σ H Q => to σ H fun x H1 => ∃ d kvs, x = .ref d ∧ H1 d = some (.dT kvs) ∧ ∀ l, H1 l = none → Q (.ref l) (upd H1 l (.lst (kvs.map (·.2))))
section
variable {X : Cx} {o : Expr} {to : TE} {p apos cpos pos : Pos}
theorem pe_listVals (hc : X.calm = true) (hg : Gl X "list") (hm : X.mg "list" = none) (ho : PE X o to)
    (hb0 : attributeBase o "values" X.env (eval o X.env) = eval o X.env := by rfl) (hl0 : (apos.endLine == cpos.line) = true := by rfl)
    (he : starEach [.Call (.Attribute o "values" apos) [] [] cpos] X.env = (false, eval (.Call (.Attribute o "values" apos) [] [] cpos) X.env) :: starEach [] X.env := by rfl) (hpl : (backTo pos (starEach [] X.env)).any (·.1) = false := by rfl) :
    PE X (.Call (.Name "list" p) [.Call (.Attribute o "values" apos) [] [] cpos] [] pos) (tVaL to) := by
  refine ⟨fun pins s σ H Q I h => ?_⟩
  refine wpAny_Call_Name_kw (ld_blt I hg hm rfl ?_ (by decide) (by decide))
  refine PyProof.Rows.callWith_type1 ?_ he hpl
  rw [he]
  show wpAny _ _ (spliced ((false, eval (.Call (.Attribute o "values" apos) [] [] cpos) X.env) :: backTo pos (starEach [] X.env))) _ _ s
  refine Calls.spliced_cons ?_
  refine wpAny_Call_method0_late hb0 hl0 (thn (ho.run pins s σ H _ I h) fun v s1 ⟨x, H1, I1, r1, q1⟩ => ?_)
  obtain ⟨d, kvs, rfl, hd, q⟩ := q1
  cases r1
  obtain ⟨h1, h2⟩ := tyV_is (X := X) (T := "dict") I1 (x := .ref d) (v := .ref d) rfl (.inr (.inr (.inl ⟨rfl, .inr ⟨kvs, hd⟩⟩)))
  obtain ⟨hz, hs, xs, kt, hD⟩ := dt_of I1.hok hd
  obtain ⟨od, es, ep, hod, hex, hdat, hee, his, hnd⟩ := id hD
  have hR : s1.heap.DictRaw d es ep := ⟨od, hod, hex, hdat⟩
  refine ⟨"dict", "dict.values", PySem.F.plainAttrs_dict, PySem.F.slot_dict_values, PySem.F.type_dict_values, h1, h2, Calls.callWith_builtin rfl (PySem.evalArgs_none ?_)⟩
  refine PySem.call_meetsIn PySem.F.slot_dict_values h1 PySem.F.entry_dict_values (PySem.F.args_dict_values_1 _) (PySem.meets_dict_values_raw d hs) ⟨⟨es, ep, hR⟩, ?_⟩
  refine Calls.spliced_nil ?_
  have k0 : ∀ b u, s1.heap.get? b = some u → (s1.heap.push { cls := .type "dict_values", data := .fields #[.ref d] }).get? b = some u := fun b u e => Heap.get?_push_of_some _ e
  have I2 := I1.kept (t' := s1.toks) (h' := s1.heap.push { cls := .type "dict_values", data := .fields #[.ref d] }) k0
  have sx : es.size = xs.length := size_of_entries hee
  have lk := Paired.length kt
  refine PySem.W.kdl_call PySem.KdlSrc.rawValues (I2.ok.hd hc) ⟨⟨_, Heap.get?_push_size _ rfl, rfl, rfl⟩, hR.at fun o e => Heap.get?_push_of_some _ e⟩ (by omega) fun h' tk acc c kp hl hI => ?_
  have rv : Vals (kvs.map (·.2)) acc.toList := paired_ix (by
    have z : acc.toList.length = es.size := (Array.length_toList ..).trans hI.1
    rw [List.length_map]
    omega) fun i x y hx hy => by
    obtain ⟨hi, e⟩ := hI.2 i y (by rw [← Array.getElem?_toList]; exact hy)
    rw [List.getElem?_map] at hx
    obtain ⟨kv, hk, rfl⟩ := Option.map_eq_some_iff.mp hx
    obtain ⟨z, hz1, _, _, r⟩ := paired_at kt hk
    have ee := entry_at hee i
    rw [hz1, Array.getElem?_eq_getElem hi] at ee
    have ee2 := Option.some.inj ee
    rw [e, ee2]
    exact r
  have new : ObjOk X.prog X.w (upd H1 (s1.heap.push { cls := .type "dict_values", data := .fields #[.ref d] }).objs.size (.lst (kvs.map (·.2)))) h' (s1.heap.push { cls := .type "dict_values", data := .fields #[.ref d] }).objs.size (.lst (kvs.map (·.2))) := ⟨by rw [List.length_map]; omega, acc.toList, c, rv, by rw [Array.toArray_toList]; exact hl⟩
  exact ⟨.ref _, _, I2.laid (t' := tk) kp (Nat.le_refl _) new, rfl, q _ (I2.hok.fresh (Nat.le_refl _))⟩
end
def nV : Option L2.Key → V
  | none => .non
  | some k => kV k
def NGet (H : Hp) (a b : Addr) (r : Option V) : Prop := ∃ (kvs : List (List L2.Key × V)) (ks : List (Option L2.Key)), Rd H a (.dT kvs) ∧ H b = some (.tup (ks.map nV)) ∧ r = valV (kvs.map fun e => (e.1.map some, e.2)) ks
def tGetN (td ty : TE) : TE := fun σ H Q => td σ H fun x H1 => ∃ a, x = .ref a ∧ IsD H1 a ∧ ty σ H1 fun y H2 => ∃ b o, y = .ref b ∧ NGet H2 a b o ∧ Q (o.getD .non) H2
section
variable {P : Program} {w : World}
theorem nv_is {k : Option L2.Key} {u : Value} (r : RelV (nV k) u) : (noneKind P w).is k u = true := by
  cases k with
  | none =>
    have e : u = Value.none := r
    subst e
    rfl
  | some k => exact kV_is (P := P) (w := w) r
theorem nitems_are : ∀ {ks : List (Option L2.Key)} {us : List Value}, Vals (ks.map nV) us → ItemsAre (noneKind P w) ks us
  | [], _, r => by
    rw [List.map_nil] at r
    cases r
    exact .nil
  | k :: ks, _, r => by
    rw [List.map_cons] at r
    cases r with
    | cons h t => exact .cons (nv_is h) (nitems_are t)
theorem items_some : ∀ {ks : List L2.Key} {us : List Value}, ItemsAre (mixKind P w) ks us → ItemsAre (noneKind P w) (ks.map some) us
  | [], _, h => by cases h; exact .nil
  | k :: ks, _, h => by
    cases h with
    | cons h t => exact .cons (show (noneKind P w).is (some k) _ = true from h) (items_some t)
theorem map_some_inj : ∀ {a b : List L2.Key}, a.map some = b.map some → a = b
  | [], [], _ => rfl
  | [], _ :: _, e => by cases e
  | _ :: _, [], e => by cases e
  | x :: xs, y :: ys, e => by
    rw [List.map_cons, List.map_cons] at e
    injection e with e1 e2
    rw [Option.some.inj e1, map_some_inj e2]
theorem dict_some {h : Heap} {a : Addr} {xs : List (List L2.Key × Addr × Value)} (d : h.DictOfH (tupleKind (mixKind P w)) a xs) : h.DictOfH (tupleKind (noneKind P w)) a (xs.map fun x => (x.1.map some, x.2)) := by
  obtain ⟨o, es, ep, ho, hx, hdt, he, his, hn⟩ := d
  refine ⟨o, es, ep, ho, hx, hdt, ?_, fun x hm => ?_, ?_⟩
  · rw [he, List.map_map]
    refine List.map_congr_left fun x _ => ?_
    show entryOfKey _ x = entryOfKey _ (x.1.map some, x.2)
    unfold entryOfKey
    have e : (tupleKind (noneKind P w)).hash (x.1.map some) = (tupleKind (mixKind P w)).hash x.1 := by
      show tupleKeyHash _ _ = tupleKeyHash _ _
      unfold tupleKeyHash
      rw [List.map_map]
      rfl
    rw [e]
  · obtain ⟨y, hy, rfl⟩ := List.mem_map.mp hm
    obtain ⟨oy, items, n, e1, e2, e3, e4⟩ := his y hy
    exact ⟨oy, items, n, e1, e2, e3, items_some e4⟩
  · rw [List.map_map]
    refine List.pairwise_map.mpr ((List.pairwise_map.mp hn).imp fun n e => n (map_some_inj e))
theorem val_some {H : Hp} {kvs : List (List L2.Key × V)} {xs : List (List L2.Key × Addr × Value)} (r : KT H kvs xs) (k : List (Option L2.Key)) : RelO (valV (kvs.map fun e => (e.1.map some, e.2)) k) ((atKey (xs.map fun x => (x.1.map some, x.2)) k).map (·.2)) := by
  induction r with
  | nil => exact True.intro
  | @cons p q ps qs h t ih =>
    obtain ⟨h1, _, h2⟩ := h
    rw [List.map_cons, List.map_cons]
    by_cases e : p.1.map some = k
    · have e' : q.1.map some = k := by rw [← h1]; exact e
      have b : atKey ((q.1.map some, q.2) :: qs.map fun x => (x.1.map some, x.2)) k = some q.2 := by simp [atKey, List.find?_cons, e']
      rw [valV_pos (p := (p.1.map some, p.2)) e, b]
      exact h2
    · have e' : ¬ q.1.map some = k := fun z => e (by rw [h1]; exact z)
      have b : atKey ((q.1.map some, q.2) :: qs.map fun x => (x.1.map some, x.2)) k = atKey (qs.map fun x => (x.1.map some, x.2)) k := by simp [atKey, List.find?_cons, e']
      rw [valV_neg (p := (p.1.map some, p.2)) e, b]
      exact ih
end
section
variable {X : Cx} {pins : List (Addr × Obj)} {σ : L2.St} {H : Hp} {s : Shared} {a b : Addr} {A : Around} {E : Value → Shared → Prop} {o e : Expr} {td ty : TE} {apos cpos pos : Pos}
theorem d_getN {r : Option V} {Q : Value → Shared → Prop} (hu : A.units + 1 < cLine) (I : Inv X pins σ H s) (g : NGet H a b r) (h : ∀ w' s', Inv X pins σ H s' → RelV (r.getD .non) w' → Q w' s') :
    wpAny (model X.prog X.w) A (call (.builtin "dict.get") [.ref a, .ref b]) Q E s := by
  obtain ⟨kvs, ks, e, eb, l⟩ := g
  obtain ⟨z, hd, xs, rel, dd⟩ := dt_rd I.hok e
  obtain ⟨_, its, rv, ⟨oy, hg, hcl, m, hda⟩⟩ := I.hok b _ eb
  have key : IsTupleKey (noneKind X.prog X.w) s.heap ks b := ⟨oy, _, m, hg, hcl, hda, by simpa using nitems_are rv⟩
  refine call_meetsIn PySem.F.slot_dict_get dd.typeIs PySem.F.entry_dict_get (PySem.F.args_dict_get_2 _ _) (meetsH_dict_get (tupleKind (noneKind X.prog X.w)) a b hd) ⟨tupleKind_room_in1 hu, ks, _, key, dict_some dd, h _ _ (I.tok _) ?_⟩
  rw [l]
  exact (val_some rel ks).getD rfl
theorem pe_getN (hu : X.A.units + 1 < cLine) (ho : PE X o td) (he : PE X e ty) (m : M1 X o "get" apos e cpos) : PE X (.Call (.Attribute o "get" apos) [e] [] cpos) (tGetN td ty) := by
  refine ⟨fun pins s σ H Q I h => ?_⟩
  refine wpAny_Call_method m.base m.few m.line PySem.F.plainAttrs_dict PySem.F.slot_dict_get PySem.F.type_dict_get (thn (ho.run pins s σ H _ I h) fun u s1 ⟨x, H1, I1, rx, a, ex, d, q1⟩ => ?_)
  subst ex
  obtain rfl : u = Value.ref a := rx
  obtain ⟨ty1, ty2, _⟩ := isD_at I1 d
  refine ⟨ty1, ty2, ?_⟩
  rw [m.trees]
  refine Calls.callWith_builtin rfl (Calls.evalArgs_plain (Calls.spliced_cons (thn (he.run pins s1 σ H1 _ I1 q1) fun wv s2 ⟨y, H2, I2, ry, b, rv0, ey, g, q2⟩ => Calls.spliced_nil ?_)))
  subst ey
  obtain rfl : wv = Value.ref b := ry
  exact d_getN hu I2 g fun w' s3 I3 rw' => ⟨_, H2, I3, rw', q2⟩
end
end Lw
namespace Wp
open PySem
abbrev Lead := (Nat × Str) × Nat
abbrev Leads := List Lead
def getL (L : Leads) (k : Nat) (n : Str) : Option Nat := (L.find? fun e => decide (e.1 = (k, n))).map (·.2)
/-- each once, where it stands first -/
def firsts : List Nat → List Nat → List Nat
  | acc, [] => acc
  | acc, x :: xs => firsts (if x ∈ acc then acc else acc ++ [x]) xs
def vals (L : Leads) : List Nat := L.map (·.2)
def cnt (L : Leads) : Nat := (firsts [] (vals L)).length
def walkL (L : Leads) : Nat → List Str → Option Nat
  | k, [] => some k
  | k, n :: ns => match getL L k n with
    | none => none
    | some t => walkL L t ns
def growA (st : Leads × Nat × Nat) (n : Str) : Leads × Nat × Nat :=
  match getL st.1 st.2.2 n with
  | some t => (st.1, st.2.1, t)
  | none => (st.1 ++ [((st.2.2, n), st.2.1 + 1)], st.2.1 + 1, st.2.1 + 1)
def growW (st : Leads × Nat) (kn : Nat × List Str) : Leads × Nat := ((kn.2.foldl growA (st.1, st.2, kn.1)).1, (kn.2.foldl growA (st.1, st.2, kn.1)).2.1)
def grow (L : Leads) (told : List (Nat × List Str)) : Leads := (told.foldl growW (L, cnt L)).1
theorem mem_firsts {x : Nat} : ∀ {xs acc : List Nat}, x ∈ firsts acc xs ↔ x ∈ acc ∨ x ∈ xs
  | [], acc => by simp [firsts]
  | y :: ys, acc => by
    rw [firsts, mem_firsts]
    split
    · rename_i h
      rw [List.mem_cons]
      exact ⟨fun z => z.imp id .inr, fun z => z.elim .inl fun z => z.elim (fun e => .inl (e ▸ h)) .inr⟩
    · rw [List.mem_append, List.mem_singleton, List.mem_cons]
      exact ⟨fun z => z.elim (fun z => z.imp id .inl) fun z => .inr (.inr z), fun z => z.elim (fun z => .inl (.inl z)) fun z => z.elim (fun e => .inl (.inr e)) .inr⟩
theorem firsts_nodup : ∀ {xs acc : List Nat}, acc.Nodup → (firsts acc xs).Nodup
  | [], acc, h => h
  | y :: ys, acc, h => by
    rw [firsts]
    refine firsts_nodup ?_
    split
    · exact h
    · rename_i n
      exact List.nodup_append.mpr ⟨h, by simp, fun a ha b hb e => n (List.mem_singleton.mp hb ▸ e ▸ ha)⟩
theorem firsts_le : ∀ {xs acc : List Nat}, (firsts acc xs).length ≤ acc.length + xs.length
  | [], acc => by simp [firsts]
  | y :: ys, acc => by
    rw [firsts]
    refine Nat.le_trans firsts_le ?_
    split
    · rw [List.length_cons]
      omega
    · rw [List.length_append, List.length_cons, List.length_cons, List.length_nil]
      omega
theorem getL_nil {k : Nat} {n : Str} : getL [] k n = none := rfl
theorem getL_cons {e : Lead} {L : Leads} {k : Nat} {n : Str} : getL (e :: L) k n = if e.1 = (k, n) then some e.2 else getL L k n := by
  unfold getL
  rw [List.find?_cons]
  by_cases h : e.1 = (k, n)
  · rw [if_pos h, decide_eq_true h]
    rfl
  · rw [if_neg h, decide_eq_false h]
theorem getL_mem {k : Nat} {n : Str} {t : Nat} : ∀ {L : Leads}, getL L k n = some t → ((k, n), t) ∈ L
  | [], h => by cases h
  | e :: L, h => by
    rw [getL_cons] at h
    split at h
    · rename_i z
      cases h
      obtain ⟨a, b⟩ := e
      cases z
      exact List.mem_cons_self
    · exact List.mem_cons_of_mem _ (getL_mem h)
theorem getL_none {k : Nat} {n : Str} : ∀ {L : Leads}, getL L k n = none ↔ ∀ e ∈ L, e.1 ≠ (k, n)
  | [] => by simp [getL_nil]
  | e :: L => by
    rw [getL_cons]
    split
    · rename_i z
      simp [z]
    · rename_i z
      rw [getL_none]
      simp [z]
theorem getL_of {k : Nat} {n : Str} {t : Nat} : ∀ {L : Leads}, (L.map (·.1)).Nodup → ((k, n), t) ∈ L → getL L k n = some t
  | [], _, h => by cases h
  | e :: L, nd, h => by
    rw [List.map_cons, List.nodup_cons] at nd
    rw [getL_cons]
    rcases List.mem_cons.mp h with rfl | h
    · rw [if_pos rfl]
    · rw [if_neg fun z => nd.1 (List.mem_map.mpr ⟨_, h, z.symm⟩)]
      exact getL_of nd.2 h
theorem getL_app {L M : Leads} {k : Nat} {n : Str} : getL (L ++ M) k n = (getL L k n).or (getL M k n) := by
  unfold getL
  rw [List.find?_append]
  cases L.find? fun e => decide (e.1 = (k, n)) <;> rfl
structure WfL (L : Leads) : Prop where
  nd : (L.map (·.1)).Nodup
  pos : ∀ e ∈ L, 0 < e.2
  src : ∀ e ∈ L, e.1.1 = 0 ∨ e.1.1 ∈ vals L
theorem WfL.nil : WfL [] := ⟨List.nodup_nil, fun e h => (List.not_mem_nil h).elim, fun e h => (List.not_mem_nil h).elim⟩
theorem mem_vals {L : Leads} {e : Lead} (h : e ∈ L) : e.2 ∈ vals L := List.mem_map.mpr ⟨e, h, rfl⟩
theorem WfL.getpos {L : Leads} (h : WfL L) {k : Nat} {n : Str} {t : Nat} (e : getL L k n = some t) : 0 < t := h.pos _ (getL_mem e)
theorem WfL.snoc {L : Leads} (h : WfL L) {k t : Nat} {n : Str} (e : getL L k n = none) (hk : k = 0 ∨ k ∈ vals L) (ht : 0 < t) : WfL (L ++ [((k, n), t)]) := by
  refine ⟨?_, fun x hx => ?_, fun x hx => ?_⟩
  · rw [List.map_append]
    exact List.nodup_append.mpr ⟨h.nd, by simp, fun a ha b hb c => by
      obtain ⟨y, hy, rfl⟩ := List.mem_map.mp ha
      rw [List.map_cons, List.map_nil, List.mem_singleton] at hb
      exact getL_none.mp e y hy (c.trans hb)⟩
  · rcases List.mem_append.mp hx with hx | hx
    · exact h.pos x hx
    · rw [List.mem_singleton.mp hx]
      exact ht
  · have w : ∀ {z}, z ∈ vals L → z ∈ vals (L ++ [((k, n), t)]) := fun hz => by
      unfold vals
      rw [List.map_append]
      exact List.mem_append_left _ hz
    rcases List.mem_append.mp hx with hx | hx
    · exact (h.src x hx).imp id w
    · rw [List.mem_singleton.mp hx]
      exact hk.imp id w
/-- M goes on where L ended -/
def Ext (L M : Leads) : Prop := ∃ N, M = L ++ N
theorem Ext.refl {L : Leads} : Ext L L := ⟨[], (List.append_nil L).symm⟩
theorem Ext.trans {L M N : Leads} (h : Ext L M) (k : Ext M N) : Ext L N := by
  obtain ⟨a, rfl⟩ := h
  obtain ⟨b, rfl⟩ := k
  exact ⟨a ++ b, List.append_assoc ..⟩
theorem Ext.get {L M : Leads} (h : Ext L M) {k : Nat} {n : Str} {t : Nat} (e : getL L k n = some t) : getL M k n = some t := by
  obtain ⟨a, rfl⟩ := h
  rw [getL_app, e]
  rfl
theorem Ext.walk {L M : Leads} (h : Ext L M) : ∀ {ns : List Str} {k t : Nat}, walkL L k ns = some t → walkL M k ns = some t
  | [], k, t, e => e
  | n :: ns, k, t, e => by
    unfold walkL at e ⊢
    cases c : getL L k n with
    | none => rw [c] at e; cases e
    | some u =>
      rw [c] at e
      rw [h.get c]
      exact h.walk e
theorem Ext.vals {L M : Leads} (h : Ext L M) {x : Nat} (e : x ∈ vals L) : x ∈ Wp.vals M := by
  obtain ⟨a, rfl⟩ := h
  unfold Wp.vals
  rw [List.map_append]
  exact List.mem_append_left _ e
structure GInv (st : Leads × Nat × Nat) : Prop where
  wf : WfL st.1
  at_ : st.2.2 = 0 ∨ st.2.2 ∈ vals st.1
theorem growA_inv {st : Leads × Nat × Nat} {n : Str} (h : GInv st) : GInv (growA st n) ∧ Ext st.1 (growA st n).1 ∧ getL (growA st n).1 st.2.2 n = some (growA st n).2.2 ∧ (growA st n).1.length ≤ st.1.length + 1 ∧ (growA st n).2.2 ∈ vals (growA st n).1 := by
  unfold growA
  cases e : getL st.1 st.2.2 n with
  | some t => exact ⟨⟨h.wf, .inr (mem_vals (getL_mem e))⟩, .refl, e, Nat.le_succ _, mem_vals (getL_mem e)⟩
  | none =>
    have wf := h.wf.snoc e h.at_ (Nat.succ_pos st.2.1)
    have m : ((st.2.2, n), st.2.1 + 1) ∈ st.1 ++ [((st.2.2, n), st.2.1 + 1)] := List.mem_append_right _ (List.mem_singleton_self _)
    exact ⟨⟨wf, .inr (mem_vals m)⟩, ⟨_, rfl⟩, getL_of wf.nd m, Nat.le_of_eq List.length_append, mem_vals m⟩
theorem growAs_inv : ∀ {ns : List Str} {st : Leads × Nat × Nat}, GInv st → GInv (ns.foldl growA st) ∧ Ext st.1 (ns.foldl growA st).1 ∧ walkL (ns.foldl growA st).1 st.2.2 ns = some (ns.foldl growA st).2.2 ∧ (ns.foldl growA st).1.length ≤ st.1.length + ns.length ∧ (ns = [] ∨ (ns.foldl growA st).2.2 ∈ vals (ns.foldl growA st).1)
  | [], st, h => ⟨h, .refl, rfl, Nat.le_refl _, .inl rfl⟩
  | n :: ns, st, h => by
    obtain ⟨h1, x1, g1, l1, v1⟩ := growA_inv (n := n) h
    obtain ⟨h2, x2, g2, l2, v2⟩ := growAs_inv (ns := ns) h1
    rw [List.foldl_cons]
    refine ⟨h2, x1.trans x2, ?_, by rw [List.length_cons]; omega, .inr ?_⟩
    · unfold walkL
      rw [x2.get g1]
      exact g2
    · rcases v2 with rfl | v2
      · exact v1
      · exact v2
/-- all letters of told terms -/
def letters (told : List (Nat × List Str)) : Nat := (told.map fun t => t.2.length).sum
theorem letters_app {a b : List (Nat × List Str)} : letters (a ++ b) = letters a + letters b := by
  unfold letters
  rw [List.map_append, List.sum_append]
theorem growWs_inv : ∀ {told : List (Nat × List Str)} {st : Leads × Nat}, WfL st.1 → (∀ t ∈ told, t.1 = 0 ∨ t.1 ∈ vals st.1) → WfL (told.foldl growW st).1 ∧ Ext st.1 (told.foldl growW st).1 ∧
    (∀ t ∈ told, ∃ k, walkL (told.foldl growW st).1 t.1 t.2 = some k ∧ (t.2 = [] ∨ k ∈ vals (told.foldl growW st).1)) ∧ (told.foldl growW st).1.length ≤ st.1.length + letters told
  | [], st, h, _ => ⟨h, .refl, fun _ z => (List.not_mem_nil z).elim, Nat.le_refl _⟩
  | t :: told, st, h, hk => by
    obtain ⟨h1, x1, g1, l1, v1⟩ := growAs_inv (ns := t.2) (st := (st.1, st.2, t.1)) ⟨h, hk t List.mem_cons_self⟩
    obtain ⟨h2, x2, g2, l2⟩ := growWs_inv (told := told) (st := growW st t) h1.wf fun u hu => (hk u (List.mem_cons_of_mem _ hu)).imp id x1.vals
    rw [List.foldl_cons]
    refine ⟨h2, Ext.trans x1 x2, fun u hu => ?_, ?_⟩
    · rcases List.mem_cons.mp hu with rfl | hu
      · exact ⟨_, x2.walk g1, v1.imp id x2.vals⟩
      · exact g2 u hu
    · have e : letters (t :: told) = t.2.length + letters told := rfl
      have l3 : (growW st t).1.length ≤ st.1.length + t.2.length := l1
      omega
theorem grow_inv {L : Leads} {told : List (Nat × List Str)} (h : WfL L) (hk : ∀ t ∈ told, t.1 = 0 ∨ t.1 ∈ vals L) : WfL (grow L told) ∧ Ext L (grow L told) ∧ (∀ t ∈ told, ∃ k, walkL (grow L told) t.1 t.2 = some k ∧ (t.2 = [] ∨ k ∈ vals (grow L told))) ∧ (grow L told).length ≤ L.length + letters told :=
  growWs_inv (st := (L, cnt L)) h hk
end Wp
namespace Wp
open PySem
structure MS where
  W : Nat → List (Str × Nat)
  ab : Nat → Nat
  wt : Nat → Nat
  wa : List (Nat × Nat)
def upf {α : Type} (f : Nat → α) (k : Nat) (v : α) : Nat → α := fun j => if j = k then v else f j
theorem upf_same {α : Type} {f : Nat → α} {k : Nat} {v : α} : upf f k v k = v := if_pos rfl
theorem upf_ne {α : Type} {f : Nat → α} {k j : Nat} {v : α} (h : j ≠ k) : upf f k v j = f j := if_neg h
def lk (xs : List (Str × Nat)) (n : Str) : Option Nat := (xs.find? fun e => decide (e.1 = n)).map (·.2)
theorem lk_cons {e : Str × Nat} {xs : List (Str × Nat)} {n : Str} : lk (e :: xs) n = if e.1 = n then some e.2 else lk xs n := by
  unfold lk
  rw [List.find?_cons]
  by_cases h : e.1 = n
  · rw [if_pos h, decide_eq_true h]
    rfl
  · rw [if_neg h, decide_eq_false h]
theorem lk_mem {n : Str} {t : Nat} : ∀ {xs : List (Str × Nat)}, lk xs n = some t → (n, t) ∈ xs
  | [], h => by cases h
  | e :: xs, h => by
    rw [lk_cons] at h
    split at h
    · rename_i z
      cases h
      obtain ⟨a, b⟩ := e
      cases z
      exact List.mem_cons_self
    · exact List.mem_cons_of_mem _ (lk_mem h)
theorem lk_none {n : Str} : ∀ {xs : List (Str × Nat)}, lk xs n = none ↔ ∀ e ∈ xs, e.1 ≠ n
  | [] => by simp [lk]
  | e :: xs => by
    rw [lk_cons]
    split
    · rename_i z
      simp [z]
    · rename_i z
      rw [lk_none]
      simp [z]
theorem lk_of {n : Str} {t : Nat} : ∀ {xs : List (Str × Nat)}, (xs.map (·.1)).Nodup → (n, t) ∈ xs → lk xs n = some t
  | [], _, h => by cases h
  | e :: xs, nd, h => by
    rw [List.map_cons, List.nodup_cons] at nd
    rw [lk_cons]
    rcases List.mem_cons.mp h with rfl | h
    · rw [if_pos rfl]
    · rw [if_neg fun z => nd.1 (List.mem_map.mpr ⟨_, h, z.symm⟩)]
      exact lk_of nd.2 h
/-- what stood at the one goes to the other, or waits -/
def mfold (Wh : List (Str × Nat)) (wa : List (Nat × Nat)) : List (Str × Nat) → List (Str × Nat) × List (Nat × Nat)
  | [] => (Wh, wa)
  | e :: r => match lk Wh e.1 with
    | some t => mfold Wh (wa ++ [(t, e.2)]) r
    | none => mfold (Wh ++ [e]) wa r
def topF (ab : Nat → Nat) : Nat → Nat → Nat
  | 0, k => k
  | f + 1, k => if ab k = k then k else topF ab f (ab k)
def mjoin (s : MS) (l h : Nat) (wa : List (Nat × Nat)) : MS :=
  ⟨upf s.W h (mfold (s.W h) wa (s.W l)).1, upf s.ab l h, upf s.wt h (s.wt h + s.wt l), (mfold (s.W h) wa (s.W l)).2⟩
def mstep (N : Nat) (s : MS) (p : Nat × Nat) (wa : List (Nat × Nat)) : MS :=
  if topF s.ab N p.1 = topF s.ab N p.2 then { s with wa := wa }
  else if s.wt (topF s.ab N p.2) < s.wt (topF s.ab N p.1) then mjoin s (topF s.ab N p.2) (topF s.ab N p.1) wa
  else mjoin s (topF s.ab N p.1) (topF s.ab N p.2) wa
def mrun (N : Nat) : Nat → MS → MS
  | 0, s => s
  | f + 1, s => match s.wa.getLast? with
    | none => s
    | some p => mrun N f (mstep N s p s.wa.dropLast)
def ksOf (L : Leads) (pairs : List (Nat × Nat)) : List Nat := firsts [] (0 :: vals L ++ pairs.flatMap fun p => [p.1, p.2])
def ways (L : Leads) (k : Nat) : List (Str × Nat) := (L.filter fun e => decide (e.1.1 = k)).map fun e => (e.1.2, e.2)
def ms0 (L : Leads) (pairs : List (Nat × Nat)) : MS := ⟨ways L, id, fun k => 1 + (ways L k).length, pairs⟩
def mEnd (L : Leads) (pairs : List (Nat × Nat)) : MS := mrun (ksOf L pairs).length ((ksOf L pairs).length * (L.length + 1) + pairs.length) (ms0 L pairs)
def outL (ks : List Nat) (s : MS) : Leads := (ks.filter fun k => decide (s.ab k = k)).flatMap fun k => (s.W k).map fun e => ((k, e.1), topF s.ab ks.length e.2)
def merge (L : Leads) (pairs : List (Nat × Nat)) : Leads := outL (ksOf L pairs) (mEnd L pairs)
theorem mfold_spec : ∀ {r Wh : List (Str × Nat)} {wa : List (Nat × Nat)}, (Wh.map (·.1)).Nodup →
    ((mfold Wh wa r).1.map (·.1)).Nodup ∧ (∀ e ∈ Wh, e ∈ (mfold Wh wa r).1) ∧ (∀ p ∈ wa, p ∈ (mfold Wh wa r).2) ∧ (∀ e ∈ r, ∃ t, (e.1, t) ∈ (mfold Wh wa r).1 ∧ (t = e.2 ∨ (t, e.2) ∈ (mfold Wh wa r).2)) ∧
    (∀ e ∈ (mfold Wh wa r).1, e ∈ Wh ∨ e ∈ r) ∧ (∀ p ∈ (mfold Wh wa r).2, p ∈ wa ∨ ∃ e ∈ (mfold Wh wa r).1, ∃ e' ∈ r, p = (e.2, e'.2)) ∧ (mfold Wh wa r).2.length ≤ wa.length + r.length
  | [], Wh, wa, nd => ⟨nd, fun _ h => h, fun _ h => h, fun _ h => (List.not_mem_nil h).elim, fun _ h => .inl h, fun _ h => .inl h, Nat.le_refl _⟩
  | e :: r, Wh, wa, nd => by
    rw [mfold]
    cases c : lk Wh e.1 with
    | some t =>
      obtain ⟨h1, h2, h3, h4, h5, h6, h7⟩ := mfold_spec (r := r) (wa := wa ++ [(t, e.2)]) nd
      dsimp only
      refine ⟨h1, h2, fun p hp => h3 p (List.mem_append_left _ hp), fun x hx => ?_, fun x hx => (h5 x hx).imp id (List.mem_cons_of_mem _), fun p hp => ?_, ?_⟩
      · rcases List.mem_cons.mp hx with rfl | hx
        · exact ⟨t, h2 _ (lk_mem c), .inr (h3 _ (List.mem_append_right _ (List.mem_singleton_self _)))⟩
        · exact h4 x hx
      · rcases h6 p hp with z | ⟨x, hx, y, hy, rfl⟩
        · rcases List.mem_append.mp z with z | z
          · exact .inl z
          · exact .inr ⟨_, h2 _ (lk_mem c), e, List.mem_cons_self, List.mem_singleton.mp z⟩
        · exact .inr ⟨x, hx, y, List.mem_cons_of_mem _ hy, rfl⟩
      · rw [List.length_append, List.length_singleton] at h7
        rw [List.length_cons]
        omega
    | none =>
      have nd2 : ((Wh ++ [e]).map (·.1)).Nodup := by
        rw [List.map_append]
        exact List.nodup_append.mpr ⟨nd, by simp, fun a ha b hb z => by
          obtain ⟨y, hy, rfl⟩ := List.mem_map.mp ha
          rw [List.map_cons, List.map_nil, List.mem_singleton] at hb
          exact lk_none.mp c y hy (z.trans hb)⟩
      obtain ⟨h1, h2, h3, h4, h5, h6, h7⟩ := mfold_spec (r := r) (wa := wa) nd2
      dsimp only
      refine ⟨h1, fun x hx => h2 x (List.mem_append_left _ hx), h3, fun x hx => ?_, fun x hx => ?_, fun p hp => ?_, ?_⟩
      · rcases List.mem_cons.mp hx with rfl | hx
        · exact ⟨x.2, h2 _ (List.mem_append_right _ (List.mem_singleton_self _)), .inl rfl⟩
        · exact h4 x hx
      · rcases h5 x hx with z | z
        · rcases List.mem_append.mp z with z | z
          · exact .inl z
          · rw [List.mem_singleton.mp z]
            exact .inr List.mem_cons_self
        · exact .inr (List.mem_cons_of_mem _ z)
      · rcases h6 p hp with z | ⟨x, hx, y, hy, rfl⟩
        · exact .inl z
        · exact .inr ⟨x, hx, y, List.mem_cons_of_mem _ hy, rfl⟩
      · rw [List.length_cons]
        omega
theorem topF_fix {ab : Nat → Nat} {t : Nat} (h : ab t = t) : ∀ f, topF ab f t = t
  | 0 => rfl
  | f + 1 => if_pos h
structure AInv (ks : List Nat) (s : MS) : Prop where
  abk : ∀ k ∈ ks, s.ab k ∈ ks
  abn : ∀ k, k ∉ ks → s.ab k = k
  abw : ∀ k ∈ ks, s.ab k ≠ k → s.wt k < s.wt (s.ab k)
  wtp : ∀ k ∈ ks, 0 < s.wt k
  z : ∀ k, k ≠ 0 → s.ab k ≠ 0
def rk (ks : List Nat) (s : MS) (k : Nat) : Nat := (ks.filter fun j => decide (s.wt k < s.wt j)).length
theorem filter_lt {α : Type} {p q : α → Bool} : ∀ {l : List α}, (∀ x ∈ l, p x = true → q x = true) → (∃ x ∈ l, q x = true ∧ p x = false) → (l.filter p).length < (l.filter q).length
  | [], _, h => by obtain ⟨x, hx, _⟩ := h; cases hx
  | a :: l, h, w => by
    have le : ∀ {l : List α}, (∀ x ∈ l, p x = true → q x = true) → (l.filter p).length ≤ (l.filter q).length := by
      intro l
      induction l with
      | nil => intro _; exact Nat.le_refl _
      | cons b l ih =>
        intro h
        have i := ih fun x hx => h x (List.mem_cons_of_mem _ hx)
        rw [List.filter_cons, List.filter_cons]
        by_cases c : p b = true
        · rw [if_pos c, if_pos (h b List.mem_cons_self c), List.length_cons, List.length_cons]
          omega
        · rw [if_neg c]
          split
          · rw [List.length_cons]; omega
          · exact i
    have h2 : ∀ x ∈ l, p x = true → q x = true := fun x hx => h x (List.mem_cons_of_mem _ hx)
    rw [List.filter_cons, List.filter_cons]
    obtain ⟨x, hx, qx, px⟩ := w
    rcases List.mem_cons.mp hx with rfl | hx
    · rw [if_neg (by rw [px]; exact Bool.false_ne_true), if_pos qx, List.length_cons]
      have := le h2
      omega
    · have i := filter_lt h2 ⟨x, hx, qx, px⟩
      by_cases c : p a = true
      · rw [if_pos c, if_pos (h a List.mem_cons_self c), List.length_cons, List.length_cons]
        omega
      · rw [if_neg c]
        split
        · rw [List.length_cons]; omega
        · exact i
variable {ks : List Nat} {s : MS}
theorem rk_up (A : AInv ks s) {k : Nat} (hk : k ∈ ks) (h : s.ab k ≠ k) : rk ks s (s.ab k) < rk ks s k := by
  have w := A.abw k hk h
  refine filter_lt (fun x _ hx => decide_eq_true ?_) ⟨s.ab k, A.abk k hk, decide_eq_true w, decide_eq_false (Nat.lt_irrefl _)⟩
  have := of_decide_eq_true hx
  omega
theorem rk_lt {k : Nat} (hk : k ∈ ks) : rk ks s k < ks.length := by
  have h := filter_lt (p := fun j => decide (s.wt k < s.wt j)) (q := fun _ => true) (l := ks) (fun _ _ _ => rfl) ⟨k, hk, rfl, decide_eq_false (Nat.lt_irrefl _)⟩
  rw [List.filter_eq_self.mpr fun _ _ => rfl] at h
  exact h
theorem top_rk (A : AInv ks s) : ∀ (f : Nat) {k : Nat}, k ∈ ks → rk ks s k ≤ f → topF s.ab f k ∈ ks ∧ s.ab (topF s.ab f k) = topF s.ab f k
  | 0, k, hk, h => ⟨hk, Decidable.byContradiction fun n => by
      have := rk_up A hk n
      omega⟩
  | f + 1, k, hk, h => by
    unfold topF
    by_cases c : s.ab k = k
    · rw [if_pos c]
      exact ⟨hk, c⟩
    · rw [if_neg c]
      have := rk_up A hk c
      exact top_rk A f (A.abk k hk) (by omega)
abbrev top (ks : List Nat) (s : MS) (k : Nat) : Nat := topF s.ab ks.length k
theorem top_mem (A : AInv ks s) {k : Nat} (hk : k ∈ ks) : top ks s k ∈ ks := (top_rk A _ hk (Nat.le_of_lt (rk_lt hk))).1
theorem top_fix (A : AInv ks s) {k : Nat} (hk : k ∈ ks) : s.ab (top ks s k) = top ks s k := (top_rk A _ hk (Nat.le_of_lt (rk_lt hk))).2
theorem top_out (A : AInv ks s) {k : Nat} (hk : k ∉ ks) : top ks s k = k := topF_fix (A.abn k hk) _
theorem top_self {k : Nat} (h : s.ab k = k) : top ks s k = k := topF_fix h _
/-- as far as it goes, it is the same -/
theorem topF_more {ab : Nat → Nat} : ∀ (f : Nat) {k t : Nat}, topF ab f k = t → ab t = t → ∀ g, f ≤ g → topF ab g k = t
  | 0, k, t, e, h, g, _ => by
    cases e
    exact topF_fix h g
  | f + 1, k, t, e, h, 0, l => by omega
  | f + 1, k, t, e, h, g + 1, l => by
    unfold topF at e ⊢
    by_cases c : ab k = k
    · rw [if_pos c] at e ⊢
      exact e
    · rw [if_neg c] at e ⊢
      exact topF_more f e h g (by omega)
theorem top_up (A : AInv ks s) (k : Nat) : top ks s (s.ab k) = top ks s k := by
  by_cases hk : k ∈ ks
  · by_cases c : s.ab k = k
    · rw [c]
    · have r := rk_up A hk c
      have l := rk_lt (s := s) hk
      have hk2 := A.abk k hk
      have z := top_rk A (rk ks s (s.ab k)) hk2 (Nat.le_refl _)
      have e1 : top ks s (s.ab k) = topF s.ab (rk ks s (s.ab k)) (s.ab k) := topF_more _ rfl z.2 _ (by omega)
      have e2 : top ks s k = topF s.ab (rk ks s (s.ab k)) (s.ab k) := topF_more (rk ks s (s.ab k) + 1) (by
        show (if s.ab k = k then k else topF s.ab (rk ks s (s.ab k)) (s.ab k)) = _
        rw [if_neg c]) z.2 _ (by omega)
      rw [e1, e2]
  · rw [A.abn k hk]
theorem top_pos (A : AInv ks s) : ∀ (f : Nat) {k : Nat}, k ≠ 0 → topF s.ab f k ≠ 0
  | 0, k, h => h
  | f + 1, k, h => by
    unfold topF
    split
    · exact h
    · exact top_pos A f (A.z k h)
section
variable {l h : Nat} {wa : List (Nat × Nat)}
theorem join_ainv (A : AInv ks s) (hl : l ∈ ks) (hh : h ∈ ks) (tl : s.ab l = l) (th : s.ab h = h) (ne : l ≠ h) (h0 : h ≠ 0) : AInv ks (mjoin s l h wa) where
  abk := fun k hk => by
    show upf s.ab l h k ∈ ks
    unfold upf
    split
    · exact hh
    · exact A.abk k hk
  abn := fun k hk => by
    show upf s.ab l h k = k
    have n1 : k ≠ l := fun e => hk (by rw [e]; exact hl)
    rw [upf_ne n1]
    exact A.abn k hk
  abw := fun k hk n => by
    show upf s.wt h (s.wt h + s.wt l) k < upf s.wt h (s.wt h + s.wt l) (upf s.ab l h k)
    have n : upf s.ab l h k ≠ k := n
    by_cases c : k = l
    · subst c
      rw [upf_same, upf_same, upf_ne ne]
      have := A.wtp _ hh
      omega
    · rw [upf_ne c] at n ⊢
      have nk : k ≠ h := fun e => n (by rw [e]; exact th)
      have w := A.abw k hk n
      rw [upf_ne nk]
      by_cases d : s.ab k = h
      · rw [d, upf_same]
        rw [d] at w
        omega
      · rw [upf_ne d]
        exact w
  wtp := fun k hk => by
    show 0 < upf s.wt h (s.wt h + s.wt l) k
    have := A.wtp k hk
    unfold upf
    split
    · have := A.wtp h hh
      omega
    · exact this
  z := fun k hk => by
    show upf s.ab l h k ≠ 0
    unfold upf
    split
    · exact h0
    · exact A.z k hk
theorem join_topF (A : AInv ks s) (hl : l ∈ ks) (hh : h ∈ ks) (tl : s.ab l = l) (th : s.ab h = h) (ne : l ≠ h) : ∀ (f : Nat) {k t : Nat}, topF s.ab f k = t → s.ab t = t →
    ∀ g, f + 1 ≤ g → topF (upf s.ab l h) g k = if t = l then h else t
  | _, _, _, _, _, 0, lg => by omega
  | 0, k, t, e, ht, g + 1, lg => by
    have e1 : k = t := e
    subst e1
    show (if upf s.ab l h k = k then k else topF (upf s.ab l h) g (upf s.ab l h k)) = _
    by_cases c : k = l
    · subst c
      rw [if_pos rfl, upf_same, if_neg ne.symm]
      exact topF_fix (by rw [upf_ne ne.symm]; exact th) _
    · rw [if_neg c, upf_ne c, if_pos ht]
  | f + 1, k, t, e, ht, g + 1, lg => by
    by_cases c : s.ab k = k
    · have e2 : k = t := by
        unfold topF at e
        rw [if_pos c] at e
        exact e
      subst e2
      exact join_topF A hl hh tl th ne 0 rfl ht (g + 1) (by omega)
    · unfold topF at e
      rw [if_neg c] at e
      have nk : k ≠ l := fun z => c (z ▸ tl)
      show (if upf s.ab l h k = k then k else topF (upf s.ab l h) g (upf s.ab l h k)) = _
      rw [upf_ne nk, if_neg c]
      exact join_topF A hl hh tl th ne f e ht g (by omega)
theorem join_top (A : AInv ks s) (hl : l ∈ ks) (hh : h ∈ ks) (tl : s.ab l = l) (th : s.ab h = h) (ne : l ≠ h) (k : Nat) : top ks (mjoin s l h wa) k = if top ks s k = l then h else top ks s k := by
  by_cases hk : k ∈ ks
  · have r := rk_lt (s := s) hk
    have z := top_rk A (rk ks s k) hk (Nat.le_refl _)
    have e := topF_more _ rfl z.2 ks.length (by omega)
    have e2 : top ks s k = topF s.ab (rk ks s k) k := e
    rw [e2]
    exact join_topF A hl hh tl th ne (rk ks s k) rfl z.2 ks.length (by omega)
  · have n1 : k ≠ l := fun e => hk (e ▸ hl)
    rw [top_out A hk, if_neg n1]
    refine top_self ?_
    show upf s.ab l h k = k
    rw [upf_ne n1]
    exact A.abn k hk
end
end Wp
namespace Wp
open PySem
inductive Cn (s : MS) : Nat → Nat → Prop
  | rfl (x : Nat) : Cn s x x
  | symm {x y : Nat} : Cn s x y → Cn s y x
  | trans {x y z : Nat} : Cn s x y → Cn s y z → Cn s x z
  | up (k : Nat) : Cn s k (s.ab k)
  | wa {x y : Nat} : (x, y) ∈ s.wa → Cn s x y
theorem Cn.topF {s : MS} : ∀ (f k : Nat), Cn s k (topF s.ab f k)
  | 0, k => .rfl k
  | f + 1, k => by
    unfold Wp.topF
    split
    · exact .rfl k
    · exact (Cn.up k).trans (Cn.topF f _)
structure MInv (ks : List Nat) (L : Leads) (s : MS) : Prop where
  A : AInv ks s
  wk : ∀ k ∈ ks, ∀ e ∈ s.W k, e.2 ∈ ks ∧ e.2 ≠ 0 ∧ e.1 ∈ L.map (·.1.2)
  wn : ∀ k ∈ ks, ((s.W k).map (·.1)).Nodup
  wak : ∀ p ∈ s.wa, p.1 ∈ ks ∧ p.2 ∈ ks ∧ p.1 ≠ 0 ∧ p.2 ≠ 0
  con : ∀ e ∈ L, ∃ t, (e.1.2, t) ∈ s.W (top ks s e.1.1) ∧ Cn s e.2 t
def tops (ks : List Nat) (s : MS) : Nat := (ks.filter fun k => decide (s.ab k = k)).length
def mu (ks : List Nat) (L : Leads) (s : MS) : Nat := tops ks s * (L.length + 1) + s.wa.length
variable {ks : List Nat} {L : Leads} {s : MS} {l h : Nat} {wa : List (Nat × Nat)} {p : Nat × Nat}
theorem MInv.few (M : MInv ks L s) {k : Nat} (hk : k ∈ ks) : (s.W k).length ≤ L.length := by
  have z := Lw.nodup_le (M.wn k hk) (m := L.map (·.1.2)) fun x hx => by
    obtain ⟨e, he, rfl⟩ := List.mem_map.mp hx
    exact (M.wk k hk e he).2.2
  rw [List.length_map, List.length_map] at z
  exact z
theorem join_inv (M : MInv ks L s) (hs : ∀ e ∈ L, e.1.1 ∈ ks) (ew : s.wa = wa ++ [p]) (hp : (top ks s p.1 = l ∧ top ks s p.2 = h) ∨ (top ks s p.1 = h ∧ top ks s p.2 = l)) (ne : l ≠ h) : MInv ks L (mjoin s l h wa) ∧ mu ks L (mjoin s l h wa) < mu ks L s := by
  have mp : p ∈ s.wa := by
    rw [ew]
    exact List.mem_append_right _ (List.mem_singleton_self _)
  obtain ⟨k1, k2, z1, z2⟩ := M.wak p mp
  have A := M.A
  have hl : l ∈ ks ∧ s.ab l = l ∧ l ≠ 0 := by
    rcases hp with ⟨e, _⟩ | ⟨_, e⟩
    · exact e ▸ ⟨top_mem A k1, top_fix A k1, top_pos A _ z1⟩
    · exact e ▸ ⟨top_mem A k2, top_fix A k2, top_pos A _ z2⟩
  have hh : h ∈ ks ∧ s.ab h = h ∧ h ≠ 0 := by
    rcases hp with ⟨_, e⟩ | ⟨e, _⟩
    · exact e ▸ ⟨top_mem A k2, top_fix A k2, top_pos A _ z2⟩
    · exact e ▸ ⟨top_mem A k1, top_fix A k1, top_pos A _ z1⟩
  obtain ⟨hl, tl, l0⟩ := hl
  obtain ⟨hh, th, h0⟩ := hh
  have A2 : AInv ks (mjoin s l h wa) := join_ainv A hl hh tl th ne h0
  have jt := fun k => join_top (wa := wa) A hl hh tl th ne k
  obtain ⟨f1, f2, f3, f4, f5, f6, f7⟩ := mfold_spec (r := s.W l) (wa := wa) (M.wn h hh)
  have Wh : (mjoin s l h wa).W h = (mfold (s.W h) wa (s.W l)).1 := upf_same
  have Wo : ∀ k, k ≠ h → (mjoin s l h wa).W k = s.W k := fun k n => upf_ne n
  have sub : ∀ e ∈ (mfold (s.W h) wa (s.W l)).1, e.2 ∈ ks ∧ e.2 ≠ 0 ∧ e.1 ∈ L.map (·.1.2) := fun e he => by
    rcases f5 e he with z | z
    · exact M.wk h hh e z
    · exact M.wk l hl e z
  have cn : ∀ x y, Cn s x y → Cn (mjoin s l h wa) x y := fun x y c => by
    induction c with
    | rfl x => exact .rfl x
    | symm _ i => exact i.symm
    | trans _ _ i j => exact i.trans j
    | up k =>
      by_cases e : k = l
      · rw [e, tl]
        exact .rfl l
      · have z := Cn.up (s := mjoin s l h wa) k
        rw [show (mjoin s l h wa).ab k = s.ab k from upf_ne e] at z
        exact z
    | @wa x y hm =>
      rw [ew] at hm
      rcases List.mem_append.mp hm with hm | hm
      · exact .wa (f3 _ hm)
      · have e : (x, y) = p := List.mem_singleton.mp hm
        have ex : x = p.1 := by rw [← e]
        have ey : y = p.2 := by rw [← e]
        have cx : Cn (mjoin s l h wa) x (top ks (mjoin s l h wa) x) := .topF _ _
        have cy : Cn (mjoin s l h wa) y (top ks (mjoin s l h wa) y) := .topF _ _
        rw [jt] at cx cy
        rw [ex] at cx ⊢
        rw [ey] at cy ⊢
        rcases hp with ⟨e1, e2⟩ | ⟨e1, e2⟩
        · rw [e1, if_pos rfl] at cx
          rw [e2, if_neg ne.symm] at cy
          exact cx.trans cy.symm
        · rw [e1, if_neg ne.symm] at cx
          rw [e2, if_pos rfl] at cy
          exact cx.trans cy.symm
  refine ⟨⟨A2, fun k hk e he => ?_, fun k hk => ?_, fun q hq => ?_, fun e he => ?_⟩, ?_⟩
  · by_cases c : k = h
    · rw [c, Wh] at he
      exact sub e he
    · rw [Wo k c] at he
      exact M.wk k hk e he
  · by_cases c : k = h
    · rw [c, Wh]
      exact f1
    · rw [Wo k c]
      exact M.wn k hk
  · rcases f6 q hq with z | ⟨x, hx, y, hy, rfl⟩
    · exact M.wak q (by rw [ew]; exact List.mem_append_left _ z)
    · have a := sub x hx
      have b := M.wk l hl y hy
      exact ⟨a.1, b.1, a.2.1, b.2.1⟩
  · obtain ⟨t, ht, c⟩ := M.con e he
    have c2 := cn _ _ c
    rw [jt]
    by_cases d : top ks s e.1.1 = l
    · rw [if_pos d, Wh]
      rw [d] at ht
      obtain ⟨u, hu, z⟩ := f4 _ ht
      rcases z with z | z
      · exact ⟨u, hu, by rw [z]; exact c2⟩
      · exact ⟨u, hu, c2.trans (Cn.symm (.wa z))⟩
    · rw [if_neg d]
      by_cases g : top ks s e.1.1 = h
      · rw [g] at ht ⊢
        rw [Wh]
        exact ⟨t, f2 _ ht, c2⟩
      · rw [Wo _ g]
        exact ⟨t, ht, c2⟩
  · have few := M.few hl
    have lt : tops ks (mjoin s l h wa) < tops ks s := by
      refine filter_lt (fun x _ hx => ?_) ⟨l, hl, decide_eq_true tl, decide_eq_false ?_⟩
      · have hx := of_decide_eq_true hx
        by_cases c : x = l
        · rw [c]
          exact decide_eq_true tl
        · have z : (mjoin s l h wa).ab x = s.ab x := upf_ne c
          rw [z] at hx
          exact decide_eq_true hx
      · have z : (mjoin s l h wa).ab l = h := upf_same
        rw [z]
        exact ne.symm
    have lw : s.wa.length = wa.length + 1 := by
      rw [ew, List.length_append]
      rfl
    have l2 : (mjoin s l h wa).wa.length ≤ wa.length + (s.W l).length := f7
    unfold mu
    have := Nat.mul_le_mul_right (L.length + 1) (Nat.succ_le_of_lt lt)
    rw [Nat.succ_mul] at this
    omega
theorem drop_inv (M : MInv ks L s) (ew : s.wa = wa ++ [p]) (e : top ks s p.1 = top ks s p.2) : MInv ks L { s with wa := wa } ∧ mu ks L { s with wa := wa } < mu ks L s := by
  have cn : ∀ x y, Cn s x y → Cn { s with wa := wa } x y := fun x y c => by
    induction c with
    | rfl x => exact .rfl x
    | symm _ i => exact i.symm
    | trans _ _ i j => exact i.trans j
    | up k => exact Cn.up (s := { s with wa := wa }) k
    | @wa x y hm =>
      rw [ew] at hm
      rcases List.mem_append.mp hm with hm | hm
      · exact .wa hm
      · have e2 : (x, y) = p := List.mem_singleton.mp hm
        have ex : x = p.1 := by rw [← e2]
        have ey : y = p.2 := by rw [← e2]
        have cx : Cn { s with wa := wa } x (topF s.ab ks.length x) := Cn.topF (s := { s with wa := wa }) _ _
        have cy : Cn { s with wa := wa } y (topF s.ab ks.length y) := Cn.topF (s := { s with wa := wa }) _ _
        rw [ex] at cx ⊢
        rw [ey] at cy ⊢
        have e3 : topF s.ab ks.length p.1 = topF s.ab ks.length p.2 := e
        rw [e3] at cx
        exact cx.trans cy.symm
  refine ⟨⟨⟨M.A.abk, M.A.abn, M.A.abw, M.A.wtp, M.A.z⟩, M.wk, M.wn, fun q hq => M.wak q (by rw [ew]; exact List.mem_append_left _ hq), fun e he => ?_⟩, ?_⟩
  · obtain ⟨t, ht, c⟩ := M.con e he
    exact ⟨t, ht, cn _ _ c⟩
  · have lw : s.wa.length = wa.length + 1 := by
      rw [ew, List.length_append]
      rfl
    unfold mu
    show tops ks s * (L.length + 1) + wa.length < tops ks s * (L.length + 1) + s.wa.length
    omega
theorem step_inv (M : MInv ks L s) (hs : ∀ e ∈ L, e.1.1 ∈ ks) (ew : s.wa = wa ++ [p]) : MInv ks L (mstep ks.length s p wa) ∧ mu ks L (mstep ks.length s p wa) < mu ks L s := by
  unfold mstep
  by_cases c : topF s.ab ks.length p.1 = topF s.ab ks.length p.2
  · rw [if_pos c]
    exact drop_inv M ew c
  · rw [if_neg c]
    by_cases d : s.wt (topF s.ab ks.length p.2) < s.wt (topF s.ab ks.length p.1)
    · rw [if_pos d]
      exact join_inv M hs ew (.inr ⟨rfl, rfl⟩) (fun e => c e.symm)
    · rw [if_neg d]
      exact join_inv M hs ew (.inl ⟨rfl, rfl⟩) c
theorem run_inv (hs : ∀ e ∈ L, e.1.1 ∈ ks) : ∀ (f : Nat) {s : MS}, MInv ks L s → mu ks L s ≤ f → MInv ks L (mrun ks.length f s) ∧ (mrun ks.length f s).wa = []
  | 0, s, M, hm => by
    refine ⟨M, ?_⟩
    unfold mu at hm
    exact List.eq_nil_of_length_eq_zero (by show s.wa.length = 0; omega)
  | f + 1, s, M, hm => by
    unfold mrun
    cases c : s.wa.getLast? with
    | none => exact ⟨M, List.getLast?_eq_none_iff.mp c⟩
    | some p =>
      have ew : s.wa = s.wa.dropLast ++ [p] := by
        obtain ⟨ys, hy⟩ := List.getLast?_eq_some_iff.mp c
        rw [hy, List.dropLast_concat]
      obtain ⟨M2, m2⟩ := step_inv M hs ew
      exact run_inv hs f M2 (by omega)
/-- nothing waits: what is joined has one top -/
theorem cn_top (M : MInv ks L s) (e : s.wa = []) {x y : Nat} (c : Cn s x y) : top ks s x = top ks s y := by
  induction c with
  | rfl x => rfl
  | symm _ i => exact i.symm
  | trans _ _ i j => exact i.trans j
  | up k => exact (top_up M.A k).symm
  | @wa x y hm => rw [e] at hm; cases hm
theorem mem_ks {pairs : List (Nat × Nat)} {x : Nat} : x ∈ ksOf L pairs ↔ x = 0 ∨ x ∈ vals L ∨ ∃ p ∈ pairs, x = p.1 ∨ x = p.2 := by
  unfold ksOf
  rw [mem_firsts, List.mem_append, List.mem_cons, List.mem_flatMap]
  simp only [List.not_mem_nil, false_or, List.mem_cons, or_false, or_assoc]
theorem ks_nodup {pairs : List (Nat × Nat)} : (ksOf L pairs).Nodup := firsts_nodup List.nodup_nil
theorem mem_ways {k : Nat} {e : Str × Nat} : e ∈ ways L k ↔ ((k, e.1), e.2) ∈ L := by
  unfold ways
  rw [List.mem_map]
  constructor
  · rintro ⟨x, hx, rfl⟩
    obtain ⟨hx, d⟩ := List.mem_filter.mp hx
    rw [← of_decide_eq_true d]
    exact hx
  · intro h
    exact ⟨_, List.mem_filter.mpr ⟨h, decide_eq_true rfl⟩, rfl⟩
theorem ways_nodup (nd : (L.map (·.1)).Nodup) (k : Nat) : ((ways L k).map (·.1)).Nodup := by
  unfold ways
  rw [List.map_map]
  have z : ((L.filter fun e => decide (e.1.1 = k)).map (·.1)).Nodup := nd.sublist (List.Sublist.map _ List.filter_sublist)
  refine List.pairwise_map.mpr ((List.pairwise_map.mp z).imp_of_mem fun {a b} ha hb n e => n ?_)
  have e1 := of_decide_eq_true (List.mem_filter.mp ha).2
  have e2 := of_decide_eq_true (List.mem_filter.mp hb).2
  exact Prod.ext (e1.trans e2.symm) e
theorem ms0_inv {pairs : List (Nat × Nat)} (wf : WfL L) (hp : ∀ p ∈ pairs, p.1 ∈ vals L ∧ p.2 ∈ vals L) : MInv (ksOf L pairs) L (ms0 L pairs) := by
  have pv : ∀ x ∈ vals L, x ≠ 0 := fun x hx => by
    obtain ⟨e, he, rfl⟩ := List.mem_map.mp hx
    have := wf.pos e he
    omega
  refine ⟨⟨fun k hk => hk, fun k _ => rfl, fun k _ n => (n rfl).elim, fun k _ => by show 0 < 1 + _; omega, fun k n => n⟩, fun k _ e he => ?_, fun k _ => ways_nodup wf.nd k, fun p h => ?_, fun e he => ?_⟩
  · have m := mem_ways.mp he
    exact ⟨mem_ks.mpr (.inr (.inl (mem_vals m))), pv _ (mem_vals m), List.mem_map.mpr ⟨_, m, rfl⟩⟩
  · obtain ⟨a, b⟩ := hp p h
    exact ⟨mem_ks.mpr (.inr (.inl a)), mem_ks.mpr (.inr (.inl b)), pv _ a, pv _ b⟩
  · have t : top (ksOf L pairs) (ms0 L pairs) e.1.1 = e.1.1 := top_self rfl
    rw [t]
    exact ⟨e.2, mem_ways.mpr he, .rfl _⟩
theorem mu_ms0 {pairs : List (Nat × Nat)} : mu (ksOf L pairs) L (ms0 L pairs) = (ksOf L pairs).length * (L.length + 1) + pairs.length := by
  unfold mu tops
  have z : (ksOf L pairs).filter (fun k => decide ((ms0 L pairs).ab k = k)) = ksOf L pairs := List.filter_eq_self.mpr fun x _ => decide_eq_true rfl
  rw [z]
  rfl
theorem src_ks {pairs : List (Nat × Nat)} (wf : WfL L) : ∀ e ∈ L, e.1.1 ∈ ksOf L pairs := fun e he => mem_ks.mpr ((wf.src e he).imp id .inl)
theorem end_inv {pairs : List (Nat × Nat)} (wf : WfL L) (hp : ∀ p ∈ pairs, p.1 ∈ vals L ∧ p.2 ∈ vals L) : MInv (ksOf L pairs) L (mEnd L pairs) ∧ (mEnd L pairs).wa = [] :=
  run_inv (src_ks wf) _ (ms0_inv wf hp) (Nat.le_of_eq mu_ms0)
theorem mem_out {e : Lead} : e ∈ outL ks s ↔ (e.1.1 ∈ ks ∧ s.ab e.1.1 = e.1.1) ∧ ∃ t, (e.1.2, t) ∈ s.W e.1.1 ∧ e.2 = topF s.ab ks.length t := by
  unfold outL
  rw [List.mem_flatMap]
  constructor
  · rintro ⟨k, hk, he⟩
    obtain ⟨h1, h2⟩ := List.mem_filter.mp hk
    obtain ⟨x, hx, rfl⟩ := List.mem_map.mp he
    exact ⟨⟨h1, of_decide_eq_true h2⟩, x.2, hx, rfl⟩
  · rintro ⟨⟨h1, h2⟩, t, ht, e2⟩
    exact ⟨e.1.1, List.mem_filter.mpr ⟨h1, decide_eq_true h2⟩, List.mem_map.mpr ⟨_, ht, by rw [← e2]⟩⟩
theorem out_wf (M : MInv ks L s) (e0 : s.wa = []) (nd : ks.Nodup) (hs : ∀ e ∈ L, e.1.1 ∈ ks) (hv : ∀ k ∈ ks, k = 0 ∨ k ∈ vals L) : WfL (outL ks s) := by
  refine ⟨?_, fun e he => ?_, fun e he => ?_⟩
  · unfold outL
    have nf : (ks.filter fun k => decide (s.ab k = k)).Nodup := nd.sublist List.filter_sublist
    have sub : ∀ k ∈ ks.filter fun k => decide (s.ab k = k), k ∈ ks := fun k hk => (List.mem_filter.mp hk).1
    revert nf sub
    generalize (ks.filter fun k => decide (s.ab k = k)) = ts
    intro nf sub
    rw [List.map_flatMap]
    induction ts with
    | nil => exact List.nodup_nil
    | cons k ts ih =>
      obtain ⟨n1, n2⟩ := List.nodup_cons.mp nf
      rw [List.flatMap_cons]
      refine List.nodup_append.mpr ⟨?_, ih n2 fun x hx => sub x (List.mem_cons_of_mem _ hx), fun a ha b hb c => ?_⟩
      · rw [List.map_map]
        refine List.pairwise_map.mpr ((List.pairwise_map.mp (M.wn k (sub k List.mem_cons_self))).imp fun n c => n (Prod.mk.inj c).2)
      · rw [List.map_map] at ha
        obtain ⟨x, _, rfl⟩ := List.mem_map.mp ha
        obtain ⟨j, hj, hb⟩ := List.mem_flatMap.mp hb
        rw [List.map_map] at hb
        obtain ⟨y, _, rfl⟩ := List.mem_map.mp hb
        have ck : k = j := (Prod.mk.inj c).1
        exact n1 (by rw [ck]; exact hj)
  · obtain ⟨⟨h1, h2⟩, t, ht, e2⟩ := mem_out.mp he
    have z : topF s.ab ks.length t ≠ 0 := top_pos M.A ks.length (M.wk _ h1 _ ht).2.1
    rw [e2]
    omega
  · obtain ⟨⟨h1, h2⟩, t, ht, e2⟩ := mem_out.mp he
    rcases hv _ h1 with z | z
    · exact .inl z
    · refine .inr ?_
      obtain ⟨x, hx, ex⟩ := List.mem_map.mp z
      obtain ⟨u, hu, c⟩ := M.con x hx
      have hsx := hs x hx
      have et := cn_top M e0 c
      rw [ex] at et
      have et2 : topF s.ab ks.length u = e.1.1 := by
        rw [show topF s.ab ks.length u = top ks s u from rfl, ← et]
        exact top_self h2
      have m : ((top ks s x.1.1, x.1.2), e.1.1) ∈ outL ks s := mem_out.mpr ⟨⟨top_mem M.A hsx, top_fix M.A hsx⟩, u, hu, et2.symm⟩
      exact mem_vals m
theorem out_len (M : MInv ks L s) : (outL ks s).length ≤ ks.length * L.length := by
  unfold outL
  have sub : ∀ k ∈ ks.filter fun k => decide (s.ab k = k), k ∈ ks := fun k hk => (List.mem_filter.mp hk).1
  have le : (ks.filter fun k => decide (s.ab k = k)).length ≤ ks.length := List.length_filter_le ..
  refine Nat.le_trans ?_ (Nat.mul_le_mul_right _ le)
  revert sub
  generalize (ks.filter fun k => decide (s.ab k = k)) = ts
  intro sub
  clear le
  induction ts with
  | nil => exact Nat.zero_le _
  | cons k ts ih =>
    rw [List.flatMap_cons, List.length_append, List.length_map, List.length_cons, Nat.succ_mul]
    have := M.few (sub k List.mem_cons_self)
    have := ih fun x hx => sub x (List.mem_cons_of_mem _ hx)
    omega
theorem merge_wf {pairs : List (Nat × Nat)} (wf : WfL L) (hp : ∀ p ∈ pairs, p.1 ∈ vals L ∧ p.2 ∈ vals L) : WfL (merge L pairs) := by
  obtain ⟨M, e⟩ := end_inv wf hp
  refine out_wf M e ks_nodup (src_ks wf) fun k hk => ?_
  rcases mem_ks.mp hk with z | z | ⟨p, h, z⟩
  · exact .inl z
  · exact .inr z
  · rcases z with rfl | rfl
    · exact .inr (hp p h).1
    · exact .inr (hp p h).2
theorem ks_len {pairs : List (Nat × Nat)} (hp : ∀ p ∈ pairs, p.1 ∈ vals L ∧ p.2 ∈ vals L) : (ksOf L pairs).length ≤ L.length + 1 := by
  have z := Lw.nodup_le (ks_nodup (L := L) (pairs := pairs)) (m := 0 :: vals L) fun x hx => by
    rcases mem_ks.mp hx with z | z | ⟨p, h, z⟩
    · rw [z]
      exact List.mem_cons_self
    · exact List.mem_cons_of_mem _ z
    · rcases z with rfl | rfl
      · exact List.mem_cons_of_mem _ (hp p h).1
      · exact List.mem_cons_of_mem _ (hp p h).2
  rw [List.length_cons] at z
  unfold vals at z
  rw [List.length_map] at z
  exact z
end Wp
namespace Tk
open PySem PySem.Spec PyProof.Rows L2 Lw Evl LamX TL PySem.W
open Rm (R Ok Z0 Zp Fr fr_none fr_ne nt_lst nt_tup NT Zn)
end Tk
namespace Tk
open PySem PySem.Spec PyProof.Rows L2 Lw Evl LamX TL
open Rm (R Ok Z0 Zp Fr fr_none fr_ne nt_lst nt_tup NT Zn)
end Tk
namespace Tk
open PySem PySem.Spec PyProof.Rows L2 Lw Evl LamX TL
open Rm (R Ok Z0 Zp Fr fr_none fr_ne nt_lst nt_tup NT Zn)
end Tk
namespace Lw
open PySem PySem.Spec PyProof.Rows L2 Evl
end Lw
namespace Tk
open PySem PySem.Spec PyProof.Rows L2 Lw Evl LamX
open LwX (XC XF)
def refsOk (K : PySem.W.Frag) (C : Addr) : Bool := (PySem.W.clsIn K C).any fun cd => PySem.HandSPX.refsVE (cd.mro.drop 1)
def oneB (K : PySem.W.Frag) (x f : Str) : Bool := (He.Fa.glo x).ok K && (LwX.xcB K (He.ga K x) && (PySem.W.excInitIn K (He.ga K x) (LwX.bmOf "ValueError") "ValueError.__new__" && (refsOk K (He.ga K x) && (LwX.xfB K (He.ga K x) f && (He.Fa.meth x "__init__").ok K))))
section
variable {P : Program} {w : World} {K : PySem.W.Frag} {mg : Str → Option Value} {base h : Heap} {C fI : Addr} {fd : FuncData} {qual x f : Str} {params : Arguments} {scope : Scope}
structure OneF (K : PySem.W.Frag) (mg : Str → Option Value) (x f : Str) : Prop where
  g : mg x = some (.ref (He.ga K x))
  xc : XC K (He.ga K x)
  ox : OexC K (He.ga K x)
  xf : XF K (He.ga K x) f
  me : Meth K (He.ga K x) "__init__" (He.fAd K (x, some "__init__"))
theorem oex_of (X : K.In h) (T : XC K C) (q : PySem.W.excInitIn K C (LwX.bmOf "ValueError") "ValueError.__new__" = true) (r : refsOk K C = true) : OexC K C := by
  obtain ⟨nm, N, qn, bs, bm, hdct, sn, sub, ab, col, dd, k0, k1, k2, k3, k5, hC, _⟩ := PySem.W.excInit_of X q
  obtain ⟨cd, hcd, hh⟩ := PySem.W.any_some T.hd
  have lk : ∃ o, K.lookup C = some o := by
    cases e : K.lookup C with
    | some o => exact ⟨o, rfl⟩
    | none =>
      unfold PySem.W.clsIn at hcd
      rw [e] at hcd
      cases hcd
  obtain ⟨o, ho⟩ := lk
  have e := X C o ho
  rw [hC] at e
  have e2 := Option.some.inj e
  subst e2
  have c2 : PySem.W.clsIn K C = some { name := nm, bases := bs, mro := .ref C :: bm, ns := N, qualname := qn, hasDict := hdct, slotNames := sn, subclasses := sub, abstract := ab, collection := col, hasDel := false } := by
    unfold PySem.W.clsIn
    rw [ho] <;> rfl
  rw [c2] at hcd
  cases hcd
  have hd : hdct = true := hh
  subst hd
  unfold refsOk at r
  rw [c2] at r
  have r2 : PySem.HandSPX.refsVE bm = true := r
  exact ⟨⟨nm, qn, N, bs, bm, sn, sub, ab, col, dd, k0, k1, k2, k3, k5, ho, r2⟩, T.sa, T.sub, T.ty, T.kp⟩
theorem one_ok (X : K.In h) (G : h.Ns mainGlobals mg) (e : oneB K x f = true) : OneF K mg x f := by
  obtain ⟨e1, e⟩ := He.ba e
  obtain ⟨e2, e⟩ := He.ba e
  obtain ⟨e3, e⟩ := He.ba e
  obtain ⟨e4, e⟩ := He.ba e
  obtain ⟨e5, e6⟩ := He.ba e
  have T := LwX.xc_ok e2
  exact ⟨He.glo_ok X G e1, T, oex_of X T e3 e4, LwX.xf_ok e5, He.meth_ok e6⟩
theorem initO {q1 q2 q3 q4 : Pos} (F : FunD K "__init__" qual params [.Assign [.Attribute (.Name "self" q1) f q2] (.Name f q3) q4] scope [] [] fI fd) (S : FnScope ["self", f] ["self", f] scope) (T : OexC K C) (no : PySem.W.findIn K (.ref C) f = some none)
    (l1 : scope.names.lookup ("self" : Str) = some .local) (l2 : scope.names.lookup f = some .local) (n1 : (f == ("__debug__" : Str)) = false) (n2 : (f == ("__classdict__" : Str)) = false) : FnOk P w K mg base CX0 1 fI fd ["self", f] (spIx f C) := by
  refine fnO F S (fun vs H Q E h => ?_) (fun cdv A' outer s H vs Q E hr h => ?_)
  · obtain ⟨a, v, rfl, _⟩ := h
    rfl
  · obtain ⟨a, v, rfl, ha, q⟩ := h
    refine ⟨_, PSs.nox (pss_one (ps_ost (pv 0 rfl (.inl l1)) (pv 1 rfl (.inl l2) n1 n2))), ?_⟩
    exact ⟨v, rfl, .ref a, rfl, a, C, rfl, T, no, .inl ⟨ha, fun dx hd ne => q dx hd ne⟩⟩
theorem xrz {q1 q2 q3 q4 : Pos} (F : FunD K "__init__" qual params [.Assign [.Attribute (.Name "self" q1) f q2] (.Name f q3) q4] scope [] [] (He.fAd K (x, some "__init__")) fd) (S : FnScope ["self", f] ["self", f] scope)
    (l1 : scope.names.lookup ("self" : Str) = some .local) (l2 : scope.names.lookup f = some .local) (n1 : (f == ("__debug__" : Str)) = false) (n2 : (f == ("__classdict__" : Str)) = false)
    (hb : ∀ (kV doc pm : Value) (an : Option Addr) (cdv ct : Value) (us : List Value), us.length = 2 →
      bindArgs (PySem.W.fnOf "__init__" qual params [.Assign [.Attribute (.Name "self" q1) f q2] (.Name f q3) q4] scope .none kV doc pm an cdv ct) ⟨us, []⟩ = pure ((["self", f] : List Str).zip us)) (o : OneF K mg x f) : XRz P w K mg base 1 x (He.ga K x) f :=
  ⟨o.g, o.ox, _, _, o.me.at_, eq_of_beq o.me.fn, initO F S o.ox o.xf.no l1 l2 n1 n2, F.bindsN hb⟩
end
/-- how an object's method binds what is passed by name, the last parameter first -/
theorem bindsS {K : PySem.W.Frag} {x qual : Str} {params : Arguments} {scope : Scope} {f : Addr} {fd : FuncData} {body : List Stmt} {ps : List Str} (F : FunD K x qual params body scope [] [] f fd)
    (z : ∀ (kV doc pm : Value) (an : Option Addr) (cdv ct : Value) (v : Value) (ws : List Value), ws.length = ps.length → bindArgs (PySem.W.fnOf x qual params body scope .none kV doc pm an cdv ct) ⟨[v], ps.reverse.zip ws⟩ = pure ((("self" : Str) :: ps).zip (v :: ws.reverse))) (v : Value) (ws : List Value) (s : Shared) (e : ws.length = ps.length) :
    BindsTo s fd ⟨[v], ps.reverse.zip ws⟩ ((("self" : Str) :: ps).zip (v :: ws.reverse)) := by
  obtain ⟨oc, od, dV, kV, doc, pm, an, cdv, ct, osl, rfl, _, _, hD, _⟩ := F.ex
  rcases hD with ⟨_, rfl⟩ | ⟨n, _⟩
  · exact .of_eq (z kV doc pm an cdv ct v ws e)
  · exact absurd rfl n
end Tk
namespace Lw
open PySem PySem.Spec PyProof.Rows L2 Evl
open LwX (XC XF)
theorem pmk_xc {X : Cx} {CX : CXT} {x : Str} {C fI : Addr} {k : Nat} {fd : FuncData} {ps : List Str} {sp : Sp} {e : Expr} {es : List Expr} {ta : TA} {p pos : Pos} (T : XC X.K C) (iC : PySem.W.findIn X.K (.ref C) "__init__" = some (some (.ref fI))) (tI : PySem.W.typeIn X.K (.ref fI) = some (.type "function"))
    (F : FnOk X.prog X.w X.K X.mg X.base CX k fI fd ps sp) (hr : Room (k + 1) X.A) (hb : Binds X.K fd ps []) (hx : Passes CX X (fun _ _ _ => False)) (hg : Gl X x) (hm : X.mg x = some (.ref C)) (ha : PA X (e :: es) ta) (hdb : (x == ("__debug__" : Str)) = false := by decide)
    (he : starEach (e :: es) X.env = (false, eval e X.env) :: starEach es X.env := by rfl) (hpl : (backTo pos (starEach es X.env)).any (·.1) = false := by rfl) : PMk X (.Call (.Name x p) (e :: es) [] pos) (tMkO C sp [] ta) := by
  intro pins s σ H Q I h
  obtain ⟨B, nI, iI, bB, FB, _, q0, _⟩ := T.base
  refine wpAny_Call_Name_kw (ld_glob I hg hm ?_ hdb)
  refine PySem.W.callWith_K (h₀ := X.base) I.ok.mod.kin T.kp (thn (ha.run pos pins s σ H _ I h) fun us s1 ⟨vs, H1, I1, r1, hz, q1⟩ => ⟨I1.kIn, ?_⟩) he hpl
  show wpAny _ _ (call (.ref C) us) _ _ _
  obtain ⟨h1, g1, d1, t1, o1⟩ := s1
  obtain ⟨nm, N, qn, bs, bm, hdct, sn, sub, ab, col, dd, k0, k1, k2, k3, k5, hC, hT⟩ := PySem.W.excInit_of (h := h1) I1.kIn q0
  have le : h1.objs.size ≤ h1.objs.size + 1 := Nat.le_succ _
  have off : H1 (h1.objs.size + 1) = none := I1.hok.fresh le
  have q2 := q1 (h1.objs.size + 1) off
  have keep : ∀ b o, h1.get? b = some o → ((h1.push (PySem.W.kdv_tup us)).push (PySem.HandSPX.excO C h1.objs.size)).get? b = some o := fun b o z => Heap.get?_push_of_some _ (Heap.get?_push_of_some _ z)
  have made : ((h1.push (PySem.W.kdv_tup us)).push (PySem.HandSPX.excO C h1.objs.size)).get? (h1.objs.size + 1) = some (PySem.HandSPX.excO C h1.objs.size) := by heap_get
  have I2 : Inv X pins σ (upd H1 (h1.objs.size + 1) (exo (h1.objs.size + 1) C none)) ⟨(h1.push (PySem.W.kdv_tup us)).push (PySem.HandSPX.excO C h1.objs.size), g1, d1, t1, o1⟩ :=
    I1.laid (t' := t1) (a := h1.objs.size + 1) (o := exo (h1.objs.size + 1) C none) keep le (exo_ok made)
  have r2 : Vals (V.ref (h1.objs.size + 1) :: (vs ++ [])) (Value.ref (h1.objs.size + 1) :: us) := by
    rw [List.append_nil]
    exact .cons rfl r1
  have len : (Value.ref (h1.objs.size + 1) :: us ++ []).length = ps.length := by
    rw [List.append_nil, ← r2.length]
    exact F.len _ _ _ _ q2
  have fit : us.length ≤ sizeLine := by
    rw [← Paired.length r1, sizeLine_eq]
    omega
  have bd := hb _ (Value.ref (h1.objs.size + 1) :: us) I2.kIn len
  rw [List.append_nil] at bd
  refine wpAny_call (LwX.callK FB hT hC (PySem.W.looks_findIn I1.kIn iC) (fun self => PySem.W.bind_fn I1.kIn self tI) fit (codeAny_mono (F.run _ X.stack _ _ ⟨Value.ref (h1.objs.size + 1) :: us, []⟩ (Value.ref (h1.objs.size + 1) :: us) _ _ (fun _ _ _ => False) (hr.make C us []) (I2.env0.make C us []) bd r2 q2) fun r s3 hq => ?_))
  cases r with
  | error er => exact hx pins σ _ _ er s3 I2 hq
  | ok fl =>
    cases fl with
    | ret u =>
      obtain ⟨v, H2, os2, bare2, un2, hok2, rv, rfl, d, fs, ea, ed, hd1, q3⟩ := hq
      obtain ⟨h2, g2, d2, t2, o2⟩ := s3
      exact ⟨rv, mk_end (raises_own T.sub T.ty) I1 le keep un2 hok2 os2 bare2 ea ed hd1 q3⟩
    | next => exact hq.elim
    | brk => exact hq.elim
    | cont => exact hq.elim
end Lw
namespace Tk
open PySem PySem.Spec PyProof.Rows L2 Lw Evl LamX
open LwX (XC XF)
end Tk
namespace Tk
open PySem PySem.Spec PyProof.Rows L2 Lw Evl LamX TL
open Rm (R Ok Z0 Zp Fr fr_none fr_ne nt_lst nt_tup NT Zn)
end Tk
namespace Tk
open PySem PySem.Spec PyProof.Rows L2 Lw Evl LamX TL
open Rm (R Ok Z0 Zp Fr fr_none fr_ne nt_lst nt_tup NT Zn)
end Tk
namespace Tk
open PySem PySem.Spec PyProof.Rows L2 Lw Evl LamX TL
open Rm (R Ok Z0 Zp Fr fr_none fr_ne nt_lst nt_tup NT Zn)
end Tk
namespace Tk
open PySem PySem.Spec PyProof.Rows L2 Lw Evl LamX TL
open Rm (R Ok Z0 Zp Fr fr_none fr_ne nt_lst nt_tup NT Zn)
def ltW (ws : List (List Str)) : List Str := (srtW (ws.flatten.map fun s => [s])).map (·.headD "")
theorem ones_back : ∀ {us : List (List Str)}, (∀ u ∈ us, ∃ s : Str, u = [s]) → (us.map (·.headD "")).map (fun s => [s]) = us
  | [], _ => rfl
  | u :: us, h => by
    obtain ⟨s, rfl⟩ := h u (List.mem_cons_self ..)
    rw [List.map_cons, List.map_cons, ones_back fun v hv => h v (List.mem_cons_of_mem _ hv)]
    rfl
theorem ltW_ones (ws : List (List Str)) : (ltW ws).map (fun s => [s]) = srtW (ws.flatten.map fun s => [s]) := ones_back fun u hu => by
  obtain ⟨s, _, rfl⟩ := List.mem_map.mp (srtW_mem.mp hu)
  exact ⟨s, rfl⟩
theorem ltW_sd (ws : List (List Str)) : Sd ((ltW ws).map fun s => [s]) := by
  rw [ltW_ones]
  exact srtW_sd _
theorem mem_ones {xs : List Str} {s : Str} : [s] ∈ xs.map (fun x => [x]) ↔ s ∈ xs := by
  rw [List.mem_map]
  exact ⟨fun ⟨x, hx, e⟩ => by cases e; exact hx, fun h => ⟨s, h, rfl⟩⟩
theorem mem_ltW {ws : List (List Str)} {s : Str} : s ∈ ltW ws ↔ ∃ w ∈ ws, s ∈ w := by
  rw [← mem_ones (xs := ltW ws), ltW_ones, srtW_mem, mem_ones, List.mem_flatten]
theorem ones_nodup {xs : List Str} (h : Sd (xs.map fun x => [x])) : xs.Nodup := List.Pairwise.imp (fun {a b} r e => r (by rw [e])) (List.pairwise_map.mp (sd_nodup h))
theorem ltW_nodup (ws : List (List Str)) : (ltW ws).Nodup := ones_nodup (ltW_sd ws)
theorem ltW_of {ys : List Str} {ws : List (List Str)} (so : sortedS ys = true) (nd : ys.Nodup) (m : ∀ s, s ∈ ys ↔ ∃ w ∈ ws, s ∈ w) : ys = ltW ws :=
  sort_same ((List.perm_ext_iff_of_nodup nd (ltW_nodup ws)).mpr fun s => by rw [m, mem_ltW]) so (ltW_sd ws)
end Tk
namespace Wp
open PySem
/-- the names at a knot, sorted -/
def names (L : Leads) (k : Nat) : List Str := (L.filter fun e => decide (e.1.1 = k)).map (·.1.2)
def namesS (L : Leads) (k : Nat) : List Str := Tk.ltW [names L k]
def ixOf (T : List Nat) (x : Nat) : Nat := T.findIdx fun y => decide (y = x)
def nfold (L : Leads) (k at_ : Nat) : List Str → List Nat × Leads → List Nat × Leads
  | [], s => s
  | n :: r, s => if (getL L k n).getD 0 ∈ s.1 then nfold L k at_ r (s.1, s.2 ++ [((at_, n), ixOf s.1 ((getL L k n).getD 0))])
    else nfold L k at_ r (s.1 ++ [(getL L k n).getD 0], s.2 ++ [((at_, n), s.1.length)])
def nrun (L : Leads) : Nat → Nat → List Nat × Leads → List Nat × Leads
  | 0, _, s => s
  | f + 1, i, s => match s.1[i]? with
    | none => s
    | some k => nrun L f (i + 1) (nfold L k i (namesS L k) s)
def numb (L : Leads) : Leads := (nrun L (L.length + 2) 0 ([0], [])).2
def lstep (acc : List (List Str)) (e : Lead) : List (List Str) := if e.2 = acc.length then acc ++ [acc.getD e.1.1 [] ++ [e.1.2]] else acc
def leastF (acc : List (List Str)) (L : Leads) : List (List Str) := L.foldl lstep acc
def least (L : Leads) : List (List Str) := leastF [[]] L
/-- each knot that begins a term has one -/
def okLt : List (List Str) → Leads → Prop
  | _, [] => True
  | acc, e :: L => (e.2 = acc.length → e.1.1 < acc.length) ∧ okLt (lstep acc e) L
theorem okLt_snoc {e : Lead} : ∀ {L : Leads} {acc : List (List Str)}, okLt acc L → ((e.2 = (leastF acc L).length → e.1.1 < (leastF acc L).length)) → okLt acc (L ++ [e])
  | [], acc, _, h => ⟨h, True.intro⟩
  | d :: L, acc, k, h => ⟨k.1, okLt_snoc k.2 h⟩
theorem leastF_snoc {e : Lead} {L : Leads} {acc : List (List Str)} : leastF acc (L ++ [e]) = lstep (leastF acc L) e := by
  unfold leastF
  rw [List.foldl_append]
  rfl
theorem mem_names {L : Leads} {k : Nat} {n : Str} : n ∈ names L k ↔ ∃ t, ((k, n), t) ∈ L := by
  unfold names
  rw [List.mem_map]
  constructor
  · rintro ⟨x, hx, rfl⟩
    obtain ⟨hx, d⟩ := List.mem_filter.mp hx
    exact ⟨x.2, by rw [← of_decide_eq_true d]; exact hx⟩
  · rintro ⟨t, h⟩
    exact ⟨_, List.mem_filter.mpr ⟨h, decide_eq_true rfl⟩, rfl⟩
theorem names_nodup {L : Leads} (nd : (L.map (·.1)).Nodup) (k : Nat) : (names L k).Nodup := by
  have z := ways_nodup nd k
  unfold ways at z
  rw [List.map_map] at z
  exact z
theorem mem_namesS {L : Leads} {k : Nat} {n : Str} : n ∈ namesS L k ↔ ∃ t, ((k, n), t) ∈ L := by
  unfold namesS
  rw [Tk.mem_ltW, ← mem_names]
  simp
theorem namesS_get {L : Leads} (wf : WfL L) {k : Nat} {n : Str} (h : n ∈ namesS L k) : ∃ t, getL L k n = some t ∧ 0 < t ∧ t ∈ vals L := by
  obtain ⟨t, h⟩ := mem_namesS.mp h
  exact ⟨t, getL_of wf.nd h, wf.pos _ h, mem_vals h⟩
theorem ixOf_lt {T : List Nat} {x : Nat} (h : x ∈ T) : ixOf T x < T.length := List.findIdx_lt_length_of_exists ⟨x, h, decide_eq_true rfl⟩
theorem ixOf_get {T : List Nat} {x : Nat} (h : x ∈ T) : T[ixOf T x]? = some x := by
  have l := ixOf_lt h
  rw [List.getElem?_eq_getElem l]
  have z := List.findIdx_getElem (w := l) (p := fun y => decide (y = x))
  exact congrArg some (of_decide_eq_true z)
structure NInv (L : Leads) (at_ : Nat) (s : List Nat × Leads) : Prop where
  nd : s.1.Nodup
  sub : ∀ x ∈ s.1, x = 0 ∨ x ∈ vals L
  z : s.1[0]? = some 0
  fn : (s.2.map (·.1)).Nodup
  lt : ∀ e ∈ s.2, e.1.1 < s.1.length ∧ e.1.1 ≤ at_ ∧ 0 < e.2 ∧ e.2 < s.1.length
  all : ∀ i, 0 < i → i < s.1.length → i ∈ vals s.2
  ok : okLt [[]] s.2
  len : (leastF [[]] s.2).length = s.1.length
  src : ∀ e ∈ s.2, ∃ k, s.1[e.1.1]? = some k ∧ (k, e.1.2) ∈ L.map (·.1)
variable {L : Leads} {at_ k : Nat} {s : List Nat × Leads}
theorem NInv.hits (h : NInv L at_ s) {x : Nat} (hx : x ∈ s.1) (n : x ≠ 0) : 0 < ixOf s.1 x := by
  rcases Nat.eq_zero_or_pos (ixOf s.1 x) with z | z
  · have g := ixOf_get hx
    rw [z, h.z] at g
    cases g
    exact absurd rfl n
  · exact z
theorem vals_app {M N : Leads} {i : Nat} : i ∈ vals (M ++ N) ↔ i ∈ vals M ∨ i ∈ vals N := by
  unfold vals
  rw [List.map_append, List.mem_append]
/-- one name -/
theorem n_one (wf : WfL L) (h : NInv L at_ s) (hk : s.1[at_]? = some k) {n : Str} {t : Nat} (hg : getL L k n = some t) (hn : ∀ e ∈ s.2, e.1 ≠ (at_, n)) :
    NInv L at_ (if t ∈ s.1 then (s.1, s.2 ++ [((at_, n), ixOf s.1 t)]) else (s.1 ++ [t], s.2 ++ [((at_, n), s.1.length)])) := by
  have tp := wf.getpos hg
  have tv := mem_vals (getL_mem hg)
  have hat : at_ < s.1.length := (List.getElem?_eq_some_iff.mp hk).1
  have ml : (k, n) ∈ L.map (·.1) := List.mem_map.mpr ⟨_, getL_mem hg, rfl⟩
  have fn : ∀ v : Nat, ((s.2 ++ [((at_, n), v)] : Leads).map (·.1)).Nodup := fun v => by
    rw [List.map_append]
    refine List.nodup_append.mpr ⟨h.fn, by simp, fun a ha b hb c => ?_⟩
    obtain ⟨y, hy, rfl⟩ := List.mem_map.mp ha
    rw [List.map_cons, List.map_nil, List.mem_singleton] at hb
    exact hn y hy (c.trans hb)
  by_cases c : t ∈ s.1
  · rw [if_pos c]
    have i1 := ixOf_lt c
    have i2 := h.hits c (by omega)
    refine ⟨h.nd, h.sub, h.z, fn _, fun e he => ?_, fun i a b => vals_app.mpr (.inl (h.all i a b)), okLt_snoc h.ok fun e => ?_, ?_, fun e he => ?_⟩
    · rcases List.mem_append.mp he with he | he
      · exact h.lt e he
      · rw [List.mem_singleton.mp he]
        exact ⟨hat, Nat.le_refl _, i2, i1⟩
    · rw [h.len] at e
      have e : ixOf s.1 t = s.1.length := e
      omega
    · show (leastF [[]] (s.2 ++ [((at_, n), ixOf s.1 t)])).length = s.1.length
      rw [leastF_snoc]
      unfold lstep
      rw [if_neg (by rw [h.len]; show ¬ ixOf s.1 t = s.1.length; omega), h.len]
    · rcases List.mem_append.mp he with he | he
      · exact h.src e he
      · rw [List.mem_singleton.mp he]
        exact ⟨k, hk, ml⟩
  · rw [if_neg c]
    have lap : (s.1 ++ [t]).length = s.1.length + 1 := List.length_append
    refine ⟨List.nodup_append.mpr ⟨h.nd, by simp, fun a ha b hb d => c (by rw [← List.mem_singleton.mp hb, ← d]; exact ha)⟩, fun x hx => ?_, ?_, fn _, fun e he => ?_, fun i a b => ?_, okLt_snoc h.ok fun e => ?_, ?_, fun e he => ?_⟩
    · rcases List.mem_append.mp hx with hx | hx
      · exact h.sub x hx
      · rw [List.mem_singleton.mp hx]
        exact .inr tv
    · show (s.1 ++ [t])[0]? = some 0
      rw [List.getElem?_append_left (by omega)]
      exact h.z
    · show e.1.1 < (s.1 ++ [t]).length ∧ e.1.1 ≤ at_ ∧ 0 < e.2 ∧ e.2 < (s.1 ++ [t]).length
      rw [lap]
      rcases List.mem_append.mp he with he | he
      · obtain ⟨a, b, c, d⟩ := h.lt e he
        exact ⟨by omega, b, c, by omega⟩
      · rw [List.mem_singleton.mp he]
        exact ⟨by show at_ < s.1.length + 1; omega, Nat.le_refl _, by show 0 < s.1.length; omega, by show s.1.length < s.1.length + 1; omega⟩
    · have b : i < (s.1 ++ [t]).length := b
      rw [lap] at b
      refine vals_app.mpr ?_
      by_cases d : i = s.1.length
      · exact .inr (List.mem_singleton.mpr d)
      · exact .inl (h.all i a (by omega))
    · rw [h.len]
      exact hat
    · show (leastF [[]] (s.2 ++ [((at_, n), s.1.length)])).length = (s.1 ++ [t]).length
      rw [leastF_snoc, lap]
      unfold lstep
      rw [if_pos h.len.symm, List.length_append, h.len]
      rfl
    · rcases List.mem_append.mp he with he | he
      · obtain ⟨k2, a, b⟩ := h.src e he
        exact ⟨k2, by
          show (s.1 ++ [t])[e.1.1]? = some k2
          rw [List.getElem?_append_left (List.getElem?_eq_some_iff.mp a).1]
          exact a, b⟩
      · rw [List.mem_singleton.mp he]
        exact ⟨k, by
          show (s.1 ++ [t])[at_]? = some k
          rw [List.getElem?_append_left hat]
          exact hk, ml⟩
theorem nfold_cons {n : Str} {r : List Str} {t : Nat} (hg : getL L k n = some t) : nfold L k at_ (n :: r) s = nfold L k at_ r (if t ∈ s.1 then (s.1, s.2 ++ [((at_, n), ixOf s.1 t)]) else (s.1 ++ [t], s.2 ++ [((at_, n), s.1.length)])) := by
  show (if (getL L k n).getD 0 ∈ s.1 then nfold L k at_ r (s.1, s.2 ++ [((at_, n), ixOf s.1 ((getL L k n).getD 0))]) else nfold L k at_ r (s.1 ++ [(getL L k n).getD 0], s.2 ++ [((at_, n), s.1.length)])) = _
  rw [hg]
  show (if t ∈ s.1 then _ else _) = _
  split <;> rfl
theorem n_len (hg : s.1.length ≤ 0 + s.1.length) {n : Str} {t : Nat} : s.1.length ≤ (if t ∈ s.1 then (s.1, s.2 ++ [((at_, n), ixOf s.1 t)]) else (s.1 ++ [t], s.2 ++ [((at_, n), s.1.length)])).1.length := by
  split
  · exact Nat.le_refl _
  · show s.1.length ≤ (s.1 ++ [t]).length
    rw [List.length_append]
    omega
theorem nfold_inv (wf : WfL L) : ∀ {ns : List Str} {s : List Nat × Leads}, NInv L at_ s → s.1[at_]? = some k → (∀ n ∈ ns, ∃ t, getL L k n = some t) → ns.Nodup → (∀ n ∈ ns, ∀ e ∈ s.2, e.1 ≠ (at_, n)) →
    NInv L at_ (nfold L k at_ ns s) ∧ s.1.length ≤ (nfold L k at_ ns s).1.length
  | [], s, h, _, _, _, _ => ⟨h, Nat.le_refl _⟩
  | n :: ns, s, h, hat, hg, nd, hn => by
    obtain ⟨t, ht⟩ := hg n List.mem_cons_self
    obtain ⟨n1, n2⟩ := List.nodup_cons.mp nd
    rw [nfold_cons ht]
    have h1 := n_one wf h hat ht (hn n List.mem_cons_self)
    have hk1 : (if t ∈ s.1 then (s.1, s.2 ++ [((at_, n), ixOf s.1 t)]) else (s.1 ++ [t], s.2 ++ [((at_, n), s.1.length)])).1[at_]? = some k := by
      split
      · exact hat
      · show (s.1 ++ [t])[at_]? = some k
        rw [List.getElem?_append_left (List.getElem?_eq_some_iff.mp hat).1]
        exact hat
    have l1 := n_len (at_ := at_) (s := s) (n := n) (t := t) (by omega)
    have hm : ∀ m ∈ ns, ∀ e ∈ (if t ∈ s.1 then (s.1, s.2 ++ [((at_, n), ixOf s.1 t)]) else (s.1 ++ [t], s.2 ++ [((at_, n), s.1.length)])).2, e.1 ≠ (at_, m) := fun m hm e he c => by
      have q : e ∈ s.2 ∨ e.1 = (at_, n) := by
        split at he
        · rcases List.mem_append.mp he with he | he
          · exact .inl he
          · exact .inr (by rw [List.mem_singleton.mp he])
        · rcases List.mem_append.mp he with he | he
          · exact .inl he
          · exact .inr (by rw [List.mem_singleton.mp he])
      rcases q with q | q
      · exact hn m (List.mem_cons_of_mem _ hm) e q c
      · rw [q] at c
        exact n1 (by rw [(Prod.mk.inj c).2]; exact hm)
    obtain ⟨h2, l2⟩ := nfold_inv wf (ns := ns) h1 hk1 (fun m hm => hg m (List.mem_cons_of_mem _ hm)) n2 hm
    exact ⟨h2, by omega⟩
theorem NInv.up (h : NInv L at_ s) : NInv L (at_ + 1) s := ⟨h.nd, h.sub, h.z, h.fn, fun e he => by
  obtain ⟨a, b, c, d⟩ := h.lt e he
  exact ⟨a, by omega, c, d⟩, h.all, h.ok, h.len, h.src⟩
theorem NInv.len_le (h : NInv L at_ s) : s.1.length ≤ L.length + 1 := by
  have z := Lw.nodup_le h.nd (m := 0 :: vals L) fun x hx => (h.sub x hx).elim (fun e => by rw [e]; exact List.mem_cons_self) (List.mem_cons_of_mem _)
  rw [List.length_cons] at z
  unfold vals at z
  rw [List.length_map] at z
  exact z
theorem NInv.found_le (h : NInv L at_ s) : s.2.length ≤ L.length := by
  have z := Lw.nodup_le (l := s.2.map fun e => (s.1.getD e.1.1 0, e.1.2)) (m := L.map (·.1)) ?_ fun x hx => ?_
  · rw [List.length_map, List.length_map] at z
    exact z
  · refine List.pairwise_map.mpr ((List.pairwise_map.mp h.fn).imp_of_mem fun {a b} ha hb n e => n ?_)
    obtain ⟨ka, a1, _⟩ := h.src a ha
    obtain ⟨kb, b1, _⟩ := h.src b hb
    have ea : s.1.getD a.1.1 0 = ka := by rw [List.getD_eq_getElem?_getD, a1]; rfl
    have eb : s.1.getD b.1.1 0 = kb := by rw [List.getD_eq_getElem?_getD, b1]; rfl
    have e1 := (Prod.mk.inj e).1
    rw [ea, eb] at e1
    rw [← e1] at b1
    have e2 := (List.getElem?_inj (List.getElem?_eq_some_iff.mp a1).1 h.nd).mp (a1.trans b1.symm)
    exact Prod.ext e2 (Prod.mk.inj e).2
  · obtain ⟨e, he, rfl⟩ := List.mem_map.mp hx
    obtain ⟨k2, a, b⟩ := h.src e he
    have ea : s.1.getD e.1.1 0 = k2 := by rw [List.getD_eq_getElem?_getD, a]; rfl
    rw [ea]
    exact b
/-- ahead of the turn of i: what is found belongs to the turns before -/
structure NAt (L : Leads) (i : Nat) (s : List Nat × Leads) : Prop where
  inv : NInv L i s
  lt : ∀ e ∈ s.2, e.1.1 < i
theorem n_turn (wf : WfL L) {i : Nat} (h : NAt L i s) (e : s.1[i]? = some k) : NAt L (i + 1) (nfold L k i (namesS L k) s) ∧ NInv L i (nfold L k i (namesS L k) s) := by
  have hi : i < s.1.length := (List.getElem?_eq_some_iff.mp e).1
  obtain ⟨a, b⟩ := nfold_inv (k := k) wf (ns := namesS L k) h.inv e (fun n hn => (namesS_get wf hn).imp fun _ z => z.1) (Tk.ltW_nodup _) fun n _ e he c => by
    have := h.lt e he
    rw [c] at this
    have : i < i := this
    omega
  exact ⟨⟨a.up, fun e he => by
    have := (a.lt e he).2.1
    omega⟩, a⟩
theorem nrun_inv (wf : WfL L) : ∀ (f i : Nat) {s : List Nat × Leads}, NAt L i s → i ≤ s.1.length → L.length + 1 < f + i → ∃ j, NAt L j (nrun L f i s) ∧ (nrun L f i s).1[j]? = none
  | 0, i, s, h, hi, hf => ⟨i, h, List.getElem?_eq_none (by
      have := h.inv.len_le
      show s.1.length ≤ i
      omega)⟩
  | f + 1, i, s, h, hi, hf => by
    unfold nrun
    cases e : s.1[i]? with
    | none => exact ⟨i, h, e⟩
    | some k =>
      obtain ⟨h2, _⟩ := n_turn wf h e
      have hl : i < s.1.length := (List.getElem?_eq_some_iff.mp e).1
      have hl2 : s.1.length ≤ (nfold L k i (namesS L k) s).1.length := (nfold_inv (k := k) wf (ns := namesS L k) h.inv e (fun n hn => (namesS_get wf hn).imp fun _ z => z.1) (Tk.ltW_nodup _) fun n _ e he c => by
        have := h.lt e he
        rw [c] at this
        have : i < i := this
        omega).2
      exact nrun_inv wf f (i + 1) h2 (by omega) (by omega)
theorem n0_at (L : Leads) : NAt L 0 ([0], []) := ⟨⟨by simp, fun x hx => .inl (List.mem_singleton.mp hx), rfl, List.nodup_nil, fun _ h => (List.not_mem_nil h).elim, fun i a b => by
  have b : i < 1 := b
  omega, True.intro, rfl, fun _ h => (List.not_mem_nil h).elim⟩, fun _ h => (List.not_mem_nil h).elim⟩
theorem numb_at (wf : WfL L) : ∃ j T, NAt L j (T, numb L) ∧ T.length ≤ j := by
  obtain ⟨j, h, e⟩ := nrun_inv wf (L.length + 2) 0 (n0_at L) (by omega) (by omega)
  exact ⟨j, _, h, List.getElem?_eq_none_iff.mp e⟩
structure NumL (L : Leads) : Prop where
  wf : WfL L
  ok : okLt [[]] L
  val : ∀ i, (0 < i ∧ i < (least L).length) ↔ i ∈ vals L
theorem numb_num (wf : WfL L) : NumL (numb L) ∧ (least (numb L)).length ≤ L.length + 1 ∧ (numb L).length ≤ L.length := by
  obtain ⟨j, T, h, hj⟩ := numb_at wf
  have el : (least (numb L)).length = T.length := h.inv.len
  refine ⟨⟨⟨h.inv.fn, fun e he => (h.inv.lt e he).2.2.1, fun e he => ?_⟩, h.inv.ok, fun i => ?_⟩, by rw [el]; exact h.inv.len_le, h.inv.found_le⟩
  · rcases Nat.eq_zero_or_pos e.1.1 with z | z
    · exact .inl z
    · exact .inr (h.inv.all _ z (h.inv.lt e he).1)
  · rw [el]
    constructor
    · rintro ⟨a, b⟩
      exact h.inv.all i a b
    · intro hi
      obtain ⟨e, he, rfl⟩ := List.mem_map.mp hi
      obtain ⟨_, _, a, b⟩ := h.inv.lt e he
      exact ⟨a, b⟩
end Wp
namespace K35
open PySem PySem.Spec PyProof.Rows L2 Lw Evl LamX Tk
open LwX (XC XF)
def topS (i : Nat) : Stmt := PySem.Challenge.pw_wakesayings_k35_loops_by_divisors.main.body.getD i (.Pass ⟨0, 0, 0, 0⟩)
structure Tx (P : Program) (w : World) (K : PySem.W.Frag) (mg : Str → Option Value) (base : Heap) : Prop where
  m_len : mg "len" = none
  m_range : mg "range" = none
  m_abs : mg "abs" = none
  m_max : mg "max" = none
  m_min : mg "min" = none
  m_int : mg "int" = none
  m_divmod : mg "divmod" = none
  m_all : mg "all" = none
  m_isinstance : mg "isinstance" = none
  m_enumerate : mg "enumerate" = none
  m_repr : mg "repr" = none
  m_list : mg "list" = none
  m_tuple : mg "tuple" = none
  m_sorted : mg "sorted" = none
  m_str : mg "str" = none
  m_any : mg "any" = none
  m_set : mg "set" = none
  g_MOST_SIGNS : ∃ t, mg "MOST_SIGNS" = some (.int 8 t)
  g_MOST_IN_WORD : ∃ t, mg "MOST_IN_WORD" = some (.int 3 t)
section
variable {P : Program} {w : World} {K : PySem.W.Frag} {mg : Str → Option Value} {base : Heap}
abbrev s_draw : Stmt := topS 51
theorem sc_draw : FnScope ["_law_pot_here", "_law_many", "_law_digit"] ["_law_pot_here", "_law_many"] (defScope s_draw) := ⟨rfl, rfl, rfl, by decide +kernel, rfl, by decide +kernel, by decide +kernel⟩
theorem ok_draw {f : Addr} {fd : FuncData} (F : FunD K "_law_draw" "_law_draw" (defArgs s_draw) (defBody s_draw) (defScope s_draw) [] [] f fd) (T : Tx P w K mg base)  : FnG P w K mg base CX0 1 f fd ["_law_pot_here", "_law_many"] spDraw := by
  refine fnG F sc_draw (fun vs H Q E h => ?_) (fun cdv A outer s H vs Q E gd hr h => ?_)
  · obtain ⟨p, n, rfl, _⟩ := h
    rfl
  · skip
    refine ⟨_, PSs.nox ((pss_cons (ps_if (pt_cmpR op_gt (pe_ix (ix_listK (K := K)) (pv 0) pe_int (fun _ _ => rfl)) pe_int (nomark _)) (pss_cons (ps_asg (pe_callB call_divmod (by rfl) T.m_divmod (by decide +kernel) (pa_cons (pe_ix (ix_listK (K := K)) (pv 0) pe_int (fun _ _ => rfl)) (pa_cons (pv 1) pa_nil))) (pg_tup (n := 2) rfl (pgs_cons (pg_sub (pv 0) pe_int set_list) (pgs_cons (pg_name (i := 2) sc_draw.nd rfl (by first | exact Or.inl rfl | exact Or.inr rfl)) pgs_nil))))
      (pss_one (ps_ret (pv 2)))) pss_nil)
      (pss_cons (ps_asg (pe_op op_mod (pe_callTy call_int1 (by rfl) T.m_int (by decide +kernel) (pa_cons (pe_op op_add (pe_op op_mul (pe_ix (ix_listK (K := K)) (pv 0) pe_int (fun _ _ => rfl)) pe_int) pe_int) pa_nil)) pe_int) (pg_sub (pv 0) pe_int set_list))
      (pss_one (ps_ret (pe_op op_mod (pe_callTy call_int1 (by rfl) T.m_int (by decide +kernel) (pa_cons (pe_op op_fdiv (pe_op op_mod (pe_callTy call_int1 (by rfl) T.m_int (by decide +kernel) (pa_cons (pe_op op_mul (pe_ix (ix_listK (K := K)) (pv 0) pe_int (fun _ _ => rfl)) (pe_ix (ix_listK (K := K)) (pv 0) pe_int (fun _ _ => rfl))) pa_nil)) pe_int) pe_int) pa_nil)) (pv 1))))))), ?_⟩
    obtain ⟨p, n, rfl, ⟨i, j, e, i0, j0, j1⟩, hn, hn2, q⟩ := h
    refine ⟨_, rfl, p, _, _, _, rfl, rfl, SqL.of e, rfl, _, _, rfl, rfl, _, rfl, ite2 (fun hc => ?_) (fun hc => ?_)⟩
    · have ci : 0 < i := of_decide_eq_true hc
      refine ⟨_, rfl, p, _, _, _, rfl, rfl, SqL.of e, rfl, _, rfl, _, _, rfl, ⟨hn, hn2⟩, fun t ht => ?_⟩
      have e1 : (upd H t (.tup [.int (i / n), .int (i % n)])) p = some (.lst [.int i, .int j]) := by
        rw [upd_ne (ne_of_none e ht)]
        exact e
      refine ⟨t, _, rfl, SqT.of upd_same, rfl, _, _, rfl, _, rfl, p, _, 0, 0, rfl, rfl, e1, rfl, _, _, rfl, rfl, _, rfl, ?_⟩
      refine q _ _ (Int.emod_nonneg _ (by omega)) (Int.emod_lt_of_pos _ hn) ⟨fun a o na ea => ?_, i / n, j, upd_same, Int.ediv_nonneg i0 (by omega), j0, j1⟩
      rw [upd_ne na, upd_ne (ne_of_none ea ht)]
      exact ea
    · refine ⟨_, rfl, p, _, _, _, rfl, rfl, SqL.of e, rfl, _, _, rfl, rfl, .inr ⟨by decide, by decide⟩, _, _, rfl, rfl, .inl ⟨_, rfl, _, _, rfl, rfl, (by show (0 : Int) < 2147483587; decide), _, rfl, p, _, 1, 1, rfl, rfl, e, rfl, ?_⟩⟩
      have e1 : ∀ k : Int, (upd H p (.lst [.int i, .int k])) p = some (.lst [.int i, .int k]) := fun k => upd_same
      have b0 : 0 ≤ (j * 48271 + 12161) % 2147483587 := Int.emod_nonneg _ (by decide)
      have b1 : (j * 48271 + 12161) % 2147483587 < 2147483587 := Int.emod_lt_of_pos _ (by decide)
      refine ⟨_, rfl, p, _, _, _, rfl, rfl, SqL.of (e1 _), rfl, _, rfl, p, _, _, _, rfl, rfl, SqL.of (e1 _), rfl, _, _, rfl, rfl, .inl ⟨by omega, by omega⟩, .inl ⟨_, rfl, _, _, rfl, rfl, (by show (0 : Int) < 2147483549; decide), _, _, rfl, rfl, ⟨by decide, by decide⟩, .inl ⟨_, rfl, _, rfl, _, _, rfl, rfl, hn, ?_⟩⟩⟩
      refine q _ _ (Int.emod_nonneg _ (by omega)) (Int.emod_lt_of_pos _ hn) ⟨fun a o na ea => ?_, i, _, upd_same, i0, b0, by omega⟩
      rw [upd_ne na]
      exact ea
abbrev s_pick : Stmt := topS 52
theorem sc_pick : FnScope ["_law_pot_here", "_law_some"] ["_law_pot_here", "_law_some"] (defScope s_pick) := ⟨rfl, rfl, rfl, by decide +kernel, rfl, by decide +kernel, by decide +kernel⟩
theorem ok_pick {f : Addr} {fd : FuncData} (F : FunD K "_law_pick" "_law_pick" (defArgs s_pick) (defBody s_pick) (defScope s_pick) [] [] f fd) (T : Tx P w K mg base) (d_law_draw : Cal P w K mg base CX0 1 "_law_draw" ["_law_pot_here", "_law_many"] spDraw) : FnG P w K mg base CX0 2 f fd ["_law_pot_here", "_law_some"] (spPick K) := by
  refine fnG F sc_pick (fun vs H Q E h => ?_) (fun cdv A outer s H vs Q E gd hr h => ?_)
  · obtain ⟨p, l, xs, rfl, _⟩ := h
    rfl
  · skip
    refine ⟨_, PSs.nox ((pss_one (ps_ret (pe_ix (ix_listK (K := K)) (pv 1) (pe_cal d_law_draw gd hr (pa_cons (pv 0) (pa_cons (pe_callB (call_lenK (K := K)) (by rfl) T.m_len (by decide +kernel) (pa_cons (pv 1) pa_nil)) pa_nil))) (fun _ _ => rfl))))), ?_⟩
    obtain ⟨p, l, xs, rfl, hp, hl, hne, h0, h1, q⟩ := h
    refine ⟨_, rfl, _, rfl, _, rfl, l, _, rfl, .inl (SqL.of hl), p, _, rfl, hp, by omega, by omega, fun d H' d0 d1 x => ?_⟩
    obtain ⟨v, a1, a2⟩ := atI_mem d0 d1
    exact ⟨l, _, _, v, rfl, rfl, SqL.of (x.1 _ _ hne hl), a1, q v H' a2 x⟩
abbrev s_pot : Stmt := topS 50
theorem sc_pot : FnScope ["_law_script", "_law_k", "_law_cell"] ["_law_script", "_law_k"] (defScope s_pot) := ⟨rfl, rfl, rfl, by decide +kernel, rfl, by decide +kernel, by decide +kernel⟩
theorem ok_pot {f : Addr} {fd : FuncData} (F : FunD K "_law_pot" "_law_pot" (defArgs s_pot) (defBody s_pot) (defScope s_pot) [] [] f fd) (T : Tx P w K mg base)  : FnG P w K mg base CX0 1 f fd ["_law_script", "_law_k"] (spPot K) := by
  refine fnG F sc_pot (fun vs H Q E h => ?_) (fun cdv A outer s H vs Q E gd hr h => ?_)
  · obtain ⟨a, ns, k, rfl, _⟩ := h
    rfl
  · skip
    refine ⟨_, PSs.nox ((pss_cons (ps_set (i := 2) sc_pot.nd rfl (by first | exact Or.inl rfl | exact Or.inr rfl) (pe_op op_add (pe_op op_mul pe_int (pv 1)) pe_int))
      (Evl.pss_cut (ps_if (pt_cmpR op_lt (pv 1) (pe_callB (call_lenK (K := K)) (by rfl) T.m_len (by decide +kernel) (pa_cons (pv 0) pa_nil)) (nomark _)) (pss_one (ps_set (i := 2) sc_pot.nd rfl (by first | exact Or.inl rfl | exact Or.inr rfl) (pe_callB call_abs (by rfl) T.m_abs (by decide +kernel) (pa_cons (pe_ix (ix_listK (K := K)) (pv 0) (pv 1) (fun _ _ => rfl)) pa_nil)))) pss_nil)
      (pss_one (ps_ret (pe_lst (pa_cons (pe_callB (call_max2 rfl) (by rfl) T.m_max (by decide +kernel) (pa_cons pe_int (pa_cons (pe_op op_sub (pv 2) (pe_op op_pow pe_int pe_int)) pa_nil))) (pa_cons (pe_op op_add (pe_op op_mod (pe_op op_mul (pe_callTy call_int1 (by rfl) T.m_int (by decide +kernel) (pa_cons (pe_op op_add (pe_op op_mod (pe_callTy call_int1 (by rfl) T.m_int (by decide +kernel) (pa_cons (pv 2) pa_nil)) pe_int) pe_int) pa_nil)) (pe_op op_pow (pe_op op_add (pe_op op_mul pe_int (pv 1)) pe_int) pe_int)) pe_int) pe_int) pa_nil)))))))), ?_⟩
    obtain ⟨a, ns, k, rfl, hS, hn, k0, k1, q⟩ := h
    refine ⟨_, rfl, _, _, rfl, rfl, .inr ⟨by omega, by omega⟩, _, _, rfl, rfl, ?_⟩
    refine ⟨fun σ' H' => ∃ c : Int, 0 ≤ c ∧ σ' = [some (.ref a), some (.int k), some (.int c)] ∧ H' = H, ?_, ?_⟩
    · refine ⟨_, rfl, _, rfl, a, _, rfl, .inl hS, _, _, rfl, rfl, _, rfl, ite2 (fun hc => ?_) (fun _ => ⟨29 * k + 14, by omega, rfl, rfl⟩)⟩
      have hk : k < ((ns.map V.int).length : Int) := of_decide_eq_true hc
      obtain ⟨m, rfl⟩ := Int.eq_ofNat_of_zero_le k0
      have hm : m < (ns.map V.int).length := by omega
      have hm' : m < ns.length := by rw [List.length_map] at hm; exact hm
      have g : atI (ns.map V.int) (m : Int) = some (.int ns[m]) := by
        refine atI_nat ?_
        rw [List.getElem?_map, List.getElem?_eq_getElem hm']
        rfl
      refine ⟨_, rfl, _, rfl, a, _, _, _, rfl, rfl, hS, g, _, rfl, _, ?_, rfl, rfl⟩
      split <;> omega
    · rintro σ' H' ⟨c, c0, rfl, rfl⟩
      have b1 : 0 ≤ (c % 2147483549 + 23) * (2 * k + 3) ^ (3 : Int).toNat % 2147483477 := Int.emod_nonneg _ (by decide)
      have b2 : (c % 2147483549 + 23) * (2 * k + 3) ^ (3 : Int).toNat % 2147483477 < 2147483477 := Int.emod_lt_of_pos _ (by decide)
      have b3 := Int.emod_lt_of_pos c (b := 2147483549) (by decide)
      have b4 := Int.emod_nonneg c (b := 2147483549) (by decide)
      refine ⟨_, rfl, _, _, rfl, rfl, ⟨by decide, by decide, by decide⟩, _, _, rfl, rfl, _, _, rfl, ?_⟩
      refine ⟨_, rfl, .inl ⟨_, rfl, _, _, rfl, rfl, (by show (0 : Int) < 2147483549; decide), _, _, rfl, rfl, .inl ⟨_, rfl, _, rfl, _, _, rfl, rfl, .inr ⟨by omega, by omega⟩, _, _, rfl, rfl, ?_⟩⟩⟩
      refine ⟨_, _, rfl, rfl, ⟨by decide, by decide, by omega⟩, _, _, rfl, rfl, .inl ⟨by omega, by omega⟩, _, _, rfl, rfl, (by show (0 : Int) < 2147483477; decide), _, _, rfl, rfl, (by show 2 ≤ sizeLine; decide), fun p hp => ?_⟩
      refine q _ _ hp (fun b o e => by rw [upd_ne (ne_of_none e hp)]; exact e) ⟨_, _, upd_same, ?_, by omega, by omega⟩
      split <;> omega
end
end K35
namespace Tk
open PySem PySem.Spec PyProof.Rows L2 Lw Evl LamX TL
open Rm (R Ok Z0 Zp Fr fr_none fr_ne nt_lst nt_tup NT Zn)
end Tk
namespace Tk
open PySem PySem.Spec PyProof.Rows L2 Lw Evl LamX TL
open Rm (R Ok Z0 Zp Fr fr_none fr_ne nt_lst nt_tup NT Zn)
end Tk
namespace Tk
open PySem PySem.Spec PyProof.Rows L2 Lw Evl LamX TL
open Rm (R Ok Z0 Zp Fr fr_none fr_ne nt_lst nt_tup NT Zn)
def ks (xs : List Str) : List (L2.Key × V) := xs.map fun s => (.inr s, .bl true)
theorem ks_len {xs : List Str} : (ks xs).length = xs.length := by unfold ks; rw [List.length_map]
end Tk
namespace Tk
open PySem PySem.Spec PyProof.Rows L2
inductive Sn where
  | nil
  | nd (l r : Sn)
def Sn.has : Nat → Sn → Nat → Bool
  | _, .nil, _ => false
  | 0, .nd _ _, _ => true
  | k + 1, .nd l r, n => match n % 2 with
    | 0 => Sn.has k l (n / 2)
    | _ + 1 => Sn.has k r (n / 2)
def Sn.ins : Nat → Sn → Nat → Sn
  | 0, _, _ => .nd .nil .nil
  | k + 1, .nil, n => match n % 2 with
    | 0 => .nd (Sn.ins k .nil (n / 2)) .nil
    | _ + 1 => .nd .nil (Sn.ins k .nil (n / 2))
  | k + 1, .nd l r, n => match n % 2 with
    | 0 => .nd (Sn.ins k l (n / 2)) r
    | _ + 1 => .nd l (Sn.ins k r (n / 2))
def putV : List Addr → Sn → List Addr → Sn × List Addr
  | [], t, l => (t, l)
  | a :: r, t, l => match Sn.has 13 t a with
    | true => putV r t l
    | false => putV r (Sn.ins 13 t a) (a :: l)
def growV (g : Addr → Option Obj) : List Addr → Sn → List Addr → Sn × List Addr
  | [], t, l => (t, l)
  | a :: r, t, l => match g a with
    | some o => (match putV (He.refsD o) t l with
      | (t', l') => growV g r t' l')
    | none => growV g r t l
def rndV (g : Addr → Option Obj) : Nat → Sn → List Addr → List Addr
  | 0, _, f => f
  | n + 1, t, f => match growV g f t [] with
    | (t', f') => f ++ rndV g n t' f'
def asV (g : Addr → Option Obj) (n : Nat) : List Addr := rndV g n (Sn.ins 13 .nil mainGlobals) [mainGlobals]
section
variable (n : Nat) (fa : List He.Fa) (fn : List He.DefD) (tf : List He.Defn) (ex : PySem.W.Frag → Bool)
/-- what the names reach, and that table -/
def partY (g : Addr → Option Obj) : PySem.W.Frag := He.frT g (cStatics :: asV g n)
abbrev ToldY : Type := He.AlT × (Bool × Bool)
def obsY (g : Addr → Option Obj) : ToldY := (He.obsT fa fn [] (partY n g), (ex (partY n g), He.tabsB g tf (partY n g)))
structure SaysY (w : World) (h : Heap) (K : PySem.W.Frag) : Prop where
  t : He.SaysT fa fn [] w K
  more : ex K = true
  both : ∀ p ∈ tf, PySem.W.codeHdIn K (He.cT K p).1 (He.cT K p).2 = true ∧ K.lookup (He.cT K p).2 = none ∧ h.get? (He.cT K p).2 = some { cls := .none, data := .fields #[] }
variable {n fa fn tf ex}
theorem SaysY.hd {w : World} {h : Heap} {K : PySem.W.Frag} (c : SaysY fa fn tf ex w h K) (p : He.Defn) (m : p ∈ tf) : PySem.W.codeHdIn K (He.cT K p).1 (He.cT K p).2 = true := (c.both p m).1
theorem SaysY.out {w : World} {h : Heap} {K : PySem.W.Frag} (c : SaysY fa fn tf ex w h K) (p : He.Defn) (m : p ∈ tf) : K.lookup (He.cT K p).2 = none := (c.both p m).2.1
theorem SaysY.empty {w : World} {h : Heap} {K : PySem.W.Frag} (c : SaysY fa fn tf ex w h K) (p : He.Defn) (m : p ∈ tf) : h.get? (He.cT K p).2 = some { cls := .none, data := .fields #[] } := (c.both p m).2.2
theorem saysY_of {w : World} {h : Heap} (e : obsY n fa fn tf ex h.get? = (He.valT fn [] w, (true, true))) : SaysY fa fn tf ex w h (partY n h.get?) := by
  unfold obsY at e
  have a := (Prod.mk.injEq _ _ _ _ ▸ e : _ ∧ _)
  have b := (Prod.mk.injEq _ _ _ _ ▸ a.2 : _ ∧ _)
  refine ⟨a.1, b.1, fun p m => ?_⟩
  have z := List.all_eq_true.mp (show (tf.all fun p => _) = true from b.2) p m
  have z1 := (Bool.and_eq_true_iff.mp z).1
  have z2 := (Bool.and_eq_true_iff.mp z).2
  cases q : h.get? (He.cT (partY n h.get?) p).2 with
  | none => rw [q] at z2; cases z2
  | some o =>
    rw [q] at z2
    exact ⟨z1, He.frT_none q z2, by rw [He.emptyTab_eq z2]⟩
variable (n fa fn tf ex)
end
end Tk
namespace Tk
open PySem PySem.Spec PyProof.Rows L2 Lw
def fnWat (K : PySem.W.Frag) (a : Addr) : He.FnW := match K.lookup a with
  | some ⟨_, _, .func fd, _⟩ => some (fd.name, fd.qualname, fd.params, fd.body, fd.scope, fd.globals, fd.closure, fd.builtins)
  | _ => none
def okAt (K : PySem.W.Frag) (a : Addr) (d : He.DefD) : Bool := PySem.W.keepIn K (.ref a) && (match K.lookup a with
  | some ⟨_, _, .func fd, _⟩ => PySem.W.codeIn K fd.code d.qual && (He.dflB K fd.defaults (d.dvs K) && He.kwdB K fd.kwdefaults (d.kws K))
  | _ => false)
theorem funAt {K : PySem.W.Frag} {a : Addr} {d : He.DefD} (e : fnWat K a = d.val) (c : okAt K a d = true) : ∃ fd, FunD K d.name d.qual d.params d.body d.scope (d.dvs K) (d.kws K) a fd := by
  obtain ⟨kp, c2⟩ := He.ba c
  unfold fnWat at e
  cases q : K.lookup a with
  | none =>
    rw [q] at c2
    cases c2
  | some o =>
    obtain ⟨oc, od, dt, osl⟩ := o
    rw [q] at c2 e
    cases dt with
    | func fd =>
      obtain ⟨n1, n2, n3, n4, n5, n6, n7, n8, n9, n10, n11, n12, n13, n14, n15⟩ := fd
      have e2 : (some (n1, n2, n3, n4, n5, n6, n7, n15) : He.FnW) = some (d.name, d.qual, d.params, .stmts d.body, d.scope, mainGlobals, [], builtinsNs) := e
      simp only [Option.some.injEq, Prod.mk.injEq] at e2
      obtain ⟨h1, h2, h3, h4, h5, h6, h7, h8⟩ := e2
      subst h1 h2 h3 h4 h5 h6 h7 h8
      have c3 : (PySem.W.codeIn K n13 d.qual && (He.dflB K n8 (d.dvs K) && He.kwdB K n9 (d.kws K))) = true := c2
      obtain ⟨k1, k2⟩ := He.ba c3
      obtain ⟨k3, k4⟩ := He.ba k2
      exact ⟨_, ⟨oc, od, n8, n9, n10, n11, n12, n13, n14, osl, rfl, q, k1, He.dflB_ok k3, He.kwdB_ok k4⟩, kp⟩
    | _ => cases c2
/-- a property's getter; what its class must have -/
def prA (K : PySem.W.Frag) (x m : Str) : Addr := match PySem.W.recIn K (He.ma K (He.ga K x) m) "property" with
  | some (.ref g :: _) => g
  | _ => 0
def propB (K : PySem.W.Frag) (x m : Str) : Bool := He.eqO (PySem.W.findIn K (.ref (He.ga K x)) m) (some (some (.ref (He.ma K (He.ga K x) m)))) && (He.eqO (PySem.W.specialIn K (.ref (He.ma K (He.ga K x) m)) "__get__") (some (some (.builtin "property.__get__"))) &&
  (decide (PySem.W.takesIn K (.ref (He.ma K (He.ga K x) m)) = some true) && (match PySem.W.recIn K (He.ma K (He.ga K x) m) "property" with
    | some (.ref _ :: _) => true
    | _ => false)))
theorem prop_ok {K : PySem.W.Frag} {x m : Str} (h : propB K x m = true) : PropOf K (He.ga K x) m (He.ma K (He.ga K x) m) (prA K x m) := by
  obtain ⟨h1, h⟩ := He.ba h
  obtain ⟨h2, h⟩ := He.ba h
  obtain ⟨h3, h4⟩ := He.ba h
  refine ⟨He.eqO_ok h1, He.eqO_ok h2, of_decide_eq_true h3, ?_⟩
  unfold prA
  split at h4
  · rename_i g rest e
    rw [e]
    exact ⟨rest, rfl⟩
  · cases h4
def etupB (K : PySem.W.Frag) (d : Addr) : Bool := match K.lookup d with
  | some ⟨.type c, _, .seq its _, _⟩ => decide (c = "tuple") && its.toList.isEmpty
  | _ => false
theorem etup_ok {K : PySem.W.Frag} {d : Addr} (h : etupB K d = true) (H : Hp) : SqT K H d [] := by
  unfold etupB at h
  cases q : K.lookup d with
  | none =>
    rw [q] at h
    cases h
  | some o =>
    obtain ⟨oc, od, dt, osl⟩ := o
    rw [q] at h
    cases oc with
    | type c =>
      cases dt with
      | seq its n =>
        obtain ⟨h1, h2⟩ := He.ba (show (decide (c = "tuple") && its.toList.isEmpty) = true from h)
        have e : its.toList = [] := List.isEmpty_iff.mp h2
        refine .inr ⟨_, its, n, q, congrArg Value.type (of_decide_eq_true h1), rfl, ?_, ?_⟩
        · have l : its.size = 0 := by rw [← Array.length_toList, e]; rfl
          rw [l]
          exact Nat.zero_le _
        · rw [e]
          exact .nil
      | _ => cases h
    | _ => cases dt <;> cases h
section
variable (n : Nat) (fa : List He.Fa) (fn : List He.DefD) (tf : List He.Defn) (fx : List ((PySem.W.Frag → Addr) × He.DefD)) (ex : PySem.W.Frag → Bool)
abbrev ToldZ : Type := ToldY × (Bool × List He.FnW)
def obsX (K : PySem.W.Frag) : Bool × List He.FnW := (fx.all fun q => okAt K (q.1 K) q.2, fx.map fun q => fnWat K (q.1 K))
def obsZ (g : Addr → Option Obj) : ToldZ := (obsY n fa fn tf ex g, obsX fx (partY n g))
def valX : Bool × List He.FnW := (true, fx.map fun q => He.DefD.val q.2)
def FxS (K : PySem.W.Frag) : Prop := obsX fx K = valX fx
structure SaysZ (w : World) (h : Heap) (K : PySem.W.Frag) : Prop where
  y : SaysY fa fn tf ex w h K
  z : FxS fx K
def hookZ : PySem.W.Hook where
  α := ToldZ
  obs := fun s => obsZ n fa fn tf fx ex s.heap.get?
  val := fun w => ((He.valT fn [] w, (true, true)), valX fx)
  says := fun w h => ∃ K : PySem.W.Frag, K.In h ∧ SaysZ fa fn tf fx ex w h K
  of := fun _ s e => ⟨partY n s.heap.get?, He.frT_in, saysY_of (congrArg (fun z : ToldZ => z.1) e), congrArg (fun z : ToldZ => z.2) e⟩
  keeps := fun _ _ _ z k => z.elim fun K y => ⟨K, PySem.W.Frag.In.keeps y.1 k, ⟨y.2.y.t, y.2.y.more, fun p m => ⟨(y.2.y.both p m).1, (y.2.y.both p m).2.1, k _ _ (y.2.y.both p m).2.2⟩⟩, y.2.z⟩
theorem obsZ_eq {g : Addr → Option Obj} {s : Shared} (h : ∀ a, g a = s.heap.get? a) : obsZ n fa fn tf fx ex g = (hookZ n fa fn tf fx ex).obs s := congrArg (obsZ n fa fn tf fx ex) (funext h)
end
theorem FxS.def_ {fx : List ((PySem.W.Frag → Addr) × He.DefD)} {K : PySem.W.Frag} (c : FxS fx K) (i : Nat) {q : (PySem.W.Frag → Addr) × He.DefD} (h : fx[i]? = some q := by rfl) : ∃ fd, FunD K q.2.name q.2.qual q.2.params q.2.body q.2.scope (q.2.dvs K) (q.2.kws K) (q.1 K) fd := by
  have c1 : (fx.all fun q => okAt K (q.1 K) q.2) = true := congrArg (fun z : Bool × List He.FnW => z.1) c
  have c2 : (fx.map fun q => fnWat K (q.1 K)) = fx.map fun q => He.DefD.val q.2 := congrArg (fun z : Bool × List He.FnW => z.2) c
  have e : (fx.map fun q => fnWat K (q.1 K))[i]? = (fx.map fun q => He.DefD.val q.2)[i]? := by rw [c2]
  rw [List.getElem?_map, List.getElem?_map, h] at e
  exact funAt (Option.some.inj e) (List.all_eq_true.mp c1 q (List.mem_of_getElem? h))
end Tk
namespace Tk
open PySem PySem.Spec PyProof.Rows L2 Lw
end Tk
namespace Tk
open PySem PySem.Spec PyProof.Rows L2 Lw Evl
end Tk
namespace Tk
open PySem PySem.Spec PyProof.Rows L2 Lw Evl LamX TL
open Rm (R Ok Z0 Zp Fr fr_none fr_ne nt_lst nt_tup NT Zn)
end Tk
namespace Tk
open PySem PySem.Spec PyProof.Rows L2 Lw Evl LamX TL
open Rm (R Ok Z0 Zp Fr fr_none fr_ne nt_lst nt_tup NT Zn)
section
variable {P : Program} {w : World} {K : PySem.W.Frag} {Z : Zn} {TT : List (Addr × Str)} {H H0 H1 H2 : Hp} {σ : L2.St} {te ta tb td : TE} {a b l CF CY CS d : Addr} {ws us ts ms : List (List Str)} {xs : List Str} {i j n : Nat} {Q : VK} {E : XK}
/-- one of a pair -/
theorem ev_at0 {v u : V} (h : Ev te σ H (.ref a)) (ha : H a = some (.tup [v, u])) : Ev (tOp (rIxT K) te (tC (.int 0))) σ H v := ev_op h ev_c (rv_ixT (SqT.of ha) (show atI [v, u] ((0 : Nat) : Int) = some v from atI_nat rfl))
theorem ev_at1 {v u : V} (h : Ev te σ H (.ref a)) (ha : H a = some (.tup [v, u])) : Ev (tOp (rIxT K) te (tC (.int 1))) σ H u := ev_op h ev_c (rv_ixT (SqT.of ha) (show atI [v, u] ((1 : Nat) : Int) = some u from atI_nat rfl))
end
end Tk
namespace Lw
open PySem PySem.Spec PyProof.Rows L2
end Lw
namespace Tk
open PySem PySem.Spec PyProof.Rows L2 Lw Evl LamX TL
open Rm (R Ok Z0 Zp Fr fr_none fr_ne nt_lst nt_tup NT Zn)
end Tk
namespace Tk
open PySem PySem.Spec PyProof.Rows L2 Lw Evl LamX TL
open Rm (R Ok Z0 Zp Fr fr_none fr_ne nt_lst nt_tup NT Zn)
abbrev LS := List (List Str) × List (List Str)
/-- a list or a tuple, one of the fragment too -/
def Sqq (K : PySem.W.Frag) (H : Hp) (l : Addr) (us : List V) : Prop := Sq H l us ∨ SqT K H l us
section
variable {K : PySem.W.Frag} {σ : L2.St} {H H1 : Hp} {te : TE} {l : Addr} {us : List V} {tb : TS} {g : TG} {D : Ends}
theorem sqq_ex (e : Ex H H1) (h : Sqq K H l us) : Sqq K H1 l us := h.imp (sq_ex e) (ex_t e)
theorem sqq_ty (h : Sqq K H l us) : ∃ t, TyX K H (.ref l) (.type t) ∧ PySem.W.kitAny K (.type t) [.type "list", .type "tuple"] = some true := h.elim sq_ty fun h => ⟨"tuple", tyx_tup h, rfl⟩
theorem sqq_ls (h : Sqq K H l us) : SqL K H l us ∨ SqT K H l us := h.elim (fun h => h.imp SqL.of SqT.of) .inr
end
end Tk
namespace Tk
open PySem PySem.Spec PyProof.Rows L2 Lw Evl LamX TL
open Rm (R Ok Z0 Zp Fr fr_none fr_ne nt_lst nt_tup NT Zn)
open LwX (XC XF)
end Tk
namespace Tk
open PySem PySem.Spec PyProof.Rows L2 Lw Evl LamX TL
open Rm (R Ok Z0 Zp Fr fr_none fr_ne nt_lst nt_tup NT Zn)
end Tk
namespace Tk
open PySem PySem.Spec PyProof.Rows L2 Lw Evl LamX TL
open Rm (R Ok Z0 Zp Fr fr_none fr_ne nt_lst nt_tup NT Zn)
end Tk
namespace Lw
open PySem PySem.Spec PyProof.Rows L2
end Lw
namespace Tk
open PySem PySem.Spec PyProof.Rows L2 Lw Evl LamX TL
open Rm (R Ok Z0 Zp Fr fr_none fr_ne nt_lst nt_tup NT Zn)
end Tk
namespace Lw
open PySem PySem.Spec PyProof.Rows L2
theorem pg_tupK {X : Cx} {K : PySem.W.Frag} {es : List Expr} {k : Nat} {pos : Pos} {t : TGs} {n : Nat} (hc : X.calm = true) (h : PGs X es t) (hK : X.K = K := by rfl)
    (hn : (assignEach es X.env).length = n := by rfl) (hst : (assignEach es X.env).findIdx? (·.1) = none := by rfl) : PG X (.Tuple es k pos) (gTup K n t) := hK ▸ pg_tup hc h hn hst
end Lw
namespace Tk
open PySem PySem.Spec PyProof.Rows L2 Lw Evl LamX TL
open Rm (R Ok Z0 Zp Fr fr_none fr_ne nt_lst nt_tup NT Zn)
abbrev g2 (K : PySem.W.Frag) (i j : Nat) : TG := gTup K 2 (gCons (gName i) (gCons (gName j) gNil))
end Tk
namespace Lw
open PySem PySem.Spec PyProof.Rows L2 Evl
end Lw
namespace Lw
open PySem PySem.Spec PyProof.Rows L2 Evl
def Gd (H : Hp) (A : Around) : Prop := ∃ g, A.guards = some g ∧ ∀ b, Clear g b ∨ ∃ (c : Addr) (us : List V) (C dx : Addr) (fs : List (Str × V)), H b = some (.lst (.ref c :: us)) ∧ H c = some (.ins C dx fs)
theorem gd_nil {H : Hp} {A : Around} (h : A.guards = some []) : Gd H A := ⟨[], h, fun b => .inl (Clear.nil b)⟩
/-- what a def keeps, called while such lists are shown -/
structure FnR (P : Program) (w : World) (K : PySem.W.Frag) (mg : Str → Option Value) (base : Heap) (CX : CXT) (k : Nat) (f : Addr) (fd : FuncData) (ps : List Str) (sp : Sp) : Prop where
  len : ∀ vs H Q E, sp vs H Q E → vs.length = ps.length
  go : ∀ {A : Around} {outer : List Env} {s : Shared} {H : Hp} {args : Args} {us : List Value} {vs : List V} {Q : VK} {E : XK},
    Gd H A → Room k A → Env0 P w K mg base A outer s H → BindsTo s fd args (ps.zip us) → Vals vs us → sp vs H Q E →
    codeAny (model P w) A (.call (.ref f) args) (CR CX outer P w H s Q E) s
section
variable {P : Program} {w : World} {K : PySem.W.Frag} {mg : Str → Option Value} {base : Heap} {CX : CXT}
theorem FnR.up {j k : Nat} {f : Addr} {fd : FuncData} {ps : List Str} {sp : Sp} (F : FnR P w K mg base CX j f fd ps sp) (h : j ≤ k) : FnR P w K mg base CX k f fd ps sp :=
  ⟨F.len, fun g r => F.go g (r.mono h)⟩
theorem FnR.g {k : Nat} {f : Addr} {fd : FuncData} {ps : List Str} {sp : Sp} (F : FnR P w K mg base CX k f fd ps sp) : FnG P w K mg base CX k f fd ps sp :=
  ⟨F.len, fun g r => F.go (gd_nil g) r⟩
end
/-- an own __repr__ that may be called while such lists are shown -/
def SpR (P : Program) (w : World) (K : PySem.W.Frag) (mg : Str → Option Value) (base : Heap) (k : Nat) (C : Addr) (n : Str) (ps : List Str) (sp : Sp) : Prop :=
  ∃ f fd, PySem.W.findIn K (.ref C) n = some (some (.ref f)) ∧ PySem.W.typeIn K (.ref f) = some (.type "function") ∧ Binds K fd ps [] ∧ FnR P w K mg base CX0 k f fd ps sp
theorem SpR.g {P : Program} {w : World} {K : PySem.W.Frag} {mg : Str → Option Value} {base : Heap} {k : Nat} {C : Addr} {n : Str} {ps : List Str} {sp : Sp} (q : SpR P w K mg base k C n ps sp) : SpG P w K mg base k C n ps sp := by
  obtain ⟨f, fd, h1, h2, h3, F⟩ := q
  exact ⟨f, fd, h1, h2, h3, F.g⟩
end Lw
namespace Lw
open PySem PySem.Spec PyProof.Rows L2 Evl
end Lw
namespace Tk
open PySem PySem.Spec PyProof.Rows L2 Lw Evl LamX TL
open Rm (R Ok Z0 Zp Fr fr_none fr_ne nt_lst nt_tup NT Zn)
section
variable {K : PySem.W.Frag} {σ : L2.St} {H H1 : Hp} {te ta tb : TE} {l a b CY CB : Addr} {us vs : List V} {tz : TS} {g : TG} {D : Ends} {L M : List LS}
theorem paired_ix {α β : Type} {R : α → β → Prop} : ∀ {xs : List α} {ys : List β} {i : Nat} {x : α}, Paired R xs ys → xs[i]? = some x → ∃ y, ys[i]? = some y ∧ R x y := fun {xs ys i x} h hx => paired_at h hx
end
end Tk
namespace Tk
open PySem PySem.Spec PyProof.Rows L2 Lw Evl LamX TL
open Rm (R Ok Z0 Zp Fr fr_none fr_ne nt_lst nt_tup NT Zn)
end Tk
namespace Tk
open PySem PySem.Spec PyProof.Rows L2 Lw Evl LamX TL
open Rm (R Ok Z0 Zp Fr fr_none fr_ne nt_lst nt_tup NT Zn)
def pl (s : LS) : LS := (srtW s.1, srtW s.2)
end Tk
namespace Tk
open PySem PySem.Spec PyProof.Rows L2 Lw Evl LamX TL
open Rm (R Ok Z0 Zp Fr fr_none fr_ne nt_lst nt_tup NT Zn)
end Tk
namespace Tk
open PySem PySem.Spec PyProof.Rows L2 Lw Evl LamX TL
open Rm (R Ok Z0 Zp Fr fr_none fr_ne nt_lst nt_tup NT Zn)
end Tk
namespace Tk
open PySem PySem.Spec PyProof.Rows L2 Lw Evl LamX TL
open Rm (R Ok Z0 Zp Fr fr_none fr_ne nt_lst nt_tup NT Zn)
end Tk
namespace Tk
open PySem PySem.Spec PyProof.Rows L2 Lw Evl LamX TL
open Rm (R Ok Z0 Zp Fr fr_none fr_ne nt_lst nt_tup NT Zn)
end Tk
namespace Lw
open PySem PySem.Spec PyProof.Rows L2 Evl
def rIxO (C : Addr) (sp : Sp) (E : XK) : R2 := fun x y H Q => ∃ (a dx : Addr) (fs : List (Str × V)), x = .ref a ∧ H a = some (.ins C dx fs) ∧ sp [.ref a, y] H Q E
def SpI (P : Program) (w : World) (K : PySem.W.Frag) (mg : Str → Option Value) (base : Heap) (CX : CXT) (k : Nat) (C : Addr) (n : Str) (ps : List Str) (sp : Sp) : Prop :=
  ∃ f fd, PySem.W.findIn K (.ref C) n = some (some (.ref f)) ∧ PySem.W.fnIn K f = true ∧ PySem.W.isFn K (.ref f) = true ∧ Binds K fd ps [] ∧ FnOk P w K mg base CX k f fd ps sp
theorem pe_ixO {X : Cx} {CX : CXT} {k j : Nat} {C : Addr} {ps : List Str} {sp : Sp} {E : XK} {a b : Expr} {pos : Pos} {ta tb : TE} (q : SpI X.prog X.w X.K X.mg X.base CX k C "__getitem__" ps sp) (hr : Room j X.A) (hx : Passes CX X E) (ha : PE X a ta) (hb : PE X b tb) (hs : ∀ o i, subscripted b true o i = runValue (.builtin "lifetime.subscript" ⟨[o, i], []⟩)) (hj : k + 1 ≤ j := by decide) : PE X (.Subscript a b pos) (tOp (rIxO C sp E) ta tb) := by
  obtain ⟨f, fd, hf, hn, tf, hbd, F⟩ := q
  refine ⟨fun pins s σ H Q I h => ?_⟩
  refine Subscript_ (binT ha hb I h fun v u s2 x y H2 I2 rx ry q => ?_)
  obtain ⟨c, dx, fs, rfl, hc, q⟩ := q
  cases rx
  obtain ⟨mA, J, _⟩ := ins_get I2.hok hc
  obtain ⟨od, J, _⟩ := J.look
  obtain ⟨m, fr⟩ := I2.fr
  exact PySem.W.sub_K fr I2.ok.mod.kin J hf hn tf (run_in1 (us := [.ref c, u]) (vs := [.ref c, y]) F hbd (hr.mono hj).in1 hx I2 (.cons rfl (.cons ry .nil)) q) (hs _ _)
theorem fnIn_of {K : PySem.W.Frag} {x qual : Str} {params : Arguments} {body : List Stmt} {scope : Scope} {dvs : List V} {kws : List (Str × V)} {f : Addr} {fd : FuncData} (F : FunD K x qual params body scope dvs kws f fd) : PySem.W.fnIn K f = true := by
  obtain ⟨_, _, dV, kV, doc, pm, an, cdv, ct, osl, rfl, lk, _⟩ := F.ex
  unfold PySem.W.fnIn
  rw [lk]
end Lw
namespace Lw
open PySem PySem.Spec PyProof.Rows L2
section
variable {prog : Program} {w : World} {K : Type} [DecidableEq K] {knd : HeapKind prog w K} {A : Around} {E : Value → Shared → Prop} {s : Shared}
theorem samePairsI {nm : String} {a b : Addr} {xs ys : List (K × Addr × Value)} {Q : Bool → Shared → Prop} (hu : knd.room A) (ha : (a == sysModules) = false) (hb : (b == sysModules) = false)
    (da : s.heap.DictOfH knd a xs) (db : s.heap.DictOfH knd b ys) (vy : ∀ x ∈ xs, ∀ (j : Nat) (p : Addr × Value), ys[j]? = some (x.1, p) → ∃ (n : Int) (t t' : Tok), x.2.2 = .int n t ∧ p.2 = .int n t') (h : Q (xs.length == ys.length && xs.all fun x => decide (x.1 ∈ ys.map Prod.fst)) s) :
    wpAny (model prog w) A (Builtin.Dict.samePairs nm a b) Q E s := by
  obtain ⟨oa, es, ep, hoa, _, hda, hea, hia, hna⟩ := da
  obtain ⟨ob, fs, fp, hob, _, hdb, heb, hib, hnb⟩ := db
  have hla : es.size = xs.length := size_of_entries hea
  have hlb : fs.size = ys.length := size_of_entries heb
  rw [← hla, ← hlb] at h
  unfold Builtin.Dict.samePairs Builtin.Dict.showsAll
  rw [if_neg (show ¬ (a == sysModules) = true by rw [ha]; exact Bool.false_ne_true), if_neg (show ¬ (b == sysModules) = true by rw [hb]; exact Bool.false_ne_true)]
  refine wpAny_bind (wpAny_pure (wpAny_bind (wpAny_pure ?_)))
  refine wpAny_bind (wpAny_dictEntries hoa hda ?_)
  dsimp only
  refine wpAny_bind (wpAny_dictEntries hob hdb ?_)
  by_cases hsz : es.size = fs.size
  case neg =>
    rw [if_pos (by simpa using hsz)]
    have hbf : (es.size == fs.size) = false := by simpa using hsz
    rw [hbf, Bool.false_and] at h
    exact wpAny_bind (wpAny_rule (wpAny_pure h))
  case pos =>
    have h' : Q (xs.all fun x => decide (x.1 ∈ ys.map Prod.fst)) s := by simpa [hsz] using h
    rw [if_neg (by rw [hsz]; simp)]
    refine wpAny_bind (wpAny_dictEpoch hoa hda ?_)
    refine wpAny_bind ?_
    rw [Std.Legacy.Range.forIn_eq_forIn_range']
    simp only [Std.Legacy.Range.size, Nat.sub_zero, Nat.add_sub_cancel, Nat.div_one]
    refine wpAny_forIn_list _
      (fun rest q s' => s' = s ∧ q = (none, ()) ∧ ∃ i, rest = List.range' i (es.size - i) ∧ i ≤ es.size ∧ ∀ x ∈ xs.take i, x.1 ∈ ys.map Prod.fst)
      _ ?_ ?_ _ _ ⟨rfl, rfl, 0, by simp, Nat.zero_le _, fun _ z => absurd z (by simp)⟩
    · rintro x rest q s' ⟨rfl, rfl, i, hr, hi, hpre⟩
      have hlt : i < es.size := by
        rcases Nat.lt_or_ge i es.size with h | h
        · exact h
        · rw [Nat.sub_eq_zero_of_le h] at hr; simp at hr
      obtain ⟨rfl, hrest⟩ : x = i ∧ rest = List.range' (i + 1) (es.size - (i + 1)) := by
        have e : es.size - i = (es.size - (i + 1)) + 1 := by omega
        rw [e, List.range'_succ] at hr
        injection hr with h1 h2
        exact ⟨h1, h2⟩
      have hltx : x < xs.length := by omega
      obtain ⟨⟨k, c, v⟩, hkv⟩ : ∃ y, xs[x]? = some y := ⟨_, List.getElem?_eq_getElem hltx⟩
      have hmem := List.mem_of_getElem? hkv
      have hic : knd.is s'.heap k c := hia _ hmem
      have hex : es[x]? = some ⟨knd.hash k, .ref c, v⟩ := by
        rw [entry_at hea x, hkv]
        rfl
      refine wpAny_bind (wpAny_dictEntries hoa hda ?_)
      rw [hex]
      dsimp only
      have no : (∀ (j : Nat) (p : Addr × Value), ys[j]? ≠ some (k, p)) → Q false s' := fun hno => by
        have z : (xs.all fun x => decide (x.1 ∈ ys.map Prod.fst)) = false := by
          refine Bool.eq_false_iff.mpr fun z => ?_
          have z2 := of_decide_eq_true (List.all_eq_true.mp z _ hmem)
          obtain ⟨y, hy, ey⟩ := List.mem_map.mp z2
          obtain ⟨j, hj, ej⟩ := List.getElem_of_mem hy
          refine hno j y.2 ?_
          rw [List.getElem?_eq_getElem hj, ej]
          exact congrArg some (Prod.ext ey rfl)
        rw [z] at h'
        exact h'
      refine wpAny_bind (wpAny_holding (wpAny_bind (wpAny_dictFind_heap hu hic hob hdb heb hib hnb (fun hno => ?_) (fun j p hj => ?_))))
      · refine wpAny_pure ?_
        show wpAny _ _ (if (!false) = true then _ else _) _ _ _
        rw [if_pos (by decide)]
        exact wpAny_pure (wpAny_pure (no hno))
      · have hyj : fs[j]? = some ⟨knd.hash k, .ref p.1, p.2⟩ := by
          rw [entry_at heb j, hj]
          rfl
        obtain ⟨n, t1, t2, hv, hv2⟩ := vy _ hmem j p hj
        dsimp only at hv
        refine wpAny_bind (wpAny_dictEntries hob hdb ?_)
        rw [hyj]
        dsimp only
        rw [hv, hv2]
        refine wpAny_holding (m := eqBool (.int n t1) (.int n t2)) (SeqAt.EqAt.int_int n t1 n t2 prog w E _ ?_)
        rw [show (n == n) = true from by simp]
        show wpAny _ _ (if (!true) = true then _ else _) _ _ _
        rw [if_neg (by decide)]
        refine wpAny_bind (wpAny_dictEpoch hoa hda ?_)
        rw [if_neg (by simp)]
        refine wpAny_pure ⟨rfl, rfl, x + 1, hrest, hlt, fun y hy => ?_⟩
        rw [List.take_add_one, hkv] at hy
        rcases List.mem_append.mp hy with hy | hy
        · exact hpre y hy
        · rw [List.mem_singleton.mp hy]
          exact List.mem_map.mpr ⟨_, List.mem_of_getElem? hj, rfl⟩
    · rintro q s' ⟨rfl, rfl, i, hr, hi, hpre⟩
      have hin : i = es.size := by
        rcases Nat.lt_or_ge i es.size with h | h
        · have e : es.size - i = (es.size - (i + 1)) + 1 := by omega
          rw [e, List.range'_succ] at hr; exact nomatch hr
        · exact Nat.le_antisymm hi h
      refine wpAny_pure ?_
      rw [hin, hla, List.take_length] at hpre
      have z : (xs.all fun x => decide (x.1 ∈ ys.map Prod.fst)) = true := List.all_eq_true.mpr fun x hx => decide_eq_true (hpre x hx)
      rw [z] at h'
      exact h'
theorem samePairsJ {nm : String} {a b : Addr} {xs ys : List (K × Addr × Value)} {Q : Bool → Shared → Prop} (hu : knd.room A) (ha : (a == sysModules) = false) (hb : (b == sysModules) = false)
    (da : s.heap.DictOfH knd a xs) (db : s.heap.DictOfH knd b ys) (vy : ∀ x ∈ xs, ∀ (j : Nat) (p : Addr × Value), ys[j]? = some (x.1, p) → ∃ (n : Int) (t t' : Tok), x.2.2 = .int n t ∧ p.2 = .int n t') (hl : xs.length = ys.length) (hk : ∀ x ∈ xs, x.1 ∈ ys.map Prod.fst) (h : Q true s) :
    wpAny (model prog w) A (Builtin.Dict.samePairs nm a b) Q E s := samePairsI hu ha hb da db vy (by
  have all : (xs.length == ys.length && xs.all fun x => decide (x.1 ∈ ys.map Prod.fst)) = true := by
    rw [hl, beq_self_eq_true, Bool.true_and]
    exact List.all_eq_true.mpr fun x hx => decide_eq_true (hk x hx)
  rw [all]
  exact h)
end
/-- two dicts that hold the same, told in the same row -/
theorem kt_same {H : Hp} {kvs : List (List L2.Key × V)} {xs ys : List (List L2.Key × Addr × Value)} (r1 : KT H kvs xs) (r2 : KT H kvs ys) (nd : (kvs.map (·.1)).Nodup) (ni : ∀ p ∈ kvs, ∃ n : Int, p.2 = .int n) :
    (xs.map Prod.fst = kvs.map (·.1) ∧ ys.map Prod.fst = kvs.map (·.1)) ∧ ∀ x ∈ xs, ∀ (j : Nat) (p : Addr × Value), ys[j]? = some (x.1, p) → ∃ (n : Int) (t t' : Tok), x.2.2 = .int n t ∧ p.2 = .int n t' := by
  have keys : ∀ {xs : List (List L2.Key × Addr × Value)} {kvs : List (List L2.Key × V)}, KT H kvs xs → xs.map Prod.fst = kvs.map (·.1) := fun {xs kvs} r => by
    induction r with
    | nil => rfl
    | cons hq t ih => rw [List.map_cons, List.map_cons, ih, hq.1]
  have k1 := keys r1
  have k2 := keys r2
  refine ⟨⟨k1, k2⟩, fun x hx j p hj => ?_⟩
  obtain ⟨i, hi⟩ := List.getElem?_of_mem hx
  have e1 : (kvs.map (·.1))[i]? = some x.1 := by rw [← k1, List.getElem?_map, hi]; rfl
  have e2 : (kvs.map (·.1))[j]? = some x.1 := by rw [← k2, List.getElem?_map, hj]; rfl
  have lj : i < (kvs.map (·.1)).length := (List.getElem?_eq_some_iff.mp e1).1
  obtain rfl : i = j := (List.getElem?_inj lj nd).mp (e1.trans e2.symm)
  have at_ : ∀ {xs : List (List L2.Key × Addr × Value)} {kvs : List (List L2.Key × V)} {i : Nat} {x : List L2.Key × Addr × Value}, KT H kvs xs → xs[i]? = some x → ∃ q, kvs[i]? = some q ∧ RelV q.2 x.2.2 := fun {xs kvs i x} r => by
    intro h
    induction r generalizing i with
    | nil => simp at h
    | cons hq t ih =>
      cases i with
      | zero => cases h; exact ⟨_, rfl, hq.2.2⟩
      | succ i => exact ih (by simpa using h)
  obtain ⟨q, hq, rq⟩ := at_ r1 hi
  obtain ⟨q2, hq2, rq2⟩ := at_ r2 hj
  rw [hq] at hq2
  cases hq2
  obtain ⟨n, hn⟩ := ni q (List.mem_of_getElem? hq)
  rw [hn] at rq rq2
  obtain ⟨t, ht⟩ := rq
  obtain ⟨t', ht'⟩ := rq2
  exact ⟨n, t, t', ht, ht'⟩
/-- d == e, both holding the same -/
def rEqS : R2 := fun x y H Q => ∃ (d e : Addr) (kvs : List (List L2.Key × V)), x = .ref d ∧ y = .ref e ∧ H d = some (.dT kvs) ∧ H e = some (.dT kvs) ∧ (kvs.map (·.1)).Nodup ∧ (∀ p ∈ kvs, ∃ n : Int, p.2 = .int n) ∧ Q (.bl true) H
theorem op_eqS {X : Cx} (hu : X.A.units + 64 < cLine) : OpR X (compareOp .Eq) rEqS := by
  intro pins s σ H x y v u Q I rx ry h
  obtain ⟨d, e, kvs, rfl, rfl, hd, he, nd, ni, q⟩ := h
  cases rx
  cases ry
  obtain ⟨z1, n1, xs, r1, d1⟩ := dt_of I.hok hd
  obtain ⟨z2, n2, ys, r2, d2⟩ := dt_of I.hok he
  obtain ⟨⟨k1, k2⟩, vy⟩ := kt_same r1 r2 nd ni
  show wpAny _ _ (richCompare .Eq (.ref d) (.ref e)) _ _ _
  refine wpAny_richCompare_same_room (op := .Eq) d1.typeIs d2.typeIs PySem.F.slot_dict_eq (wpAny_call_entry PySem.F.slot_dict_eq d1.typeIs PySem.F.entry_dict_eq ?_ (PySem.F.args_dict_eq_2 _ _)) (by omega)
  show wpAny _ _ (Builtin.Dict.dictSlotArgs "__eq__" ⟨[.ref d, .ref e], []⟩ >>= _) _ _ s
  refine wpAny_bind ?_
  unfold Builtin.Dict.dictSlotArgs
  refine wpAny_bind (wpAny_notOrdered_dict d1.typeIs ?_)
  show wpAny _ _ (pure (Value.ref d, Value.ref e)) _ _ s
  refine wpAny_pure ?_
  refine wpAny_bind (wpAny_isInstance (T := "dict") d2.typeIs PySem.F.sub_dict_dict ?_)
  simp only [Bool.not_true, Bool.false_eq_true, if_false]
  refine wpAny_bind (wpAny_pure (wpAny_bind (wpAny_pure ?_)))
  have rm : (tupleKind (mixKind X.prog X.w)).room X.A.in1 := tupleKind_room_in1 (by omega)
  have l1 : xs.length = kvs.length := (Paired.length r1).symm
  have l2 : ys.length = kvs.length := (Paired.length r2).symm
  refine wpAny_bind (samePairsJ rm n1 n2 d1 d2 vy (l1.trans l2.symm) (fun x hx => by
    rw [k2, ← k1]
    exact List.mem_map.mpr ⟨x, hx, rfl⟩) ?_)
  refine wpAny_pure ⟨_, rfl, ?_, ?_⟩
  · exact fun x => nomatch x
  · exact ⟨.bl true, H, I, rfl, q⟩
end Lw
namespace Lw
open PySem PySem.Spec PyProof.Rows L2 Evl
def ItiT (d : Addr) (o : Obj) (kvs : List (List L2.Key × V)) : It :=
  ⟨fun i H => H d = some (.frz o (.dT kvs)) ∧ i < kvs.length, fun i H x H' => ∃ T q k v, kvs[i]? = some (k, v) ∧ x = .ref T ∧ H q = some (.tup (k.map kV)) ∧ H T = none ∧ H' = upd H T (.tup [.ref q, v]), fun i H => H d = some (.frz o (.dT kvs)) ∧ kvs.length ≤ i⟩
section
variable {X : Cx} {pins : List (Addr × Obj)} {σ : L2.St} {H : Hp} {s : Shared} {d : Addr} {o : Obj} {kvs : List (List L2.Key × V)}
theorem frzT2 (I : Inv X pins σ H s) (h : H d = some (.frz o (.dT kvs))) :
    (d == sysModules) = false ∧ s.heap.get? d = some o ∧ ∃ (es : Array DictEntry) (ep : Nat), s.heap.DictRaw d es ep ∧ o.data = .dict es ep ∧ es.size = kvs.length ∧
      ∀ (i : Nat) (hi : i < es.size) (k : List L2.Key) (v : V), kvs[i]? = some (k, v) → ∃ q : Addr, es[i].key = .ref q ∧ H q = some (.tup (k.map kV)) ∧ RelV v es[i].val := by
  obtain ⟨hd, z, hs, xs, pq, o', es, ep, ho, hx, dq, he, _⟩ := I.hok d _ h
  have hoo : o' = o := Option.some.inj (ho.symm.trans hd)
  subst hoo
  have hl : es.size = xs.length := size_of_entries he
  have lk := Paired.length pq
  refine ⟨hs, hd, es, ep, ⟨_, ho, hx, dq⟩, dq, by omega, fun i hi k v e => ?_⟩
  obtain ⟨y, h1, h2, h3, h4⟩ := paired_at pq e
  have ee := entry_at he i
  rw [h1, Array.getElem?_eq_getElem hi] at ee
  have ee2 := Option.some.inj ee
  rw [ee2]
  exact ⟨y.2.1, rfl, h3, h4⟩
end
theorem turn_itemsT {P : Program} {w : World} {K : PySem.W.Frag} {d : Addr} {o : Obj} {es : Array DictEntry} {ep : Nat} {kvs : List (List L2.Key × V)} {elts : List Expr} {kk : Nat} {tpos : Pos} (ip : Addr) (hod : o.data = .dict es ep) :
    Turn P w K (.Tuple elts kk tpos) (ItiT d o kvs) [ip] ip (fun i h => ∃ ok ov, IsItemIter h ip d i kvs.length ep ok ov) where
  mem := by simp
  obj := fun i h st b hb => by
    have e : b = ip := by simpa using hb
    subst e
    obtain ⟨ok, ov, e⟩ := st
    exact ⟨_, e, fun v z => nomatch z⟩
  keep := fun i h h' st k => let ⟨ok, ov, e⟩ := st; ⟨ok, ov, k ip (by simp) _ e⟩
  item := by
    intro X eP ew eK hc i pins s σ H E I fz st hg
    subst eP ew eK
    obtain ⟨hd, hi⟩ := hg
    obtain ⟨hs, gq, es', ep', hR, dq, hsz, ent⟩ := frzT2 I hd
    obtain ⟨rfl, rfl⟩ := dict_ep hod dq
    obtain ⟨⟨k, v⟩, kq⟩ : ∃ p, kvs[i]? = some p := ⟨kvs[i], List.getElem?_eq_getElem hi⟩
    have hi2 : i < es'.size := by rw [hsz]; exact hi
    obtain ⟨q, hq1, hq2, hq3⟩ := ent i hi2 k v kq
    obtain ⟨ok, ov, he⟩ := st
    rw [← hsz] at he
    have hq : ip < s.heap.objs.size := Heap.lt_size he
    refine wpAny_pyNext_items_item_raw he hR hi2 fun h' ho hT hz hk => ?_
    refine ⟨_, rfl, wpAny_letOwnedTupleGo_items (s := { s with heap := h' }) ho fun h'' he' sm => ?_⟩
    have hT2 : h''.get? s.heap.objs.size = some { cls := .type "tuple", data := .seq #[es'[i].key, es'[i].val] } := (sm.2 _ (Nat.ne_of_gt hq)).trans hT
    have new : ObjOk X.prog X.w (upd H s.heap.objs.size (.tup [.ref q, v])) h'' s.heap.objs.size (.tup [.ref q, v]) :=
      ⟨by show 2 ≤ sizeLine; decide, [es'[i].key, es'[i].val], .cons hq1 (.cons hq3 .nil), ⟨_, hT2, rfl, _, rfl⟩⟩
    have I1 : Inv X pins σ (upd H s.heap.objs.size (.tup [.ref q, v])) { s with heap := h'' } :=
      I.turnedNew (t' := s.toks) (ch := [ip]) (fun b ob hb e => (sm.2 b (by simpa using hb)).trans (hk b ob (by simpa using hb) e)) fz (Nat.le_refl _) new
    refine ⟨.ref s.heap.objs.size, _, I1, rfl, ⟨_, q, k, v, kq, rfl, hq2, I.hok.fresh (Nat.le_refl _), rfl⟩, ⟨es'[i].key, es'[i].val, ?_⟩, fun b hb => ?_⟩
    · rw [← hsz]; exact he'
    · have e : b = ip := by simpa using hb
      rw [e, upd_ne (Nat.ne_of_lt hq)]
      exact (fz ip (by simp)).1
  done := by
    intro X eP ew eK hc i pins s σ H E I fz st hg
    subst eP ew eK
    obtain ⟨hd, hi⟩ := hg
    obtain ⟨f0, f1, f2, f3, f4, f5⟩ := fz ip (by simp)
    obtain ⟨hs, gq, es', ep', hR, dq, hsz, ent⟩ := frzT2 I hd
    obtain ⟨rfl, rfl⟩ := dict_ep hod dq
    obtain ⟨ok, ov, he⟩ := st
    rw [← hsz] at he
    exact wpAny_pyNext_items_end_raw (I.ok.hd hc) he hR (by omega) fun h' eb => ⟨rfl, I.turned (t' := s.toks) (fun b ob hb e => eb b ob hb e) f0 f1 f3 f4 f5⟩
  self := fun A i s Q E st h => let ⟨_, _, e⟩ := st; PySem.W.kcp_self e h
def iItemsT (td : TE) : TI := fun σ H R => td σ H fun x H1 => ∃ d o kvs, x = .ref d ∧ H1 d = some (.frz o (.dT kvs)) ∧ R (ItiT d o kvs) H1
theorem pi_itemsT {X : Cx} {e : Expr} {td : TE} {apos cpos : Pos} {elts : List Expr} {kk : Nat} {tpos : Pos} (he : PE X e td) (hb0 : attributeBase e "items" X.env (eval e X.env) = eval e X.env := by rfl) (hl0 : (apos.endLine == cpos.line) = true := by rfl) :
    PI X (.Tuple elts kk tpos) (.Call (.Attribute e "items" apos) [] [] cpos) (iItemsT td) := by
  refine ⟨fun pins s σ H R I h => ?_⟩
  refine wpAny_Call_method (T := "dict") (id := "dict.items") hb0 rfl hl0 F.plainAttrs_dict F.slot_dict_items F.type_dict_items (thn (he.run pins s σ H _ I h) fun u s1 ⟨x, H1, I1, rx, d, o, kvs, ex, hd, q⟩ => ?_)
  subst ex
  obtain rfl : u = Value.ref d := rx
  obtain ⟨hs, gq, es, ep, hR, dq, hsz, ent⟩ := frzT2 I1 hd
  refine ⟨hR.typeIs, (fun a e => by
    cases e
    obtain ⟨oo, h1, h2, _⟩ := hR
    exact ⟨oo, h1, h2.2.1⟩), ?_⟩
  have J2 : Inv X pins σ H1 { s1 with heap := s1.heap.push { cls := .type "dict_items", data := .fields #[.ref d] } } := I1.kept (t' := s1.toks) fun b ob q => Heap.get?_push_of_some _ q
  have fin : wpAny (model X.prog X.w) X.A (pyIter (.ref s1.heap.objs.size)) (PIE X pins σ (.Tuple elts kk tpos) R) X.xe { s1 with heap := s1.heap.push { cls := .type "dict_items", data := .fields #[.ref d] } } := by
    refine wpAny_pyIter_items_raw (d := d) ⟨_, Heap.get?_push_size _ rfl, rfl, rfl⟩ (hR.at fun o e => Heap.get?_push_of_some _ e) (pi_one (tk := s1.toks) J2 _ (turn_itemsT _ dq) ⟨.none, .none, ?_⟩ q)
    rw [hsz]
    exact Heap.get?_push_size _ rfl
  show wpAny _ _ (callWith cpos (.builtin "dict.items") [.ref d] [] []) _ X.xe s1
  exact method_meetsIn F.slot_dict_items F.entry_dict_items rfl (PySem.evalArgs_none ⟨rfl, hR.typeIs, F.args_dict_items_1 _, _, meets_dict_items_raw d hs, ⟨es, ep, hR⟩, fin⟩)
/-- its walk -/
theorem walk_itemsT {d : Addr} {o : Obj} {kvs : List (List L2.Key × V)} : Walk (ItiT d o kvs) kvs.length (fun H => H d = some (.frz o (.dT kvs))) (fun i H x H' => ∃ T q k v, kvs[i]? = some (k, v) ∧ x = .ref T ∧ H q = some (.tup (k.map kV)) ∧ H T = none ∧ H' = upd H T (.tup [.ref q, v])) := by
  exact ⟨fun i H h g => ⟨g, h⟩, fun H g => ⟨g, Nat.le_refl _⟩, fun i H x H' _ _ y => y⟩
end Lw
namespace Lw
open PySem PySem.Spec PyProof.Rows L2 Evl
/-- the two clauses -/
abbrev twoC (g0 s0 g1 s1 : Expr) : List Comprehension := [⟨g0, s0, [], 0⟩, ⟨g1, s1, [], 0⟩]
theorem turn_o (kx vx g0 s0 g1 s1 : Expr) (sc : Scope) (at_ : Pos) (r D : Value) (en : Env) :
    compTurn (.DictComp kx vx (twoC g0 s0 g1 s1) sc at_) 0 r D en = (do
      standAt s0.pos
      match ← pyNext r with
      | none => pure (.done .next)
      | some x =>
        letOwnedTupleGo g0 r x
        assign g0 en x
        let mut go := true
        for c in ([] : List Expr) do
          if go then go ← isTrue c en (eval c en)
        if go then
          let y ← eval s1 en
          standAt s1.pos
          let y ← foldedSetIterable s1 en y
          let _ ← runOwn (.compStart (.DictComp kx vx (twoC g0 s0 g1 s1) sc at_) 1 (← holding [y] (pyIter y)) D en) en
        again (.compLoop (.DictComp kx vx (twoC g0 s0 g1 s1) sc at_) 0 r D en)) := by rfl
theorem turn_i (kx vx g0 s0 g1 s1 : Expr) (sc : Scope) (at_ : Pos) (r : Value) (D : Addr) (en : Env) :
    compTurn (.DictComp kx vx (twoC g0 s0 g1 s1) sc at_) 1 r (.ref D) en = (do
      standAt s1.pos
      match ← pyNext r with
      | none => pure (.done .next)
      | some x =>
        letOwnedTupleGo g1 r x
        assign g1 en x
        let mut go := true
        for c in ([] : List Expr) do
          if go then go ← isTrue c en (eval c en)
        if go then
          (do
            let a ← eval kx en
            let b ← holding [a] (eval vx en)
            standAt { kx.pos with endLine := vx.pos.endLine, endCol := vx.pos.endCol }
            holding [a, b] (dictSet D a b))
        again (.compLoop (.DictComp kx vx (twoC g0 s0 g1 s1) sc at_) 1 r (.ref D) en)) := by rfl
section
variable {prog : Program} {w : World} {A : Around} {R : Result → Shared → Prop} {s : Shared} {kx vx g0 s0 g1 s1 : Expr} {sc : Scope} {at_ : Pos} {r : Value} {D : Addr} {en : Env}
/-- an error in the comprehension's frame -/
abbrev NB (prog : Program) (w : World) (A : Around) (en : Env) (R : Result → Shared → Prop) : Value → Shared → Prop := notedBy (model prog w) A en fun x s' => R (.error x) s'
theorem loop_o (fs : ∀ y, foldedSetIterable s1 en y = pure y) (St : Nat → Shared → Prop)
    (turn : ∀ n t, St n t → wpAny (model prog w) A (pyNext r) (fun q t1 => match q with
      | none => R (.ok .next) t1
      | some x => wpAny (model prog w) A (letOwnedTupleGo g0 r x) (fun _ t2 => wpAny (model prog w) A (assign g0 en x) (fun _ t3 => wpAny (model prog w) A (eval s1 en) (fun y t4 => wpAny (model prog w) A (pyIter y) (fun j t5 =>
          codeAny (model prog w) A (.compStart (.DictComp kx vx (twoC g0 s0 g1 s1) sc at_) 1 j (.ref D) en) (fun z t6 => match z with
            | .ok _ => ∃ m, m < n ∧ St m t6
            | .error _ => False) t5) (NB prog w A en R) t4) (NB prog w A en R) t3) (NB prog w A en R) t2) (NB prog w A en R) t1) (NB prog w A en R) t) (n : Nat) (h : St n s) :
    codeAny (model prog w) A (.compLoop (.DictComp kx vx (twoC g0 s0 g1 s1) sc at_) 0 r (.ref D) en) R s := by
  refine codeAny_loop rfl St (fun n t st => ?_) n h
  change wpAny _ A (Sem.onRaise (compTurn (.DictComp kx vx (twoC g0 s0 g1 s1) sc at_) 0 r (.ref D) en) _) _ _ t
  refine wpAny_noted ?_
  rw [turn_o]
  refine wpAny_bind (wpAny_standAt (wpAny_bind (wpAny_mono (turn n t st) (fun q t1 h1 => ?_) fun _ _ z => z)))
  cases q with
  | none => exact wpAny_pure h1
  | some x =>
    refine wpAny_bind (wpAny_mono h1 (fun _ t2 h2 => wpAny_bind (wpAny_mono h2 (fun _ t3 h3 => ?_) fun _ _ z => z)) fun _ _ z => z)
    refine wpAny_bind (wpAny_of_eq (a := true) (by rfl) ?_)
    dsimp only
    rw [if_pos rfl]
    refine wpAny_bind (wpAny_mono h3 (fun y t4 h4 => ?_) fun _ _ z => z)
    refine wpAny_bind (wpAny_standAt (wpAny_bind (wpAny_of_eq (fs y) (wpAny_bind (wpAny_holding (wpAny_mono h4 (fun j t5 h5 => ?_) fun _ _ z => z))))))
    refine wpAny_bind (wpAny_runOwn ?_)
    rw [Around.mark_none]
    refine codeAny_mono h5 fun z t6 hz => ?_
    cases z with
    | ok f => first | exact wpAny_pure ⟨rfl, hz⟩ | exact wpAny_bind (wpAny_pure (wpAny_pure ⟨rfl, hz⟩))
    | error e => exact hz.elim
theorem loop_i (St : Nat → Shared → Prop)
    (turn : ∀ n t, St n t → wpAny (model prog w) A (pyNext r) (fun q t1 => match q with
      | none => R (.ok .next) t1
      | some x => wpAny (model prog w) A (letOwnedTupleGo g1 r x) (fun _ t2 => wpAny (model prog w) A (assign g1 en x) (fun _ t3 => wpAny (model prog w) A (eval kx en) (fun a t4 => wpAny (model prog w) A (eval vx en) (fun b t5 =>
          wpAny (model prog w) A (dictSet D a b) (fun _ t6 => ∃ m, m < n ∧ St m t6) (NB prog w A en R) t5) (NB prog w A en R) t4) (NB prog w A en R) t3) (NB prog w A en R) t2) (NB prog w A en R) t1) (NB prog w A en R) t) (n : Nat) (h : St n s) :
    codeAny (model prog w) A (.compLoop (.DictComp kx vx (twoC g0 s0 g1 s1) sc at_) 1 r (.ref D) en) R s := by
  refine codeAny_loop rfl St (fun n t st => ?_) n h
  change wpAny _ A (Sem.onRaise (compTurn (.DictComp kx vx (twoC g0 s0 g1 s1) sc at_) 1 r (.ref D) en) _) _ _ t
  refine wpAny_noted ?_
  rw [turn_i]
  refine wpAny_bind (wpAny_standAt (wpAny_bind (wpAny_mono (turn n t st) (fun q t1 h1 => ?_) fun _ _ z => z)))
  cases q with
  | none => exact wpAny_pure h1
  | some x =>
    refine wpAny_bind (wpAny_mono h1 (fun _ t2 h2 => wpAny_bind (wpAny_mono h2 (fun _ t3 h3 => ?_) fun _ _ z => z)) fun _ _ z => z)
    refine wpAny_bind (wpAny_of_eq (a := true) (by rfl) ?_)
    dsimp only
    rw [if_pos rfl]
    refine wpAny_bind (wpAny_bind (wpAny_mono h3 (fun a t4 h4 => ?_) fun _ _ z => z))
    refine wpAny_bind (wpAny_holding (wpAny_mono h4 (fun b t5 h5 => ?_) fun _ _ z => z))
    exact wpAny_bind (wpAny_standAt (wpAny_holding (wpAny_mono h5 (fun _ t6 h6 => wpAny_pure ⟨rfl, h6⟩) fun _ _ z => z)))
theorem start_i (h0 : codeAny (model prog w) A (.compLoop (.DictComp kx vx (twoC g0 s0 g1 s1) sc at_) 1 r (.ref D) en) R s)
    (h : wpAny (model prog w) A (pyIter r) (fun j t => codeAny (model prog w) A (.compLoop (.DictComp kx vx (twoC g0 s0 g1 s1) sc at_) 1 j (.ref D) en) R t) (NB prog w A en R) s) :
    codeAny (model prog w) A (.compStart (.DictComp kx vx (twoC g0 s0 g1 s1) sc at_) 1 r (.ref D) en) R s := by
  refine codeAny_of_tree ?_
  change wpAny _ _ (Sem.onRaise (compStart (.DictComp kx vx (twoC g0 s0 g1 s1) sc at_) 1 r (.ref D) en) _) _ _ s
  refine wpAny_notedAt ?_
  unfold compStart
  change wpAny _ _ (ask >>= _) _ _ s
  refine wpAny_bind (wpAny_askSetting (wpAny_ite ?_))
  split
  · first | exact wpAny_bind (wpAny_pure (wpAny_pure ⟨rfl, h0⟩)) | exact wpAny_pure ⟨rfl, h0⟩
  · refine wpAny_bind (wpAny_rule ?_)
    first
      | exact wpAny_bind (wpAny_standAt (wpAny_bind (wpAny_mono h (fun j t z => wpAny_pure ⟨rfl, z⟩) fun _ _ z => z)))
      | (change wpAny _ _ (standAt s1.pos >>= _) _ _ s; exact wpAny_bind (wpAny_standAt (wpAny_bind (wpAny_mono h (fun j t z => wpAny_pure ⟨rfl, z⟩) fun _ _ z => z))))
end
def tDc2 (wi : TI) (g : TG) (wi1 : TI) (g1 : TG) (tk tv : TE) (ws ws1 : List Nat) : TE := fun σ H Q => wi σ H fun J H1 => ∀ D, H1 D = none → ∃ W : Nat → Nat → Hp → Prop, (∃ m, W 0 m (upd H1 D (.dT []))) ∧ ∀ i m H, W i m H →
  (J.stop i H ∧ Q (.ref D) H) ∨ (J.go i H ∧ ∃ N : Hp → Prop, (∀ H2, N H2 → ∃ l, l < m ∧ W (i + 1) l H2) ∧ ∀ x H2, J.yld i H x H2 → g x (wipe σ ws) H2 fun τ H3 => wipe τ ws = wipe σ ws ∧
    wi1 τ H3 fun J1 H4 => ∃ W1 : Nat → Nat → Hp → Prop, (∃ m, W1 0 m H4) ∧ ∀ j l H, W1 j l H →
      (J1.stop j H ∧ N H) ∨ (J1.go j H ∧ ∃ N1 : Hp → Prop, (∀ H2, N1 H2 → ∃ l2, l2 < l ∧ W1 (j + 1) l2 H2) ∧ ∀ x H2, J1.yld j H x H2 → g1 x (wipe τ ws1) H2 fun υ H5 => wipe υ ws1 = wipe τ ws1 ∧
        tk υ H5 fun y H6 => tv υ H6 fun z H7 => ∃ kvs k b, y = .ref b ∧ H7 b = some (.tup (k.map kV)) ∧ H7 D = some (.dT kvs) ∧ kvs.length < sizeLine ∧ N1 (upd H7 D (.dT (putK kvs k z)))))
section
variable {X : Cx}
theorem dc2_core {pins : List (Addr × Obj)} {s : Shared} {σ : L2.St} {H : Hp} {Q : VK} {kx vx tg iter tg1 iter1 : Expr} {scope : Scope} {own : List (Str × Nat)} {ws1 : List Nat} {pos at_ : Pos} {wi wi1 : TI} {g g1 : TG} {tk tv : TE} {use : Option (Value → Sem Unit)} {Qf : Value → Shared → Prop} (hu : X.A.units < cLine) (cm : X.calm = true) (nd : X.N.Nodup) (I : Inv X pins σ H s) (hi : PI X tg iter wi) (bo : BlkOk X.N X.env.scope scope own) (hv : ∀ i ∈ ws1, i ∈ own.map (·.2))
    (gg : InBlk X scope fun Y => PG Y tg g) (gi : InBlk X scope fun Y => PI Y tg1 iter1 wi1) (g1g : InBlk X scope fun Y => PG Y tg1 g1) (gk : InBlk X scope fun Y => PE Y kx tk) (gv : InBlk X scope fun Y => PE Y vx tv) (fs : ∀ x, foldedSetIterable iter X.env x = pure x) (fs1 : ∀ en x, foldedSetIterable iter1 en x = pure x)
    (h : tDc2 wi g wi1 g1 tk tv (own.map (·.2)) ws1 σ H Q) (fin : DcEnd X pins σ use Q Qf) :
    wpAny (model X.prog X.w) X.A (comprehension (.DictComp kx vx (twoC tg iter tg1 iter1) scope pos) scope X.env at_ newDict false (eval iter X.env) use) Qf X.xe s := by
  have cells : ∀ y ∈ scope.names, y.2 = .free → ∃ c, X.env.cells.lookup y.1 = some c := fun y my ey => by
    rcases bo.free y my ey with z | z
    · exact I.ok.has _ (.inl z)
    · exact I.ok.has _ (.inr z)
  refine wpAny_comprehension_free (use := use) rfl fs (closure_ok cells) bo.kind (fun y my ey => by rw [bo.uniq y my, ey]) (thn (hi.run pins s σ H _ I h) fun xv s1 h1 => thn h1 fun itv s2 h2 => ?_)
  obtain ⟨r, fp, tn, J, H2, rfl, I2, T, st2, ff2, q⟩ := h2
  refine wpAny_newObj_type (newEnv_comp ?_)
  obtain ⟨D, eD⟩ : ∃ D, s2.heap.objs.size = D := ⟨_, rfl⟩
  have nD : H2 D = none := I2.hok.fresh (Nat.le_of_eq eD)
  obtain ⟨W, ⟨m0, w0⟩, turn⟩ := q D nD
  have kp3 : ∀ b o, s2.heap.get? b = some o → (s2.heap.push { cls := .type "dict", data := .dict #[] }).get? b = some o := fun b o e => Heap.get?_push_of_some _ e
  have J3 : Inv X pins σ (upd H2 D (.dT [])) { s2 with heap := s2.heap.push { cls := .type "dict", data := .dict #[] } } := by
    rw [← eD]
    exact I2.laid (t' := s2.toks) kp3 (Nat.le_refl _) (dt_empty s2.heap I2.big)
  have ff3 : ∀ b ∈ fp, FpOk X pins (upd H2 D (.dT [])) b ∧ b < (s2.heap.push { cls := .type "dict", data := .dict #[] }).objs.size := fun b mb => by
    obtain ⟨o, e, _⟩ := T.obj _ _ st2 b mb
    have l := Heap.lt_size e
    refine ⟨⟨?_, (ff2 b mb).2⟩, by rw [Heap.size_push]; exact Nat.lt_succ_of_lt l⟩
    rw [upd_ne (by rw [← eD]; exact Nat.ne_of_lt l)]
    exact (ff2 b mb).1
  have st3 := T.keep _ _ _ st2 fun b _ o e => kp3 b o e
  rw [eD]
  generalize e3 : ({ s2 with heap := s2.heap.push { cls := .type "dict", data := .dict #[] } } : Shared) = t3 at J3 ⊢
  have hp3 : t3.heap = s2.heap.push { cls := .type "dict", data := .dict #[] } := by rw [← e3]
  rw [← hp3] at ff3 st3
  have B4 := block_start J3 bo nd ff3
  have pg := gg t3 (upd H2 D (.dT [])) t3.heap.objs.size (cellsFrom (t3.heap.objs.size + 1) scope.names (cloFrom X.env.cells scope.names [])) fp
  have pi1 := gi t3 (upd H2 D (.dT [])) t3.heap.objs.size (cellsFrom (t3.heap.objs.size + 1) scope.names (cloFrom X.env.cells scope.names [])) fp
  have pg1 := g1g t3 (upd H2 D (.dT [])) t3.heap.objs.size (cellsFrom (t3.heap.objs.size + 1) scope.names (cloFrom X.env.cells scope.names [])) fp
  have pk := gk t3 (upd H2 D (.dT [])) t3.heap.objs.size (cellsFrom (t3.heap.objs.size + 1) scope.names (cloFrom X.env.cells scope.names [])) fp
  have pv := gv t3 (upd H2 D (.dT [])) t3.heap.objs.size (cellsFrom (t3.heap.objs.size + 1) scope.names (cloFrom X.env.cells scope.names [])) fp
  have lift4 : tn 0 (pushCells (t3.heap.push { cls := .type "dict", data := .dict #[] }) scope.names) := T.keep _ _ _ st3 fun b _ o e => pushCells_keeps _ _ _ _ (Heap.get?_push_of_some _ e)
  obtain ⟨ce, hce⟩ : ∃ ce, compEnvC scope (cellsFrom (t3.heap.objs.size + 1) scope.names (cloFrom X.env.cells scope.names [])) t3.heap.objs.size X.env = ce := ⟨_, rfl⟩
  have cl : ce.locals = t3.heap.objs.size := by rw [← hce]; rfl
  rw [hce] at B4 pg pi1 pg1 pk pv
  obtain ⟨G, hG⟩ : ∃ G, upd H2 D (.dT []) = G := ⟨_, rfl⟩
  rw [hG] at J3 ff3 B4 pg pi1 pg1 pk pv w0
  have fin0 : ∀ b ∈ fp, G b = none := fun b mb => (ff3 b mb).1.1
  have fpOk : ∀ {τ : L2.St} {K1 : Hp} {t : Shared}, Inv (X.blk t3 G scope ce fp) [] τ K1 t → (∀ b ∈ fp, K1 b = none) → ∀ b ∈ fp, FpOk (X.blk t3 G scope ce fp) [] K1 b := fun {τ K1 t} I' nn b mb => by
    have z := I'.ok.exf b mb
    exact ⟨nn b mb, z.1, I'.ok.exfs b mb, .inl mb, fun x c e => z.2 x c e, fun p mp => nomatch (show p ∈ ([] : List (Addr × Obj)) from mp)⟩
  change codeAny _ _ (.compStart _ 0 (.ref r) (.ref D) (compEnvC scope (cellsFrom (t3.heap.objs.size + 1) scope.names (cloFrom X.env.cells scope.names [])) t3.heap.objs.size X.env)) (compPost _ _ _ use Qf (.ref D) t3.heap.objs.size)
    { t3 with heap := pushCells (t3.heap.push { cls := .type "dict", data := .dict #[] }) scope.names }
  rw [hce]
  replace lift4 : tn 0 ({ t3 with heap := pushCells (t3.heap.push { cls := .type "dict", data := .dict #[] }) scope.names } : Shared).heap := lift4
  generalize ({ t3 with heap := pushCells (t3.heap.push { cls := .type "dict", data := .dict #[] }) scope.names } : Shared) = t4 at B4 lift4 ⊢
  -- the state between two turns, and behind the last one
  let St : Nat → Shared → Prop := fun m t => ∃ i K1, Inv (X.blk t3 G scope ce fp) [] (wipe σ (own.map (·.2))) K1 t ∧ tn i t.heap ∧ (∀ b ∈ fp, K1 b = none) ∧ W i m K1
  have walk : codeAny (model X.prog X.w) X.A (.compLoop (.DictComp kx vx (twoC tg iter tg1 iter1) scope pos) 0 (.ref r) (.ref D) ce) (compPost (model X.prog X.w) X.A X.xe use Qf (.ref D) t3.heap.objs.size) t4 := by
    refine loop_o (fs1 ce) St ?_ m0 ⟨0, G, B4, lift4, fin0, w0⟩
    rintro m t5 ⟨i, K5, B5, z5, n5, w5⟩
    rcases turn i m K5 w5 with ⟨over, done⟩ | ⟨go, N, less, body⟩
    · refine thnF (T.done (X.blk t3 G scope ce fp) rfl rfl rfl cm i [] t5 _ K5 (fun _ _ => False) B5 (fpOk B5 n5) z5 over) fun rr t6 h6 => ?_
      obtain ⟨rfl, B6⟩ := h6
      have J6 : Inv X pins σ K5 t6 := J3.call' (ch := fp) B6.os B6.base B6.hok B6.bare fun b mb => by
        have z := (ff3 b mb).1.2
        exact ⟨z.2.2.1, z.1, z.2.2.2.1, z.2.2.2.2⟩
      obtain ⟨mm, ns, _⟩ := B6.loc
      replace ns : t6.heap.Ns ce.locals mm := ns
      rw [cl] at ns
      have y0 : K5 t3.heap.objs.size = none := by
        rw [← cl]
        exact B6.free
      exact fin D t3.heap.objs.size t6 mm K5 J6 done ns (J3.fpOk (Nat.le_refl _) y0)
    · refine thnF (T.item (X.blk t3 G scope ce fp) rfl rfl rfl cm i [] t5 _ K5 (fun _ _ => False) B5 (fpOk B5 n5) z5 go) fun rr t6 h6 => ?_
      obtain ⟨u, rfl, h6⟩ := h6
      refine thnF h6 fun _ t7 h7 => ?_
      obtain ⟨x, K7, B7, r7, y7, z7, n7⟩ := h7
      have P7 := B7.pinned (fpOk B7 n7) (T.obj _ _ z7)
      refine thnF (pg.run _ t7 _ K7 x u _ P7 r7 (body x K7 y7)) fun _ t8 h8 => ?_
      obtain ⟨τ, K8, B8, wp8, q8⟩ := h8
      -- the outer turn's end
      have ends : ∀ {υ : L2.St} {t : Shared} {K1 : Hp}, Inv (X.blk t3 G scope ce fp) ([] ++ pinsAt fp t7.heap) υ K1 t → (wipe σ (own.map (·.2))).length = υ.length → (∀ (y : Nat) v, (wipe σ (own.map (·.2)))[y]? = some (some v) → υ[y]? = some (some v)) → N K1 → ∃ l, l < m ∧ St l t := fun {υ t K1} B len kp nx => by
        obtain ⟨l, ll, wl⟩ := less _ nx
        have pin : ∀ b ∈ fp, ∀ o, t7.heap.get? b = some o → t.heap.get? b = some o ∧ K1 b = none := fun b mb o e => by
          have z := B.pin (b, o) (List.mem_append_right _ (List.mem_append_right _ (mem_pinsAt mb e)))
          exact ⟨z.1, z.2.1⟩
        refine ⟨l, ll, i + 1, K1, (B.unpinned (pins := [])).weak len kp, T.keep _ _ _ z7 fun b mb o e => (pin b mb o e).1, fun b mb => ?_, wl⟩
        obtain ⟨o, e, _⟩ := T.obj _ _ z7 b mb
        exact (pin b mb o e).2
      have len8 : (wipe σ (own.map (·.2))).length = τ.length := by rw [← wp8, wipe_length]
      have kp9 : ∀ (y : Nat) v, (wipe σ (own.map (·.2)))[y]? = some (some v) → (wipe τ ws1)[y]? = some (some v) := fun y v e => by
        rw [← wp8] at e
        obtain ⟨e1, e2⟩ := wipe_some e
        rw [wipe_out fun z => e2 (hv y z)]
        exact e1
      refine thnF (pi1.run _ t8 τ K8 _ B8 q8) fun yv t9 h9 => thnF h9 fun _ t10 h10 => ?_
      obtain ⟨r1, fp1, tn1, J1, K10, rfl, B10, T1, z10, ff1, W1, ⟨m1, w1⟩, turn1⟩ := h10
      have fpOk1 : ∀ {K1 : Hp}, (∀ b ∈ fp1, K1 b = none) → ∀ b ∈ fp1, FpOk (X.blk t3 G scope ce fp) ([] ++ pinsAt fp t7.heap) K1 b := fun nn b mb => ⟨nn b mb, (ff1 b mb).2⟩
      let St1 : Nat → Shared → Prop := fun l t => ∃ j K1, Inv (X.blk t3 G scope ce fp) ([] ++ pinsAt fp t7.heap) (wipe τ ws1) K1 t ∧ tn1 j t.heap ∧ (∀ b ∈ fp1, K1 b = none) ∧ W1 j l K1
      have walk1 : codeAny (model X.prog X.w) X.A (.compLoop (.DictComp kx vx (twoC tg iter tg1 iter1) scope pos) 1 (.ref r1) (.ref D) ce) (fun z t => match z with
          | .ok _ => ∃ l, l < m ∧ St l t
          | .error _ => False) t10 := by
        refine loop_i St1 ?_ m1 ⟨0, K10, B10.weak (wipe_length _ _) (fun y v e => (wipe_some e).1), z10, fun b mb => (ff1 b mb).1, w1⟩
        rintro l t11 ⟨j, K11, B11, z11, n11, w11⟩
        rcases turn1 j l K11 w11 with ⟨over1, done1⟩ | ⟨go1, N1, less1, body1⟩
        · refine thnF (T1.done (X.blk t3 G scope ce fp) rfl rfl rfl cm j _ t11 (wipe τ ws1) K11 (fun _ _ => False) B11 (fpOk1 n11) z11 over1) fun rr t12 h12 => ?_
          obtain ⟨rfl, B12⟩ := h12
          exact ends B12 (len8.trans (wipe_length τ ws1).symm) kp9 done1
        · refine thnF (T1.item (X.blk t3 G scope ce fp) rfl rfl rfl cm j _ t11 (wipe τ ws1) K11 (fun _ _ => False) B11 (fpOk1 n11) z11 go1) fun rr t12 h12 => ?_
          obtain ⟨u1, rfl, h12⟩ := h12
          refine thnF h12 fun _ t13 h13 => ?_
          obtain ⟨x1, K13, B13, r13, y13, z13, n13⟩ := h13
          have P13 := B13.pinned (fpOk1 n13) (T1.obj _ _ z13)
          refine thnF (pg1.run _ t13 (wipe τ ws1) K13 x1 u1 _ P13 r13 (body1 x1 K13 y13)) fun _ t14 h14 => ?_
          obtain ⟨υ, K14, B14, wp14, q14⟩ := h14
          refine thnF (pk.run _ t14 υ K14 _ B14 q14) fun ky t15 h15 => ?_
          obtain ⟨yk, K15, B15, r15, q15⟩ := h15
          refine thnF (pv.run _ t15 υ K15 _ B15 q15) fun vz t16 h16 => ?_
          obtain ⟨yv, K16, B16, r16, kvs, k, b, rfl, hb, hD, lt, nx⟩ := h16
          obtain rfl : ky = Value.ref b := r15
          refine putT (X := X.blk t3 G scope ce fp) B16 hu hD hb lt r16 fun t17 B17 => ?_
          obtain ⟨l2, ll2, wl2⟩ := less1 _ nx
          have pin1 : ∀ c ∈ fp1, ∀ o, t13.heap.get? c = some o → t17.heap.get? c = some o ∧ (upd K16 D (.dT (putK kvs k yv))) c = none := fun c mc o e => by
            have z := B17.pin (c, o) (List.mem_append_right _ (List.mem_append_right _ (mem_pinsAt mc e)))
            exact ⟨z.1, z.2.1⟩
          refine ⟨l2, ll2, j + 1, _, B17.unpinned.weak (by rw [← wp14, wipe_length]) (fun y v e => ?_), T1.keep _ _ _ z13 fun c mc o e => (pin1 c mc o e).1, fun c mc => ?_, wl2⟩
          · rw [← wp14] at e
            exact (wipe_some e).1
          · obtain ⟨o, e, _⟩ := T1.obj _ _ z13 c mc
            exact (pin1 c mc o e).2
      exact start_i walk1 (T1.self X.A 0 _ _ _ z10 walk1)
  exact codeAny_compStart_dict walk (T.self X.A 0 _ _ _ lift4 walk)
/-- .. as a value -/
theorem pe_dc2 {kx vx tg iter tg1 iter1 : Expr} {scope : Scope} {own : List (Str × Nat)} {ws1 : List Nat} {pos : Pos} {wi wi1 : TI} {g g1 : TG} {tk tv : TE} (hu : X.A.units < cLine) (cm : X.calm = true) (nd : X.N.Nodup) (hi : PI X tg iter wi) (bo : BlkOk X.N X.env.scope scope own) (hv : ∀ i ∈ ws1, i ∈ own.map (·.2))
    (gg : InBlk X scope fun Y => PG Y tg g) (gi : InBlk X scope fun Y => PI Y tg1 iter1 wi1) (g1g : InBlk X scope fun Y => PG Y tg1 g1) (gk : InBlk X scope fun Y => PE Y kx tk) (gv : InBlk X scope fun Y => PE Y vx tv) (fs : ∀ x, foldedSetIterable iter X.env x = pure x := by intro _; rfl) (fs1 : ∀ en x, foldedSetIterable iter1 en x = pure x := by intro _ _; rfl) :
    PE X (.DictComp kx vx (twoC tg iter tg1 iter1) scope pos) (tDc2 wi g wi1 g1 tk tv (own.map (·.2)) ws1) := by
  constructor
  intro pins s σ H Q I h
  rw [arm_eval_DictComp]
  refine dc2_core hu cm nd I hi bo hv gg gi g1g gk gv fs fs1 h fun D C t m G J q ns fp => ⟨m, ns, fun h2 sb => ?_⟩
  obtain ⟨y0, y1, y2, y3, y4, y5⟩ := fp
  exact ⟨.ref D, G, J.turned (t' := t.toks) (fun b o nb e => (sb.2 b nb).trans e) y0 y1 y3 y4 y5, rfl, q⟩
end
section
variable {X : Cx}
/-- y = {k: v for ..}, the keys numbers or texts -/
theorem ps_setDc {i : Nat} {y : Str} {py : Pos} {kx vx tg iter : Expr} {scope : Scope} {own : List (Str × Nat)} {pos sp : Pos} {wi : TI} {g : TG} {tk tv : TE} (cm : X.calm = true) (nd : X.N.Nodup) (hy : X.N[i]? = some y) (yl : X.env.scope.names.lookup y = some .local)
    (sw : swapsWith (.DictComp kx vx [⟨tg, iter, [], 0⟩] scope pos) (some (.Name y py)) sp.line X.env = pure true) (hi : PI X tg iter wi) (bo : BlkOk X.N X.env.scope scope own)
    (gg : InBlk X scope fun Y => PG Y tg g)  (gk : InBlk X scope fun Y => PE Y kx tk) (gv : InBlk X scope fun Y => PE Y vx tv) (fs : ∀ x, foldedSetIterable iter X.env x = pure x := by intro _; rfl) :
    PS X (.Assign [.Name y py] (.DictComp kx vx [⟨tg, iter, [], 0⟩] scope pos) sp) (tAsg (tDc wi g tYes tk tv (own.map (·.2))) (gName i)) := by
  constructor
  intro pins s σ H D I h
  rw [exec_Assign_Name_used _ _ _ _ sw]
  refine wpAny_bind (wpAny_standAt (wpAny_bind ?_))
  show wpAny _ X.A (do let _ ← comprehension (.DictComp kx vx [⟨tg, iter, [], 0⟩] scope pos) scope X.env (firstIterPos [⟨tg, iter, [], 0⟩] pos) newDict false (eval iter X.env) (some (assign (.Name y py) X.env))) _ _ s
  refine wpAny_bind (thn (dc_core (Qf := fun _ t => SP X pins D .next t) (Q := fun x H1 => gName i x σ H1 D.nx) cm nd I hi bo gg (fun _ _ _ _ _ => pts_nil) gk gv fs h fun L C t m G J q ns fp => ?_) fun _ t e => wpAny_pure (wpAny_pure e))
  show wpAny _ _ (assign (.Name y py) X.env (.ref L)) _ _ _
  refine wpAny_assign_Name (store_ok2 (v := V.ref L) J nd hy (.inl yl) rfl (fun t2 J2 z => ?_) (.inr yl))
  obtain ⟨a, sb, ha⟩ := z
  obtain ⟨y0, y1, y2, y3, y4, y5⟩ := fp
  have nC : C ≠ a := by
    rcases ha with e | ha
    · rw [e]
      exact y1
    · exact fun e => y4 y a ha e.symm
  exact ⟨m, ns.sameBut sb nC, fun h3 sb3 => ⟨_, G, J2.turned (t' := t2.toks) (fun b o nb e => (sb3.2 b nb).trans e) y0 y1 y3 y4 y5, q⟩⟩
end
end Lw
namespace Lw
open PySem PySem.Spec PyProof.Rows L2 Evl
/-- a list that holds an instance, at some depth -/
inductive NR (H : Hp) : Addr → Prop
  | own {b : Addr} {us : List V} {i : Nat} {c C dx : Addr} {fs : List (Str × V)} (h : H b = some (.lst us)) (hi : us[i]? = some (.ref c)) (hc : H c = some (.ins C dx fs)) : NR H b
  | deep {b : Addr} {us : List V} {i : Nat} {c : Addr} (h : H b = some (.lst us)) (hi : us[i]? = some (.ref c)) (hc : NR H c) : NR H b
def GdN (H : Hp) (A : Around) : Prop := ∃ g, A.guards = some g ∧ ∀ b, Clear g b ∨ NR H b
theorem gdn_nil {H : Hp} {A : Around} (h : A.guards = some []) : GdN H A := ⟨[], h, fun b => .inl (Clear.nil b)⟩
/-- what a def keeps, called while such lists are shown -/
structure FnN (P : Program) (w : World) (K : PySem.W.Frag) (mg : Str → Option Value) (base : Heap) (CX : CXT) (k : Nat) (f : Addr) (fd : FuncData) (ps : List Str) (sp : Sp) : Prop where
  len : ∀ vs H Q E, sp vs H Q E → vs.length = ps.length
  go : ∀ {A : Around} {outer : List Env} {s : Shared} {H : Hp} {args : Args} {us : List Value} {vs : List V} {Q : VK} {E : XK},
    GdN H A → Room k A → Env0 P w K mg base A outer s H → BindsTo s fd args (ps.zip us) → Vals vs us → sp vs H Q E →
    codeAny (model P w) A (.call (.ref f) args) (CR CX outer P w H s Q E) s
section
variable {P : Program} {w : World} {K : PySem.W.Frag} {mg : Str → Option Value} {base : Heap} {CX : CXT}
theorem FnN.up {j k : Nat} {f : Addr} {fd : FuncData} {ps : List Str} {sp : Sp} (F : FnN P w K mg base CX j f fd ps sp) (h : j ≤ k) : FnN P w K mg base CX k f fd ps sp :=
  ⟨F.len, fun g r => F.go g (r.mono h)⟩
theorem FnN.g {k : Nat} {f : Addr} {fd : FuncData} {ps : List Str} {sp : Sp} (F : FnN P w K mg base CX k f fd ps sp) : FnG P w K mg base CX k f fd ps sp :=
  ⟨F.len, fun g r => F.go (gdn_nil g) r⟩
end
/-- an own __repr__ that may be called while such lists are shown -/
def SpN (P : Program) (w : World) (K : PySem.W.Frag) (mg : Str → Option Value) (base : Heap) (k : Nat) (C : Addr) (n : Str) (ps : List Str) (sp : Sp) : Prop :=
  ∃ f fd, PySem.W.findIn K (.ref C) n = some (some (.ref f)) ∧ PySem.W.typeIn K (.ref f) = some (.type "function") ∧ Binds K fd ps [] ∧ FnN P w K mg base CX0 k f fd ps sp
theorem SpN.g {P : Program} {w : World} {K : PySem.W.Frag} {mg : Str → Option Value} {base : Heap} {k : Nat} {C : Addr} {n : Str} {ps : List Str} {sp : Sp} (q : SpN P w K mg base k C n ps sp) : SpG P w K mg base k C n ps sp := by
  obtain ⟨f, fd, h1, h2, h3, F⟩ := q
  exact ⟨f, fd, h1, h2, h3, F.g⟩
end Lw
namespace Tk
open PySem PySem.Spec PyProof.Rows L2 Lw Evl LamX TL
open Rm (R Ok Z0 Zp Fr fr_none fr_ne nt_lst nt_tup NT Zn)
end Tk
namespace Tk
open PySem PySem.Spec PyProof.Rows L2 Lw Evl LamX TL
open Rm (R Ok Z0 Zp Fr fr_none fr_ne nt_lst nt_tup NT Zn)
section
variable {P : Program} {w : World} {K : PySem.W.Frag} {Z : Zn} {TT : List (Addr × Str)} {H H0 H1 H2 : Hp} {σ : L2.St} {te ta tb td : TE} {a b l CF CM CS d : Addr} {xs ys ss : List Str} {us vs : List V} {n : Nat} {Q : VK} {E : XK}
theorem el_catLV (ha : EvL ta σ H us) (hb : Ev tb σ H (.ref b)) (h2 : H b = some (.lst vs)) (hz : us.length + vs.length ≤ 100000) : EvL (tOp rCat ta tb) σ H (us ++ vs) := fun H1 e Q q => ha H1 e _ fun a H2 na e2 h1 => hb H2 (e.trans e2) _ fun H3 e3 =>
  ⟨a, b, us, vs, rfl, rfl, e3 _ _ h1, ((e.trans e2).trans e3) _ _ h2, sz_of (by omega), fun t ht => q t _ (fresh_back (e2.trans e3) ht) ((e2.trans e3).trans (Ex.new ht)) upd_same⟩
end
end Tk
namespace Tk
open PySem PySem.Spec PyProof.Rows L2 Lw Evl LamX TL
open Rm (R Ok Z0 Zp Fr fr_none fr_ne nt_lst nt_tup NT Zn)
section
variable {K : PySem.W.Frag} {H H1 : Hp} {σ : L2.St} {te ta tb : TE} {l a b x CY CB : Addr} {L M : List LS} {i j k n : Nat} {Q : VK} {xs : List Str} {s : LS} {v : V}
theorem q_asgT {D : Ends} {tz : TS} (h : te σ H fun v H1 => tz D (σ.set i (some v)) H1) : tSeq (tAsg te (gName i)) tz D σ H := h
end
end Tk
namespace Tk
open PySem PySem.Spec PyProof.Rows L2 Lw Evl LamX TL
open Rm (R Ok Z0 Zp Fr fr_none fr_ne nt_lst nt_tup NT Zn)
end Tk
namespace Tk
open PySem PySem.Spec PyProof.Rows L2 Lw Evl LamX TL
open Rm (R Ok Z0 Zp Fr fr_none fr_ne nt_lst nt_tup NT Zn)
end Tk
namespace Tk
open PySem PySem.Spec PyProof.Rows L2 Lw Evl LamX TL
open Rm (R Ok Z0 Zp Fr fr_none fr_ne nt_lst nt_tup NT Zn)
end Tk
namespace Tk
open PySem PySem.Spec PyProof.Rows L2 Lw Evl LamX TL
open Rm (R Ok Z0 Zp Fr fr_none fr_ne nt_lst nt_tup NT Zn)
end Tk
namespace Tk
open PySem PySem.Spec PyProof.Rows L2 Lw Evl LamX TL
open Rm (R Ok Z0 Zp Fr fr_none fr_ne nt_lst nt_tup NT Zn)
end Tk
namespace Tk
open PySem PySem.Spec PyProof.Rows L2 Lw Evl LamX TL
end Tk
namespace Tk
open PySem PySem.Spec PyProof.Rows L2 Lw Evl LamX TL
open Rm (R Ok Z0 Zp Fr fr_none fr_ne nt_lst nt_tup NT Zn)
end Tk
namespace Tk
open PySem PySem.Spec PyProof.Rows L2 Lw Evl LamX TL
open Rm (R Ok Z0 Zp Fr fr_none fr_ne nt_lst nt_tup NT Zn)
section
variable {P : Program} {w : World} {K : PySem.W.Frag} {Z : Zn} {TT : List (Addr × Str)} {H H0 H1 H2 : Hp} {σ : L2.St} {te ta tb tc td : TE} {tk : TO} {a b l CF CY CB CT : Addr} {ws us : List (List Str)} {ss xs ts : List Str} {y : List Str} {i j n : Nat} {Q : VK} {L M : List LS} {s : LS} {E : XK} {Pd : List LS → Prop}
theorem el_revV {K' : PySem.W.Frag} {us : List V} (h : Ev te σ H (.ref l)) (hl : H l = some (.lst us)) : EvL (tRevL K' te) σ H us.reverse := fun H1 e Q q => h H1 e _ fun H2 e2 => ⟨l, us, rfl, SqL.of ((e.trans e2) _ _ hl), fun p hp => q p _ (fresh_back e2 hp) (e2.trans (Ex.new hp)) upd_same⟩
end
end Tk
namespace Tk
open PySem PySem.Spec PyProof.Rows L2 Lw Evl LamX TL
open Rm (R Ok Z0 Zp Fr fr_none fr_ne nt_lst nt_tup NT Zn)
end Tk
namespace Tk
open PySem PySem.Spec PyProof.Rows L2 Lw Evl LamX TL
open Rm (R Ok Z0 Zp Fr fr_none fr_ne nt_lst nt_tup NT Zn)
end Tk
namespace Tk
open PySem PySem.Spec PyProof.Rows L2 Lw Evl LamX TL
open Rm (R Ok Z0 Zp Fr fr_none fr_ne nt_lst nt_tup NT Zn)
end Tk
namespace Tk
open PySem PySem.Spec PyProof.Rows L2 Lw Evl LamX TL
open Rm (R Ok Z0 Zp Fr fr_none fr_ne nt_lst nt_tup NT Zn)
end Tk
namespace Tk
open PySem PySem.Spec PyProof.Rows L2 Lw Evl LamX TL
open Rm (R Ok Z0 Zp Fr fr_none fr_ne nt_lst nt_tup NT Zn)
theorem q_rest {ts tz : TS} {D : Ends} {σ : L2.St} {H : Hp} (J : L2.St → Hp → Prop) (rest : ∀ σ' H', J σ' H' → tz D σ' H') (h : ∀ tz' : TS, (∀ σ' H', J σ' H' → tz' D σ' H') → tSeq ts tz' D σ H) : tSeq ts tz D σ H := h tz rest
theorem q_asgG {te : TE} {g : TG} {tz : TS} {D : Ends} {σ : L2.St} {H : Hp} (h : te σ H fun v H1 => g v σ H1 fun σ2 H3 => tz D σ2 H3) : tSeq (tAsg te g) tz D σ H := h
section
variable {K : PySem.W.Frag} {Z : Zn} {H H1 : Hp} {CY CB a r t0 x0 s0 : Addr} {xs : List Str} {us : List V} {v u : V} {M : List LS} {Ms : List (List LS)} {ws : List (List Str)} {o : HO} {σ : L2.St} {ta tb te : TE} {i j k : Nat} {Q : VK}
theorem q_ifDr {p : Addr} {T : List (Addr × Str)} {m : Int} {tu tz : TS} {D : Ends} (o : Ok (Zp T p) H) (hp : σ[0]? = some (some (.ref p))) (n0 : 0 < m) (n1 : m < 1073741824) (h1 : ∀ H1, R (Zp T p) H H1 → tu { D with nx := tz D } σ H1) (h2 : ∀ H1, R (Zp T p) H H1 → tz D σ H1) : tSeq (tIfS (tTest (tOp rEq (tCall spDraw [] E0 (tCons (tVar 0) (tCons (tC (.int m)) tNil))) (tC (.int 0)))) tu tNext) tz D σ H := by
  refine ⟨_, hp, p, m, rfl, o.2 p rfl, n0, n1, fun d H2 _ _ y => ⟨rfl, _, rfl, ?_⟩⟩
  have r2 := Rm.R.xp o.1 (o.2 p rfl) y
  generalize decide (V.int d = V.int 0) = c
  cases c with
  | false => exact h2 H2 r2
  | true => exact h1 H2 r2
end
end Tk
namespace Tk
open PySem PySem.Spec PyProof.Rows L2 Lw Evl LamX TL
open Rm (R Ok Z0 Zp Fr fr_none fr_ne nt_lst nt_tup NT Zn)
/-- a def that lets errors out, where none is told of: it lets none out -/
theorem fnOk_noErr {P : Program} {w : World} {K : PySem.W.Frag} {mg : Str → Option Value} {base : Heap} {k : Nat} {f : Addr} {fd : FuncData} {ps : List Str} {sp sp' : Sp} (F : FnOk P w K mg base (L2.CX P w) k f fd ps sp) (h : ∀ vs H Q E, sp' vs H Q E → sp vs H Q E0) : FnOk P w K mg base CX0 k f fd ps sp' :=
  ⟨fun vs H Q E q => F.len vs H Q E0 (h _ _ _ _ q), fun A outer s H args us vs Q E hr he hb hv hs => codeAny_mono (F.run A outer s H args us vs Q E0 hr he hb hv (h _ _ _ _ hs)) fun r s' c => by
    cases r with
    | ok o => cases o <;> exact c
    | error e =>
      obtain ⟨_, _, _, _, _, _, _, _, _, _, _, _, z⟩ := c
      exact z.elim⟩
end Tk
namespace Tk
open PySem PySem.Spec PyProof.Rows L2 Lw Evl LamX TL
open Rm (R Ok Z0 Zp Fr fr_none fr_ne nt_lst nt_tup NT Zn)
end Tk
namespace Tk
open PySem PySem.Spec PyProof.Rows L2 Lw Evl LamX TL
open Rm (R Ok Z0 Zp Fr fr_none fr_ne nt_lst nt_tup NT Zn)
end Tk
namespace Tk
open PySem PySem.Spec PyProof.Rows L2 Lw Evl LamX TL
open Rm (R Ok Z0 Zp Fr fr_none fr_ne nt_lst nt_tup NT Zn)
end Tk
namespace Tk
open PySem PySem.Spec PyProof.Rows L2 Lw Evl LamX TL
open Rm (R Ok Z0 Zp Fr fr_none fr_ne nt_lst nt_tup NT Zn)
theorem pe_revLK {X : Cx} {K : PySem.W.Frag} {e : Expr} {te : TE} {k : Nat} {p1 p2 p3 pos : Pos} (he : PE X e te) (h : X.K = K := by rfl) : PE X (.Subscript e (.Slice none none (some (.UnaryOp .USub (.Constant (.int 1) k p1) p2)) p3) pos) (tRevL K te) := h ▸ pe_revL he
end Tk
namespace Lw
open PySem PySem.Spec PyProof.Rows L2 Evl
section
variable {prog : Program} {w : World} {A : Around} {E : Value → Shared → Prop} {s : Shared} {K : PySem.W.Frag} {a C f : Addr} {ox : Obj} {od : Option Obj} {Q : Value → Shared → Prop}
theorem binBuilt {op : Operator} {y : Value} {T : String} {p1 p2 p3 : Option Value} (X : K.In s.heap) (J : PySem.W.InstAt s.heap a ox C od) (hy : PySem.W.Looks (model prog w) s.heap (typeOf y) (.type T)) (hc : PySem.W.selfFirst K C = true)
    (hs : PySem.W.findIn K (.ref C) (PySem.dunder op.info.2) = some (some (.ref f))) (hf : PySem.W.isFn K (.ref f) = true) (h3 : PySem.W.findIn K (.ref C) (PySem.dunderR op.info.2) = some p3) (hn : p3 = none) (h1 : PySem.W.findIn K (.type T) (PySem.dunder op.info.2) = some p1) (h2 : PySem.W.findIn K (.type T) (PySem.dunderR op.info.2) = some p2) (hb : PySem.W.subIn K (.type T) (.ref C) = some false)
    (h : wpAny (model prog w) A (call (.ref f) [.ref a, y]) (PySem.W.CmpBack Q) E s) : wpAny (model prog w) A (binaryOp op (.ref a) y) Q E s := by
  obtain ⟨c1, r1, hc1, hm1⟩ := PySem.W.ksp_first hc
  rcases hop : op.info with ⟨sy, nq⟩
  rw [hop] at hs h3 h1 h2
  simp only at hs h3 h1 h2
  have way := PySem.W.ksp_try X J hs hf h
  obtain ⟨hq, gq, dq, tq, oq⟩ := s
  have w1 := J.type (M := model prog w)
  have w3 : PySem.W.Looks (model prog w) hq (fillsNumberSlot (.ref C) nq) true := PySem.W.fills_K X hc1 hm1 hs
  have w4 := PySem.W.ksp_fillsT (M := model prog w) X h1 h2
  have w5 := PySem.W.looks_subIn (M := model prog w) X hb
  have w6 := PySem.W.ksp_inPy (M := model prog w) X hs h3 (.inl hn)
  have w7 : PySem.W.Looks (model prog w) hq (numberSlotInPython (.type T) nq) false := .of_pure rfl
  have w8 := PySem.W.looks_findIn (M := model prog w) X h2
  generalize ((p1.isSome && !isSeqSlot p1) || (p2.isSome && !isSeqSlot p2)) = bb at w4
  have nq2 : (Value.ref C == Value.type T) = false := Bool.eq_false_iff.mpr fun z => nomatch beq_iff_eq.mp z
  simp only [binaryOp, hop]
  refine wpAny_holding <| wpAny_bind ?_
  unfold binaryOp1
  refine wpAny_bind <| w1.at <| wpAny_bind <| hy.at <| wpAny_bind <| w3.at ?_
  simp only [nq2, Bool.false_eq_true, if_false]
  rcases bb with _ | _ <;>
  · ksp_lk
    refine wpAny_mono way (fun r s2 hr2 => ?_) fun _ _ z => z
    obtain ⟨v, rfl, hv⟩ := hr2
    ksp_lk
    exact hv
end
/-- what is known of a built-in kind for such an operator -/
def BuiltAt (K : PySem.W.Frag) (C : Addr) (nm : String) (T : String) : Prop := (PySem.W.findIn K (.type T) (PySem.dunder nm)).isSome = true ∧ (PySem.W.findIn K (.type T) (PySem.dunderR nm)).isSome = true ∧ PySem.W.subIn K (.type T) (.ref C) = some false
def oddKinds : List String := ["NoneType", "int", "bool", "str", "list", "tuple", "dict"]
def BuiltOp (K : PySem.W.Frag) (C : Addr) (nm : String) : Prop := PySem.W.findIn K (.ref C) (PySem.dunderR nm) = some none ∧ ∀ T ∈ oddKinds, BuiltAt K C nm T
def builtB (K : PySem.W.Frag) (C : Addr) (nm : String) : Bool := decide (PySem.W.findIn K (.ref C) (PySem.dunderR nm) = some none) && oddKinds.all fun T => (PySem.W.findIn K (.type T) (PySem.dunder nm)).isSome && ((PySem.W.findIn K (.type T) (PySem.dunderR nm)).isSome && decide (PySem.W.subIn K (.type T) (.ref C) = some false))
theorem built_ok {K : PySem.W.Frag} {C : Addr} {nm : String} (h : builtB K C nm = true) : BuiltOp K C nm := by
  obtain ⟨h1, h2⟩ := He.ba h
  refine ⟨of_decide_eq_true h1, fun T hT => ?_⟩
  obtain ⟨k1, k2⟩ := He.ba (List.all_eq_true.mp h2 T hT)
  obtain ⟨k2, k3⟩ := He.ba k2
  exact ⟨k1, k2, of_decide_eq_true k3⟩
def rBinB (K : PySem.W.Frag) (C : Addr) (sp : Sp) (E : XK) : R2 := fun x y H Q => ∃ (a dx : Addr) (fs : List (Str × V)) (T : String), x = .ref a ∧ H a = some (.ins C dx fs) ∧ TyX K H y (.type T) ∧ T ∈ oddKinds ∧ sp [.ref a, y] H (fun v H2 => ∃ r, v = .ref r ∧ Q (.ref r) H2) E
theorem op_binBB {X : Cx} {CX : CXT} {k j : Nat} {C : Addr} {ps : List Str} {sp : Sp} {E : XK} {op : Operator} {nm : Str} (q : SpX X.prog X.w X.K X.mg X.base CX k C nm ps sp) (e : nm = PySem.dunder op.info.2) (bo : BuiltOp X.K C op.info.2) (hr : Room j X.A) (hx : Passes CX X E) (hj : k ≤ j := by decide) : OpR X (binaryOp op) (rBinB X.K C sp E) := by
  subst e
  obtain ⟨hc, f, fd, hf, tf, hb, F⟩ := q
  intro pins s σ H x y v u Q I rx ry h
  obtain ⟨a, dx, fs, T, rfl, ha, ty, hT, q⟩ := h
  cases rx
  obtain ⟨mA, J, _⟩ := ins_get I.hok ha
  obtain ⟨od, J, _⟩ := J.look
  obtain ⟨P, kx, hp, _⟩ := kit_of I ry ty
  obtain ⟨b1, b2, b3⟩ := bo.2 T hT
  obtain ⟨o1, b1⟩ := Option.isSome_iff_exists.mp b1
  obtain ⟨o2, b2⟩ := Option.isSome_iff_exists.mp b2
  refine binBuilt (op := op) I.kIn J (kx.ty _ _ I.kIn hp) hc hf tf bo.1 rfl b1 b2 b3 (wpAny_mono (run_fn (us := [.ref a, u]) (vs := [.ref a, y]) (dvs := []) (ds := []) F (hr.mono hj) hb .nil hx I (.cons rfl (.cons ry .nil)) q) (fun w2 s2 hh => ?_) fun _ _ z => z)
  obtain ⟨o, H2, I2, ro, r, rfl, q2⟩ := hh
  obtain rfl : w2 = Value.ref r := ro
  exact ⟨.ref r, H2, I2, rfl, q2⟩
theorem op_addBB {X : Cx} {K : PySem.W.Frag} {CX : CXT} {k j : Nat} {C : Addr} {ps : List Str} {sp : Sp} {E : XK} (q : SpX X.prog X.w X.K X.mg X.base CX k C "__add__" ps sp) (bo : BuiltOp K C "add") (hr : Room j X.A) (hx : Passes CX X E) (hj : k ≤ j := by decide) (hK : X.K = K := by rfl) : OpR X (binaryOp .Add) (rBinB K C sp E) := by
  subst hK
  exact op_binBB q (by decide +kernel) bo hr hx hj
end Lw
namespace Lw
open PySem PySem.Spec PyProof.Rows L2 Evl
end Lw
namespace Tk
open PySem PySem.Spec PyProof.Rows L2 Lw Evl LamX TL
open Rm (R Ok Z0 Zp Fr fr_none fr_ne nt_lst nt_tup NT Zn)
/-- neither list nor tuple -/
def NLx (K : PySem.W.Frag) (v : V) (H : Hp) : Prop := ∃ t : Value, TyX K H v t ∧ PySem.W.kitAny K t [.type "list", .type "tuple"] = some false
def spIsListX (K : PySem.W.Frag) : Sp := fun vs H Q _ => ∃ (v : V) (t : Value) (b : Bool), vs = [v] ∧ TyX K H v t ∧ PySem.W.kitAny K t [.type "list", .type "tuple"] = some b ∧ ∀ H', Ex H H' → Q (.bl b) H'
end Tk
namespace Tk
open PySem PySem.Spec PyProof.Rows L2 Lw Evl LamX TL
open Rm (R Ok Z0 Zp Fr fr_none fr_ne nt_lst nt_tup NT Zn)
end Tk
namespace Lw
open PySem PySem.Spec PyProof.Rows L2 Evl
open Wp (Leads Lead getL walkL)
def entL (e : Lead) : List L2.Key × V := ([.inl (e.1.1 : Int), .inr e.1.2], .int (e.2 : Int))
def kvL (L : Leads) : List (List L2.Key × V) := L.map entL
def LdR (H : Hp) (d : Addr) (L : Leads) : Prop := Rd H d (.dT (kvL L))
def oV : Option Nat → V
  | none => .non
  | some n => .int (n : Int)
theorem rd_ex {H H1 : Hp} {a : Addr} {u : HO} (e : Ex H H1) (h : Rd H a u) : Rd H1 a u := h.imp (fun z => e _ _ z) fun ⟨o, z⟩ => ⟨o, e _ _ z⟩
theorem key_eq {a b : Nat} {n m : Str} : ([.inl (a : Int), .inr n] : List L2.Key) = [.inl (b : Int), .inr m] ↔ (a, n) = (b, m) := by
  constructor
  · intro h
    injection h with h1 h2
    injection h2 with h2 _
    have e1 : (a : Int) = (b : Int) := Sum.inl.inj h1
    rw [Int.ofNat.inj e1, Sum.inr.inj h2]
  · intro h
    injection h with h1 h2
    rw [h1, h2]
theorem val_kvL {L : Leads} {k : Nat} {n : Str} : valV (kvL L) [.inl (k : Int), .inr n] = (getL L k n).map fun t : Nat => V.int (t : Int) := by
  unfold kvL
  induction L with
  | nil => rfl
  | cons e L ih =>
    rw [List.map_cons, Wp.getL_cons]
    by_cases h : e.1 = (k, n)
    · rw [if_pos h, valV_pos (p := entL e) (key_eq.mpr h)]
      rfl
    · rw [if_neg h, valV_neg (p := entL e) (fun z => h (key_eq.mp z)), ih]
theorem val_some_kvL {L : Leads} {o : Option Nat} {n : Str} : valV ((kvL L).map fun e => (e.1.map some, e.2)) [o.map fun k : Nat => (Sum.inl (k : Int) : L2.Key), some (.inr n)] = (o.bind fun k => getL L k n).map fun t : Nat => V.int (t : Int) := by
  unfold kvL
  induction L with
  | nil =>
    cases o <;> rfl
  | cons e L ih =>
    rw [List.map_cons, List.map_cons]
    cases o with
    | none =>
      rw [valV_neg (p := ((entL e).1.map some, (entL e).2)) (fun z => by injection z with z _; cases z)]
      exact ih
    | some k =>
      show _ = (getL (e :: L) k n).map _
      rw [Wp.getL_cons]
      by_cases h : e.1 = (k, n)
      · have z : (entL e).1.map some = [(some k).map fun k : Nat => (Sum.inl (k : Int) : L2.Key), some (.inr n)] := by
          have q : (entL e).1 = [.inl (k : Int), .inr n] := key_eq.mpr h
          rw [q]
          rfl
        rw [if_pos h, valV_pos (p := ((entL e).1.map some, (entL e).2)) z]
        rfl
      · have z : ¬ (entL e).1.map some = [(some k).map fun k : Nat => (Sum.inl (k : Int) : L2.Key), some (.inr n)] := fun q => by
          have q2 : (entL e).1.map some = ([.inl (k : Int), .inr n] : List L2.Key).map some := q
          exact h (key_eq.mp (map_some_inj q2))
        rw [if_neg h, valV_neg (p := ((entL e).1.map some, (entL e).2)) z]
        exact ih
theorem walk_snoc {L : Leads} {n : Str} : ∀ {xs : List Str} {k : Nat}, walkL L k (xs ++ [n]) = (walkL L k xs).bind fun h => getL L h n
  | [], k => by
    show walkL L k [n] = getL L k n
    unfold walkL
    cases getL L k n <;> rfl
  | x :: xs, k => by
    rw [List.cons_append]
    unfold walkL
    cases getL L k x with
    | none => rfl
    | some t => exact walk_snoc
theorem oV_eq {o : Option Nat} : (o.map fun t : Nat => V.int (t : Int)).getD .non = oV o := by
  cases o <;> rfl
theorem oV_nV {o : Option Nat} : nV (o.map fun k : Nat => (Sum.inl (k : Int) : L2.Key)) = oV o := by
  cases o <;> rfl
/-- leads.get((here, name)) -/
theorem nget_ld {H : Hp} {d b : Addr} {L : Leads} {o : Option Nat} {n : Str} (h : LdR H d L) (hb : H b = some (.tup [oV o, .str n])) : NGet H d b ((o.bind fun k => getL L k n).map fun t : Nat => V.int (t : Int)) :=
  ⟨_, [o.map fun k : Nat => (Sum.inl (k : Int) : L2.Key), some (.inr n)], h, by rw [hb, List.map_cons, oV_nV]; rfl, val_some_kvL.symm⟩
theorem dget_ld {H : Hp} {d b : Addr} {L : Leads} {k : Nat} {n : Str} (h : LdR H d L) (hb : H b = some (.tup [.int (k : Int), .str n])) : DGet H d (.ref b) ((getL L k n).map fun t : Nat => V.int (t : Int)) :=
  .inr ⟨_, [.inl (k : Int), .inr n], b, h, rfl, hb, val_kvL.symm⟩
theorem isD_ld {H : Hp} {d : Addr} {L : Leads} (h : LdR H d L) : IsD H d := .inr ⟨_, h⟩
section
variable {σ : L2.St} {H : Hp} {td ta tb tv : TE} {d : Addr} {L : Leads} {o : Option Nat} {k : Nat} {n : Str}
theorem two_le : (2 : Nat) ≤ sizeLine := by decide
/-- (a, b), a new tuple -/
theorem ev_pair {x y : V} {Q : VK} (ha : Ev ta σ H x) (hb : Ev tb σ H y) (q : ∀ p H1, H p = none → Ex H H1 → H1 p = some (.tup [x, y]) → Q (.ref p) H1) : tTup (tCons ta (tCons tb tNil)) σ H Q :=
  ha H (Ex.refl H) _ fun H1 e1 => hb H1 e1 _ fun H2 e2 => ⟨two_le, fun p hp => q p _ (fresh_back (e1.trans e2) hp) ((e1.trans e2).trans (Ex.new hp)) upd_same⟩
theorem ev_getL (h0 : Ev td σ H (.ref d)) (hl : LdR H d L) (h1 : Ev ta σ H (oV o)) (h2 : Ev tb σ H (.str n)) : Ev (tGetN td (tTup (tCons ta (tCons tb tNil)))) σ H (oV (o.bind fun k => getL L k n)) := fun H1 e Q q =>
  h0 H1 e _ fun H2 e2 => ⟨d, rfl, isD_ld (rd_ex (e.trans e2) hl), ev_pair (h1.mono (e.trans e2)) (h2.mono (e.trans e2)) fun p H3 hp e3 hh => ⟨p, _, rfl, nget_ld (rd_ex ((e.trans e2).trans e3) hl) hh, by
    rw [oV_eq]
    exact q _ (e2.trans e3)⟩⟩
theorem ev_dgetL {t : Nat} (h0 : Ev td σ H (.ref d)) (hl : LdR H d L) (h1 : Ev ta σ H (.int (k : Int))) (h2 : Ev tb σ H (.str n)) (g : getL L k n = some t) : Ev (tDGet td (tTup (tCons ta (tCons tb tNil)))) σ H (.int (t : Int)) := fun H1 e Q q =>
  h0 H1 e _ fun H2 e2 => ev_pair (h1.mono (e.trans e2)) (h2.mono (e.trans e2)) fun p H3 hp e3 hh => ⟨d, _, rfl, by
    have z := dget_ld (rd_ex ((e.trans e2).trans e3) hl) hh
    rw [g] at z
    exact z, q _ (e2.trans e3)⟩
theorem ev_ninL (h0 : Ev td σ H (.ref d)) (hl : LdR H d L) (h1 : Ev ta σ H (.int (k : Int))) (h2 : Ev tb σ H (.str n)) : Ev (tDNotIn (tTup (tCons ta (tCons tb tNil))) td) σ H (.bl (!(getL L k n).isSome)) := fun H1 e Q q =>
  ev_pair (h1.mono e) (h2.mono e) fun p H2 hp e2 hh => h0 H2 (e.trans e2) _ fun H3 e3 => ⟨d, _, rfl, dget_ld (rd_ex ((e.trans e2).trans e3) hl) (e3 _ _ hh), by
    rw [Option.isSome_map]
    exact q _ (e2.trans e3)⟩
/-- the leads behind found[k, n] = t, new -/
theorem put_kvL {t : Nat} (g : getL L k n = none) : putK (kvL L) [.inl (k : Int), .inr n] (.int (t : Int)) = kvL (L ++ [((k, n), t)]) := by
  rw [putK_new]
  · unfold kvL
    rw [List.map_append]
    rfl
  · rw [val_kvL, g]
    rfl
/-- found[k, n] = t -/
theorem s_putL {D : Ends} {t : Nat} (hv : Ev tv σ H (.int (t : Int))) (h0 : Ev td σ H (.ref d)) (hl : H d = some (.dT (kvL L))) (h1 : Ev ta σ H (.int (k : Int))) (h2 : Ev tb σ H (.str n)) (g : getL L k n = none) (hz : L.length < 100000)
    (q : ∀ H1, Ex H H1 → D.nx σ (upd H1 d (.dT (kvL (L ++ [((k, n), t)]))))) : sDPut td (tTup (tCons ta (tCons tb tNil))) tv D σ H :=
  hv H (Ex.refl H) _ fun H1 e1 => h0 H1 e1 _ fun H2 e2 => ev_pair (h1.mono (e1.trans e2)) (h2.mono (e1.trans e2)) fun p H3 hp e3 hh => ⟨d, _, rfl, DPut.t (k := [.inl (k : Int), .inr n]) (((e1.trans e2).trans e3) _ _ hl) hh (by
    unfold kvL
    rw [List.length_map]
    exact sz_lt hz), by
    rw [put_kvL g]
    exact q _ ((e1.trans e2).trans e3)⟩
end
/-- a text of a list of texts -/
theorem strs_get {xs : List Str} {i : Nat} {x : V} (h : (xs.map V.str)[i]? = some x) : ∃ y, xs[i]? = some y ∧ x = .str y := by
  rw [List.getElem?_map] at h
  obtain ⟨y, h1, h2⟩ := Option.map_eq_some_iff.mp h
  exact ⟨y, h1, h2.symm⟩
theorem take_get {α : Type} {xs : List α} {i : Nat} {y : α} (h : xs[i]? = some y) : xs.take (i + 1) = xs.take i ++ [y] := by
  rw [List.take_add_one, h]
  rfl
theorem cnt_len {L : Leads} {ks : List Int} (nd : ks.Nodup) (m : ∀ j, j ∈ ks ↔ j ∈ (Wp.vals L).map fun x : Nat => (x : Int)) : Wp.cnt L = ks.length := by
  have n2 : ((Wp.firsts [] (Wp.vals L)).map fun x : Nat => (x : Int)).Nodup := List.pairwise_map.mpr ((Wp.firsts_nodup List.nodup_nil).imp fun n e => n (Int.ofNat.inj e))
  have mm : ∀ j, j ∈ ((Wp.firsts [] (Wp.vals L)).map fun x : Nat => (x : Int)) ↔ j ∈ ks := fun j => by
    rw [m, List.mem_map, List.mem_map]
    constructor
    · rintro ⟨x, hx, rfl⟩
      exact ⟨x, (Wp.mem_firsts.mp hx).resolve_left (fun z => by cases z), rfl⟩
    · rintro ⟨x, hx, rfl⟩
      exact ⟨x, Wp.mem_firsts.mpr (.inr hx), rfl⟩
  have a := nodup_le n2 fun x hx => (mm x).mp hx
  have b := nodup_le nd fun x hx => (mm x).mpr hx
  rw [List.length_map] at a b
  exact Nat.le_antisymm a b
def spWalk (K : PySem.W.Frag) : Sp := fun vs H Q _ => ∃ (d t : Addr) (k : Nat) (L : Leads) (ns : List Str), vs = [.ref d, .int (k : Int), .ref t] ∧ LdR H d L ∧ SqT K H t (ns.map V.str) ∧ ∀ H', Ex H H' → Q (oV (walkL L k ns)) H'
def spCount (K : PySem.W.Frag) : Sp := fun vs H Q _ => ∃ (d : Addr) (L : Leads), vs = [.ref d] ∧ H d = some (.dT (kvL L)) ∧ L.length ≤ 4000 ∧ ∀ H', Ex H H' → Q (.int (Wp.cnt L : Nat)) H'
end Lw
namespace Lw
open PySem PySem.Spec PyProof.Rows L2 Evl
open Wp (Leads Lead getL walkL growA growW grow WfL)
/-- f, new beside H, holds the leads M -/
structure Gr (H H' : Hp) (f : Addr) (M : Leads) : Prop where
  nf : H f = none
  ex : Ex H H'
  at_ : H' f = some (.dT (kvL M))
theorem Gr.step {H H1 H2 : Hp} {f : Addr} {M : Leads} (g : Gr H H1 f M) (e : Ex H1 H2) : Gr H H2 f M := ⟨g.nf, g.ex.trans e, e _ _ g.at_⟩
theorem Gr.put {H H1 : Hp} {f : Addr} {M N : Leads} (g : Gr H H1 f M) : Gr H (upd H1 f (.dT (kvL N))) f N := ⟨g.nf, g.ex.mut g.nf, upd_same⟩
theorem key_nd {L : Leads} (nd : (L.map (·.1)).Nodup) : ((kvL L).map (·.1)).Nodup := by
  unfold kvL
  rw [List.map_map]
  exact List.pairwise_map.mpr ((List.pairwise_map.mp nd).imp fun n e => n (key_eq.mp e))
theorem Gr.more {L : Leads} (nd : (L.map (·.1)).Nodup) {i : Nat} {e : Lead} (h : L[i]? = some e) : getL (L.take i) e.1.1 e.1.2 = none := Wp.getL_none.mpr fun x hx c => by
  obtain ⟨j, hj⟩ := List.getElem?_of_mem hx
  rw [List.getElem?_take] at hj
  split at hj
  · rename_i lt
    have hi : (L.map (·.1))[i]? = some e.1 := by rw [List.getElem?_map, h]; rfl
    have hj2 : (L.map (·.1))[j]? = some e.1 := by
      rw [List.getElem?_map, hj]
      exact congrArg some c
    have lj : j < (L.map (·.1)).length := (List.getElem?_eq_some_iff.mp hj2).1
    have := (List.getElem?_inj lj nd).mp (hj2.trans hi.symm)
    omega
  · cases hj
/-- found = {key: leads[key] for key in leads} -/
theorem q_copyL {d : Addr} {L : Leads} {σ : L2.St} {H : Hp} {D : Ends} {tz : TS} {i j r : Nat} (hd : H d = some (.dT (kvL L))) (nd : (L.map (·.1)).Nodup) (hz : L.length < 100000) (hi : ∀ x, ((wipe σ [j]).set j (some x))[i]? = some (some (.ref d))) (h0 : σ[i]? = some (some (.ref d)))
    (hw : ∀ x, wipe ((wipe σ [j]).set j (some x)) [j] = wipe σ [j]) (hj : ∀ x, ((wipe σ [j]).set j (some x))[j]? = some (some x)) (q : ∀ f H2, Gr H H2 f L → tz D (σ.set r (some (.ref f))) H2) :
    tSeq (tLock (tAsg (tDcT (iKeys (tVar i)) (gName j) (tVar j) (tDGet (tVar i) (tVar j)) [j]) (gName r))) tz D σ H := by
  refine ⟨d, _, hd, trivial, fun od => ⟨_, h0, d, od, rfl, .inr ⟨kvL L, upd_same, fun f hf => ?_⟩⟩⟩
  have fd : f ≠ d := fun z => by
    rw [z, upd_same] at hf
    cases hf
  have nf : H f = none := by
    rw [upd_ne fd] at hf
    exact hf
  have back : ∀ {H2 : Hp}, Ex (upd H d (.frz od (.dT (kvL L)))) H2 → Ex H (upd H2 d (.dT (kvL L))) := fun {H2} e a o ea => by
    by_cases c : a = d
    · subst c
      rw [upd_same, ← hd, ea]
    · rw [upd_ne c]
      exact e _ _ (by rw [upd_ne c]; exact ea)
  refine w_it (walk_keysT (d := d) (o := od) (kvs := kvL L)) (fun m H2 => Ex (upd H d (.frz od (.dT (kvL L)))) H2 ∧ H2 f = some (.dT (kvL (L.take m)))) ⟨Ex.new hf, ?_⟩ (fun m H2 _ p => p.1 _ _ upd_same) (fun m x H2 H3 hm p y => ?_) fun H2 p => ?_
  · rw [upd_same]
    rfl
  · obtain ⟨rfl, k, v, b, hk, rfl, hb⟩ := y
    have hm2 : m < L.length := by
      unfold kvL at hm
      rw [List.length_map] at hm
      exact hm
    have e1 : (kvL L)[m]? = some (entL L[m]) := by
      unfold kvL
      rw [List.getElem?_map, List.getElem?_eq_getElem hm2]
      rfl
    rw [e1] at hk
    have ek := Option.some.inj hk
    have k1 : k = [.inl (L[m].1.1 : Int), .inr L[m].1.2] := by rw [show k = (entL L[m]).1 from by rw [ek]]; rfl
    subst k1
    have g := Gr.more nd (List.getElem?_eq_getElem hm2)
    have v1 : valV (kvL L) [.inl (L[m].1.1 : Int), .inr L[m].1.2] = some (.int (L[m].2 : Int)) := by
      have gg : getL L L[m].1.1 L[m].1.2 = some L[m].2 := Wp.getL_of nd (List.getElem_mem hm2)
      rw [val_kvL, gg]
      rfl
    refine ⟨hw _, .ref b, hj _, .ref d, hi _, .ref b, hj _, d, .int (L[m].2 : Int), rfl, .inr ⟨kvL L, _, b, .inr ⟨od, p.1 _ _ upd_same⟩, rfl, hb, v1.symm⟩, _, _, b, rfl, hb, p.2, ?_, ?_, ?_⟩
    · unfold kvL
      rw [List.length_map]
      exact sz_lt (by rw [List.length_take]; omega)
    · exact Ex.mut p.1 hf
    · rw [upd_same, put_kvL g, take_get (List.getElem?_eq_getElem hm2)]
  · have lk : (kvL L).length = L.length := by
      unfold kvL
      rw [List.length_map]
    have p2 := p.2
    rw [lk, List.take_length] at p2
    refine ⟨p.1 _ _ upd_same, q f _ ⟨nf, back p.1, ?_⟩⟩
    rw [upd_ne fd]
    exact p2
def ToldV (K : PySem.W.Frag) (H : Hp) (u : V) (t : Nat × List Str) : Prop := ∃ a b, u = .ref a ∧ H a = some (.tup [.int (t.1 : Int), .ref b]) ∧ SqT K H b (t.2.map V.str)
def spGrown (K : PySem.W.Frag) : Sp := fun vs H Q _ => ∃ (d l : Addr) (L : Leads) (us : List V) (told : List (Nat × List Str)), vs = [.ref d, .ref l] ∧ H d = some (.dT (kvL L)) ∧ SqL K H l us ∧ Paired (ToldV K H) us told ∧ WfL L ∧ (∀ t ∈ told, t.1 = 0 ∨ t.1 ∈ Wp.vals L) ∧ L.length + Wp.letters told ≤ 3000 ∧
  ∀ f H', Gr H H' f (grow L told) → Q (.ref f) H'
end Lw
namespace Lw
open PySem PySem.Spec PyProof.Rows L2 Evl
open Wp (Leads Lead getL walkL MS upf topF lk)
def kvN (ks : List Nat) (g : Nat → V) : List (L2.Key × V) := ks.map fun k : Nat => ((Sum.inl (k : Int) : L2.Key), g k)
def kvI (ks : List Nat) (f : Nat → Nat) : List (L2.Key × V) := kvN ks fun k => .int (f k : Int)
def kvR (ks : List Nat) (f : Nat → Addr) : List (L2.Key × V) := kvN ks fun k => .ref (f k)
def kvW (xs : List (Str × Nat)) : List (L2.Key × V) := xs.map fun e => (.inr e.1, .int (e.2 : Int))
theorem inl_eq {a b : Nat} : ((Sum.inl (a : Int) : L2.Key) = .inl (b : Int)) ↔ a = b := ⟨fun h => Int.ofNat.inj (Sum.inl.inj h), fun h => by rw [h]⟩
theorem val_kvN {ks : List Nat} {g : Nat → V} {k : Nat} : valV (kvN ks g) (.inl (k : Int)) = if k ∈ ks then some (g k) else none := by
  unfold kvN
  induction ks with
  | nil => rfl
  | cons j ks ih =>
    rw [List.map_cons]
    by_cases h : j = k
    · subst h
      rw [valV_pos (p := (Sum.inl (j : Int), g j)) rfl, if_pos List.mem_cons_self]
    · rw [valV_neg (p := (Sum.inl (j : Int), g j)) (fun z => h (inl_eq.mp z)), ih]
      by_cases m : k ∈ ks
      · rw [if_pos m, if_pos (List.mem_cons_of_mem _ m)]
      · rw [if_neg m, if_neg (fun z => (List.mem_cons.mp z).elim (fun e => h e.symm) m)]
theorem put_kvN {ks : List Nat} {g : Nat → V} {k : Nat} {v : V} : putK (kvN ks g) (.inl (k : Int)) v = kvN (if k ∈ ks then ks else ks ++ [k]) (upf g k v) := by
  by_cases m : k ∈ ks
  · rw [if_pos m]
    unfold putK
    rw [valV_any, val_kvN, if_pos m]
    show (if true = true then _ else _) = _
    rw [if_pos rfl]
    unfold kvN
    rw [List.map_map]
    refine List.map_congr_left fun j _ => ?_
    show (if (Sum.inl (j : Int) : L2.Key) = .inl (k : Int) then _ else _) = _
    by_cases c : j = k
    · rw [if_pos (inl_eq.mpr c), c, Wp.upf_same]
    · rw [if_neg (fun z => c (inl_eq.mp z)), Wp.upf_ne c]
  · rw [if_neg m, putK_new]
    · unfold kvN
      rw [List.map_append]
      have a : (ks.map fun j : Nat => ((Sum.inl (j : Int) : L2.Key), g j)) = ks.map fun j : Nat => ((Sum.inl (j : Int) : L2.Key), upf g k v j) := List.map_congr_left fun j hj => by rw [Wp.upf_ne fun e => m (by rw [← e]; exact hj)]
      rw [a]
      show _ ++ [_] = _ ++ [((Sum.inl (k : Int) : L2.Key), upf g k v k)]
      rw [Wp.upf_same]
    · rw [val_kvN, if_neg m]
theorem val_kvW {xs : List (Str × Nat)} {n : Str} : valV (kvW xs) (.inr n) = (lk xs n).map fun t : Nat => V.int (t : Int) := by
  unfold kvW
  induction xs with
  | nil => rfl
  | cons e xs ih =>
    rw [List.map_cons, Wp.lk_cons]
    by_cases h : e.1 = n
    · rw [if_pos h, valV_pos (p := (Sum.inr e.1, V.int (e.2 : Int))) (by rw [h])]
      rfl
    · rw [if_neg h, valV_neg (p := (Sum.inr e.1, V.int (e.2 : Int))) (fun z => h (Sum.inr.inj z)), ih]
theorem put_kvW {xs : List (Str × Nat)} {n : Str} {t : Nat} (g : lk xs n = none) : putK (kvW xs) (.inr n) (.int (t : Int)) = kvW (xs ++ [(n, t)]) := by
  rw [putK_new]
  · unfold kvW
    rw [List.map_append]
    rfl
  · rw [val_kvW, g]
    rfl
section
variable {σ : L2.St} {H : Hp} {td ta tb tv : TE} {d : Addr} {ks : List Nat} {g : Nat → V} {k : Nat} {n : Str} {xs : List (Str × Nat)}
theorem ev_dgetN (h0 : Ev td σ H (.ref d)) (hd : Rd H d (.dK (kvN ks g))) (h1 : Ev ta σ H (.int (k : Int))) (hk : k ∈ ks) : Ev (tDGet td ta) σ H (g k) := fun H1 e Q q =>
  h0 H1 e _ fun H2 e2 => h1 H2 (e.trans e2) _ fun H3 e3 => ⟨d, _, rfl, .inl ⟨_, .inl (k : Int), rd_ex ((e.trans e2).trans e3) hd, rfl, by rw [val_kvN, if_pos hk]⟩, q _ (e2.trans e3)⟩
theorem ev_dgetW {t : Nat} (h0 : Ev td σ H (.ref d)) (hd : Rd H d (.dK (kvW xs))) (h1 : Ev ta σ H (.str n)) (hk : lk xs n = some t) : Ev (tDGet td ta) σ H (.int (t : Int)) := fun H1 e Q q =>
  h0 H1 e _ fun H2 e2 => h1 H2 (e.trans e2) _ fun H3 e3 => ⟨d, _, rfl, .inl ⟨_, .inr n, rd_ex ((e.trans e2).trans e3) hd, rfl, by rw [val_kvW, hk]; rfl⟩, q _ (e2.trans e3)⟩
theorem ev_dinW (h0 : Ev td σ H (.ref d)) (hd : Rd H d (.dK (kvW xs))) (h1 : Ev ta σ H (.str n)) : Ev (tDIn ta td) σ H (.bl (lk xs n).isSome) := fun H1 e Q q =>
  h1 H1 e _ fun H2 e2 => h0 H2 (e.trans e2) _ fun H3 e3 => ⟨d, _, rfl, .inl ⟨_, .inr n, rd_ex ((e.trans e2).trans e3) hd, rfl, rfl⟩, by
    rw [val_kvW, Option.isSome_map]
    exact q _ (e2.trans e3)⟩
end
/-- top_of -/
def spTop (K : PySem.W.Frag) : Sp := fun vs H Q _ => ∃ (a : Addr) (k N : Nat) (ks : List Nat) (ab : Nat → Nat), vs = [.ref a, .int (k : Int)] ∧ Rd H a (.dK (kvI ks ab)) ∧ k ∈ ks ∧ (∀ j ∈ ks, ab j ∈ ks) ∧ ab (topF ab N k) = topF ab N k ∧ ∀ H', Ex H H' → Q (.int (topF ab N k : Nat)) H'
def PairV (H : Hp) (u : V) (p : Nat × Nat) : Prop := ∃ a, u = .ref a ∧ H a = some (.tup [.int (p.1 : Int), .int (p.2 : Int)])
structure JAt (H0 H : Hp) (wy al wl qa : Addr) (ad : Nat → Addr) (ks : List Nat) (s : MS) : Prop where
  ex : Ex H0 H
  way : H wy = some (.dK (kvR ks ad))
  inn : ∀ k ∈ ks, H (ad k) = some (.dK (kvW (s.W k)))
  inj : ∀ j ∈ ks, ∀ k ∈ ks, ad j = ad k → j = k
  abo : H al = some (.dK (kvI ks s.ab))
  wei : H wl = some (.dK (kvI ks s.wt))
  wai : ∃ us, H qa = some (.lst us) ∧ Paired (PairV H) us s.wa
  new : H0 wy = none ∧ H0 al = none ∧ H0 wl = none ∧ H0 qa = none ∧ ∀ k ∈ ks, H0 (ad k) = none
  dis : al ≠ wl ∧ al ≠ wy ∧ wl ≠ wy ∧ ∀ k ∈ ks, ad k ≠ al ∧ ad k ≠ wl ∧ ad k ≠ wy
theorem pairV_ex {H H1 : Hp} {u : V} {p : Nat × Nat} (e : Ex H H1) (h : PairV H u p) : PairV H1 u p := h.imp fun _ ⟨h1, h2⟩ => ⟨h1, e _ _ h2⟩
theorem pairV_upd {H : Hp} {u : V} {p : Nat × Nat} {a : Addr} {o o' : HO} (ha : H a = some o) (no : ∀ xs, o ≠ .tup xs) (h : PairV H u p) : PairV (upd H a o') u p := h.imp fun b ⟨h1, h2⟩ => ⟨h1, by
  rw [upd_ne fun z => by
    rw [z, ha] at h2
    exact no _ (Option.some.inj h2)]
  exact h2⟩
section
variable {H0 H H1 : Hp} {wy al wl qa : Addr} {ad : Nat → Addr} {ks : List Nat} {s : MS}
theorem JAt.step (j : JAt H0 H wy al wl qa ad ks s) (e : Ex H H1) : JAt H0 H1 wy al wl qa ad ks s :=
  ⟨j.ex.trans e, e _ _ j.way, fun k hk => e _ _ (j.inn k hk), j.inj, e _ _ j.abo, e _ _ j.wei, j.wai.imp fun us ⟨h1, h2⟩ => ⟨e _ _ h1, paired_mono (fun _ _ r => pairV_ex e r) h2⟩, j.new, j.dis⟩
theorem JAt.qne (j : JAt H0 H wy al wl qa ad ks s) : qa ≠ wy ∧ qa ≠ al ∧ qa ≠ wl ∧ ∀ k ∈ ks, qa ≠ ad k := by
  obtain ⟨us, h1, _⟩ := j.wai
  exact ⟨fun z => (by rw [z, j.way] at h1; cases h1), fun z => (by rw [z, j.abo] at h1; cases h1), fun z => (by rw [z, j.wei] at h1; cases h1), fun k hk z => (by rw [z, j.inn k hk] at h1; cases h1)⟩
theorem JAt.setAb (j : JAt H0 H wy al wl qa ad ks s) (f : Nat → Nat) : JAt H0 (upd H al (.dK (kvI ks f))) wy al wl qa ad ks { s with ab := f } := by
  obtain ⟨d1, d2, d3, d4⟩ := j.dis
  obtain ⟨us, h1, h2⟩ := j.wai
  exact ⟨j.ex.mut j.new.2.1, by rw [upd_ne d2.symm]; exact j.way, fun k hk => by rw [upd_ne (d4 k hk).1]; exact j.inn k hk, j.inj, upd_same, by rw [upd_ne d1.symm]; exact j.wei,
    ⟨us, by rw [upd_ne j.qne.2.1]; exact h1, paired_mono (fun _ _ r => pairV_upd j.abo (fun _ z => by cases z) r) h2⟩, j.new, j.dis⟩
theorem JAt.setWt (j : JAt H0 H wy al wl qa ad ks s) (f : Nat → Nat) : JAt H0 (upd H wl (.dK (kvI ks f))) wy al wl qa ad ks { s with wt := f } := by
  obtain ⟨d1, d2, d3, d4⟩ := j.dis
  obtain ⟨us, h1, h2⟩ := j.wai
  exact ⟨j.ex.mut j.new.2.2.1, by rw [upd_ne d3.symm]; exact j.way, fun k hk => by rw [upd_ne (d4 k hk).2.1]; exact j.inn k hk, j.inj, by rw [upd_ne d1]; exact j.abo, upd_same,
    ⟨us, by rw [upd_ne j.qne.2.2.1]; exact h1, paired_mono (fun _ _ r => pairV_upd j.wei (fun _ z => by cases z) r) h2⟩, j.new, j.dis⟩
theorem JAt.setIn (j : JAt H0 H wy al wl qa ad ks s) {k : Nat} (hk : k ∈ ks) (xs : List (Str × Nat)) : JAt H0 (upd H (ad k) (.dK (kvW xs))) wy al wl qa ad ks { s with W := upf s.W k xs } := by
  obtain ⟨d1, d2, d3, d4⟩ := j.dis
  obtain ⟨us, h1, h2⟩ := j.wai
  refine ⟨j.ex.mut (j.new.2.2.2.2 k hk), by rw [upd_ne (d4 k hk).2.2.symm]; exact j.way, fun i hi => ?_, j.inj, by rw [upd_ne (d4 k hk).1.symm]; exact j.abo, by rw [upd_ne (d4 k hk).2.1.symm]; exact j.wei,
    ⟨us, by rw [upd_ne (j.qne.2.2.2 k hk)]; exact h1, paired_mono (fun _ _ r => pairV_upd (j.inn k hk) (fun _ z => by cases z) r) h2⟩, j.new, j.dis⟩
  show upd H (ad k) (.dK (kvW xs)) (ad i) = some (.dK (kvW (upf s.W k xs i)))
  by_cases c : i = k
  · rw [c, upd_same, Wp.upf_same]
  · rw [upd_ne fun z => c (j.inj i hi k hk z), Wp.upf_ne c]
    exact j.inn i hi
theorem JAt.setWa (j : JAt H0 H wy al wl qa ad ks s) {us : List V} {wa : List (Nat × Nat)} (h : Paired (PairV H) us wa) : JAt H0 (upd H qa (.lst us)) wy al wl qa ad ks { s with wa := wa } := by
  obtain ⟨q1, q2, q3, q4⟩ := j.qne
  obtain ⟨us0, h1, _⟩ := j.wai
  exact ⟨j.ex.mut j.new.2.2.2.1, by rw [upd_ne q1.symm]; exact j.way, fun k hk => by rw [upd_ne (q4 k hk).symm]; exact j.inn k hk, j.inj, by rw [upd_ne q2.symm]; exact j.abo, by rw [upd_ne q3.symm]; exact j.wei,
    ⟨us, upd_same, paired_mono (fun _ _ r => pairV_upd h1 (fun _ z => by cases z) r) h⟩, j.new, j.dis⟩
end
def lockN : Nat → TE → TE
  | 0, t => t
  | n + 1, t => tLockE (lockN n t)
def tLocks (t : TE) : TE := fun σ H Q => ∃ n, lockN n t σ H Q
theorem pe_lockN {X : Cx} {e : Expr} {t : TE} (h : PE X e t) : ∀ n, PE X e (lockN n t)
  | 0 => h
  | n + 1 => pe_lock (pe_lockN h n)
theorem pe_locks {X : Cx} {e : Expr} {t : TE} (h : PE X e t) : PE X e (tLocks t) :=
  ⟨fun pins s σ H Q I ⟨n, w⟩ => (pe_lockN h n).run pins s σ H Q I w⟩
end Lw
namespace Lw
open PySem PySem.Spec PyProof.Rows L2 Evl
open Wp (Leads Lead getL walkL MS upf topF lk WfL)
theorem firsts_snoc {x : Nat} : ∀ {xs acc : List Nat}, Wp.firsts acc (xs ++ [x]) = if x ∈ Wp.firsts acc xs then Wp.firsts acc xs else Wp.firsts acc xs ++ [x]
  | [], acc => rfl
  | y :: ys, acc => by
    rw [List.cons_append]
    unfold Wp.firsts
    exact firsts_snoc
/-- the dict of ways -/
structure WAt (H0 H : Hp) (wy : Addr) (ad : Nat → Addr) (ks : List Nat) (W : Nat → List (Str × Nat)) : Prop where
  ex : Ex H0 H
  way : H wy = some (.dK (kvR ks ad))
  inn : ∀ k ∈ ks, H (ad k) = some (.dK (kvW (W k)))
  inj : ∀ j ∈ ks, ∀ k ∈ ks, ad j = ad k → j = k
  new : H0 wy = none ∧ ∀ k ∈ ks, H0 (ad k) = none ∧ ad k ≠ wy
section
variable {H0 H H1 : Hp} {wy : Addr} {ad : Nat → Addr} {ks : List Nat} {W : Nat → List (Str × Nat)}
theorem WAt.step (j : WAt H0 H wy ad ks W) (e : Ex H H1) : WAt H0 H1 wy ad ks W := ⟨j.ex.trans e, e _ _ j.way, fun k hk => e _ _ (j.inn k hk), j.inj, j.new⟩
theorem WAt.setIn (j : WAt H0 H wy ad ks W) {k : Nat} (hk : k ∈ ks) (xs : List (Str × Nat)) : WAt H0 (upd H (ad k) (.dK (kvW xs))) wy ad ks (upf W k xs) := by
  refine ⟨j.ex.mut (j.new.2 k hk).1, by rw [upd_ne (j.new.2 k hk).2.symm]; exact j.way, fun i hi => ?_, j.inj, j.new⟩
  by_cases c : i = k
  · rw [c, upd_same, Wp.upf_same]
  · rw [upd_ne fun z => c (j.inj i hi k hk z), Wp.upf_ne c]
    exact j.inn i hi
theorem upf_ref {ad : Nat → Addr} {k : Nat} {p : Addr} : upf (fun k => V.ref (ad k)) k (.ref p) = fun j => V.ref (upf ad k p j) := by
  funext j
  unfold upf
  split <;> rfl
/-- ways = {knot: {} for knot in xs} -/
theorem q_ways {K : PySem.W.Frag} {te : TE} {σ : L2.St} {H : Hp} {D : Ends} {tz : TS} {j r : Nat} {xs : List Nat} (h : EvL te σ H (xs.map fun x : Nat => V.int (x : Int))) (hz : xs.length < 100000)
    (hw : ∀ x, wipe ((wipe σ [j]).set j (some x)) [j] = wipe σ [j]) (hj : ∀ x, ((wipe σ [j]).set j (some x))[j]? = some (some x)) (q : ∀ wy ad H2, WAt H H2 wy ad (Wp.firsts [] xs) (fun _ => []) → tz D (σ.set r (some (.ref wy))) H2) :
    tSeq (tAsg (tDc (iList K te) (gName j) tYes (tVar j) tDNewK [j]) (gName r)) tz D σ H := by
  refine h H (Ex.refl H) _ fun p H1 hp e1 h1 => ⟨p, rfl, ⟨_, SqL.of h1⟩, fun f hf => ?_⟩
  have nf : H f = none := fresh_back e1 hf
  refine w_it (walk_list (K := K) (a := p) (xs := xs.map fun x : Nat => V.int (x : Int))) (fun i H2 => H2 p = some (.lst (xs.map fun x : Nat => V.int (x : Int))) ∧ ∃ ad, WAt H H2 f ad (Wp.firsts [] (xs.take i)) fun _ => []) ⟨(Ex.new hf) _ _ h1, fun _ => 0, e1.trans (Ex.new hf), upd_same, fun k hk => (by cases hk), fun k hk => (by cases hk), nf, fun k hk => (by cases hk)⟩ (fun i H2 _ q => SqL.of q.1) (fun i x H2 H3 hi pv y => ?_) fun H2 pv => ?_
  · obtain ⟨rfl, hx⟩ := y
    rw [List.getElem?_map] at hx
    obtain ⟨k, hk, rfl⟩ := Option.map_eq_some_iff.mp hx
    obtain ⟨hl, ad, w⟩ := pv
    refine ⟨hw _, ?_⟩
    unfold tYes
    dsimp only
    rw [if_pos rfl]
    refine ⟨_, hj _, fun b hb => ⟨_, .inl (k : Int), rfl, (Ex.new hb) _ _ w.way, ?_, ?_, ?_⟩⟩
    · have := Wp.firsts_le (xs := xs.take i) (acc := [])
      unfold kvR kvN
      rw [List.length_map]
      rw [List.length_take, List.length_nil] at this
      exact sz_lt (by omega)
    · have np : p ≠ f := fun z => by rw [z, hf] at h1; cases h1
      rw [upd_ne np]
      exact (Ex.new hb) _ _ hl
    · refine ⟨upf ad k b, ?_⟩
      rw [take_get hk, firsts_snoc]
      unfold kvR
      rw [put_kvN, upf_ref]
      have bf : b ≠ f := fun z => by rw [z, w.way] at hb; cases hb
      have nb : H b = none := fresh_back w.ex hb
      have nin : ∀ z0 ∈ Wp.firsts [] (xs.take i), ad z0 ≠ b := fun z0 hi z => by
        have y := w.inn z0 hi
        rw [z, hb] at y
        cases y
      have mem : ∀ x, x ∈ (if k ∈ Wp.firsts [] (xs.take i) then Wp.firsts [] (xs.take i) else Wp.firsts [] (xs.take i) ++ [k]) → x = k ∨ x ∈ Wp.firsts [] (xs.take i) := fun x hx => by
        split at hx
        · exact .inr hx
        · exact (List.mem_append.mp hx).elim .inr fun z => .inl (List.mem_singleton.mp z)
      generalize (if k ∈ Wp.firsts [] (xs.take i) then Wp.firsts [] (xs.take i) else Wp.firsts [] (xs.take i) ++ [k]) = ks2 at mem ⊢
      refine ⟨(w.ex.trans (Ex.new hb)).mut nf, upd_same, fun x hx => ?_, fun x hx y hy e => ?_, nf, fun x hx => ?_⟩
      · by_cases c : x = k
        · rw [c, Wp.upf_same, upd_ne bf, upd_same]
          rfl
        · have m := (mem x hx).resolve_left c
          rw [Wp.upf_ne c, upd_ne (w.new.2 x m).2, upd_ne (nin x m)]
          exact w.inn x m
      · by_cases c : x = k
        · by_cases c2 : y = k
          · rw [c, c2]
          · rw [c, Wp.upf_same, Wp.upf_ne c2] at e
            exact absurd e.symm (nin y ((mem y hy).resolve_left c2))
        · by_cases c2 : y = k
          · rw [c2, Wp.upf_same, Wp.upf_ne c] at e
            exact absurd e (nin x ((mem x hx).resolve_left c))
          · rw [Wp.upf_ne c, Wp.upf_ne c2] at e
            exact w.inj x ((mem x hx).resolve_left c) y ((mem y hy).resolve_left c2) e
      · by_cases c : x = k
        · rw [c, Wp.upf_same]
          exact ⟨nb, bf⟩
        · rw [Wp.upf_ne c]
          exact w.new.2 x ((mem x hx).resolve_left c)
  · obtain ⟨_, ad, w⟩ := pv
    rw [List.length_map, List.take_length] at w
    exact q f ad H2 w
theorem back_frz {H H2 : Hp} {d : Addr} {od : Obj} {u : HO} (hd : H d = some u) (e : Ex (upd H d (.frz od u)) H2) : Ex H (upd H2 d u) := fun a o ea => by
  by_cases c : a = d
  · subst c
    rw [upd_same, ← hd, ea]
  · rw [upd_ne c]
    exact e _ _ (by rw [upd_ne c]; exact ea)
theorem frz_ne {H : Hp} {d f : Addr} {od : Obj} {u : HO} (hf : upd H d (.frz od u) f = none) : f ≠ d ∧ H f = none := by
  have fd : f ≠ d := fun z => by
    rw [z, upd_same] at hf
    cases hf
  exact ⟨fd, by rw [upd_ne fd] at hf; exact hf⟩
theorem dc_keys {σ : L2.St} {H1 : Hp} {d : Addr} {od : Obj} {g h : Nat → V} {tv : TE} {Q : VK} {i j : Nat} (hd : H1 d = some (.frz od (.dK (kvN ks g)))) (nd : ks.Nodup) (hz : ks.length < 100000) (h0 : σ[i]? = some (some (.ref d)))
    (hw : ∀ x, wipe ((wipe σ [j]).set j (some x)) [j] = wipe σ [j]) (hj : ∀ x, ((wipe σ [j]).set j (some x))[j]? = some (some x)) (hv : ∀ k ∈ ks, ∀ H2, Ex H1 H2 → Ev tv ((wipe σ [j]).set j (some (.int (k : Int)))) H2 (h k))
    (q : ∀ f H2, H1 f = none → Ex H1 H2 → H2 f = some (.dK (kvN ks h)) → Q (.ref f) H2) : tDc (iKeys (tVar i)) (gName j) tYes (tVar j) tv [j] σ H1 Q := by
  refine ⟨_, h0, d, od, rfl, .inl ⟨_, hd, fun f hf => ?_⟩⟩
  refine w_it (walk_keys (d := d) (o := od) (kvs := kvN ks g)) (fun m H2 => Ex H1 H2 ∧ H2 f = some (.dK (kvN (ks.take m) h))) ⟨Ex.new hf, upd_same⟩ (fun m H2 _ p => p.1 _ _ hd) (fun m x H2 H3 hm p y => ?_) fun H2 p => ?_
  · obtain ⟨rfl, k, v, hk, rfl⟩ := y
    unfold kvN at hk
    rw [List.getElem?_map] at hk
    obtain ⟨n, hn, e⟩ := Option.map_eq_some_iff.mp hk
    cases e
    refine ⟨hw _, ?_⟩
    unfold tYes
    dsimp only
    rw [if_pos rfl]
    refine ⟨_, hj _, hv n (List.mem_of_getElem? hn) _ p.1 H3 (Ex.refl _) _ fun H4 e4 => ⟨_, .inl (n : Int), rfl, e4 _ _ p.2, ?_, (p.1.trans e4).mut hf, ?_⟩⟩
    · unfold kvN
      rw [List.length_map, List.length_take]
      exact sz_lt (by omega)
    · rw [upd_same, put_kvN, take_get hn]
      have nm : n ∉ ks.take m := fun z => by
        obtain ⟨i2, h2⟩ := List.getElem?_of_mem z
        rw [List.getElem?_take] at h2
        split at h2
        · rename_i lt
          have := (List.getElem?_inj (List.getElem?_eq_some_iff.mp h2).1 nd).mp (h2.trans hn.symm)
          omega
        · cases h2
      rw [if_neg nm]
      have e2 : upf h n (h n) = h := by
        funext z
        unfold upf
        split
        · rename_i c
          rw [c]
        · rfl
      rw [e2]
  · have lk : (kvN ks g).length = ks.length := by
      unfold kvN
      rw [List.length_map]
    have p2 := p.2
    rw [lk, List.take_length] at p2
    exact q f H2 hf p.1 p2
/-- f = {k: .. for k in d}, f captured -/
theorem q_keysE {σ : L2.St} {H : Hp} {d : Addr} {g h : Nat → V} {tv : TE} {D : Ends} {tz : TS} {i j r : Nat} (hd : H d = some (.dK (kvN ks g))) (nd : ks.Nodup) (hz : ks.length < 100000) (h0 : σ[i]? = some (some (.ref d)))
    (hw : ∀ x, wipe ((wipe σ [j]).set j (some x)) [j] = wipe σ [j]) (hj : ∀ x, ((wipe σ [j]).set j (some x))[j]? = some (some x)) (hv : ∀ od, ∀ k ∈ ks, ∀ H2, Ex (upd H d (.frz od (.dK (kvN ks g)))) H2 → Ev tv ((wipe σ [j]).set j (some (.int (k : Int)))) H2 (h k))
    (q : ∀ f H2, H f = none → Ex H H2 → H2 f = some (.dK (kvN ks h)) → tz D (σ.set r (some (.ref f))) H2) : tSeq (tAsg (tLockE (tDc (iKeys (tVar i)) (gName j) tYes (tVar j) tv [j])) (gName r)) tz D σ H :=
  ⟨d, _, hd, trivial, fun od => dc_keys upd_same nd hz h0 hw hj (hv od) fun f H2 hf e h2 => ⟨e _ _ upd_same, q f _ (frz_ne hf).2 (back_frz hd e) (by rw [upd_ne (frz_ne hf).1]; exact h2)⟩⟩
/-- .. f a plain name -/
theorem q_keysS {σ : L2.St} {H : Hp} {d : Addr} {g h : Nat → V} {tv : TE} {D : Ends} {tz : TS} {i j r : Nat} (hd : H d = some (.dK (kvN ks g))) (nd : ks.Nodup) (hz : ks.length < 100000) (h0 : σ[i]? = some (some (.ref d)))
    (hw : ∀ x, wipe ((wipe σ [j]).set j (some x)) [j] = wipe σ [j]) (hj : ∀ x, ((wipe σ [j]).set j (some x))[j]? = some (some x)) (hv : ∀ od, ∀ k ∈ ks, ∀ H2, Ex (upd H d (.frz od (.dK (kvN ks g)))) H2 → Ev tv ((wipe σ [j]).set j (some (.int (k : Int)))) H2 (h k))
    (q : ∀ f H2, H f = none → Ex H H2 → H2 f = some (.dK (kvN ks h)) → tz D (σ.set r (some (.ref f))) H2) : tSeq (tLock (tAsg (tDc (iKeys (tVar i)) (gName j) tYes (tVar j) tv [j]) (gName r))) tz D σ H :=
  ⟨d, _, hd, trivial, fun od => dc_keys upd_same nd hz h0 hw hj (hv od) fun f H2 hf e h2 => ⟨e _ _ upd_same, q f _ (frz_ne hf).2 (back_frz hd e) (by rw [upd_ne (frz_ne hf).1]; exact h2)⟩⟩
end
def spMerged (K : PySem.W.Frag) : Sp := fun vs H Q _ => ∃ (d l : Addr) (L : Leads) (us : List V) (ps : List (Nat × Nat)), vs = [.ref d, .ref l] ∧ H d = some (.dT (kvL L)) ∧ SqL K H l us ∧ Paired (PairV H) us ps ∧ WfL L ∧ (∀ p ∈ ps, p.1 ∈ Wp.vals L ∧ p.2 ∈ Wp.vals L) ∧ L.length ≤ 3000 ∧ ps.length ≤ 3000 ∧
  ∀ f H', Gr H H' f (Wp.merge L ps) → Q (.ref f) H'
/-- list(leads.values()) -/
theorem el_vals {σ : L2.St} {H : Hp} {td : TE} {d : Addr} {L : Leads} (h : Ev td σ H (.ref d)) (hd : H d = some (.dT (kvL L))) : EvL (tVaL td) σ H ((Wp.vals L).map fun x : Nat => V.int (x : Int)) := fun H1 e Q q =>
  h H1 e _ fun H2 e2 => ⟨d, _, rfl, (e.trans e2) _ _ hd, fun l hl => q l _ (fresh_back e2 hl) (e2.trans (Ex.new hl)) (by
    rw [upd_same]
    unfold kvL Wp.vals
    rw [List.map_map, List.map_map]
    rfl)⟩
/-- [knot for pair in pairs for knot in pair] -/
theorem el_pairs {K : PySem.W.Frag} {σ : L2.St} {H : Hp} {l : Addr} {us : List V} {ps : List (Nat × Nat)} {i j k : Nat} (h0 : σ[i]? = some (some (.ref l))) (hl : SqL K H l us) (hp : Paired (PairV H) us ps) (hz : ps.length ≤ 3000)
    (hw : ∀ x, wipe ((wipe σ [j, k]).set j (some x)) [j, k] = wipe σ [j, k]) (hj : ∀ x, ((wipe σ [j, k]).set j (some x))[j]? = some (some x)) (hw2 : ∀ x y, wipe ((wipe ((wipe σ [j, k]).set j (some x)) [k]).set k (some y)) [k] = wipe ((wipe σ [j, k]).set j (some x)) [k])
    (hk : ∀ x y, ((wipe ((wipe σ [j, k]).set j (some x)) [k]).set k (some y))[k]? = some (some y)) :
    EvL (tLc2 (iList K (tVar i)) (gName j) tYes (iTup K (tVar j)) (gName k) tYes (tVar k) [j, k] [k]) σ H ((ps.flatMap fun p => [p.1, p.2]).map fun x : Nat => V.int (x : Int)) := fun H1 e Q q => by
  have lu := Paired.length hp
  refine ⟨_, h0, l, rfl, ⟨_, ex_l e hl⟩, fun D hD => ?_⟩
  have bound : ∀ n, ((ps.take n).flatMap fun p => [p.1, p.2]).length = 2 * (ps.take n).length := fun n => by
    generalize ps.take n = qs
    induction qs with
    | nil => rfl
    | cons p qs ih =>
      rw [List.flatMap_cons, List.length_append, ih]
      have z : (p :: qs).length = qs.length + 1 := rfl
      show 2 + 2 * qs.length = _
      omega
  refine w_it walk_list (fun n H2 => Ex H1 H2 ∧ H2 D = some (.lst (((ps.take n).flatMap fun p => [p.1, p.2]).map fun x : Nat => V.int (x : Int)))) ⟨Ex.new hD, upd_same⟩ (fun n H2 _ p => ex_l (e.trans p.1) hl) (fun n x H2 H3 hn p y => ?_) fun H2 p => ?_
  · obtain ⟨rfl, hx⟩ := y
    obtain ⟨pr, hpr, a, rfl, ha⟩ := paired_at hp hx
    have ha3 : H3 a = some (.tup [.int (pr.1 : Int), .int (pr.2 : Int)]) := (e.trans p.1) _ _ ha
    refine ⟨hw _, ?_⟩
    unfold tYes
    dsimp only
    rw [if_pos rfl]
    refine ⟨_, hj _, a, rfl, ⟨_, SqT.of ha3⟩, ?_⟩
    refine w_it walk_tup (fun m H4 => Ex H1 H4 ∧ H4 D = some (.lst ((((ps.take n).flatMap fun p => [p.1, p.2]) ++ [pr.1, pr.2].take m).map fun x : Nat => V.int (x : Int)))) ⟨p.1, by rw [List.take_zero, List.append_nil]; exact p.2⟩ (fun m H4 _ p => SqT.of ((e.trans p.1) _ _ ha)) (fun m x H4 H5 hm p2 y => ?_) fun H4 p2 => ?_
    · obtain ⟨rfl, hx2⟩ := y
      obtain ⟨z, hz2, rfl⟩ : ∃ z, [pr.1, pr.2][m]? = some z ∧ x = .int (z : Int) := by
        have e2 : ([.int (pr.1 : Int), .int (pr.2 : Int)] : List V) = [pr.1, pr.2].map fun x : Nat => V.int (x : Int) := rfl
        rw [e2, List.getElem?_map] at hx2
        obtain ⟨z, h1, h2⟩ := Option.map_eq_some_iff.mp hx2
        exact ⟨z, h1, h2.symm⟩
      refine ⟨hw2 _ _, ?_⟩
      rw [if_pos rfl]
      refine ⟨_, hk _ _, _, p2.2, ?_, p2.1.mut hD, ?_⟩
      · rw [List.length_map, List.length_append, bound, List.length_take, List.length_take]
        have two : [pr.1, pr.2].length = 2 := rfl
        exact sz_lt (by omega)
      · rw [upd_same, take_get hz2, ← List.append_assoc, List.map_append (l₂ := [z])]
        rfl
    · refine ⟨p2.1, ?_⟩
      rw [p2.2, take_get hpr, List.flatMap_append]
      rfl
  · have p2 := p.2
    rw [lu, List.take_length] at p2
    exact q D _ hD p.1 p2
theorem ex_frz {H H1 : Hp} {d : Addr} {od : Obj} {u : HO} (e : Ex H H1) : Ex (upd H d (.frz od u)) (upd H1 d (.frz od u)) := fun a o ea => by
  by_cases c : a = d
  · subst c
    rw [upd_same] at ea ⊢
    exact ea
  · rw [upd_ne c] at ea ⊢
    exact e _ _ ea
theorem WAt.frz {H0 H : Hp} {wy d : Addr} {ad : Nat → Addr} {ks : List Nat} {W : Nat → List (Str × Nat)} {od : Obj} {M : Leads} (j : WAt H0 H wy ad ks W) (hd : H0 d = some (.dT (kvL M))) : WAt (upd H0 d (.frz od (.dT (kvL M)))) (upd H d (.frz od (.dT (kvL M)))) wy ad ks W := by
  have n1 : wy ≠ d := fun z => by rw [← z, j.new.1] at hd; cases hd
  have n2 : ∀ k ∈ ks, ad k ≠ d := fun k hk z => by rw [← z, (j.new.2 k hk).1] at hd; cases hd
  exact ⟨ex_frz j.ex, by rw [upd_ne n1]; exact j.way, fun k hk => by rw [upd_ne (n2 k hk)]; exact j.inn k hk, j.inj, by rw [upd_ne n1]; exact j.new.1, fun k hk => ⟨by rw [upd_ne (n2 k hk)]; exact (j.new.2 k hk).1, (j.new.2 k hk).2⟩⟩
theorem WAt.thaw {H0 H : Hp} {wy d : Addr} {ad : Nat → Addr} {ks : List Nat} {W : Nat → List (Str × Nat)} {od : Obj} {M : Leads} (j : WAt (upd H0 d (.frz od (.dT (kvL M)))) H wy ad ks W) (hd : H0 d = some (.dT (kvL M))) : WAt H0 (upd H d (.dT (kvL M))) wy ad ks W := by
  have n1 : wy ≠ d := fun z => by
    have y := j.new.1
    rw [z, upd_same] at y
    cases y
  have n2 : ∀ k ∈ ks, ad k ≠ d := fun k hk z => by
    have y := (j.new.2 k hk).1
    rw [z, upd_same] at y
    cases y
  have h1 := j.new.1
  rw [upd_ne n1] at h1
  exact ⟨back_frz hd j.ex, by rw [upd_ne n1]; exact j.way, fun k hk => by rw [upd_ne (n2 k hk)]; exact j.inn k hk, j.inj, h1, fun k hk => ⟨by
    have h2 := (j.new.2 k hk).1
    rw [upd_ne (n2 k hk)] at h2
    exact h2, (j.new.2 k hk).2⟩⟩
theorem ways_snoc {M : Leads} {e : Lead} : Wp.ways (M ++ [e]) = upf (Wp.ways M) e.1.1 (Wp.ways M e.1.1 ++ [(e.1.2, e.2)]) := by
  funext k
  unfold Wp.ways
  rw [List.filter_append, List.map_append]
  unfold upf
  by_cases c : k = e.1.1
  · rw [if_pos c, c, List.filter_cons, if_pos (decide_eq_true rfl)]
    rfl
  · rw [if_neg c, List.filter_cons, if_neg (by rw [decide_eq_false fun z => c z.symm]; exact Bool.false_ne_true)]
    exact List.append_nil _
theorem lk_ways {M : Leads} {k : Nat} {n : Str} (h : getL M k n = none) : lk (Wp.ways M k) n = none := Wp.lk_none.mpr fun e he c => by
  have z := Wp.mem_ways.mp he
  rw [c] at z
  exact Wp.getL_none.mp h _ z rfl
end Lw
namespace Wp
open PySem
theorem mfold_snoc {e : Str × Nat} : ∀ {xs Wh : List (Str × Nat)} {wa : List (Nat × Nat)}, mfold Wh wa (xs ++ [e]) = match lk (mfold Wh wa xs).1 e.1 with
    | some t => ((mfold Wh wa xs).1, (mfold Wh wa xs).2 ++ [(t, e.2)])
    | none => ((mfold Wh wa xs).1 ++ [e], (mfold Wh wa xs).2)
  | [], Wh, wa => by
    show mfold Wh wa [e] = _
    unfold mfold
    show (match lk Wh e.1 with | some t => mfold Wh (wa ++ [(t, e.2)]) [] | none => mfold (Wh ++ [e]) wa []) = match lk Wh e.1 with | some t => _ | none => _
    cases lk Wh e.1 <;> rfl
  | x :: xs, Wh, wa => by
    rw [List.cons_append]
    unfold mfold
    cases lk Wh x.1 with
    | some t => exact mfold_snoc
    | none => exact mfold_snoc
theorem mfold_len : ∀ {r Wh : List (Str × Nat)} {wa : List (Nat × Nat)}, (mfold Wh wa r).1.length ≤ Wh.length + r.length ∧ (mfold Wh wa r).2.length ≤ wa.length + r.length
  | [], Wh, wa => ⟨Nat.le_refl _, Nat.le_refl _⟩
  | e :: r, Wh, wa => by
    unfold mfold
    cases lk Wh e.1 with
    | some t =>
      have z := mfold_len (r := r) (Wh := Wh) (wa := wa ++ [(t, e.2)])
      rw [List.length_append, List.length_singleton] at z
      have y : (e :: r).length = r.length + 1 := rfl
      dsimp only
      omega
    | none =>
      have z := mfold_len (r := r) (Wh := Wh ++ [e]) (wa := wa)
      rw [List.length_append, List.length_singleton] at z
      have y : (e :: r).length = r.length + 1 := rfl
      dsimp only
      omega
theorem upf_upf {α : Type} {f : Nat → α} {k : Nat} {u v : α} : upf (upf f k u) k v = upf f k v := by
  funext j
  unfold upf
  split <;> rfl
end Wp
namespace Lw
open PySem PySem.Spec PyProof.Rows L2 Evl
open Wp (Leads Lead getL walkL MS upf topF lk WfL mfold)
theorem s_appZ {K : PySem.W.Frag} {ta te : TE} {σ : L2.St} {H : Hp} {D : Ends} {l : Addr} {xs ys : List V} (hl : H l = some (.lst xs)) (ha : Ev ta σ H (.ref l)) (h : EvU te σ H ys) (hz : xs.length < sizeLine) (k : ∀ p H1, H p = none → Ex H H1 → H1 p = some (.tup ys) → D.nx σ (upd H1 l (.lst (xs ++ [.ref p])))) :
    tDrop (tBM K "list" rAppend ta (tCons te tNil)) D σ H :=
  ha H (Ex.refl H) _ fun H1 e1 => ⟨.inl ⟨rfl, xs, SqL.of (e1 _ _ hl)⟩, h H1 e1 _ fun p H2 hp e2 h2 => ⟨l, xs, .ref p, rfl, rfl, (e1.trans e2) _ _ hl, hz, k p H2 (fresh_back e1 hp) (e1.trans e2) h2⟩⟩
theorem items_upd {H : Hp} {kvs : List (L2.Key × V)} {as : List Addr} {a : Addr} {o o' : HO} (ha : H a = some o) (no : ∀ xs, o ≠ .tup xs) (h : IsItems H kvs as) : IsItems (upd H a o') kvs as := paired_mono (fun b kv r => by
  have r : H b = some (.tup [kV kv.1, kv.2]) := r
  show upd H a o' b = some (.tup [kV kv.1, kv.2])
  rw [upd_ne fun z => by
    rw [z, ha] at r
    exact no _ (Option.some.inj r)]
  exact r) h
theorem items_ex {H H1 : Hp} {kvs : List (L2.Key × V)} {as : List Addr} (e : Ex H H1) (h : IsItems H kvs as) : IsItems H1 kvs as := paired_mono (fun b kv r => e _ _ r) h
/-- what stood at low goes to high, or waits -/
def mst (s : MS) (l h i : Nat) : MS := { s with W := upf s.W h (mfold (s.W h) s.wa ((s.W l).take i)).1, wa := (mfold (s.W h) s.wa ((s.W l).take i)).2 }
theorem s_moved {K : PySem.W.Frag} {H0 H : Hp} {D : Ends} {wy al wl qa : Addr} {ad : Nat → Addr} {ks : List Nat} {s : MS} {l h : Nat} {a0 a1 a3 a4 a5 a6 a7 a8 a10 a11 a14 : Option V} (j : JAt H0 H wy al wl qa ad ks s) (hl : l ∈ ks) (hh : h ∈ ks) (z1 : s.wa.length + (s.W l).length < sizeLine) (z2 : (s.W h).length + (s.W l).length < sizeLine)
    (q : ∀ x y H', JAt H0 H' wy al wl qa ad ks (mst s l h (s.W l).length) → D.nx [a0, a1, some (.ref wy), a3, a4, x, y, a7, a8, some (.ref qa), a10, a11, some (.int (l : Int)), some (.int (h : Int)), a14] H') :
    tFor (iList K (tItL (tDGet (tVar 2) (tVar 12)))) (gTup K 2 (gCons (gName 5) (gCons (gName 6) gNil))) (tIfS (tB (tDIn (tVar 5) (tDGet (tVar 2) (tVar 13)))) (tDrop (tBM K "list" rAppend (tVar 9) (tCons (tTup (tCons (tDGet (tDGet (tVar 2) (tVar 13)) (tVar 5)) (tCons (tVar 6) tNil))) tNil))) (sDPut (tDGet (tVar 2) (tVar 13)) (tVar 5) (tVar 6))) D
      [a0, a1, some (.ref wy), a3, a4, a5, a6, a7, a8, some (.ref qa), a10, a11, some (.int (l : Int)), some (.int (h : Int)), a14] H := by
  refine ev_dgetN (g := fun k => .ref (ad k)) (k := l) (ks := ks) (ev_var rfl) (.inl j.way) (ev_var rfl) hl H (Ex.refl H) _ fun H1 e1 => ⟨ad l, _, rfl, e1 _ _ (j.inn l hl), fun li H2 as nl e2 h2 it => ⟨li, rfl, ⟨_, SqL.of h2⟩, ?_⟩⟩
  have j2 := j.step (e1.trans e2)
  have nq : li ≠ qa := fun z => by
    obtain ⟨us, u1, _⟩ := (j.step e1).wai
    rw [← z, nl] at u1
    cases u1
  have las := Paired.length it
  have lkv : (kvW (s.W l)).length = (s.W l).length := List.length_map ..
  refine for_it walk_list (fun i σ H' => (∃ x y : Option V, σ = [a0, a1, some (.ref wy), a3, a4, x, y, a7, a8, some (.ref qa), a10, a11, some (.int (l : Int)), some (.int (h : Int)), a14]) ∧ JAt H0 H' wy al wl qa ad ks (mst s l h i) ∧ H' li = some (.lst (as.map V.ref)) ∧ IsItems H' (kvW (s.W l)) as) ⟨⟨_, _, rfl⟩, ?_, h2, it⟩ (fun i σ H' _ p => SqL.of p.2.2.1) (fun i x σ' H3 H4 hi p y => ?_) fun σ' H' p => ?_
  · have e0 : mst s l h 0 = s := by
      unfold mst
      rw [List.take_zero]
      show ({ s with W := upf s.W h (s.W h), wa := s.wa } : MS) = s
      have u : upf s.W h (s.W h) = s.W := by
        funext k
        unfold upf
        split
        · rename_i c
          rw [c]
        · rfl
      rw [u]
    rw [e0]
    exact j2
  · obtain ⟨rfl, hx⟩ := y
    obtain ⟨⟨x0, y0, rfl⟩, j3, h3, it3⟩ := p
    rw [List.getElem?_map] at hx
    obtain ⟨ia, ha, rfl⟩ := Option.map_eq_some_iff.mp hx
    obtain ⟨kv, hkv, hia⟩ := paired_at it3 ha
    unfold kvW at hkv
    rw [List.getElem?_map] at hkv
    obtain ⟨e, he, rfl⟩ := Option.map_eq_some_iff.mp hkv
    have il : i < (s.W l).length := (List.getElem?_eq_some_iff.mp he).1
    have hia : H4 ia = some (.tup [.str e.1, .int (e.2 : Int)]) := hia
    have ml := Wp.mfold_len (r := (s.W l).take i) (Wh := s.W h) (wa := s.wa)
    rw [List.length_take] at ml
    refine ⟨ia, _, rfl, SqT.of hia, rfl, _, _, rfl, _, _, rfl, rfl, ?_⟩
    have cur : (mst s l h i).W h = (mfold (s.W h) s.wa ((s.W l).take i)).1 := Wp.upf_same
    have inh := j3.inn h hh
    rw [cur] at inh
    have ms : mst s l h (i + 1) = { s with W := upf s.W h (mfold (s.W h) s.wa ((s.W l).take i ++ [e])).1, wa := (mfold (s.W h) s.wa ((s.W l).take i ++ [e])).2 } := by
      unfold mst
      rw [take_get he]
    refine s_if (b := (lk (mfold (s.W h) s.wa ((s.W l).take i)).1 e.1).isSome) (et_B (ev_dinW (ev_dgetN (g := fun k => .ref (ad k)) (k := h) (ks := ks) (ev_var rfl) (.inl j3.way) (ev_var rfl) hh) (.inl inh) (ev_var rfl))) (fun hb H5 e5 => ?_) (fun hb H5 e5 => ?_)
    · obtain ⟨t, ht⟩ : ∃ t, lk (mfold (s.W h) s.wa ((s.W l).take i)).1 e.1 = some t := Option.isSome_iff_exists.mp hb
      have j5 := j3.step e5
      obtain ⟨us, u1, u2⟩ := j5.wai
      have lu := Paired.length u2
      have lw : (mst s l h i).wa.length = (mfold (s.W h) s.wa ((s.W l).take i)).2.length := rfl
      refine s_appZ u1 (ev_var rfl) (eu_tup (ea_cons (ev_dgetW (ev_dgetN (g := fun k => .ref (ad k)) (k := h) (ks := ks) (ev_var rfl) (.inl j5.way) (ev_var rfl) hh) (.inl (e5 _ _ inh)) (ev_var rfl) ht) (ea_cons (ev_var rfl) ea_nil)) (by show 2 ≤ 100000; decide)) (by omega) fun p H6 np e6 hp => ?_
      refine ⟨⟨_, _, rfl⟩, ?_, ?_, items_upd ((e6 _ _ u1)) (fun _ z => by cases z) (items_ex (e5.trans e6) it3)⟩
      · have j6 := (j5.step e6).setWa (us := us ++ [.ref p]) (wa := (mfold (s.W h) s.wa ((s.W l).take i)).2 ++ [(t, e.2)]) (paired_app (paired_mono (fun _ _ r => pairV_ex e6 r) u2) (.cons ⟨p, rfl, hp⟩ .nil))
        rw [ms, Wp.mfold_snoc, ht]
        exact j6
      · rw [upd_ne nq]
        exact (e5.trans e6) _ _ h3
    · have hn : lk (mfold (s.W h) s.wa ((s.W l).take i)).1 e.1 = none := by
        cases c : lk (mfold (s.W h) s.wa ((s.W l).take i)).1 e.1 with
        | none => rfl
        | some t => rw [c] at hb; cases hb
      have j5 := j3.step e5
      refine ⟨_, rfl, ev_dgetN (g := fun k => .ref (ad k)) (k := h) (ks := ks) (ev_var rfl) (.inl j5.way) (ev_var rfl) hh H5 (Ex.refl H5) _ fun H6 e6 => ⟨_, rfl, ad h, _, rfl, DPut.k (k := .inr e.1) (e6 _ _ (e5 _ _ inh)) (by
        unfold kvW
        rw [List.length_map]
        omega), ⟨_, _, rfl⟩, ?_, ?_, ?_⟩⟩
      · have j6 := (j5.step e6).setIn hh ((mfold (s.W h) s.wa ((s.W l).take i)).1 ++ [(e.1, e.2)])
        rw [put_kvW hn, ms, Wp.mfold_snoc, hn]
        have eqs : ({ (mst s l h i) with W := upf (mst s l h i).W h ((mfold (s.W h) s.wa ((s.W l).take i)).1 ++ [(e.1, e.2)]) } : MS) = { s with W := upf s.W h ((mfold (s.W h) s.wa ((s.W l).take i)).1 ++ [e]), wa := (mfold (s.W h) s.wa ((s.W l).take i)).2 } := by
          unfold mst
          dsimp only
          rw [Wp.upf_upf]
        rw [eqs] at j6
        exact j6
      · have nh : li ≠ ad h := fun z => by
          rw [z, inh] at h3
          cases h3
        rw [upd_ne nh]
        exact (e5.trans e6) _ _ h3
      · exact items_upd (e6 _ _ (e5 _ _ inh)) (fun _ z => by cases z) (items_ex (e5.trans e6) it3)
  · obtain ⟨⟨x0, y0, rfl⟩, j3, h3, it3⟩ := p
    rw [List.length_map, las, lkv] at j3
    exact q _ _ _ j3
end Lw
namespace Lw
open PySem PySem.Spec PyProof.Rows L2 Evl
open Wp (Leads Lead getL walkL MS upf topF lk WfL mfold MInv mrun mu mEnd ksOf)
theorem paired_split {α β : Type} {R : α → β → Prop} {u : α} : ∀ {us : List α} {ys : List β}, Paired R (us ++ [u]) ys → ∃ zs y, ys = zs ++ [y] ∧ Paired R us zs ∧ R u y
  | [], ys, h => by
    cases h with
    | cons r t =>
      cases t
      exact ⟨[], _, rfl, .nil, r⟩
  | x :: us, ys, h => by
    rw [List.cons_append] at h
    cases h with
    | cons r t =>
      obtain ⟨zs, y, rfl, h2, h3⟩ := paired_split t
      exact ⟨_ :: zs, y, rfl, .cons r h2, h3⟩
theorem set_self {σ : L2.St} {i : Nat} {x : Option V} (h : σ[i]? = some x) : σ.set i x = σ := by
  refine List.ext_getElem? fun j => ?_
  by_cases c : i = j
  · subst c
    rw [List.getElem?_set_self (List.getElem?_eq_some_iff.mp h).1, h]
  · rw [List.getElem?_set_ne c]
/-- if ..: low, high = high, low -/
theorem q_swap {t : TT} {tz : TS} {D : Ends} {σ : L2.St} {H : Hp} {b : Bool} {i j x y : Nat} (h : EvT t σ H b) (hi : σ[i]? = some (some (.int (x : Int)))) (hj : σ[j]? = some (some (.int (y : Int))))
    (k : ∀ H1, Ex H H1 → tz D ((σ.set i (some (.int (((if b then y else x) : Nat) : Int)))).set j (some (.int (((if b then x else y) : Nat) : Int)))) H1) : tSeq (tIfS t (tPar i j (tCons (tVar j) (tCons (tVar i) tNil))) tNext) tz D σ H := by
  refine q_when h (fun hb H1 e1 => ?_) (fun hb H1 e1 => ?_)
  · subst hb
    exact ⟨_, hj, _, hi, _, _, rfl, k H1 e1⟩
  · subst hb
    have z := k H1 e1
    have e : (σ.set i (some (.int (((if false = true then y else x) : Nat) : Int)))).set j (some (.int (((if false = true then x else y) : Nat) : Int))) = σ := by
      show (σ.set i (some (.int (x : Int)))).set j (some (.int (y : Int))) = σ
      rw [set_self hi, set_self hj]
    rw [e] at z
    exact z
theorem put_kvI {ks : List Nat} {f : Nat → Nat} {k v : Nat} (hk : k ∈ ks) : putK (kvI ks f) (.inl (k : Int)) (.int (v : Int)) = kvI ks (upf f k v) := by
  unfold kvI
  rw [put_kvN, if_pos hk]
  have e : upf (fun k => V.int (f k : Int)) k (.int (v : Int)) = fun k' => V.int ((upf f k v k' : Nat) : Int) := by
    funext j
    unfold upf
    split <;> rfl
  rw [e]
theorem mrun_nil {N : Nat} {s : MS} (h : s.wa = []) : ∀ m, mrun N m s = s
  | 0 => rfl
  | m + 1 => by
    unfold mrun
    rw [h]
    rfl
theorem mrun_step {N m : Nat} {s : MS} {wa : List (Nat × Nat)} {p : Nat × Nat} (h : s.wa = wa ++ [p]) : mrun N (m + 1) s = mrun N m (Wp.mstep N s p wa) := by
  show (match s.wa.getLast? with | none => s | some p => mrun N m (Wp.mstep N s p s.wa.dropLast)) = _
  rw [h, List.getLast?_concat, List.dropLast_concat]
/-- between two turns of merged's loop -/
def WM (H0 : Hp) (d l wy al wl qa : Addr) (ad : Nat → Addr) (L : Leads) (ps : List (Nat × Nat)) (m : Nat) (σ : L2.St) (H : Hp) : Prop := ∃ (x3 x5 x6 x10 x11 x12 x13 : Option V) (s : MS),
  σ = [some (.ref d), some (.ref l), some (.ref wy), x3, none, x5, x6, some (.ref al), some (.ref wl), some (.ref qa), x10, x11, x12, x13, none] ∧
  JAt H0 H wy al wl qa ad (ksOf L ps) s ∧ MInv (ksOf L ps) L s ∧ mu (ksOf L ps) L s ≤ m ∧ m ≤ 9100000 ∧ mrun (ksOf L ps).length m s = mEnd L ps
end Lw
namespace Lw
open PySem PySem.Spec PyProof.Rows L2 Evl
open Wp (Leads Lead getL walkL MS upf topF lk WfL outL)
/-- tops = [k for k in d if ..] -/
theorem q_listK {σ : L2.St} {H : Hp} {d : Addr} {ks : List Nat} {g : Nat → V} {b : Nat → Bool} {tt : TT} {D : Ends} {tz : TS} {i j r : Nat} (hd : H d = some (.dK (kvN ks g))) (hz : ks.length < 100000) (h0 : σ[i]? = some (some (.ref d)))
    (hw : ∀ x, wipe ((wipe σ [j]).set j (some x)) [j] = wipe σ [j]) (hj : ∀ x, ((wipe σ [j]).set j (some x))[j]? = some (some x)) (ht : ∀ od, ∀ k ∈ ks, ∀ H2, Ex (upd H d (.frz od (.dK (kvN ks g)))) H2 → EvT tt ((wipe σ [j]).set j (some (.int (k : Int)))) H2 (b k))
    (q : ∀ f H2, H f = none → Ex H H2 → H2 f = some (.lst ((ks.filter b).map fun x : Nat => V.int (x : Int))) → tz D (σ.set r (some (.ref f))) H2) :
    tSeq (tLock (tAsg (tLc (iKeys (tVar i)) (gName j) tt (tVar j) [j]) (gName r))) tz D σ H := by
  refine ⟨d, _, hd, trivial, fun od => ⟨_, h0, d, od, rfl, .inl ⟨_, upd_same, fun f hf => ?_⟩⟩⟩
  obtain ⟨fd, nf⟩ := frz_ne hf
  refine w_it (walk_keys (d := d) (o := od) (kvs := kvN ks g)) (fun m H2 => Ex (upd H d (.frz od (.dK (kvN ks g)))) H2 ∧ H2 f = some (.lst (((ks.take m).filter b).map fun x : Nat => V.int (x : Int)))) ⟨Ex.new hf, upd_same⟩ (fun m H2 _ p => p.1 _ _ upd_same) (fun m x H2 H3 hm p y => ?_) fun H2 p => ?_
  · obtain ⟨rfl, k, v, hk, rfl⟩ := y
    unfold kvN at hk
    rw [List.getElem?_map] at hk
    obtain ⟨n, hn, e⟩ := Option.map_eq_some_iff.mp hk
    cases e
    refine ⟨hw _, ht od n (List.mem_of_getElem? hn) _ p.1 H3 (Ex.refl _) _ fun H4 e4 => ?_⟩
    have tk := take_get hn
    cases c : b n with
    | true =>
      refine ⟨_, hj _, _, e4 _ _ p.2, ?_, (p.1.trans e4).mut hf, ?_⟩
      · have z := List.length_filter_le b (ks.take m)
        rw [List.length_take] at z
        rw [List.length_map]
        exact sz_lt (by omega)
      · rw [upd_same, tk, List.filter_append, List.filter_cons, if_pos c, List.map_append]
        rfl
    | false =>
      refine ⟨p.1.trans e4, ?_⟩
      rw [tk, List.filter_append, List.filter_cons, if_neg (by rw [c]; exact Bool.false_ne_true)]
      have z : ([] : List Nat).filter b = [] := rfl
      rw [z, List.append_nil]
      exact e4 _ _ p.2
  · have lk1 : (kvN ks g).length = ks.length := by
      unfold kvN
      rw [List.length_map]
    have p2 := p.2
    rw [lk1, List.take_length] at p2
    exact ⟨p.1 _ _ upd_same, q f _ nf (back_frz hd p.1) (by rw [upd_ne fd]; exact p2)⟩
def frzs (H : Hp) (xs : List Addr) (od : Addr → Obj) : Hp := fun b => if b ∈ xs then (H b).map (fun u => HO.frz (od b) u) else H b
def thaws (H H' : Hp) (xs : List Addr) : Hp := fun b => if b ∈ xs then H b else H' b
theorem lockN_of {t : TE} {σ : L2.St} {Q : VK} : ∀ {xs : List Addr} {H : Hp}, xs.Nodup → (∀ x ∈ xs, ∃ kvs, H x = some (.dK kvs)) → (∀ od, t σ (frzs H xs od) fun v H' => (∀ x ∈ xs, H' x = frzs H xs od x) ∧ Q v (thaws H H' xs)) → lockN xs.length t σ H Q
  | [], H, _, _, h => by
    have z := h (fun _ => default)
    have e : frzs H [] (fun _ => default) = H := by
      funext b
      unfold frzs
      rw [if_neg (by simp)]
    rw [e] at z
    refine (congrArg (fun q => t σ H q) (funext fun v => funext fun H' => propext ⟨fun y => ?_, fun y => ?_⟩)).mp z
    · have e2 : thaws H H' [] = H' := by
        funext b
        unfold thaws
        rw [if_neg (by simp)]
      have y2 := y.2
      rw [e2] at y2
      exact y2
    · refine ⟨fun x hx => (by cases hx), ?_⟩
      have e2 : thaws H H' [] = H' := by
        funext b
        unfold thaws
        rw [if_neg (by simp)]
      rw [e2]
      exact y
  | x :: xs, H, nd, hx, h => by
    obtain ⟨n1, n2⟩ := List.nodup_cons.mp nd
    obtain ⟨kvs, hk⟩ := hx x List.mem_cons_self
    refine ⟨x, _, hk, trivial, fun od0 => ?_⟩
    refine lockN_of n2 (fun y hy => ?_) fun od => ?_
    · rw [upd_ne fun z => n1 (by rw [← z]; exact hy)]
      exact hx y (List.mem_cons_of_mem _ hy)
    · have z := h (fun b => if b = x then od0 else od b)
      have e : frzs H (x :: xs) (fun b => if b = x then od0 else od b) = frzs (upd H x (.frz od0 (.dK kvs))) xs od := by
        funext b
        unfold frzs
        by_cases c : b = x
        · subst c
          rw [if_pos List.mem_cons_self, if_neg n1, upd_same, hk]
          show some (HO.frz (if b = b then od0 else od b) _) = _
          rw [if_pos rfl]
        · rw [upd_ne c]
          by_cases m : b ∈ xs
          · rw [if_pos (List.mem_cons_of_mem _ m), if_pos m]
            show (H b).map (fun u => HO.frz (if b = x then od0 else od b) u) = _
            rw [if_neg c]
          · rw [if_neg (fun y => (List.mem_cons.mp y).elim c m), if_neg m]
      rw [e] at z
      refine (congrArg (fun q => t σ (frzs (upd H x (.frz od0 (.dK kvs))) xs od) q) (funext fun v => funext fun H' => propext ?_)).mp z
      have eT : thaws H H' (x :: xs) = upd (thaws (upd H x (.frz od0 (.dK kvs))) H' xs) x (.dK kvs) := by
        funext b
        unfold thaws
        by_cases c : b = x
        · subst c
          rw [if_pos List.mem_cons_self, upd_same, hk]
        · rw [upd_ne c]
          by_cases m : b ∈ xs
          · rw [if_pos (List.mem_cons_of_mem _ m)]
            show H b = (if b ∈ xs then upd H x (.frz od0 (.dK kvs)) b else H' b)
            rw [if_pos m, upd_ne c]
          · rw [if_neg (fun y => (List.mem_cons.mp y).elim c m)]
            show H' b = (if b ∈ xs then upd H x (.frz od0 (.dK kvs)) b else H' b)
            rw [if_neg m]
      have eX : ∀ H', thaws (upd H x (.frz od0 (.dK kvs))) H' xs x = H' x := fun H' => by
        unfold thaws
        rw [if_neg n1]
      have eF : frzs (upd H x (.frz od0 (.dK kvs))) xs od x = some (.frz od0 (.dK kvs)) := by
        unfold frzs
        rw [if_neg n1, upd_same]
      rw [eT]
      constructor
      · rintro ⟨y1, y2⟩
        exact ⟨fun a ha => y1 a (List.mem_cons_of_mem _ ha), by rw [eX, y1 x List.mem_cons_self, eF], y2⟩
      · rintro ⟨y1, y2, y3⟩
        refine ⟨fun a ha => ?_, y3⟩
        rcases List.mem_cons.mp ha with rfl | ha
        · rw [eF, ← y2, eX]
        · exact y1 a ha
theorem take_drop_get {α : Type} {xs : List α} {i : Nat} {y : α} (h : xs[i]? = some y) : xs = xs.take i ++ y :: xs.drop (i + 1) := by
  obtain ⟨hi, e⟩ := List.getElem?_eq_some_iff.mp h
  rw [← e, ← List.drop_eq_getElem_cons hi, List.take_append_drop]
/-- what stands at a top -/
def outF (ks : List Nat) (s : MS) (k : Nat) : Leads := (s.W k).map fun e => ((k, e.1), topF s.ab ks.length e.2)
theorem s_out {K : PySem.W.Frag} {H0 H : Hp} {wy al wl qa tl : Addr} {ad : Nat → Addr} {ks : List Nat} {s : MS} {L : Leads} {σ : L2.St} {Q : VK} (j : JAt H0 H wy al wl qa ad ks s) (M : Wp.MInv ks L s) (nd : ks.Nodup) (fn : ((outL ks s).map (·.1)).Nodup) (hz : (outL ks s).length < sizeLine)
    (ht : H tl = some (.lst ((ks.filter fun k => decide (s.ab k = k)).map fun x : Nat => V.int (x : Int)))) (i2 : σ[2]? = some (some (.ref wy))) (i7 : σ[7]? = some (some (.ref al))) (i14 : σ[14]? = some (some (.ref tl))) (len : σ.length = 15)
    (q : ∀ f H', Gr H0 H' f (outL ks s) → Q (.ref f) H') :
    tLocks (tDc2 (iList K (tVar 14)) (gName 3) (iKeys (tDGet (tVar 2) (tVar 3))) (gName 5) (tTup (tCons (tVar 3) (tCons (tVar 5) tNil))) (tCall (spTop K) [] E0 (tCons (tVar 7) (tCons (tDGet (tDGet (tVar 2) (tVar 3)) (tVar 5)) tNil))) [3, 5] [5]) σ H Q := by
  obtain ⟨d1, d2, d3, d4⟩ := j.dis
  have mx : ∀ {b : Addr}, b ∈ ks.map ad ↔ ∃ k ∈ ks, ad k = b := fun {b} => List.mem_map
  have ndx : (ks.map ad).Nodup := List.pairwise_map.mpr (nd.imp_of_mem fun {a b} ha hb n e => n (j.inj a ha b hb e))
  refine ⟨(ks.map ad).length, lockN_of ndx (fun x hx => ?_) fun od => ?_⟩
  · obtain ⟨k, hk, rfl⟩ := mx.mp hx
    exact ⟨_, j.inn k hk⟩
  have fz : ∀ k ∈ ks, frzs H (ks.map ad) od (ad k) = some (.frz (od (ad k)) (.dK (kvW (s.W k)))) := fun k hk => by
    unfold frzs
    rw [if_pos (mx.mpr ⟨k, hk, rfl⟩), j.inn k hk]
    rfl
  have fo : ∀ b, b ∉ ks.map ad → frzs H (ks.map ad) od b = H b := fun b hb => if_neg hb
  have nwy : wy ∉ ks.map ad := fun z => by
    obtain ⟨k, hk, e⟩ := mx.mp z
    exact (d4 k hk).2.2 e
  have nal : al ∉ ks.map ad := fun z => by
    obtain ⟨k, hk, e⟩ := mx.mp z
    exact (d4 k hk).1 e
  have ntl : tl ∉ ks.map ad := fun z => by
    obtain ⟨k, hk, e⟩ := mx.mp z
    have y := j.inn k hk
    rw [e, ht] at y
    cases y
  have hwy : frzs H (ks.map ad) od wy = some (.dK (kvR ks ad)) := by rw [fo _ nwy]; exact j.way
  have hal : frzs H (ks.map ad) od al = some (.dK (kvI ks s.ab)) := by rw [fo _ nal]; exact j.abo
  have htl : frzs H (ks.map ad) od tl = some (.lst ((ks.filter fun k => decide (s.ab k = k)).map fun x : Nat => V.int (x : Int))) := by rw [fo _ ntl]; exact ht
  have eF : outL ks s = (ks.filter fun k => decide (s.ab k = k)).flatMap (outF ks s) := rfl
  rw [eF] at fn hz q
  have subT : ∀ k ∈ ks.filter fun k => decide (s.ab k = k), k ∈ ks := fun k hk => (List.mem_filter.mp hk).1
  generalize (ks.filter fun k => decide (s.ab k = k)) = ts at fn hz q htl subT
  generalize hHf : frzs H (ks.map ad) od = Hf at fz fo hwy hal htl ⊢
  match σ, len, i2, i7, i14 with
  | [a0, a1, _, a3, a4, a5, a6, _, a8, a9, a10, a11, a12, a13, _], _, i2, i7, i14 =>
  cases i2
  cases i7
  cases i14
  refine ⟨_, rfl, tl, rfl, ⟨_, SqL.of htl⟩, fun D hD => ?_⟩
  refine w_it walk_list (fun n H2 => Ex Hf H2 ∧ H2 D = some (.dT (kvL ((ts.take n).flatMap (outF ks s))))) ⟨Ex.new hD, upd_same⟩ (fun n H2 _ p => SqL.of (p.1 _ _ htl)) (fun n x H2 H3 hn p y => ?_) fun H2 p => ?_
  · obtain ⟨rfl, hx⟩ := y
    rw [List.getElem?_map] at hx
    obtain ⟨k, hk, rfl⟩ := Option.map_eq_some_iff.mp hx
    have kk := subT k (List.mem_of_getElem? hk)
    refine ⟨rfl, ?_⟩
    refine ev_dgetN (g := fun k => .ref (ad k)) (k := k) (ks := ks) (ev_var rfl) (.inl (p.1 _ _ hwy)) (ev_var rfl) kk H3 (Ex.refl _) _ fun H4 e4 => ⟨ad k, od (ad k), rfl, .inl ⟨_, e4 _ _ (p.1 _ _ (fz k kk)), ?_⟩⟩
    refine w_it (walk_keys (d := ad k) (o := od (ad k)) (kvs := kvW (s.W k))) (fun m H5 => Ex Hf H5 ∧ H5 D = some (.dT (kvL ((ts.take n).flatMap (outF ks s) ++ (outF ks s k).take m)))) ⟨p.1.trans e4, by rw [List.take_zero, List.append_nil]; exact e4 _ _ p.2⟩ (fun m H5 _ p => p.1 _ _ (fz k kk)) (fun m x H5 H6 hm p2 y => ?_) fun H5 p2 => ?_
    · obtain ⟨rfl, kq, v, hkv, rfl⟩ := y
      unfold kvW at hkv
      rw [List.getElem?_map] at hkv
      obtain ⟨e, he, ek⟩ := Option.map_eq_some_iff.mp hkv
      cases ek
      have me := List.mem_of_getElem? he
      have lkk : lk (s.W k) e.1 = some e.2 := Wp.lk_of (M.wn k kk) me
      have te := (M.wk k kk e me).1
      have ho : (outF ks s k)[m]? = some ((k, e.1), topF s.ab ks.length e.2) := by
        unfold outF
        rw [List.getElem?_map, he]
        rfl
      have eq1 : ts.flatMap (outF ks s) = ((ts.take n).flatMap (outF ks s) ++ (outF ks s k).take m) ++ ((k, e.1), topF s.ab ks.length e.2) :: ((outF ks s k).drop (m + 1) ++ (ts.drop (n + 1)).flatMap (outF ks s)) := by
        conv => lhs; rw [take_drop_get hk, List.flatMap_append, List.flatMap_cons, take_drop_get ho]
        simp only [List.append_assoc, List.cons_append]
      rw [eq1, List.length_append] at hz
      rw [eq1, List.map_append, List.nodup_append] at fn
      have gn : getL ((ts.take n).flatMap (outF ks s) ++ (outF ks s k).take m) k e.1 = none := Wp.getL_none.mpr fun x hx c => fn.2.2 _ (List.mem_map.mpr ⟨x, hx, rfl⟩) (k, e.1) (by rw [List.map_cons]; exact List.mem_cons_self) c
      refine ⟨rfl, ev_pair (ev_var rfl) (ev_var rfl) fun b H7 nb e7 hb => ?_⟩
      have x7 := p2.1.trans e7
      refine ev_call (ea_cons (ev_var rfl) (ea_cons (ev_dgetW (ev_dgetN (g := fun k => .ref (ad k)) (k := k) (ks := ks) (ev_var rfl) (.inl (x7 _ _ hwy)) (ev_var rfl) kk) (.inr ⟨od (ad k), x7 _ _ (fz k kk)⟩) (ev_var rfl) lkk) ea_nil)) (z := .int (topF s.ab ks.length e.2 : Nat)) (fun H8 e8 Q2 q2 E2 => ⟨al, e.2, ks.length, ks, s.ab, rfl, .inl (e8 _ _ (x7 _ _ hal)), te, M.A.abk, Wp.top_fix M.A te, q2⟩) H7 (Ex.refl _) _ fun H8 e8 => ⟨kvL ((ts.take n).flatMap (outF ks s) ++ (outF ks s k).take m), [.inl (k : Int), .inr e.1], b, rfl, e8 _ _ hb, (e7.trans e8) _ _ p2.2, ?_, (x7.trans e8).mut hD, ?_⟩
      · unfold kvL
        rw [List.length_map]
        omega
      · rw [upd_same, put_kvL gn, take_get ho, List.append_assoc]
    · have lw : (kvW (s.W k)).length = (outF ks s k).length := by
        unfold kvW outF
        rw [List.length_map, List.length_map]
      have p3 := p2.2
      rw [lw, List.take_length] at p3
      refine ⟨p2.1, ?_⟩
      rw [p3, take_get hk, List.flatMap_append, List.flatMap_cons]
      show _ = some (HO.dT (kvL (_ ++ (outF ks s k ++ []))))
      rw [List.append_nil]
  · have p2 := p.2
    rw [List.length_map, List.take_length] at p2
    refine ⟨fun x hx => ?_, q D _ ⟨?_, ?_, ?_⟩⟩
    · obtain ⟨k, hk, rfl⟩ := mx.mp hx
      rw [fz k hk]
      exact p.1 _ _ (fz k hk)
    · have nD : D ∉ ks.map ad := fun z => by
        obtain ⟨k, hk, rfl⟩ := mx.mp z
        rw [fz k hk] at hD
        cases hD
      rw [fo D nD] at hD
      exact fresh_back j.ex hD
    · intro a o ea
      have na : a ∉ ks.map ad := fun z => by
        obtain ⟨k, hk, rfl⟩ := mx.mp z
        rw [j.new.2.2.2.2 k hk] at ea
        cases ea
      unfold thaws
      rw [if_neg na]
      exact p.1 _ _ (by rw [fo a na]; exact j.ex _ _ ea)
    · have nD : D ∉ ks.map ad := fun z => by
        obtain ⟨k, hk, rfl⟩ := mx.mp z
        rw [fz k hk] at hD
        cases hD
      unfold thaws
      rw [if_neg nD]
      exact p2
end Lw
namespace Lw
open PySem PySem.Spec PyProof.Rows L2 Evl
open Wp (Leads Lead getL upf WfL)
def spNumbered (K : PySem.W.Frag) : Sp := fun vs H Q _ => ∃ (d : Addr) (L : Leads), vs = [.ref d] ∧ H d = some (.dT (kvL L)) ∧ WfL L ∧ L.length ≤ 3000 ∧ (∀ k, (Wp.names L k).length < 64) ∧ ∀ f H', Gr H H' f (Wp.numb L) → Q (.ref f) H'
def spLeast (K : PySem.W.Frag) : Sp := fun vs H Q _ => ∃ (d : Addr) (L : Leads), vs = [.ref d] ∧ H d = some (.dT (kvL L)) ∧ Wp.okLt [[]] L ∧ L.length ≤ 3000 ∧ ∀ f H', H f = none → Ex H H' → LW K H' f (Wp.least L) → Q (.ref f) H'
theorem okLt_at {e : Lead} : ∀ {L : Leads} {acc : List (List Str)} {i : Nat}, Wp.okLt acc L → L[i]? = some e → e.2 = (Wp.leastF acc (L.take i)).length → e.1.1 < (Wp.leastF acc (L.take i)).length
  | [], acc, i, _, h => by cases h
  | d :: L, acc, 0, k, h => by
    cases h
    exact k.1
  | d :: L, acc, i + 1, k, h => by
    show e.2 = (Wp.leastF (Wp.lstep acc d) (L.take i)).length → e.1.1 < (Wp.leastF (Wp.lstep acc d) (L.take i)).length
    exact okLt_at (acc := Wp.lstep acc d) (i := i) k.2 h
theorem lstep_len {acc : List (List Str)} {e : Lead} {n : Nat} (h : ∀ w ∈ acc, w.length ≤ n) : ∀ w ∈ Wp.lstep acc e, w.length ≤ n + 1 := fun w hw => by
  unfold Wp.lstep at hw
  split at hw
  · rcases List.mem_append.mp hw with z | z
    · have := h w z
      omega
    · rw [List.mem_singleton.mp z, List.length_append]
      have y : (acc.getD e.1.1 []).length ≤ n := by
        rw [List.getD_eq_getElem?_getD]
        cases c : acc[e.1.1]? with
        | none => exact Nat.zero_le _
        | some u => exact h u (List.mem_of_getElem? c)
      show (acc.getD e.1.1 []).length + 1 ≤ n + 1
      omega
  · have := h w hw
    omega
theorem leastF_len : ∀ {L : Leads} {acc : List (List Str)} {n : Nat}, (∀ w ∈ acc, w.length ≤ n) → (∀ w ∈ Wp.leastF acc L, w.length ≤ n + L.length) ∧ (Wp.leastF acc L).length ≤ acc.length + L.length
  | [], acc, n, h => ⟨h, Nat.le_refl _⟩
  | e :: L, acc, n, h => by
    have z := leastF_len (L := L) (lstep_len (e := e) h)
    have y : (Wp.lstep acc e).length ≤ acc.length + 1 := by
      unfold Wp.lstep
      split
      · exact Nat.le_of_eq List.length_append
      · omega
    have c : (e :: L).length = L.length + 1 := rfl
    refine ⟨fun w hw => ?_, ?_⟩
    · have := z.1 w hw
      omega
    · have z2 : (Wp.leastF acc (e :: L)).length ≤ (Wp.lstep acc e).length + L.length := z.2
      omega
theorem s_appW {K : PySem.W.Frag} {ta te : TE} {σ : L2.St} {H : Hp} {D : Ends} {l : Addr} {us : List V} {w : List Str} (hl : H l = some (.lst us)) (ha : Ev ta σ H (.ref l)) (h : EvW K te σ H w) (hz : us.length < sizeLine) (k : ∀ v H1, Ex H H1 → Wd K H1 v w → D.nx σ (upd H1 l (.lst (us ++ [v])))) :
    tDrop (tBM K "list" rAppend ta (tCons te tNil)) D σ H :=
  ha H (Ex.refl H) _ fun H1 e1 => ⟨.inl ⟨rfl, us, SqL.of (e1 _ _ hl)⟩, h H1 e1 _ fun v H2 e2 hv => ⟨l, us, v, rfl, rfl, (e1.trans e2) _ _ hl, hz, k v H2 (e1.trans e2) hv⟩⟩
/-- a dict from knots to objects of their own -/
structure OAt (H0 H : Hp) (wy : Addr) (ad : Nat → Addr) (ks : List Nat) (c : Nat → HO) : Prop where
  ex : Ex H0 H
  way : H wy = some (.dK (kvR ks ad))
  inn : ∀ k ∈ ks, H (ad k) = some (c k)
  inj : ∀ j ∈ ks, ∀ k ∈ ks, ad j = ad k → j = k
  new : H0 wy = none ∧ ∀ k ∈ ks, H0 (ad k) = none ∧ ad k ≠ wy
section
variable {H0 H H1 : Hp} {wy : Addr} {ad : Nat → Addr} {ks : List Nat} {c : Nat → HO}
theorem OAt.step (j : OAt H0 H wy ad ks c) (e : Ex H H1) : OAt H0 H1 wy ad ks c := ⟨j.ex.trans e, e _ _ j.way, fun k hk => e _ _ (j.inn k hk), j.inj, j.new⟩
theorem OAt.setIn (j : OAt H0 H wy ad ks c) {k : Nat} (hk : k ∈ ks) (o : HO) : OAt H0 (upd H (ad k) o) wy ad ks (upf c k o) := by
  refine ⟨j.ex.mut (j.new.2 k hk).1, by rw [upd_ne (j.new.2 k hk).2.symm]; exact j.way, fun i hi => ?_, j.inj, j.new⟩
  by_cases e : i = k
  · rw [e, upd_same, Wp.upf_same]
  · rw [upd_ne fun z => e (j.inj i hi k hk z), Wp.upf_ne e]
    exact j.inn i hi
/-- {knot: new for knot in xs} -/
theorem q_objs {K : PySem.W.Frag} {o0 : HO} {te tv : TE} {σ : L2.St} {H : Hp} {D : Ends} {tz : TS} {j r : Nat} {xs : List Nat} (h : EvL te σ H (xs.map fun x : Nat => V.int (x : Int))) (hz : xs.length < 100000) (hn : ∀ τ H Q, (∀ p, H p = none → Q (.ref p) (upd H p o0)) → tv τ H Q)
    (hw : ∀ x, wipe ((wipe σ [j]).set j (some x)) [j] = wipe σ [j]) (hj : ∀ x, ((wipe σ [j]).set j (some x))[j]? = some (some x)) (q : ∀ wy ad H2, OAt H H2 wy ad (Wp.firsts [] xs) (fun _ => o0) → tz D (σ.set r (some (.ref wy))) H2) :
    tSeq (tAsg (tDc (iList K te) (gName j) tYes (tVar j) tv [j]) (gName r)) tz D σ H := by
  refine h H (Ex.refl H) _ fun p H1 hp e1 h1 => ⟨p, rfl, ⟨_, SqL.of h1⟩, fun f hf => ?_⟩
  have nf : H f = none := fresh_back e1 hf
  refine w_it (walk_list (K := K) (a := p) (xs := xs.map fun x : Nat => V.int (x : Int))) (fun i H2 => H2 p = some (.lst (xs.map fun x : Nat => V.int (x : Int))) ∧ ∃ ad, OAt H H2 f ad (Wp.firsts [] (xs.take i)) fun _ => o0) ⟨(Ex.new hf) _ _ h1, fun _ => 0, e1.trans (Ex.new hf), upd_same, fun k hk => (by cases hk), fun k hk => (by cases hk), nf, fun k hk => (by cases hk)⟩ (fun i H2 _ q => SqL.of q.1) (fun i x H2 H3 hi pv y => ?_) fun H2 pv => ?_
  · obtain ⟨rfl, hx⟩ := y
    rw [List.getElem?_map] at hx
    obtain ⟨k, hk, rfl⟩ := Option.map_eq_some_iff.mp hx
    obtain ⟨hl, ad, w⟩ := pv
    refine ⟨hw _, ?_⟩
    unfold tYes
    dsimp only
    rw [if_pos rfl]
    refine ⟨_, hj _, hn _ _ _ fun b hb => ⟨_, .inl (k : Int), rfl, (Ex.new hb) _ _ w.way, ?_, ?_, ?_⟩⟩
    · have := Wp.firsts_le (xs := xs.take i) (acc := [])
      unfold kvR kvN
      rw [List.length_map]
      rw [List.length_take, List.length_nil] at this
      exact sz_lt (by omega)
    · have np : p ≠ f := fun z => by rw [z, hf] at h1; cases h1
      rw [upd_ne np]
      exact (Ex.new hb) _ _ hl
    · refine ⟨upf ad k b, ?_⟩
      rw [take_get hk, firsts_snoc]
      unfold kvR
      rw [put_kvN, upf_ref]
      have bf : b ≠ f := fun z => by rw [z, w.way] at hb; cases hb
      have nb : H b = none := fresh_back w.ex hb
      have nin : ∀ z0 ∈ Wp.firsts [] (xs.take i), ad z0 ≠ b := fun z0 hi z => by
        have y := w.inn z0 hi
        rw [z, hb] at y
        cases y
      have mem : ∀ x, x ∈ (if k ∈ Wp.firsts [] (xs.take i) then Wp.firsts [] (xs.take i) else Wp.firsts [] (xs.take i) ++ [k]) → x = k ∨ x ∈ Wp.firsts [] (xs.take i) := fun x hx => by
        split at hx
        · exact .inr hx
        · exact (List.mem_append.mp hx).elim .inr fun z => .inl (List.mem_singleton.mp z)
      generalize (if k ∈ Wp.firsts [] (xs.take i) then Wp.firsts [] (xs.take i) else Wp.firsts [] (xs.take i) ++ [k]) = ks2 at mem ⊢
      refine ⟨(w.ex.trans (Ex.new hb)).mut nf, upd_same, fun x hx => ?_, fun x hx y hy e => ?_, nf, fun x hx => ?_⟩
      · by_cases c : x = k
        · rw [c, Wp.upf_same, upd_ne bf, upd_same]
        · have m := (mem x hx).resolve_left c
          rw [Wp.upf_ne c, upd_ne (w.new.2 x m).2, upd_ne (nin x m)]
          exact w.inn x m
      · by_cases c : x = k
        · by_cases c2 : y = k
          · rw [c, c2]
          · rw [c, Wp.upf_same, Wp.upf_ne c2] at e
            exact absurd e.symm (nin y ((mem y hy).resolve_left c2))
        · by_cases c2 : y = k
          · rw [c2, Wp.upf_same, Wp.upf_ne c] at e
            exact absurd e (nin x ((mem x hx).resolve_left c))
          · rw [Wp.upf_ne c, Wp.upf_ne c2] at e
            exact w.inj x ((mem x hx).resolve_left c) y ((mem y hy).resolve_left c2) e
      · by_cases c : x = k
        · rw [c, Wp.upf_same]
          exact ⟨nb, bf⟩
        · rw [Wp.upf_ne c]
          exact w.new.2 x ((mem x hx).resolve_left c)
  · obtain ⟨_, ad, w⟩ := pv
    rw [List.length_map, List.take_length] at w
    exact q f ad H2 w
end
/-- sorted(a list of different texts) -/
theorem el_sortedN {K : PySem.W.Frag} {σ : L2.St} {H : Hp} {te : TE} {a : Addr} {ss : List Str} (h : Ev te σ H (.ref a)) (ha : H a = some (.lst (ss.map V.str))) (nd : ss.Nodup) (h64 : ss.length < 64) : EvL (tCB (rSortedS K) (tCons te tNil)) σ H ((Tk.ltW [ss]).map V.str) := fun H1 e Q q =>
  h H1 e _ fun H2 e2 => ⟨a, ss, rfl, SqL.of ((e.trans e2) _ _ ha), h64, fun ys p pm so hp => by
    have e3 : ys = Tk.ltW [ss] := Tk.ltW_of so (pm.nodup_iff.mpr nd) fun s => by
      rw [pm.mem_iff]
      simp
    rw [e3]
    exact q p _ (fresh_back e2 hp) (e2.trans (Ex.new hp)) upd_same⟩
theorem names_snoc {M : Leads} {e : Lead} : Wp.names (M ++ [e]) = upf (Wp.names M) e.1.1 (Wp.names M e.1.1 ++ [e.1.2]) := by
  funext k
  unfold Wp.names
  rw [List.filter_append, List.map_append]
  unfold upf
  by_cases c : k = e.1.1
  · rw [if_pos c, c, List.filter_cons, if_pos (decide_eq_true rfl)]
    rfl
  · rw [if_neg c, List.filter_cons, if_neg (by rw [decide_eq_false fun z => c z.symm]; exact Bool.false_ne_true)]
    exact List.append_nil _
def lsT (xs : List Str) : HO := .lst (xs.map V.str)
theorem upf_lsT {f : Nat → List Str} {k : Nat} {xs : List Str} : upf (fun k => lsT (f k)) k (lsT xs) = fun j => lsT (upf f k xs j) := by
  funext j
  unfold upf
  split <;> rfl
theorem OAt.frz {H0 H : Hp} {wy d : Addr} {ad : Nat → Addr} {ks : List Nat} {c : Nat → HO} {od : Obj} {M : Leads} (j : OAt H0 H wy ad ks c) (hd : H0 d = some (.dT (kvL M))) : OAt (upd H0 d (.frz od (.dT (kvL M)))) (upd H d (.frz od (.dT (kvL M)))) wy ad ks c := by
  have n1 : wy ≠ d := fun z => by rw [← z, j.new.1] at hd; cases hd
  have n2 : ∀ k ∈ ks, ad k ≠ d := fun k hk z => by rw [← z, (j.new.2 k hk).1] at hd; cases hd
  exact ⟨ex_frz j.ex, by rw [upd_ne n1]; exact j.way, fun k hk => by rw [upd_ne (n2 k hk)]; exact j.inn k hk, j.inj, by rw [upd_ne n1]; exact j.new.1, fun k hk => ⟨by rw [upd_ne (n2 k hk)]; exact (j.new.2 k hk).1, (j.new.2 k hk).2⟩⟩
theorem OAt.thaw {H0 H : Hp} {wy d : Addr} {ad : Nat → Addr} {ks : List Nat} {c : Nat → HO} {od : Obj} {M : Leads} (j : OAt (upd H0 d (.frz od (.dT (kvL M)))) H wy ad ks c) (hd : H0 d = some (.dT (kvL M))) : OAt H0 (upd H d (.dT (kvL M))) wy ad ks c := by
  have n1 : wy ≠ d := fun z => by
    have y := j.new.1
    rw [z, upd_same] at y
    cases y
  have n2 : ∀ k ∈ ks, ad k ≠ d := fun k hk z => by
    have y := (j.new.2 k hk).1
    rw [z, upd_same] at y
    cases y
  have h1 := j.new.1
  rw [upd_ne n1] at h1
  exact ⟨back_frz hd j.ex, by rw [upd_ne n1]; exact j.way, fun k hk => by rw [upd_ne (n2 k hk)]; exact j.inn k hk, j.inj, h1, fun k hk => ⟨by
    have h2 := (j.new.2 k hk).1
    rw [upd_ne (n2 k hk)] at h2
    exact h2, (j.new.2 k hk).2⟩⟩
theorem ev_ninN {σ : L2.St} {H : Hp} {td ta : TE} {d : Addr} {ks : List Nat} {g : Nat → V} {k : Nat} (h0 : Ev td σ H (.ref d)) (hd : Rd H d (.dK (kvN ks g))) (h1 : Ev ta σ H (.int (k : Int))) : Ev (tDNotIn ta td) σ H (.bl (!decide (k ∈ ks))) := fun H1 e Q q =>
  h1 H1 e _ fun H2 e2 => h0 H2 (e.trans e2) _ fun H3 e3 => ⟨d, _, rfl, .inl ⟨_, .inl (k : Int), rd_ex ((e.trans e2).trans e3) hd, rfl, rfl⟩, by
    have z : (valV (kvN ks g) (Sum.inl (k : Int))).isSome = decide (k ∈ ks) := by
      rw [val_kvN]
      by_cases c : k ∈ ks
      · rw [if_pos c, decide_eq_true c]
        rfl
      · rw [if_neg c, decide_eq_false c]
        rfl
    rw [z]
    exact q _ (e2.trans e3)⟩
end Lw
namespace Wp
open PySem
theorem nfold_app {L : Leads} {k i : Nat} : ∀ {xs ys : List Str} {s : List Nat × Leads}, nfold L k i (xs ++ ys) s = nfold L k i ys (nfold L k i xs s)
  | [], ys, s => rfl
  | x :: xs, ys, s => by
    show (if (getL L k x).getD 0 ∈ s.1 then nfold L k i (xs ++ ys) (s.1, s.2 ++ [((i, x), ixOf s.1 ((getL L k x).getD 0))]) else nfold L k i (xs ++ ys) (s.1 ++ [(getL L k x).getD 0], s.2 ++ [((i, x), s.1.length)])) =
      nfold L k i ys (if (getL L k x).getD 0 ∈ s.1 then nfold L k i xs (s.1, s.2 ++ [((i, x), ixOf s.1 ((getL L k x).getD 0))]) else nfold L k i xs (s.1 ++ [(getL L k x).getD 0], s.2 ++ [((i, x), s.1.length)]))
    by_cases c : (getL L k x).getD 0 ∈ s.1
    · rw [if_pos c, if_pos c]
      exact nfold_app
    · rw [if_neg c, if_neg c]
      exact nfold_app
theorem nfold_pre {L : Leads} {k i : Nat} : ∀ {xs : List Str} {s : List Nat × Leads}, ∃ r, (nfold L k i xs s).1 = s.1 ++ r
  | [], s => ⟨[], (List.append_nil _).symm⟩
  | x :: xs, s => by
    unfold nfold
    split
    · exact nfold_pre
    · obtain ⟨r, e⟩ := nfold_pre (L := L) (k := k) (i := i) (xs := xs) (s := (s.1 ++ [(getL L k x).getD 0], s.2 ++ [((i, x), s.1.length)]))
      exact ⟨[(getL L k x).getD 0] ++ r, by rw [e, List.append_assoc]⟩
theorem nfold_keys {L : Leads} {k i : Nat} : ∀ {xs : List Str} {s : List Nat × Leads}, ∀ e ∈ (nfold L k i xs s).2, e ∈ s.2 ∨ ∃ n ∈ xs, e.1 = (i, n)
  | [], s, e, h => .inl h
  | x :: xs, s, e, h => by
    unfold nfold at h
    have go : ∀ v, e ∈ s.2 ++ [((i, x), v)] → e ∈ s.2 ∨ ∃ n ∈ x :: xs, e.1 = (i, n) := fun v h => (List.mem_append.mp h).elim .inl fun z => .inr ⟨x, List.mem_cons_self, by rw [List.mem_singleton.mp z]⟩
    split at h
    · rcases nfold_keys e h with z | ⟨n, hn, z⟩
      · exact go _ z
      · exact .inr ⟨n, List.mem_cons_of_mem _ hn, z⟩
    · rcases nfold_keys e h with z | ⟨n, hn, z⟩
      · exact go _ z
      · exact .inr ⟨n, List.mem_cons_of_mem _ hn, z⟩
theorem ixOf_old {T : List Nat} {t x : Nat} (h : x ∈ T) : ixOf (T ++ [t]) x = ixOf T x := by
  unfold ixOf
  rw [List.findIdx_append, if_pos]
  exact ixOf_lt h
theorem ixOf_new {T : List Nat} {t : Nat} (h : t ∉ T) : ixOf (T ++ [t]) t = T.length := by
  unfold ixOf
  have n : ¬ T.findIdx (fun y => decide (y = t)) < T.length := fun z => by
    have g := List.findIdx_getElem (w := z) (p := fun y => decide (y = t))
    exact h (by rw [← of_decide_eq_true g]; exact List.getElem_mem z)
  rw [List.findIdx_append, if_neg n]
  have z : [t].findIdx (fun y => decide (y = t)) = 0 := by
    rw [List.findIdx_cons, decide_eq_true rfl]
    rfl
  rw [z]
  omega
end Wp
namespace Lw
open PySem PySem.Spec PyProof.Rows L2 Evl
open Wp (Leads Lead getL upf WfL)
theorem kvN_congr {ks : List Nat} {f g : Nat → V} (h : ∀ k ∈ ks, f k = g k) : kvN ks f = kvN ks g := List.map_congr_left fun k hk => by rw [h k hk]
/-- the state of numbered -/
structure NAt (H0 H : Hp) (nu tu fo : Addr) (s : List Nat × Leads) : Prop where
  ex : Ex H0 H
  nu_ : H nu = some (.dK (kvI s.1 (Wp.ixOf s.1)))
  tu_ : H tu = some (.lst (s.1.map fun x : Nat => V.int (x : Int)))
  fo_ : H fo = some (.dT (kvL s.2))
  new : H0 nu = none ∧ H0 tu = none ∧ H0 fo = none
section
variable {H0 H H1 : Hp} {nu tu fo : Addr} {T : List Nat} {F : Leads} {s : List Nat × Leads}
theorem NAt.step (j : NAt H0 H nu tu fo s) (e : Ex H H1) : NAt H0 H1 nu tu fo s := ⟨j.ex.trans e, e _ _ j.nu_, e _ _ j.tu_, e _ _ j.fo_, j.new⟩
theorem NAt.ne (j : NAt H0 H nu tu fo s) : nu ≠ tu ∧ nu ≠ fo ∧ tu ≠ fo := by
  have a := j.nu_
  have b := j.tu_
  have c := j.fo_
  exact ⟨fun z => (by rw [z, b] at a; cases a), fun z => (by rw [z, c] at a; cases a), fun z => (by rw [z, c] at b; cases b)⟩
theorem NAt.more (j : NAt H0 H nu tu fo (T, F)) (e : Ex H H1) {t : Nat} (ht : t ∉ T) {H2 : Hp} (e2 : Ex (upd H1 nu (.dK (putK (kvI T (Wp.ixOf T)) (.inl (t : Int)) (.int (T.length : Int))))) H2) : NAt H0 (upd H2 tu (.lst ((T.map fun x : Nat => V.int (x : Int)) ++ [.int (t : Int)]))) nu tu fo (T ++ [t], F) := by
  obtain ⟨n1, n2, n3⟩ := j.ne
  have j1 := j.step e
  have p : putK (kvI T (Wp.ixOf T)) (.inl (t : Int)) (.int (T.length : Int)) = kvI (T ++ [t]) (Wp.ixOf (T ++ [t])) := by
    unfold kvI
    rw [put_kvN, if_neg ht]
    refine kvN_congr fun k hk => ?_
    by_cases c : k = t
    · rw [c, Wp.upf_same, Wp.ixOf_new ht]
    · rw [Wp.upf_ne c]
      have m : k ∈ T := (List.mem_append.mp hk).resolve_right fun z => c (List.mem_singleton.mp z)
      rw [Wp.ixOf_old m]
  rw [p] at e2
  refine ⟨((j1.ex.mut j.new.1).trans e2).mut j.new.2.1, ?_, ?_, ?_, j.new⟩
  · rw [upd_ne n1]
    exact e2 _ _ upd_same
  · rw [upd_same, List.map_append]
    rfl
  · rw [upd_ne n3.symm]
    exact e2 _ _ (by rw [upd_ne n2.symm]; exact j1.fo_)
theorem NAt.found (j : NAt H0 H nu tu fo (T, F)) (e : Ex H H1) (G : Leads) : NAt H0 (upd H1 fo (.dT (kvL G))) nu tu fo (T, G) := by
  obtain ⟨n1, n2, n3⟩ := j.ne
  have j1 := j.step e
  exact ⟨j1.ex.mut j.new.2.2, by rw [upd_ne n2]; exact j1.nu_, by rw [upd_ne n3]; exact j1.tu_, upd_same, j.new⟩
end
end Lw
namespace Lw
open PySem PySem.Spec PyProof.Rows L2 Evl
open Wp (Leads Lead getL upf WfL)
inductive TB (K : PySem.W.Frag) (H : Hp) : V → Bool → Prop
  | tup {a : Addr} {vs : List V} {bs : List Bool} (h : H a = some (.tup vs)) (hl : vs.length ≤ 40000) (hb : Paired (LB K H) vs bs) : TB K H (.ref a) (!vs.isEmpty && bs.all id)
  | oth {v : V} {t : Value} (h : TyX K H v t) (hn : PySem.W.kitOne K t (.type "tuple") = some false) : TB K H v false
inductive PB (K : PySem.W.Frag) (H : Hp) : V → Bool → Prop
  | two {a : Addr} {x y : V} {b c : Bool} (h : H a = some (.tup [x, y])) (hx : TB K H x b) (hy : TB K H y c) : PB K H (.ref a) (b && c)
  | far {a : Addr} {vs : List V} (h : H a = some (.tup vs)) (hn : vs.length ≠ 2) : PB K H (.ref a) false
  | oth {v : V} {t : Value} (h : TyX K H v t) (hn : PySem.W.kitOne K t (.type "tuple") = some false) : PB K H v false
def isT (xs : List Str) : Bool := !xs.isEmpty && xs.all isL
section
variable {K : PySem.W.Frag} {H H1 : Hp} {v : V} {b : Bool}
theorem tb_mono (e : Ex H H1) (h : TB K H v b) : TB K H1 v b := by
  cases h with
  | tup h hl hb => exact .tup (e _ _ h) hl (paired_mono (fun _ _ r => lb_mono e r) hb)
  | oth h hn => exact .oth (tyx_mono e h) hn
theorem pb_mono (e : Ex H H1) (h : PB K H v b) : PB K H1 v b := by
  cases h with
  | two h hx hy => exact .two (e _ _ h) (tb_mono e hx) (tb_mono e hy)
  | far h hn => exact .far (e _ _ h) hn
  | oth h hn => exact .oth (tyx_mono e h) hn
theorem tb_wd {xs : List Str} (h : Wd K H v xs) (hz : xs.length ≤ 40000) (hs : ∀ s ∈ xs, s.length ≤ 100000) : TB K H v (isT xs) := by
  obtain ⟨a, rfl, ha⟩ := h
  have hb : Paired (LB K H) (xs.map V.str) (xs.map isL) := by
    clear ha hz
    induction xs with
    | nil => exact .nil
    | cons s xs ih => exact .cons (.str s (hs s (List.mem_cons_self ..))) (ih fun y hy => hs y (List.mem_cons_of_mem _ hy))
  have z := TB.tup ha (by rw [List.length_map]; exact hz) hb
  have e : (!(xs.map V.str).isEmpty && (xs.map isL).all id) = isT xs := by
    unfold isT
    rw [List.all_map]
    cases xs <;> rfl
  rw [e] at z
  exact z
theorem isT_all {xs : List Str} (h : isT xs = true) : xs ≠ [] ∧ ∀ s ∈ xs, isL s = true := by
  unfold isT at h
  rw [Bool.and_eq_true] at h
  exact ⟨fun z => (by
    rw [z] at h
    exact absurd h.1 (by decide)), fun s hs => List.all_eq_true.mp h.2 s hs⟩
theorem tb_term {xs : List Str} (h : Wd K H v xs) (hz : xs.length ≤ 40000) (ht : isT xs = true) : TB K H v true := by
  have z := tb_wd h hz fun s hs => by
    have := isL_len ((isT_all ht).2 s hs)
    omega
  rw [ht] at z
  exact z
/-- a pair of terms -/
def PairT (K : PySem.W.Frag) (H : Hp) (v : V) (p : List Str × List Str) : Prop := ∃ a x y, v = .ref a ∧ H a = some (.tup [x, y]) ∧ Wd K H x p.1 ∧ Wd K H y p.2
theorem pairT_mono {p : List Str × List Str} (e : Ex H H1) (h : PairT K H v p) : PairT K H1 v p := by
  obtain ⟨a, x, y, h1, h2, h3, h4⟩ := h
  exact ⟨a, x, y, h1, e _ _ h2, wd_mono e h3, wd_mono e h4⟩
end
theorem lc_bld {J : It} {n : Nat} {G : Hp → Prop} {Y : Nat → Hp → V → Hp → Prop} (wk : Walk J n G Y) {β : Type} (B : Hp → V → β → Prop) (Bm : ∀ {H H1 v y}, Ex H H1 → B H v y → B H1 v y) (Bd : ∀ {H : Hp} {D : Addr} {l l' : List V} {v : V} {y : β}, H D = some (.lst l) → B H v y → B (upd H D (.lst l')) v y)
    {ys : List β} (hn : ys.length = n) (hz : n ≤ 40000) {σ : L2.St} {H1 : Hp} {D : Addr} (hD : H1 D = none) {g : TG} {te : TE} {vs : List Nat} {Qd : Hp → Prop} (hG : ∀ H, Ex H1 H → G H)
    (hs : ∀ (i : Nat) (x : V) (y : β) (H H2 : Hp) (Q : VK), ys[i]? = some y → Ex H1 H → Y i H x H2 → (∀ v H4, Ex H H4 → B H4 v y → Q v H4) → g x (wipe σ vs) H2 fun σ2 H3 => wipe σ2 vs = wipe σ vs ∧ te σ2 H3 Q)
    (hd : ∀ us H, Ex H1 H → H D = some (.lst us) → Paired (B H) us ys → Qd H) :
    ∃ W : Nat → Nat → Hp → Prop, (∃ m, W 0 m (upd H1 D (.lst []))) ∧ ∀ i m H, W i m H → (J.stop i H ∧ Qd H) ∨ (J.go i H ∧ ∃ N : Hp → Prop, (∀ H', N H' → ∃ m', m' < m ∧ W (i + 1) m' H') ∧ ∀ x H', J.yld i H x H' → g x (wipe σ vs) H' fun σ2 H2 => wipe σ2 vs = wipe σ vs ∧ tYes σ2 H2 fun b H3 =>
      if b = true then te σ2 H3 fun y H4 => ∃ acc, H4 D = some (.lst acc) ∧ acc.length < sizeLine ∧ N (upd H4 D (.lst (acc ++ [y]))) else N H3) := by
  refine w_it wk (fun i H => Ex H1 H ∧ ∃ us, H D = some (.lst us) ∧ Paired (B H) us (ys.take i)) ⟨Ex.new hD, [], upd_same, .nil⟩ (fun i H _ p => hG H p.1) (fun i x H H2 hi p y => ?_) fun H p => ?_
  · obtain ⟨e, us, hu, hp⟩ := p
    have hy := List.getElem?_eq_getElem (l := ys) (by omega : i < ys.length)
    have eq : ∀ {N : Hp → Prop}, (fun (σ2 : L2.St) (H2 : Hp) => wipe σ2 vs = wipe σ vs ∧ tYes σ2 H2 fun b H3 => if b = true then te σ2 H3 fun y H4 => ∃ acc, H4 D = some (.lst acc) ∧ acc.length < sizeLine ∧ N (upd H4 D (.lst (acc ++ [y]))) else N H3) = fun σ2 H3 => wipe σ2 vs = wipe σ vs ∧ te σ2 H3 fun y H4 => ∃ acc, H4 D = some (.lst acc) ∧ acc.length < sizeLine ∧ N (upd H4 D (.lst (acc ++ [y]))) := by
      intro N
      funext σ2 H2
      unfold tYes
      dsimp only
      rw [if_pos rfl]
    refine (congrArg (g x (wipe σ vs) H2) (eq (N := fun H => Ex H1 H ∧ ∃ us, H D = some (.lst us) ∧ Paired (B H) us (ys.take (i + 1))))).mpr ?_
    refine hs i x _ H H2 _ hy e y fun v H4 e4 hb => ⟨us, e4 _ _ hu, ?_, (e.trans e4).mut hD, us ++ [v], upd_same, ?_⟩
    · have := Paired.length hp
      rw [List.length_take] at this
      exact sz_lt (by omega)
    · rw [take_get hy]
      exact paired_app (paired_mono (fun _ _ r => Bd (e4 _ _ hu) (Bm e4 r)) hp) (.cons (Bd (e4 _ _ hu) hb) .nil)
  · obtain ⟨e, us, hu, hp⟩ := p
    rw [← hn, List.take_length] at hp
    exact hd us H e hu hp
theorem wd_updL {K : PySem.W.Frag} {H : Hp} {D : Addr} {l l' : List V} {v : V} {y : List Str} (h : H D = some (.lst l)) (r : Wd K H v y) : Wd K (upd H D (.lst l')) v y := by
  obtain ⟨a, h1, h2⟩ := r
  exact ⟨a, h1, by
    rw [upd_ne fun z => by rw [z, h] at h2; cases h2]
    exact h2⟩
/-- a number and a term, as told to grown -/
def ToldN (K : PySem.W.Frag) (H : Hp) (u : V) (t : Nat × List Str) : Prop := ∃ a b, u = .ref a ∧ H a = some (.tup [.int (t.1 : Int), b]) ∧ Wd K H b t.2
theorem toldN_mono {K : PySem.W.Frag} {H H1 : Hp} {u : V} {t : Nat × List Str} (e : Ex H H1) (h : ToldN K H u t) : ToldN K H1 u t := by
  obtain ⟨a, b, h1, h2, h3⟩ := h
  exact ⟨a, b, h1, e _ _ h2, wd_mono e h3⟩
theorem toldN_upd {K : PySem.W.Frag} {H : Hp} {D : Addr} {l l' : List V} {v : V} {t : Nat × List Str} (h : H D = some (.lst l)) (r : ToldN K H v t) : ToldN K (upd H D (.lst l')) v t := by
  obtain ⟨a, b, h1, h2, h3⟩ := r
  exact ⟨a, b, h1, by
    rw [upd_ne fun z => by rw [z, h] at h2; cases h2]
    exact h2, wd_updL h h3⟩
theorem toldN_V {K : PySem.W.Frag} {H : Hp} {v : V} {t : Nat × List Str} (r : ToldN K H v t) : ToldV K H v t := by
  obtain ⟨a, b, h1, h2, c, rfl, h3⟩ := r
  exact ⟨a, c, h1, h2, SqT.of h3⟩
def toldOf (ts : List (List Str)) (ps : List (List Str × List Str)) : List (Nat × List Str) := (ts.map fun t => (0, t)) ++ ps.flatMap fun p => [(0, p.1), (0, p.2)]
def moreL (L : Leads) (ts : List (List Str)) (ps : List (List Str × List Str)) : Leads := Wp.grow L (toldOf ts ps)
def endsOf (M : Leads) (ps : List (List Str × List Str)) : List (Nat × Nat) := ps.map fun p => ((Wp.walkL M 0 p.1).getD 0, (Wp.walkL M 0 p.2).getD 0)
def toldL (L : Leads) (ts : List (List Str)) (ps : List (List Str × List Str)) : Leads := Wp.merge (moreL L ts ps) (endsOf (moreL L ts ps) ps)
/-- all letters -/
def sizeT (ts : List (List Str)) (ps : List (List Str × List Str)) : Nat := (ts.map List.length).sum + (ps.map fun p => p.1.length + p.2.length).sum
theorem letters_of {ts : List (List Str)} {ps : List (List Str × List Str)} : Wp.letters (toldOf ts ps) = sizeT ts ps := by
  unfold toldOf sizeT
  rw [Wp.letters_app]
  congr 1
  · unfold Wp.letters
    rw [List.map_map]
    rfl
  · induction ps with
    | nil => rfl
    | cons p ps ih =>
      rw [List.flatMap_cons, Wp.letters_app, ih, List.map_cons, List.sum_cons]
      rfl
theorem told_zero {ts : List (List Str)} {ps : List (List Str × List Str)} : ∀ t ∈ toldOf ts ps, t.1 = 0 := fun t ht => by
  unfold toldOf at ht
  rcases List.mem_append.mp ht with h | h
  · obtain ⟨x, _, rfl⟩ := List.mem_map.mp h
    rfl
  · obtain ⟨p, _, h⟩ := List.mem_flatMap.mp h
    rcases List.mem_cons.mp h with rfl | h
    · rfl
    · rw [List.mem_singleton.mp h]
theorem more_inv {L : Leads} {ts : List (List Str)} {ps : List (List Str × List Str)} (wf : WfL L) (hp : ∀ p ∈ ps, p.1 ≠ [] ∧ p.2 ≠ []) :
    WfL (moreL L ts ps) ∧ (moreL L ts ps).length ≤ L.length + sizeT ts ps ∧ (∀ t ∈ toldOf ts ps, ∃ k, Wp.walkL (moreL L ts ps) 0 t.2 = some k ∧ (t.2 = [] ∨ k ∈ Wp.vals (moreL L ts ps))) ∧ (∀ p ∈ endsOf (moreL L ts ps) ps, p.1 ∈ Wp.vals (moreL L ts ps) ∧ p.2 ∈ Wp.vals (moreL L ts ps)) := by
  obtain ⟨h1, _, h3, h4⟩ := Wp.grow_inv (told := toldOf ts ps) wf fun t ht => .inl (told_zero t ht)
  rw [letters_of] at h4
  have h5 : ∀ t ∈ toldOf ts ps, ∃ k, Wp.walkL (moreL L ts ps) 0 t.2 = some k ∧ (t.2 = [] ∨ k ∈ Wp.vals (moreL L ts ps)) := fun t ht => by
    have z := h3 t ht
    rw [told_zero t ht] at z
    exact z
  refine ⟨h1, h4, h5, fun p hp2 => ?_⟩
  unfold endsOf at hp2
  obtain ⟨q, hq, rfl⟩ := List.mem_map.mp hp2
  have m1 : ((0, q.1) : Nat × List Str) ∈ toldOf ts ps := List.mem_append_right _ (List.mem_flatMap.mpr ⟨q, hq, List.mem_cons_self ..⟩)
  have m2 : ((0, q.2) : Nat × List Str) ∈ toldOf ts ps := List.mem_append_right _ (List.mem_flatMap.mpr ⟨q, hq, List.mem_cons_of_mem _ (List.mem_cons_self ..)⟩)
  obtain ⟨k1, a1, b1⟩ := h5 _ m1
  obtain ⟨k2, a2, b2⟩ := h5 _ m2
  dsimp only at a1 a2 b1 b2 ⊢
  rw [a1, a2]
  exact ⟨b1.resolve_left (hp q hq).1, b2.resolve_left (hp q hq).2⟩
end Lw
namespace Tk
open PySem PySem.Spec PyProof.Rows L2 Lw Evl LamX TL
open Wp (Leads Lead getL upf WfL)
def BadSeq (K : PySem.W.Frag) (B : Hp → V → Bool → Prop) (H : Hp) (v p : V) : Prop := (NLx K v H ∧ p = .non) ∨ ∃ (l : Addr) (us : List V) (m : Nat) (rest : List Bool), v = .ref l ∧ Sqq K H l us ∧ Paired (B H) us (List.replicate m true ++ false :: rest) ∧ p = .int (m : Int)
def GoodSeq (K : PySem.W.Frag) (B : Hp → V → Bool → Prop) (H : Hp) (v : V) : Prop := ∃ (l : Addr) (us : List V), v = .ref l ∧ Sqq K H l us ∧ Paired (B H) us (List.replicate us.length true)
def spNeedS (K : PySem.W.Frag) (B : Hp → V → Bool → Prop) (C : Addr) : Sp := fun vs H Q E => ∃ v, vs = [v] ∧ ((∃ p, BadSeq K B H v p ∧ Rz C "position" p H E) ∨ (GoodSeq K B H v ∧ ∀ H', Ex H H' → Q .non H'))
def spTermX (K : PySem.W.Frag) : Sp := fun vs H Q _ => ∃ (v : V) (b : Bool), vs = [v] ∧ TB K H v b ∧ ∀ H', Ex H H' → Q (.bl b) H'
def spPairX (K : PySem.W.Frag) : Sp := fun vs H Q _ => ∃ (v : V) (b : Bool), vs = [v] ∧ PB K H v b ∧ ∀ H', Ex H H' → Q (.bl b) H'
def spNeedT (K : PySem.W.Frag) (CT : Addr) : Sp := fun vs H Q E => ∃ v, vs = [v] ∧ ((TB K H v true ∧ ∀ H', Ex H H' → Q .non H') ∨ (TB K H v false ∧ Rz CT "value" v H E))
def spFew : Sp := fun vs H Q _ => ∃ (d : Addr) (L : Leads) (n : Nat), vs = [.ref d, .int (n : Int)] ∧ H d = some (.dT (kvL L)) ∧ L.length ≤ 4000 ∧ Wp.cnt L ≤ n ∧ ∀ H', Ex H H' → Q .non H'
section
variable {K : PySem.W.Frag} {B : Hp → V → Bool → Prop} {H H1 : Hp} {v p : V} {b : Bool} {σ : L2.St} {te : TE}
theorem goodSeq_ex (Bm : ∀ {v b}, B H v b → B H1 v b) (e : Ex H H1) (h : GoodSeq K B H v) : GoodSeq K B H1 v := by
  obtain ⟨l, us, h1, h2, h3⟩ := h
  exact ⟨l, us, h1, sqq_ex e h2, paired_mono (fun _ _ r => Bm r) h3⟩
theorem ev_termX (h : Ev te σ H v) (hb : TB K H v b) : Ev (tCall (spTermX K) [] E0 (tCons te tNil)) σ H (.bl b) := ev_call (ea_cons h ea_nil) fun H1 e Q q E => ⟨v, b, rfl, tb_mono e hb, q⟩
theorem ev_pairX (h : Ev te σ H v) (hb : PB K H v b) : Ev (tCall (spPairX K) [] E0 (tCons te tNil)) σ H (.bl b) := ev_call (ea_cons h ea_nil) fun H1 e Q q E => ⟨v, b, rfl, pb_mono e hb, q⟩
theorem et_truT {a : Addr} {vs : List V} (h : Ev te σ H (.ref a)) (hv : H a = some (.tup vs)) : EvT (fun σ H Q => te σ H fun x H' => ∃ k, TruV K x H' k ∧ Q k H') σ H (!vs.isEmpty) := fun H1 e Q q => h H1 e _ fun H2 e2 => ⟨!vs.isEmpty, .inr (.inl ⟨vs, SqT.of ((e.trans e2) _ _ hv), by cases vs <;> rfl⟩), q H2 e2⟩
end
end Tk
namespace Lw
open PySem PySem.Spec PyProof.Rows L2 Evl
open Wp (Leads Lead getL upf WfL)
/-- list(x), x a list or a tuple -/
def rListOf (K : PySem.W.Frag) : List V → Hp → VK → Prop := fun xs H Q => ∃ p ys, xs = [.ref p] ∧ (SqL K H p ys ∨ SqT K H p ys) ∧ ∀ l, H l = none → Q (.ref l) (upd H l (.lst ys))
theorem call_list_ofK {X : Cx} {K : PySem.W.Frag} (h : X.K = K := by rfl) : CallR X (.type "list") (rListOf K) := h ▸ call_list_of
/-- a new list whose elements are so -/
def EvB {β : Type} (B : Hp → V → β → Prop) (te : TE) (σ : L2.St) (H : Hp) (ys : List β) : Prop := ∀ H1, Ex H H1 → ∀ Q : VK, (∀ p H2 us, H1 p = none → Ex H1 H2 → H2 p = some (.lst us) → Paired (B H2) us ys → Q (.ref p) H2) → te σ H1 Q
section
variable {K : PySem.W.Frag} {σ : L2.St} {H H1 : Hp} {ta tb te : TE}
theorem eb_cat {β : Type} {B : Hp → V → β → Prop} (Bm : ∀ {H H1 v y}, Ex H H1 → B H v y → B H1 v y) {xs ys : List β} (ha : EvB B ta σ H xs) (hb : EvB B tb σ H ys) (hz : xs.length + ys.length ≤ 40000) : EvB B (tOp rCat ta tb) σ H (xs ++ ys) := fun H1 e Q q =>
  ha H1 e _ fun a H2 us ha2 e2 h2 p2 => hb H2 (e.trans e2) _ fun b H3 vs hb3 e3 h3 p3 => ⟨a, b, us, vs, rfl, rfl, e3 _ _ h2, h3, sz_of (by rw [Paired.length p2, Paired.length p3]; omega), fun t ht => q t _ _ (fresh_back (e2.trans e3) ht) ((e2.trans e3).trans (Ex.new ht)) upd_same (paired_app (paired_mono (fun _ _ r => Bm (e3.trans (Ex.new ht)) r) p2) (paired_mono (fun _ _ r => Bm (Ex.new ht) r) p3))⟩
/-- list(x), a list or a tuple -/
theorem eb_list {β : Type} {B : Hp → V → β → Prop} (Bm : ∀ {H H1 v y}, Ex H H1 → B H v y → B H1 v y) {l : Addr} {us : List V} {ys : List β} (h : Ev te σ H (.ref l)) (hl : Tk.Sqq K H l us) (hp : Paired (B H) us ys) : EvB B (tCB (rListOf K) (tCons te tNil)) σ H ys := fun H1 e Q q =>
  h H1 e _ fun H2 e2 => ⟨l, us, rfl, (Tk.sqq_ls hl).imp (fun z => ex_l (e.trans e2) z) (fun z => ex_t (e.trans e2) z), fun t ht => q t _ us (fresh_back e2 ht) (e2.trans (Ex.new ht)) upd_same (paired_mono (fun _ _ r => Bm ((e.trans e2).trans (Ex.new ht)) r) hp)⟩
/-- [(0, term) for term in terms] -/
theorem eb_t0 {i j : Nat} {l : Addr} {us : List V} {ts : List (List Str)} (h0 : σ[i]? = some (some (.ref l))) (hl : H l = some (.lst us)) (hp : Paired (Wd K H) us ts) (hz : ts.length ≤ 1000) (hw : ∀ x, wipe ((wipe σ [j]).set j (some x)) [j] = wipe σ [j]) (hj : ∀ x, ((wipe σ [j]).set j (some x))[j]? = some (some x)) :
    EvB (ToldN K) (tLc (iList K (tVar i)) (gName j) tYes (tTup (tCons (tC (.int 0)) (tCons (tVar j) tNil))) [j]) σ H (ts.map fun t => (0, t)) := fun H1 e Q q => by
  have lu := Paired.length hp
  refine ⟨_, h0, l, rfl, ⟨us, SqL.of (e _ _ hl)⟩, fun D hD => ?_⟩
  refine lc_bld walk_list (ToldN K) toldN_mono toldN_upd (ys := ts.map fun t => (0, t)) (by rw [List.length_map, lu]) (by omega) hD (fun H2 e2 => SqL.of ((e.trans e2) _ _ hl)) (fun n x y H2 H3 Q hy e2 yl k => ?_) fun us2 H2 e2 h2 p2 => q D H2 us2 hD e2 h2 p2
  obtain ⟨rfl, hx⟩ := yl
  rw [List.getElem?_map] at hy
  obtain ⟨t, ht, rfl⟩ := Option.map_eq_some_iff.mp hy
  obtain ⟨y, hy2, r⟩ := paired_at hp hx
  rw [ht] at hy2
  cases hy2
  refine ⟨hw _, _, hj _, (by show 2 ≤ sizeLine; decide), fun a ha => k _ _ (Ex.new ha) ⟨a, x, rfl, upd_same, wd_mono ((e.trans e2).trans (Ex.new ha)) r⟩⟩
/-- [(0, term) for pair in pairs for term in pair], the pairs walked by J -/
theorem lc2_told {J : It} {G : Hp → Prop} {us : List V} (wk : Walk J us.length G (YAt us)) {j k : Nat} {ps : List (List Str × List Str)} (hG : ∀ H, Ex H1 H → G H) (hp : Paired (PairT K H1) us ps) (hz : ps.length ≤ 1000)
    (hw : ∀ x, wipe ((wipe σ [j, k]).set j (some x)) [j, k] = wipe σ [j, k]) (hj : ∀ x, ((wipe σ [j, k]).set j (some x))[j]? = some (some x)) (hw2 : ∀ x y, wipe ((wipe ((wipe σ [j, k]).set j (some x)) [k]).set k (some y)) [k] = wipe ((wipe σ [j, k]).set j (some x)) [k])
    (hk : ∀ x y, ((wipe ((wipe σ [j, k]).set j (some x)) [k]).set k (some y))[k]? = some (some y)) {Q : VK} (q : ∀ p H2 us, H1 p = none → Ex H1 H2 → H2 p = some (.lst us) → Paired (ToldN K H2) us (ps.flatMap fun p => [(0, p.1), (0, p.2)]) → Q (.ref p) H2) :
    tLc2 (fun _ H R => R J H) (gName j) tYes (iTup K (tVar j)) (gName k) tYes (tTup (tCons (tC (.int 0)) (tCons (tVar k) tNil))) [j, k] [k] σ H1 Q := fun D hD => by
  have lu := Paired.length hp
  have bound : ∀ n, ((ps.take n).flatMap fun p => [((0 : Nat), p.1), (0, p.2)]).length = 2 * (ps.take n).length := fun n => by
    generalize ps.take n = qs
    induction qs with
    | nil => rfl
    | cons p qs ih =>
      rw [List.flatMap_cons, List.length_append, ih]
      have z : (p :: qs).length = qs.length + 1 := rfl
      show 2 + 2 * qs.length = _
      omega
  refine w_it wk (fun n H2 => Ex H1 H2 ∧ ∃ us2, H2 D = some (.lst us2) ∧ Paired (ToldN K H2) us2 ((ps.take n).flatMap fun p => [(0, p.1), (0, p.2)])) ⟨Ex.new hD, [], upd_same, .nil⟩ (fun n H2 _ p => hG H2 p.1) (fun n x H2 H3 hn p y => ?_) fun H2 p => ?_
  · obtain ⟨rfl, hx⟩ := y
    obtain ⟨pr, hpr, a, u1, u2, rfl, ha, w1, w2⟩ := paired_at hp hx
    obtain ⟨e2, us2, hu2, hp2⟩ := p
    refine ⟨hw _, ?_⟩
    unfold tYes
    dsimp only
    rw [if_pos rfl]
    refine ⟨_, hj _, a, rfl, ⟨_, SqT.of (e2 _ _ ha)⟩, ?_⟩
    refine w_it walk_tup (fun m H4 => Ex H1 H4 ∧ ∃ us2, H4 D = some (.lst us2) ∧ Paired (ToldN K H4) us2 (((ps.take n).flatMap fun p => [((0 : Nat), p.1), (0, p.2)]) ++ [(0, pr.1), (0, pr.2)].take m)) ⟨e2, us2, hu2, by rw [List.take_zero, List.append_nil]; exact hp2⟩ (fun m H4 _ p => SqT.of (p.1 _ _ ha)) (fun m x H4 H5 hm p2 y => ?_) fun H4 p2 => ?_
    · obtain ⟨rfl, hx2⟩ := y
      obtain ⟨e4, us4, hu4, hp4⟩ := p2
      obtain ⟨z, hz2, hzw⟩ : ∃ z, [((0 : Nat), pr.1), (0, pr.2)][m]? = some z ∧ z.1 = 0 ∧ Wd K H1 x z.2 := by
        match m, hm, hx2 with
        | 0, _, h => cases h; exact ⟨_, rfl, rfl, w1⟩
        | 1, _, h => cases h; exact ⟨_, rfl, rfl, w2⟩
      obtain ⟨z1, z2⟩ := z
      obtain ⟨rfl, hzw⟩ := hzw
      refine ⟨hw2 _ _, ?_⟩
      rw [if_pos rfl]
      refine ⟨_, hk _ _, (by show 2 ≤ sizeLine; decide), fun t ht => ⟨us4, (Ex.new ht) _ _ hu4, ?_, (e4.trans (Ex.new ht)).mut hD, us4 ++ [.ref t], upd_same, ?_⟩⟩
      · have := Paired.length hp4
        rw [List.length_append, bound, List.length_take, List.length_take] at this
        have two : [((0 : Nat), pr.1), (0, pr.2)].length = 2 := rfl
        exact sz_lt (by omega)
      · rw [take_get hz2, ← List.append_assoc]
        exact paired_app (paired_mono (fun _ _ r => toldN_upd ((Ex.new ht) _ _ hu4) (toldN_mono (Ex.new ht) r)) hp4) (.cons (toldN_upd ((Ex.new ht) _ _ hu4) ⟨t, x, rfl, upd_same, wd_mono (e4.trans (Ex.new ht)) hzw⟩) .nil)
    · obtain ⟨e4, us4, hu4, hp4⟩ := p2
      refine ⟨e4, us4, hu4, ?_⟩
      rw [take_get hpr, List.flatMap_append]
      exact hp4
  · obtain ⟨e2, us2, hu2, hp2⟩ := p
    rw [lu, List.take_length] at hp2
    exact q D _ _ hD e2 hu2 hp2
theorem eb_t2 {i j k : Nat} {m : Addr} {us : List V} {ps : List (List Str × List Str)} (h0 : σ[i]? = some (some (.ref m))) (hm : Tk.Sqq K H m us) (hp : Paired (PairT K H) us ps) (hz : ps.length ≤ 1000)
    (hw : ∀ x, wipe ((wipe σ [j, k]).set j (some x)) [j, k] = wipe σ [j, k]) (hj : ∀ x, ((wipe σ [j, k]).set j (some x))[j]? = some (some x)) (hw2 : ∀ x y, wipe ((wipe ((wipe σ [j, k]).set j (some x)) [k]).set k (some y)) [k] = wipe ((wipe σ [j, k]).set j (some x)) [k])
    (hk : ∀ x y, ((wipe ((wipe σ [j, k]).set j (some x)) [k]).set k (some y))[k]? = some (some y)) :
    EvB (ToldN K) (tLc2 (iSeqS K (tVar i)) (gName j) tYes (iTup K (tVar j)) (gName k) tYes (tTup (tCons (tC (.int 0)) (tCons (tVar k) tNil))) [j, k] [k]) σ H (ps.flatMap fun p => [(0, p.1), (0, p.2)]) := fun H1 e Q q => by
  have hp1 := paired_mono (fun _ _ r => pairT_mono e r) hp
  refine ⟨_, h0, m, rfl, ?_⟩
  rcases Tk.sqq_ls hm with hm | hm
  · exact .inl ⟨us, ex_l e hm, lc2_told walk_list (fun H2 e2 => ex_l (e.trans e2) hm) hp1 hz hw hj hw2 hk q⟩
  · exact .inr ⟨us, ex_t e hm, lc2_told walk_tup (fun H2 e2 => ex_t (e.trans e2) hm) hp1 hz hw hj hw2 hk q⟩
/-- what is walked from 0 -/
theorem ev_walk0 {f : Addr} {M : Leads} {xs : List Str} {v : V} {n : Nat} (hf : Ev ta σ H (.ref f)) (hM : H f = some (.dT (kvL M))) (ht : Ev tb σ H v) (hv : Wd K H v xs) (hn : Wp.walkL M 0 xs = some n) : Ev (tCall (spWalk K) [] E0 (tCons ta (tCons (tC (.int 0)) (tCons tb tNil)))) σ H (.int (n : Int)) := by
  obtain ⟨b, rfl, hb⟩ := hv
  exact ev_call (ea_cons hf (ea_cons ev_c (ea_cons ht ea_nil))) fun H1 e Q q E => ⟨f, b, 0, M, xs, rfl, .inl (e _ _ hM), SqT.of (e _ _ hb), fun H2 e2 => by
    rw [hn]
    exact q H2 e2⟩
/-- [(walk(more, 0, one), walk(more, 0, another)) for one, another in pairs], the pairs walked by J -/
theorem lc_ends {J : It} {G : Hp → Prop} {us : List V} (wk : Walk J us.length G (YAt us)) {h j k : Nat} {f : Addr} {M : Leads} {ps : List (List Str × List Str)} (hG : ∀ H, Ex H1 H → G H) (hp : Paired (PairT K H1) us ps) (hz : ps.length ≤ 1000) (hM : H1 f = some (.dT (kvL M)))
    (hok : ∀ p ∈ ps, (∃ n, Wp.walkL M 0 p.1 = some n) ∧ ∃ n, Wp.walkL M 0 p.2 = some n)
    (hw : ∀ x y, wipe (((wipe σ [j, k]).set j (some x)).set k (some y)) [j, k] = wipe σ [j, k]) (hh : ∀ x y, (((wipe σ [j, k]).set j (some x)).set k (some y))[h]? = some (some (.ref f))) (hj : ∀ x y, (((wipe σ [j, k]).set j (some x)).set k (some y))[j]? = some (some x))
    (hk : ∀ x y, (((wipe σ [j, k]).set j (some x)).set k (some y))[k]? = some (some y)) {Q : VK} (q : ∀ p H2 us, H1 p = none → Ex H1 H2 → H2 p = some (.lst us) → Paired (PairV H2) us (endsOf M ps) → Q (.ref p) H2) :
    tLc (fun _ H R => R J H) (gTup K 2 (gCons (gName j) (gCons (gName k) gNil))) tYes (tTup (tCons (tCall (spWalk K) [] E0 (tCons (tVar h) (tCons (tC (.int 0)) (tCons (tVar j) tNil)))) (tCons (tCall (spWalk K) [] E0 (tCons (tVar h) (tCons (tC (.int 0)) (tCons (tVar k) tNil)))) tNil))) [j, k] σ H1 Q := fun D hD => by
  have lu := Paired.length hp
  refine lc_bld wk (fun H u p => PairV H u p) (fun e r => pairV_ex e r) (fun h1 r => pairV_upd h1 (fun _ z => by cases z) r) (ys := endsOf M ps) (by unfold endsOf; rw [List.length_map, lu]) (by omega) hD hG (fun n x y H2 H3 Q hy e2 yl kk => ?_) fun us2 H2 e2 h2 p2 => q D H2 us2 hD e2 h2 p2
  obtain ⟨rfl, hx⟩ := yl
  unfold endsOf at hy
  rw [List.getElem?_map] at hy
  obtain ⟨pr, hpr, rfl⟩ := Option.map_eq_some_iff.mp hy
  obtain ⟨y, hy2, a, u1, u2, rfl, ha, w1, w2⟩ := paired_at hp hx
  rw [hpr] at hy2
  cases hy2
  obtain ⟨⟨n1, k1⟩, n2, k2⟩ := hok pr (List.mem_of_getElem? hpr)
  refine ⟨a, _, rfl, SqT.of (e2 _ _ ha), rfl, _, _, rfl, _, _, rfl, rfl, hw _ _, ?_⟩
  rw [k1, k2] at kk
  exact ev_pair (ev_walk0 (ev_var (hh _ _)) (e2 _ _ hM) (ev_var (hj _ _)) (wd_mono e2 w1) k1) (ev_walk0 (ev_var (hh _ _)) (e2 _ _ hM) (ev_var (hk _ _)) (wd_mono e2 w2) k2) fun t H4 ht e4 h4 => kk _ _ e4 ⟨t, rfl, h4⟩
theorem eb_ends {i h j k : Nat} {m f : Addr} {M : Leads} {us : List V} {ps : List (List Str × List Str)} (h0 : σ[i]? = some (some (.ref m))) (hm : Tk.Sqq K H m us) (hp : Paired (PairT K H) us ps) (hz : ps.length ≤ 1000) (hM : H f = some (.dT (kvL M)))
    (hok : ∀ p ∈ ps, (∃ n, Wp.walkL M 0 p.1 = some n) ∧ ∃ n, Wp.walkL M 0 p.2 = some n)
    (hw : ∀ x y, wipe (((wipe σ [j, k]).set j (some x)).set k (some y)) [j, k] = wipe σ [j, k]) (hh : ∀ x y, (((wipe σ [j, k]).set j (some x)).set k (some y))[h]? = some (some (.ref f))) (hj : ∀ x y, (((wipe σ [j, k]).set j (some x)).set k (some y))[j]? = some (some x))
    (hk : ∀ x y, (((wipe σ [j, k]).set j (some x)).set k (some y))[k]? = some (some y)) :
    EvB (fun H u p => PairV H u p) (tLc (iSeqS K (tVar i)) (gTup K 2 (gCons (gName j) (gCons (gName k) gNil))) tYes (tTup (tCons (tCall (spWalk K) [] E0 (tCons (tVar h) (tCons (tC (.int 0)) (tCons (tVar j) tNil)))) (tCons (tCall (spWalk K) [] E0 (tCons (tVar h) (tCons (tC (.int 0)) (tCons (tVar k) tNil)))) tNil))) [j, k]) σ H (endsOf M ps) := fun H1 e Q q => by
  have hp1 := paired_mono (fun _ _ r => pairT_mono e r) hp
  refine ⟨_, h0, m, rfl, ?_⟩
  rcases Tk.sqq_ls hm with hm | hm
  · exact .inl ⟨us, ex_l e hm, lc_ends walk_list (fun H2 e2 => ex_l (e.trans e2) hm) hp1 hz (e _ _ hM) hok hw hh hj hk q⟩
  · exact .inr ⟨us, ex_t e hm, lc_ends walk_tup (fun H2 e2 => ex_t (e.trans e2) hm) hp1 hz (e _ _ hM) hok hw hh hj hk q⟩
/-- [(thing,) for thing in things], the things walked by J -/
theorem lc_ones {J : It} {G : Hp → Prop} {xs : List Str} (wk : Walk J (xs.map V.str).length G (YAt (xs.map V.str))) {j : Nat} (hG : ∀ H, Ex H1 H → G H) (hz : xs.length ≤ 1000) (hw : ∀ x, wipe ((wipe σ [j]).set j (some x)) [j] = wipe σ [j]) (hj : ∀ x, ((wipe σ [j]).set j (some x))[j]? = some (some x))
    {Q : VK} (q : ∀ p H2 us, H1 p = none → Ex H1 H2 → H2 p = some (.lst us) → Paired (Wd K H2) us (xs.map fun x => [x]) → Q (.ref p) H2) : tLc (fun _ H R => R J H) (gName j) tYes (tTup (tCons (tVar j) tNil)) [j] σ H1 Q := fun D hD => by
  refine lc_bld wk (Wd K) wd_mono (fun h r => wd_upd h r) (ys := xs.map fun x => [x]) (by rw [List.length_map, List.length_map]) (by rw [List.length_map]; omega) hD hG (fun n x y H2 H3 Q hy e2 yl kk => ?_) fun us2 H2 e2 h2 p2 => q D H2 us2 hD e2 h2 p2
  obtain ⟨rfl, hx⟩ := yl
  obtain ⟨s, hs, rfl⟩ := strs_get hx
  rw [List.getElem?_map, hs] at hy
  cases hy
  exact ⟨hw _, _, hj _, (by show 1 ≤ sizeLine; decide), fun a ha => kk _ _ (Ex.new ha) ⟨a, rfl, upd_same⟩⟩
theorem eb_ones {i j : Nat} {m : Addr} {xs : List Str} (h0 : σ[i]? = some (some (.ref m))) (hm : Tk.Sqq K H m (xs.map V.str)) (hz : xs.length ≤ 1000) (hw : ∀ x, wipe ((wipe σ [j]).set j (some x)) [j] = wipe σ [j]) (hj : ∀ x, ((wipe σ [j]).set j (some x))[j]? = some (some x)) :
    EvB (Wd K) (tLc (iSeqS K (tVar i)) (gName j) tYes (tTup (tCons (tVar j) tNil)) [j]) σ H (xs.map fun x => [x]) := fun H1 e Q q => by
  refine ⟨_, h0, m, rfl, ?_⟩
  rcases Tk.sqq_ls hm with hm | hm
  · exact .inl ⟨_, ex_l e hm, lc_ones walk_list (fun H2 e2 => ex_l (e.trans e2) hm) hz hw hj q⟩
  · exact .inr ⟨_, ex_t e hm, lc_ones walk_tup (fun H2 e2 => ex_t (e.trans e2) hm) hz hw hj q⟩
end
end Lw
namespace Wp
open PySem
end Wp
namespace Tk
open PySem PySem.Spec PyProof.Rows L2 Lw Evl LamX TL
open Rm (R Ok Z0 Zp Fr fr_none fr_ne nt_lst nt_tup NT Zn)
def OddT (K : PySem.W.Frag) (v : V) (H : Hp) : Prop := ∃ T : String, TyX K H v (.type T) ∧ T ∈ oddKinds
section
variable {K : PySem.W.Frag} {Z : Zn} {Hb H H0 H1 H2 : Hp} {σ : L2.St} {te ta tb : TE} {tA : TA} {v : V} {us : List V} {G : V → Hp → Prop} {n : Nat} {C : Addr}
theorem odd_tup {a : Addr} (h : H a = some (.tup us)) : OddT K (.ref a) H := ⟨"tuple", tyx_tup (SqT.of h), by simp [oddKinds]⟩
end
end Tk
namespace Tk
open PySem PySem.Spec PyProof.Rows L2 Lw Evl LamX TL
open Rm (R Ok Z0 Zp Fr fr_none fr_ne nt_lst nt_tup NT Zn)
end Tk
namespace Tk
open PySem PySem.Spec PyProof.Rows L2 Lw Evl LamX TL
open Rm (R Ok Z0 Zp Fr fr_none fr_ne nt_lst nt_tup NT Zn)
/-- what must not be under way: lists, no pots -/
def Std (Z : Zn) (H : Hp) (bs : List Addr) : Prop := ∀ b ∈ bs, ∃ c C dx fs, H b = some (.lst [.ref c]) ∧ ¬ Z.M b ∧ H c = some (.ins C dx fs)
end Tk
namespace Tk
open PySem PySem.Spec PyProof.Rows L2 Lw Evl LamX TL
open Rm (R Ok Z0 Zp Fr fr_none fr_ne nt_lst nt_tup NT Zn)
end Tk
namespace Tk
open PySem PySem.Spec PyProof.Rows L2 Lw Evl LamX TL
open Rm (R Ok Z0 Zp Fr fr_none fr_ne nt_lst nt_tup NT Zn)
end Tk
namespace Tk
open PySem PySem.Spec PyProof.Rows L2 Lw Evl LamX TL
open Rm (R Ok Z0 Zp Fr fr_none fr_ne nt_lst nt_tup NT Zn)
end Tk
namespace Lw
open PySem PySem.Spec PyProof.Rows L2 Evl
end Lw
namespace Tk
open PySem PySem.Spec PyProof.Rows L2 Lw Evl LamX TL
open Rm (R Ok Z0 Zp Fr fr_none fr_ne nt_lst nt_tup NT Zn)
def t3 (s t : Str) : List Str := [(PyData.str s).shown, t, (PyData.bool true).shown]
end Tk
namespace Lw
open PySem PySem.Spec PyProof.Rows L2 Evl
open Wp (Leads Lead getL upf WfL walkL)
def webL (xs : List Str) (ts : List (List Str)) (ps : List (List Str × List Str)) : Leads := Wp.numb (toldL [] (xs.map (fun x => [x]) ++ ts) ps)
structure WbL (L : Leads) : Prop where
  num : Wp.NumL L
  len : L.length ≤ 2550
  lst : (Wp.least L).length ≤ 2551
  pos : 1 ≤ (Wp.least L).length
theorem least_pos {L : Leads} : 1 ≤ (Wp.least L).length := by
  have z : ∀ (L : Leads) (acc : List (List Str)), 1 ≤ acc.length → 1 ≤ (Wp.leastF acc L).length := fun L => by
    induction L with
    | nil => exact fun acc h => h
    | cons e L ih =>
      intro acc h
      refine ih _ ?_
      unfold Wp.lstep
      split
      · rw [List.length_append]
        omega
      · exact h
  exact z L [[]] (Nat.le_refl _)
section
variable {L : Leads}
theorem WbL.src (h : WbL L) {e : Lead} (he : e ∈ L) : e.1.1 < (Wp.least L).length := by
  rcases h.num.wf.src e he with z | z
  · rw [z]
    exact h.pos
  · exact ((h.num.val _).mpr z).2
theorem WbL.tgt (h : WbL L) {e : Lead} (he : e ∈ L) : e.2 < (Wp.least L).length := ((h.num.val _).mpr (Wp.mem_vals he)).2
theorem WbL.walk (h : WbL L) : ∀ {xs : List Str} {k n : Nat}, walkL L k xs = some n → k < (Wp.least L).length → n < (Wp.least L).length
  | [], k, n, e, hk => by
    cases e
    exact hk
  | x :: xs, k, n, e, hk => by
    unfold walkL at e
    cases c : getL L k x with
    | none => rw [c] at e; cases e
    | some t =>
      rw [c] at e
      exact h.walk e (h.tgt (Wp.getL_mem c))
end
/-- an instance of Web at a: its leads are L -/
def WbAt (K : PySem.W.Frag) (CW : Addr) (H : Hp) (a : Addr) (L : Leads) : Prop := ∃ dx d l, H a = some (.ins CW dx [("_leads", .ref d), ("_least", .ref l)]) ∧ H d = some (.dT (kvL L)) ∧ LW K H l (Wp.least L)
theorem wb_ex {K : PySem.W.Frag} {CW : Addr} {H H1 : Hp} {a : Addr} {L : Leads} (e : Ex H H1) (h : WbAt K CW H a L) : WbAt K CW H1 a L := by
  obtain ⟨dx, d, l, h1, h2, h3⟩ := h
  exact ⟨dx, d, l, e _ _ h1, e _ _ h2, lw_mono e h3⟩
end Lw
namespace Tk
open PySem PySem.Spec PyProof.Rows L2 Lw Evl LamX TL
open Rm (R Ok Z0 Zp Fr fr_none fr_ne nt_lst nt_tup NT Zn)
open Wp (Leads Lead getL upf WfL walkL)
theorem wb_R {K : PySem.W.Frag} {CW : Addr} {Z : Zn} {H H1 : Hp} {a : Addr} {L : Leads} (r : R Z H H1) (h : WbAt K CW H a L) : WbAt K CW H1 a L := by
  obtain ⟨dx, d, l, h1, h2, h3⟩ := h
  exact ⟨dx, d, l, r.st _ _ h1 Rm.nt_ins (r.a.nm h1 fun _ z => nomatch z), r.st _ _ h2 Rm.nt_dT (r.a.nm h2 fun _ z => nomatch z), lw_RO r h3⟩
def GoodX (K : PySem.W.Frag) (H : Hp) (v : V) (xs : List Str) : Prop := ∃ l, v = .ref l ∧ Sqq K H l (xs.map V.str) ∧ ∀ s ∈ xs, isL s = true
def GoodY (K : PySem.W.Frag) (H : Hp) (v : V) (ts : List (List Str)) : Prop := ∃ l us, v = .ref l ∧ Sqq K H l us ∧ Paired (Wd K H) us ts ∧ ∀ t ∈ ts, isT t = true ∧ t.length ≤ 1000
def GoodZ (K : PySem.W.Frag) (H : Hp) (v : V) (ps : List (List Str × List Str)) : Prop := ∃ l us, v = .ref l ∧ Sqq K H l us ∧ Paired (PairT K H) us ps ∧ ∀ p ∈ ps, (isT p.1 = true ∧ p.1.length ≤ 1000) ∧ isT p.2 = true ∧ p.2.length ≤ 1000
section
variable {K : PySem.W.Frag} {H H1 : Hp} {v : V} {xs : List Str} {ts : List (List Str)} {ps : List (List Str × List Str)}
theorem goodX_ex (e : Ex H H1) (h : GoodX K H v xs) : GoodX K H1 v xs := by
  obtain ⟨l, h1, h2, h3⟩ := h
  exact ⟨l, h1, sqq_ex e h2, h3⟩
theorem goodY_ex (e : Ex H H1) (h : GoodY K H v ts) : GoodY K H1 v ts := by
  obtain ⟨l, us, h1, h2, h3, h4⟩ := h
  exact ⟨l, us, h1, sqq_ex e h2, paired_mono (fun _ _ r => wd_mono e r) h3, h4⟩
theorem goodZ_ex (e : Ex H H1) (h : GoodZ K H v ps) : GoodZ K H1 v ps := by
  obtain ⟨l, us, h1, h2, h3, h4⟩ := h
  exact ⟨l, us, h1, sqq_ex e h2, paired_mono (fun _ _ r => pairT_mono e r) h3, h4⟩
theorem paired_true {B : V → Bool → Prop} {us : List V} (h : ∀ u ∈ us, B u true) : Paired B us (List.replicate us.length true) := by
  induction us with
  | nil => exact .nil
  | cons u us ih => exact .cons (h u (List.mem_cons_self ..)) (ih fun x hx => h x (List.mem_cons_of_mem _ hx))
theorem goodX_seq (h : GoodX K H v xs) : GoodSeq K (LB K) H v := by
  obtain ⟨l, rfl, h2, h3⟩ := h
  refine ⟨l, _, rfl, h2, paired_true fun u hu => ?_⟩
  obtain ⟨s, hs, rfl⟩ := List.mem_map.mp hu
  have z := LB.str (K := K) (H := H) s (by have := isL_len (h3 s hs); omega)
  rw [h3 s hs] at z
  exact z
theorem goodY_seq (h : GoodY K H v ts) : GoodSeq K (TB K) H v := by
  obtain ⟨l, us, rfl, h2, h3, h4⟩ := h
  refine ⟨l, us, rfl, h2, paired_true fun u hu => ?_⟩
  obtain ⟨i, hi⟩ := List.getElem?_of_mem hu
  obtain ⟨t, ht, r⟩ := paired_at h3 hi
  have z := h4 t (List.mem_of_getElem? ht)
  exact tb_term r (by omega) z.1
theorem goodZ_seq (h : GoodZ K H v ps) : GoodSeq K (PB K) H v := by
  obtain ⟨l, us, rfl, h2, h3, h4⟩ := h
  refine ⟨l, us, rfl, h2, paired_true fun u hu => ?_⟩
  obtain ⟨i, hi⟩ := List.getElem?_of_mem hu
  obtain ⟨t, ht, a, x, y, rfl, ha, r1, r2⟩ := paired_at h3 hi
  have z := h4 t (List.mem_of_getElem? ht)
  exact PB.two ha (tb_term r1 (by omega) z.1.1) (tb_term r2 (by omega) z.2.1)
end
def spLeads (CW : Addr) : Sp := fun vs H Q _ => ∃ (a dx d l : Addr), vs = [.ref a] ∧ H a = some (.ins CW dx [("_leads", .ref d), ("_least", .ref l)]) ∧ ∀ H', Ex H H' → Q (.ref d) H'
/-- a term of the web: where it is -/
def TmAt (K : PySem.W.Frag) (L : Leads) (H : Hp) (v : V) (n : Nat) : Prop := ∃ xs, Wd K H v xs ∧ isT xs = true ∧ xs.length ≤ 1000 ∧ walkL L 0 xs = some n
/-- no term, or none of the web -/
def TmBad (K : PySem.W.Frag) (L : Leads) (CT CU : Addr) (H : Hp) (v : V) (E : XK) : Prop := (TB K H v false ∧ Rz CT "value" v H E) ∨ ∃ xs, Wd K H v xs ∧ isT xs = true ∧ xs.length ≤ 1000 ∧ walkL L 0 xs = none ∧ Rz CU "value" v H E
def spKnot (K : PySem.W.Frag) (CW CT CU : Addr) : Sp := fun vs H Q E => ∃ (a : Addr) (v : V) (L : Leads), vs = [.ref a, v] ∧ WbAt K CW H a L ∧ (TmBad K L CT CU H v E ∨ ∃ n, TmAt K L H v n ∧ ∀ H', Ex H H' → Q (.int (n : Int)) H')
def spWbIn (K : PySem.W.Frag) (CW : Addr) : Sp := fun vs H Q _ => ∃ (a : Addr) (v : V) (L : Leads), vs = [.ref a, v] ∧ WbAt K CW H a L ∧ ((TB K H v false ∧ ∀ H', Ex H H' → Q (.bl false) H') ∨ ∃ xs, Wd K H v xs ∧ isT xs = true ∧ xs.length ≤ 1000 ∧ ∀ H', Ex H H' → Q (.bl (walkL L 0 xs).isSome) H')
def spWbKnots (K : PySem.W.Frag) (CW : Addr) : Sp := fun vs H Q _ => ∃ (a : Addr) (L : Leads), vs = [.ref a] ∧ WbAt K CW H a L ∧ WbL L ∧ ∀ l H', H l = none → Ex H H' → LW K H' l ((Wp.least L).drop 1) → Q (.ref l) H'
def spWbEq (K : PySem.W.Frag) (CW : Addr) : Sp := fun vs H Q _ => ∃ (a b : Addr) (L : Leads), vs = [.ref a, .ref b] ∧ WbAt K CW H a L ∧ WbAt K CW H b L ∧ WbL L ∧ ∀ H', Ex H H' → Q (.bl true) H'
section
variable {K : PySem.W.Frag} {L : Leads} {CT CU : Addr} {H H1 : Hp} {v : V} {E : XK} {n : Nat}
theorem tmAt_ex (e : Ex H H1) (h : TmAt K L H v n) : TmAt K L H1 v n := by
  obtain ⟨xs, h1, h2, h3, h4⟩ := h
  exact ⟨xs, wd_mono e h1, h2, h3, h4⟩
end
theorem pairT_upd {K : PySem.W.Frag} {H : Hp} {D : Addr} {l l' : List V} {v : V} {p : List Str × List Str} (h : H D = some (.lst l)) (r : PairT K H v p) : PairT K (upd H D (.lst l')) v p := by
  obtain ⟨a, x, y, h1, h2, h3, h4⟩ := r
  exact ⟨a, x, y, h1, by
    rw [upd_ne fun z => by rw [z, h] at h2; cases h2]
    exact h2, wd_upd h h3, wd_upd h h4⟩
theorem kvL_at {L : Leads} {i : Nat} {k : List L2.Key} {v : V} (h : (kvL L)[i]? = some (k, v)) : ∃ e : Lead, L[i]? = some e ∧ k = [.inl (e.1.1 : Int), .inr e.1.2] ∧ v = .int (e.2 : Int) := by
  unfold kvL at h
  rw [List.getElem?_map] at h
  obtain ⟨e, h1, h2⟩ := Option.map_eq_some_iff.mp h
  cases h2
  exact ⟨e, h1, rfl, rfl⟩
end Tk
namespace Lw
open PySem PySem.Spec PyProof.Rows L2 Evl
open Wp (Leads Lead getL upf WfL walkL)
end Lw
namespace Lw
open PySem PySem.Spec PyProof.Rows L2 Evl
def MkW (P : Program) (w : World) (K : PySem.W.Frag) (mg : Str → Option Value) (base : Heap) (CX : CXT) (k : Nat) (x : Str) (C : Addr) (ps : List Str) (d1 d2 d3 : Addr) (sp : Sp) : Prop :=
  ∃ f fd, mg x = some (.ref C) ∧ Mk K C f ∧ Binds K fd ("self" :: ps) [] ∧ Binds K fd ("self" :: ps) [.ref d1, .ref d2, .ref d3] ∧ Binds K fd ("self" :: ps) [.ref d3] ∧
    (∀ (v : Value) (ws : List Value) (s : Shared), K.In s.heap → ws.length = ps.length → BindsTo s fd ⟨[v], ps.reverse.zip ws⟩ ((("self" : Str) :: ps).zip (v :: ws.reverse))) ∧ FnOk P w K mg base CX k f fd ("self" :: ps) sp
/-- a def of the top, its place known -/
def CalAt (P : Program) (w : World) (K : PySem.W.Frag) (mg : Str → Option Value) (base : Heap) (CX : CXT) (k : Nat) (x : Str) (f : Addr) (ps : List Str) (sp : Sp) : Prop :=
  ∃ fd, mg x = some (.ref f) ∧ PySem.W.keepIn K (.ref f) = true ∧ Binds K fd ps [] ∧ FnG P w K mg base CX k f fd ps sp
theorem CalAt.g {P : Program} {w : World} {K : PySem.W.Frag} {mg : Str → Option Value} {base : Heap} {CX : CXT} {k : Nat} {x : Str} {f : Addr} {ps : List Str} {sp : Sp} (c : CalAt P w K mg base CX k x f ps sp) : mg x = some (.ref f) := c.choose_spec.1
section
variable {X : Cx} {CX : CXT} {k : Nat} {C d1 d2 d3 : Addr} {x : Str} {ps : List Str} {sp : Sp} {p pos : Pos} {e f : Expr} {es : List Expr} {kws : List Keyword} {ta tf : TE} {t tk : TA} {E : XK}
theorem pe_mkW3 (M : MkW X.prog X.w X.K X.mg X.base CX k x C ps d1 d2 d3 sp) {j : Nat} (hr : Room j X.A) (hx : Passes CX X E) (ha : PA X (e :: es) t) (hj : k + 1 ≤ j := by decide) (hg : Gl X x := by rfl) (hdb : (x == ("__debug__" : Str)) = false := by decide)
    (he : starEach (e :: es) X.env = (false, eval e X.env) :: starEach es X.env := by rfl) (hpl : (backTo pos (starEach es X.env)).any (·.1) = false := by rfl) : PE X (.Call (.Name x p) (e :: es) [] pos) (tMake C sp [] E t) := by
  obtain ⟨f, fd, hm, mk, hb, _, _, _, F⟩ := M
  exact pe_make mk F (hr.mono hj) hg hm hb .nil hx ha hdb he hpl
theorem pe_mkW0 (M : MkW X.prog X.w X.K X.mg X.base CX k x C ps d1 d2 d3 sp) {j : Nat} (hr : Room j X.A) (hx : Passes CX X E) (hj : k + 1 ≤ j := by decide) (hg : Gl X x := by rfl) (hdb : (x == ("__debug__" : Str)) = false := by decide) : PE X (.Call (.Name x p) [] [] pos) (tMake C sp [.ref d1, .ref d2, .ref d3] E tNil) := by
  obtain ⟨f, fd, hm, mk, _, hb, _, _, F⟩ := M
  exact pe_make0 mk F (hr.mono hj) hg hm hb (.cons rfl (.cons rfl (.cons rfl .nil))) hx hdb
end
end Lw
namespace Tk
open PySem PySem.Spec PyProof.Rows L2 Lw Evl
/-- the i-th default of a def -/
def dfI (K : PySem.W.Frag) (p : Str × Option Str) (i : Nat) : Addr := match K.lookup (He.fAd K p) with
  | some ⟨_, _, .func fd, _⟩ => (match fd.defaults with
    | .ref T => (match K.lookup T with
      | some ⟨_, _, .seq its _, _⟩ => (match its.toList[i]? with
        | some (.ref d) => d
        | _ => 0)
      | _ => 0)
    | _ => 0)
  | _ => 0
section
variable {K : PySem.W.Frag} {x qual p1 p2 p3 : Str} {params : Arguments} {body : List Stmt} {scope : Scope} {d1 d2 d3 f : Addr} {fd : FuncData}
theorem bW3 (F : FunD K x qual params body scope [V.ref d1, V.ref d2, V.ref d3] [] f fd) (h : ∀ (T : Addr) (kV doc pm : Value) (an : Option Addr) (cdv ct : Value) (u v1 v2 v3 z1 z2 z3 : Value), ∃ k, bindArgs (PySem.W.fnOf x qual params body scope (.ref T) kV doc pm an cdv ct) ⟨[u, v1, v2, v3], []⟩ = seqItems? (.ref T) >>= k ∧ k (some #[z1, z2, z3]) = pure [(("self" : Str), u), (p1, v1), (p2, v2), (p3, v3)]) : Binds K fd ["self", p1, p2, p3] [] := by
  obtain ⟨ds, hv, hb⟩ := F.binds1 (ps := ["self", p1, p2, p3]) 4 3 (by simp) rfl fun T kV doc pm an cdv ct us its h1 h2 => by
    match us, its, h1, h2 with
    | [u, v1, v2, v3], [z1, z2, z3], _, _ => exact h T kV doc pm an cdv ct u v1 v2 v3 z1 z2 z3
  cases hv
  exact hb
theorem bW2 (F : FunD K x qual params body scope [V.ref d1, V.ref d2, V.ref d3] [] f fd) (h : ∀ (T : Addr) (kV doc pm : Value) (an : Option Addr) (cdv ct : Value) (u v1 v2 z1 z2 z3 : Value), ∃ k, bindArgs (PySem.W.fnOf x qual params body scope (.ref T) kV doc pm an cdv ct) ⟨[u, v1, v2], []⟩ = seqItems? (.ref T) >>= k ∧ k (some #[z1, z2, z3]) = pure [(("self" : Str), u), (p1, v1), (p2, v2), (p3, z3)]) : Binds K fd ["self", p1, p2, p3] [.ref d3] := by
  obtain ⟨ds, hv, hb⟩ := F.binds1 (ps := ["self", p1, p2, p3]) 3 2 (by simp) rfl fun T kV doc pm an cdv ct us its h1 h2 => by
    match us, its, h1, h2 with
    | [u, v1, v2], [z1, z2, z3], _, _ => exact h T kV doc pm an cdv ct u v1 v2 z1 z2 z3
  have e : ds = [.ref d3] := by
    cases hv with
    | cons r t =>
      cases t
      rw [show _ = Value.ref d3 from r]
  rw [e] at hb
  exact hb
theorem bW0 (F : FunD K x qual params body scope [V.ref d1, V.ref d2, V.ref d3] [] f fd) (h : ∀ (T : Addr) (kV doc pm : Value) (an : Option Addr) (cdv ct : Value) (u z1 z2 z3 : Value), ∃ k, bindArgs (PySem.W.fnOf x qual params body scope (.ref T) kV doc pm an cdv ct) ⟨[u], []⟩ = seqItems? (.ref T) >>= k ∧ k (some #[z1, z2, z3]) = pure [(("self" : Str), u), (p1, z1), (p2, z2), (p3, z3)]) : Binds K fd ["self", p1, p2, p3] [.ref d1, .ref d2, .ref d3] := by
  obtain ⟨ds, hv, hb⟩ := F.binds1 (ps := ["self", p1, p2, p3]) 1 0 (by simp) rfl fun T kV doc pm an cdv ct us its h1 h2 => by
    match us, its, h1, h2 with
    | [u], [z1, z2, z3], _, _ => exact h T kV doc pm an cdv ct u z1 z2 z3
  have e : ds = [.ref d1, .ref d2, .ref d3] := by
    cases hv with
    | cons r1 t =>
      cases t with
      | cons r2 t =>
        cases t with
        | cons r3 t =>
          cases t
          rw [show _ = Value.ref d1 from r1, show _ = Value.ref d2 from r2, show _ = Value.ref d3 from r3]
  rw [e] at hb
  exact hb
theorem bWR (F : FunD K x qual params body scope [V.ref d1, V.ref d2, V.ref d3] [] f fd) (h : ∀ (T : Addr) (kV doc pm : Value) (an : Option Addr) (cdv ct : Value) (u v1 v2 v3 z1 z2 z3 : Value), ∃ k, bindArgs (PySem.W.fnOf x qual params body scope (.ref T) kV doc pm an cdv ct) ⟨[u], [(p3, v3), (p2, v2), (p1, v1)]⟩ = seqItems? (.ref T) >>= k ∧ k (some #[z1, z2, z3]) = pure [(("self" : Str), u), (p1, v1), (p2, v2), (p3, v3)])
    (v : Value) (ws : List Value) (s : Shared) (X : K.In s.heap) (l : ws.length = [p1, p2, p3].length) : BindsTo s fd ⟨[v], ([p1, p2, p3] : List Str).reverse.zip ws⟩ ((("self" : Str) :: [p1, p2, p3]).zip (v :: ws.reverse)) := by
  obtain ⟨oc, od, dV, kV, doc, pm, an, cdv, ct, osl, rfl, lk, hcd, hD, hK⟩ := F.ex
  rcases hD with ⟨e, _⟩ | ⟨_, T, o, its, m, rfl, lT, oT, rT⟩
  · cases e
  · match ws, l, its, rT with
    | [v3, v2, v1], _, [z1, z2, z3], _ =>
      obtain ⟨k, e1, e2⟩ := h T kV doc pm an cdv ct v v1 v2 v3 z1 z2 z3
      refine BindsTo.of_looks fun M => ?_
      show PySem.W.Looks M s.heap (bindArgs _ ⟨[v], [(p3, v3), (p2, v2), (p1, v1)]⟩) _
      rw [e1]
      exact looks_items X lT oT (.of_pure e2)
    | [v3, v2, v1], _, z1 :: z2 :: z3 :: _ :: _, .cons _ (.cons _ (.cons _ t)) => cases t
    | [v3, v2, v1], _, [], rT => cases rT
    | [v3, v2, v1], _, [_], .cons _ t => cases t
    | [v3, v2, v1], _, [_, _], .cons _ (.cons _ t) => cases t
end
end Tk
namespace Lw
open PySem PySem.Spec PyProof.Rows L2 Evl
def MkW1 (P : Program) (w : World) (K : PySem.W.Frag) (mg : Str → Option Value) (base : Heap) (CX : CXT) (k : Nat) (x : Str) (C : Addr) (ps : List Str) (d2 d3 : Addr) (sp : Sp) : Prop :=
  ∃ f fd, mg x = some (.ref C) ∧ Mk K C f ∧ Binds K fd ("self" :: ps) [.ref d2, .ref d3] ∧ FnOk P w K mg base CX k f fd ("self" :: ps) sp
section
variable {X : Cx} {CX : CXT} {k : Nat} {C d2 d3 : Addr} {x : Str} {ps : List Str} {sp : Sp} {p pos : Pos} {e : Expr} {es : List Expr} {t : TA} {E : XK}
theorem pe_mkW1 (M : MkW1 X.prog X.w X.K X.mg X.base CX k x C ps d2 d3 sp) {j : Nat} (hr : Room j X.A) (hx : Passes CX X E) (ha : PA X (e :: es) t) (hj : k + 1 ≤ j := by decide) (hg : Gl X x := by rfl) (hdb : (x == ("__debug__" : Str)) = false := by decide)
    (he : starEach (e :: es) X.env = (false, eval e X.env) :: starEach es X.env := by rfl) (hpl : (backTo pos (starEach es X.env)).any (·.1) = false := by rfl) : PE X (.Call (.Name x p) (e :: es) [] pos) (tMake C sp [.ref d2, .ref d3] E t) := by
  obtain ⟨f, fd, hm, mk, hb, F⟩ := M
  exact pe_make mk F (hr.mono hj) hg hm hb (.cons rfl (.cons rfl .nil)) hx ha hdb he hpl
end
end Lw
namespace Tk
open PySem PySem.Spec PyProof.Rows L2 Lw Evl
section
variable {K : PySem.W.Frag} {x qual p1 p2 p3 : Str} {params : Arguments} {body : List Stmt} {scope : Scope} {d1 d2 d3 f : Addr} {fd : FuncData}
theorem bW1 (F : FunD K x qual params body scope [V.ref d1, V.ref d2, V.ref d3] [] f fd) (h : ∀ (T : Addr) (kV doc pm : Value) (an : Option Addr) (cdv ct : Value) (u v1 z1 z2 z3 : Value), ∃ k, bindArgs (PySem.W.fnOf x qual params body scope (.ref T) kV doc pm an cdv ct) ⟨[u, v1], []⟩ = seqItems? (.ref T) >>= k ∧ k (some #[z1, z2, z3]) = pure [(("self" : Str), u), (p1, v1), (p2, z2), (p3, z3)]) : Binds K fd ["self", p1, p2, p3] [.ref d2, .ref d3] := by
  obtain ⟨ds, hv, hb⟩ := F.binds1 (ps := ["self", p1, p2, p3]) 2 1 (by simp) rfl fun T kV doc pm an cdv ct us its h1 h2 => by
    match us, its, h1, h2 with
    | [u, v1], [z1, z2, z3], _, _ => exact h T kV doc pm an cdv ct u v1 z1 z2 z3
  have e : ds = [.ref d2, .ref d3] := by
    cases hv with
    | cons r1 t =>
      cases t with
      | cons r2 t =>
        cases t
        rw [show _ = Value.ref d2 from r1, show _ = Value.ref d3 from r2]
  rw [e] at hb
  exact hb
end
end Tk
namespace Lw
open PySem PySem.Spec PyProof.Rows L2 Evl
open LwX (XC XF)
structure XR1 (P : Program) (w : World) (K : PySem.W.Frag) (mg : Str → Option Value) (base : Heap) (k : Nat) (x : Str) (C : Addr) (f : Str) : Prop where
  g_ : mg x = some (.ref C)
  xc : XC K C
  ini : ∃ fI fd, PySem.W.findIn K (.ref C) "__init__" = some (some (.ref fI)) ∧ PySem.W.typeIn K (.ref fI) = some (.type "function") ∧ FnOk P w K mg base CX0 k fI fd ["self", f] (spIx f C) ∧ Binds K fd ["self", f] []
theorem ps_r1 {X : Cx} {W : WX} {k : Nat} {x : Str} {C : Addr} {f : Str} {e : Expr} {te : TE} {p pos pos' : Pos} (T : XR1 X.prog X.w X.K X.mg X.base k x C f) {j : Nat} (hr : Room j X.A) (hc : X.calm = true) (tk : Takes X W) (he : PE X e te) (hj : k + 1 ≤ j := by decide)
    (hg : Gl X x := by rfl) (hdb : (x == ("__debug__" : Str)) = false := by decide) (h1 : starEach [e] X.env = (false, eval e X.env) :: starEach [] X.env := by rfl) (h2 : (backTo pos (starEach [] X.env)).any (·.1) = false := by rfl) :
    PS X (.Raise (some (.Call (.Name x p) [e] [] pos)) none pos') (tRz C f W te) := by
  obtain ⟨fI, fd, hi, ti, F, hb⟩ := T.ini
  have z := ps_raise (pos := pos') hc tk (pmk_xc (p := p) (pos := pos) T.xc hi ti F (hr.mono hj) hb pass0 hg T.g_ (pa_cons (PE.wk he) pa_nil h1) hdb h1 h2)
  refine ⟨fun pins s σ H D I h => z.run pins s σ H D I ⟨_, h, fun v H1 r => ⟨by show 1 ≤ 1000; decide, fun a na => ⟨a, v, rfl, upd_same, fun dx nd ne => ⟨rfl, dx, [(f, v)], ?_, ?_, ?_, ?_⟩⟩⟩⟩⟩
  · exact upd_same
  · rw [upd_ne ne, upd_same]
  · by_cases q : dx = a
    · exact absurd q ne
    · rw [upd_ne q] at nd
      exact nd
  · have nd' : H1 dx = none := by
      rw [upd_ne ne] at nd
      exact nd
    refine r dx _ (fun b o eb => ?_) upd_same
    have n1 : b ≠ dx := ne_of_none eb nd'
    have n2 : b ≠ a := ne_of_none eb na
    rw [upd_ne n1, del_ne n2, upd_ne n2, upd_ne n1, upd_ne n2]
    exact eb
end Lw
namespace Tk
open PySem PySem.Spec PyProof.Rows L2 Lw Evl LamX
open LwX (XC XF)
def on1B (K : PySem.W.Frag) (x f : Str) : Bool := (He.Fa.glo x).ok K && (LwX.xcB K (He.ga K x) && (LwX.xfB K (He.ga K x) f && (He.Fa.meth x "__init__").ok K))
section
variable {P : Program} {w : World} {K : PySem.W.Frag} {mg : Str → Option Value} {base h : Heap} {C fI : Addr} {fd : FuncData} {qual x f : Str} {params : Arguments} {scope : Scope}
structure On1F (K : PySem.W.Frag) (mg : Str → Option Value) (x f : Str) : Prop where
  g : mg x = some (.ref (He.ga K x))
  xc : XC K (He.ga K x)
  xf : XF K (He.ga K x) f
  me : Meth K (He.ga K x) "__init__" (He.fAd K (x, some "__init__"))
theorem on1_ok (X : K.In h) (G : h.Ns mainGlobals mg) (e : on1B K x f = true) : On1F K mg x f := by
  obtain ⟨e1, e⟩ := He.ba e
  obtain ⟨e2, e⟩ := He.ba e
  obtain ⟨e3, e4⟩ := He.ba e
  exact ⟨He.glo_ok X G e1, LwX.xc_ok e2, LwX.xf_ok e3, He.meth_ok e4⟩
theorem init1 {q1 q2 q3 q4 : Pos} (F : FunD K "__init__" qual params [.Assign [.Attribute (.Name "self" q1) f q2] (.Name f q3) q4] scope [] [] fI fd) (S : FnScope ["self", f] ["self", f] scope) (T : XC K C) (no : XF K C f)
    (l1 : scope.names.lookup ("self" : Str) = some .local) (l2 : scope.names.lookup f = some .local) (n1 : (f == ("__debug__" : Str)) = false) (n2 : (f == ("__classdict__" : Str)) = false) : FnOk P w K mg base CX0 1 fI fd ["self", f] (spIx f C) := by
  refine fnO F S (fun vs H Q E h => ?_) (fun cdv A' outer s H vs Q E hr h => ?_)
  · obtain ⟨a, v, rfl, _⟩ := h
    rfl
  · obtain ⟨a, v, rfl, ha, q⟩ := h
    refine ⟨_, PSs.nox (pss_one (ps_xst (pv 0 rfl (.inl l1)) (pv 1 rfl (.inl l2) n1 n2))), ?_⟩
    exact ⟨v, rfl, .ref a, rfl, a, C, rfl, T, no, .inl ⟨ha, fun dx hd ne => q dx hd ne⟩⟩
theorem xr1 {q1 q2 q3 q4 : Pos} (F : FunD K "__init__" qual params [.Assign [.Attribute (.Name "self" q1) f q2] (.Name f q3) q4] scope [] [] (He.fAd K (x, some "__init__")) fd) (S : FnScope ["self", f] ["self", f] scope)
    (l1 : scope.names.lookup ("self" : Str) = some .local) (l2 : scope.names.lookup f = some .local) (n1 : (f == ("__debug__" : Str)) = false) (n2 : (f == ("__classdict__" : Str)) = false)
    (hb : ∀ (kV doc pm : Value) (an : Option Addr) (cdv ct : Value) (us : List Value), us.length = 2 →
      bindArgs (PySem.W.fnOf "__init__" qual params [.Assign [.Attribute (.Name "self" q1) f q2] (.Name f q3) q4] scope .none kV doc pm an cdv ct) ⟨us, []⟩ = pure ((["self", f] : List Str).zip us)) (o : On1F K mg x f) : XR1 P w K mg base 1 x (He.ga K x) f :=
  ⟨o.g, o.xc, _, _, o.me.at_, eq_of_beq o.me.fn, init1 F S o.xc o.xf l1 l2 n1 n2, F.bindsN hb⟩
end
end Tk
namespace K35
open PySem PySem.Spec PyProof.Rows L2 Lw Evl LamX Tk
open LwX (XC XF)
def wbB (K : PySem.W.Frag) : Bool := ownB K "Web" && ((He.Fa.mkr "Web").ok K && ((He.Fa.noat "Web" "_leads").ok K && ((He.Fa.noat "Web" "_least").ok K && ((He.Fa.meth "Web" "pairs").ok K && ((He.Fa.meth "Web" "knots").ok K && ((He.Fa.meth "Web" "letters_at").ok K && ((He.Fa.meth "Web" "same").ok K && ((He.Fa.meth "Web" "with_pair").ok K && ((He.Fa.meth "Web" "__contains__").ok K && ((He.Fa.meth "Web" "__getitem__").ok K && ((He.Fa.meth "Web" "__eq__").ok K && ((He.Fa.meth "Web" "__len__").ok K && ((He.Fa.meth "Web" "__add__").ok K && (cintB K "Web" "MOST_KNOTS" 400 && (propB K "Web" "is_tree" && (PySem.W.selfFirst K (He.ga K "Web")))))))))))))))))
section
variable {K : PySem.W.Frag} {mg : Str → Option Value} {h : Heap}
structure WbF (K : PySem.W.Frag) (mg : Str → Option Value) : Prop where
  o : OwnC K mg "Web" (He.ga K "Web")
  make : Mk K (He.ga K "Web") (He.fAd K ("Web", some "__init__"))
  nL : NoAttr K (He.ga K "Web") "_leads"
  nT : NoAttr K (He.ga K "Web") "_least"
  pa : Meth K (He.ga K "Web") "pairs" (He.fAd K ("Web", some "pairs"))
  kn : Meth K (He.ga K "Web") "knots" (He.fAd K ("Web", some "knots"))
  la : Meth K (He.ga K "Web") "letters_at" (He.fAd K ("Web", some "letters_at"))
  sa : Meth K (He.ga K "Web") "same" (He.fAd K ("Web", some "same"))
  wp : Meth K (He.ga K "Web") "with_pair" (He.fAd K ("Web", some "with_pair"))
  in_ : Meth K (He.ga K "Web") "__contains__" (He.fAd K ("Web", some "__contains__"))
  ix : Meth K (He.ga K "Web") "__getitem__" (He.fAd K ("Web", some "__getitem__"))
  eq : Meth K (He.ga K "Web") "__eq__" (He.fAd K ("Web", some "__eq__"))
  len : Meth K (He.ga K "Web") "__len__" (He.fAd K ("Web", some "__len__"))
  add : Meth K (He.ga K "Web") "__add__" (He.fAd K ("Web", some "__add__"))
  ci : CInt K (He.ga K "Web") "MOST_KNOTS" 400
  tr : PropOf K (He.ga K "Web") "is_tree" (He.ma K (He.ga K "Web") "is_tree") (prA K "Web" "is_tree")
  sf : PySem.W.selfFirst K (He.ga K "Web") = true
theorem wb_ok (X : K.In h) (G : h.Ns mainGlobals mg) (e : wbB K = true) : WbF K mg := by
  obtain ⟨e0, e⟩ := He.ba e
  obtain ⟨e1, e⟩ := He.ba e
  obtain ⟨e2, e⟩ := He.ba e
  obtain ⟨e3, e⟩ := He.ba e
  obtain ⟨e4, e⟩ := He.ba e
  obtain ⟨e5, e⟩ := He.ba e
  obtain ⟨e6, e⟩ := He.ba e
  obtain ⟨e7, e⟩ := He.ba e
  obtain ⟨e8, e⟩ := He.ba e
  obtain ⟨e9, e⟩ := He.ba e
  obtain ⟨e10, e⟩ := He.ba e
  obtain ⟨e11, e⟩ := He.ba e
  obtain ⟨e12, e⟩ := He.ba e
  obtain ⟨e13, e⟩ := He.ba e
  obtain ⟨e14, e⟩ := He.ba e
  obtain ⟨e15, e16⟩ := He.ba e
  exact ⟨own_ok X G e0, He.mkr_ok e1, He.noat_ok e2, He.noat_ok e3, He.meth_ok e4, He.meth_ok e5, He.meth_ok e6, He.meth_ok e7, He.meth_ok e8, He.meth_ok e9, He.meth_ok e10, He.meth_ok e11, He.meth_ok e12, He.meth_ok e13, cint_ok e14, prop_ok e15, e16⟩
end
abbrev dW (K : PySem.W.Frag) (i : Nat) : Addr := dfI K ("Web", some "__init__") i
def relB (K : PySem.W.Frag) : Bool := builtB K (He.ga K "Web") "add" && (etupB K (dW K 0) && (etupB K (dW K 1) && etupB K (dW K 2)))
structure RelF (K : PySem.W.Frag) (CW : Addr) : Prop where
  ba : BuiltOp K CW "add"
  d0 : ∀ H, SqT K H (dW K 0) []
  d1 : ∀ H, SqT K H (dW K 1) []
  d2 : ∀ H, SqT K H (dW K 2) []
theorem rel_ok {K : PySem.W.Frag} (e : relB K = true) : RelF K (He.ga K "Web") := by
  obtain ⟨a0, e⟩ := He.ba e
  obtain ⟨a3, e⟩ := He.ba e
  obtain ⟨a4, a5⟩ := He.ba e
  exact ⟨built_ok a0, etup_ok a3, etup_ok a4, etup_ok a5⟩
end K35
namespace K35H
open PySem PySem.Spec PyProof.Rows L2 Lw Evl
open K35
def dF0 : He.DefD := ⟨("_law_draw", none), "_law_draw", "_law_draw", defArgs (topS 51), defBody (topS 51), defScope (topS 51), [], []⟩
def dF1 : He.DefD := ⟨("_law_pick", none), "_law_pick", "_law_pick", defArgs (topS 52), defBody (topS 52), defScope (topS 52), [], []⟩
def dF2 : He.DefD := ⟨("_law_pot", none), "_law_pot", "_law_pot", defArgs (topS 50), defBody (topS 50), defScope (topS 50), [], []⟩
def dF3 : He.DefD := ⟨("is_letter", none), "is_letter", "is_letter", defArgs (topS 20), defBody (topS 20), defScope (topS 20), [], []⟩
def dF4 : He.DefD := ⟨("is_list", none), "is_list", "is_list", defArgs (topS 2), defBody (topS 2), defScope (topS 2), [], []⟩
def dF5 : He.DefD := ⟨("walk", none), "walk", "walk", defArgs (topS 29), defBody (topS 29), defScope (topS 29), [], []⟩
def dF6 : He.DefD := ⟨("count_knots", none), "count_knots", "count_knots", defArgs (topS 30), defBody (topS 30), defScope (topS 30), [], []⟩
def dF7 : He.DefD := ⟨("grown", none), "grown", "grown", defArgs (topS 32), defBody (topS 32), defScope (topS 32), [], []⟩
def dF8 : He.DefD := ⟨("top_of", none), "top_of", "top_of", defArgs (topS 33), defBody (topS 33), defScope (topS 33), [], []⟩
def dF9 : He.DefD := ⟨("merged", none), "merged", "merged", defArgs (topS 34), defBody (topS 34), defScope (topS 34), [], []⟩
def dF10 : He.DefD := ⟨("numbered", none), "numbered", "numbered", defArgs (topS 35), defBody (topS 35), defScope (topS 35), [], []⟩
def dF11 : He.DefD := ⟨("least_terms", none), "least_terms", "least_terms", defArgs (topS 36), defBody (topS 36), defScope (topS 36), [], []⟩
def dF12 : He.DefD := ⟨("is_term", none), "is_term", "is_term", defArgs (topS 38), defBody (topS 38), defScope (topS 38), [], []⟩
def dF13 : He.DefD := ⟨("is_pair", none), "is_pair", "is_pair", defArgs (topS 39), defBody (topS 39), defScope (topS 39), [], []⟩
def dF14 : He.DefD := ⟨("need_term", none), "need_term", "need_term", defArgs (topS 40), defBody (topS 40), defScope (topS 40), [], []⟩
def dF15 : He.DefD := ⟨("need_things", none), "need_things", "need_things", defArgs (topS 41), defBody (topS 41), defScope (topS 41), [], []⟩
def dF16 : He.DefD := ⟨("need_terms", none), "need_terms", "need_terms", defArgs (topS 42), defBody (topS 42), defScope (topS 42), [], []⟩
def dF17 : He.DefD := ⟨("need_pairs", none), "need_pairs", "need_pairs", defArgs (topS 43), defBody (topS 43), defScope (topS 43), [], []⟩
def dF18 : He.DefD := ⟨("need_few_knots", none), "need_few_knots", "need_few_knots", defArgs (topS 31), defBody (topS 31), defScope (topS 31), [], []⟩
def dF19 : He.DefD := ⟨("told_leads", none), "told_leads", "told_leads", defArgs (topS 44), defBody (topS 44), defScope (topS 44), [], []⟩
def dF20 : He.DefD := ⟨("leads_of_web", none), "leads_of_web", "leads_of_web", defArgs (topS 45), defBody (topS 45), defScope (topS 45), [], []⟩
def dF21 : He.DefD := ⟨("knot_of_term", none), "knot_of_term", "knot_of_term", defArgs (topS 47), defBody (topS 47), defScope (topS 47), [], []⟩
def dF22 : He.DefD := ⟨("Web", some "__init__"), "__init__", "Web.__init__", defArgs (inClass (topS 48) 1), defBody (inClass (topS 48) 1), defScope (inClass (topS 48) 1), [.adr fun K => dW K 0, .adr fun K => dW K 1, .adr fun K => dW K 2], []⟩
def dF23 : He.DefD := ⟨("Web", some "__contains__"), "__contains__", "Web.__contains__", defArgs (inClass (topS 48) 6), defBody (inClass (topS 48) 6), defScope (inClass (topS 48) 6), [], []⟩
def dF24 : He.DefD := ⟨("Web", some "knots"), "knots", "Web.knots", defArgs (inClass (topS 48) 4), defBody (inClass (topS 48) 4), defScope (inClass (topS 48) 4), [], []⟩
def dF25 : He.DefD := ⟨("Web", some "__eq__"), "__eq__", "Web.__eq__", defArgs (inClass (topS 48) 19), defBody (inClass (topS 48) 19), defScope (inClass (topS 48) 19), [], []⟩
def dF26 : He.DefD := ⟨("web_of_leads", none), "web_of_leads", "web_of_leads", defArgs (topS 46), defBody (topS 46), defScope (topS 46), [], []⟩
def dF27 : He.DefD := ⟨("Web", some "__len__"), "__len__", "Web.__len__", defArgs (inClass (topS 48) 5), defBody (inClass (topS 48) 5), defScope (inClass (topS 48) 5), [], []⟩
def dF28 : He.DefD := ⟨("Web", some "__getitem__"), "__getitem__", "Web.__getitem__", defArgs (inClass (topS 48) 7), defBody (inClass (topS 48) 7), defScope (inClass (topS 48) 7), [], []⟩
def dF29 : He.DefD := ⟨("Web", some "same"), "same", "Web.same", defArgs (inClass (topS 48) 9), defBody (inClass (topS 48) 9), defScope (inClass (topS 48) 9), [], []⟩
def dF30 : He.DefD := ⟨("Web", some "letters_at"), "letters_at", "Web.letters_at", defArgs (inClass (topS 48) 12), defBody (inClass (topS 48) 12), defScope (inClass (topS 48) 12), [], []⟩
def dF31 : He.DefD := ⟨("Web", some "pairs"), "pairs", "Web.pairs", defArgs (inClass (topS 48) 14), defBody (inClass (topS 48) 14), defScope (inClass (topS 48) 14), [], []⟩
def dF32 : He.DefD := ⟨("Web", some "is_tree"), "is_tree", "Web.is_tree", defArgs (inClass (topS 48) 15), defBody (inClass (topS 48) 15), defScope (inClass (topS 48) 15), [], []⟩
def dF33 : He.DefD := ⟨("Web", some "__add__"), "__add__", "Web.__add__", defArgs (inClass (topS 48) 16), defBody (inClass (topS 48) 16), defScope (inClass (topS 48) 16), [], []⟩
def dF34 : He.DefD := ⟨("Web", some "with_pair"), "with_pair", "Web.with_pair", defArgs (inClass (topS 48) 17), defBody (inClass (topS 48) 17), defScope (inClass (topS 48) 17), [], []⟩
def dF35 : He.DefD := ⟨("_law_divisor", none), "_law_divisor", "_law_divisor", defArgs (topS 53), defBody (topS 53), defScope (topS 53), [], []⟩
def dF36 : He.DefD := ⟨("_law_spot", none), "_law_spot", "_law_spot", defArgs (topS 54), defBody (topS 54), defScope (topS 54), [], []⟩
def dF37 : He.DefD := ⟨("_law_row", none), "_law_row", "_law_row", defArgs (topS 55), defBody (topS 55), defScope (topS 55), [], []⟩
def dF38 : He.DefD := ⟨("_law_web", none), "_law_web", "_law_web", defArgs (topS 56), defBody (topS 56), defScope (topS 56), [], []⟩
def dF39 : He.DefD := ⟨("_law_spots_right", none), "_law_spots_right", "_law_spots_right", defArgs (topS 57), defBody (topS 57), defScope (topS 57), [], []⟩
def dF40 : He.DefD := ⟨("_law_right", none), "_law_right", "_law_right", defArgs (topS 58), defBody (topS 58), defScope (topS 58), [], []⟩
def dF41 : He.DefD := ⟨("law", none), "law", "law", defArgs (topS 59), defBody (topS 59), defScope (topS 59), [], []⟩
def dF42 : He.DefD := ⟨("InvalidThings", some "__init__"), "__init__", "InvalidThings.__init__", defArgs (inClass (topS 8) 0), defBody (inClass (topS 8) 0), defScope (inClass (topS 8) 0), [], []⟩
def dF43 : He.DefD := ⟨("InvalidTerms", some "__init__"), "__init__", "InvalidTerms.__init__", defArgs (inClass (topS 10) 0), defBody (inClass (topS 10) 0), defScope (inClass (topS 10) 0), [], []⟩
def dF44 : He.DefD := ⟨("InvalidPairs", some "__init__"), "__init__", "InvalidPairs.__init__", defArgs (inClass (topS 11) 0), defBody (inClass (topS 11) 0), defScope (inClass (topS 11) 0), [], []⟩
def dF45 : He.DefD := ⟨("InvalidTerm", some "__init__"), "__init__", "InvalidTerm.__init__", defArgs (inClass (topS 9) 0), defBody (inClass (topS 9) 0), defScope (inClass (topS 9) 0), [], []⟩
def dF46 : He.DefD := ⟨("UnknownTerm", some "__init__"), "__init__", "UnknownTerm.__init__", defArgs (inClass (topS 14) 0), defBody (inClass (topS 14) 0), defScope (inClass (topS 14) 0), [], []⟩
def fn : List He.DefD := [dF0, dF1, dF2, dF3, dF4, dF5, dF6, dF7, dF8, dF9, dF10, dF11, dF12, dF13, dF14, dF15, dF16, dF17, dF18, dF19, dF20, dF21, dF22, dF23, dF24, dF25, dF26, dF27, dF28, dF29, dF30, dF31, dF33, dF34, dF35, dF36, dF37, dF38, dF39, dF40, dF41, dF42, dF43, dF44, dF45, dF46]
def fx : List ((PySem.W.Frag → Addr) × He.DefD) := [(fun K => Tk.prA K "Web" "is_tree", dF32)]
def fa : List He.Fa := [.glo "_law_draw", .glo "_law_pick", .glo "_law_pot", .glo "is_letter", .glo "is_list", .glo "walk", .glo "count_knots", .glo "grown", .glo "top_of", .glo "merged", .glo "numbered", .glo "least_terms", .glo "is_term", .glo "is_pair", .glo "need_term", .glo "need_things", .glo "need_terms", .glo "need_pairs", .glo "need_few_knots", .glo "told_leads", .glo "leads_of_web", .glo "knot_of_term", .glo "web_of_leads", .glo "_law_divisor", .glo "_law_spot", .glo "_law_row", .glo "_law_web", .glo "_law_spots_right", .glo "_law_right", .glo "law", .free "len", .free "range", .free "abs", .free "max", .free "min", .free "int", .free "divmod", .free "all", .free "isinstance", .free "enumerate", .free "repr", .free "list", .free "tuple", .free "sorted", .free "str", .free "any", .free "set", .int "MOST_SIGNS" (8), .int "MOST_IN_WORD" (3)]
def tf : List He.Defn := []
def LL : List (He.Defn × Str) := []
def ex (K : PySem.W.Frag) : Bool := Tk.oneB K "InvalidThings" "position" && (Tk.oneB K "InvalidTerms" "position" && (Tk.oneB K "InvalidPairs" "position" && (Tk.oneB K "InvalidTerm" "value" && (Tk.on1B K "UnknownTerm" "value" && (relB K && (wbB K))))))
abbrev R : PySem.W.OpenRow := PySem.W.OpenLaw.row PySem.Challenge.rw_wakesayings_k35_loops_by_divisors
abbrev hk : PySem.W.Hook := Tk.hookZ 6 fa fn tf fx ex
def ob (s : PySem.W.SharedT) : Tk.ToldZ := Tk.obsZ 6 fa fn tf fx ex (HandSHeadRun.getT s)
theorem ob_eq (s : PySem.W.SharedT) : ob s = hk.obs s.abs := Tk.obsZ_eq 6 fa fn tf fx ex (HandSHeadRun.getT_eq s)
def loose0 : List PySem.Str := ["_wall", "is_list", "WakeError", "InvalidWord", "InvalidWords", "InvalidFront", "InvalidThings", "InvalidTerm", "InvalidTerms", "InvalidPairs", "MissingError", "UnknownLetter", "UnknownTerm", "LimitError", "TooMany", "is_letter", "is_word", "need_word", "beginnings", "in_order", "need_front", "Front", "walk", "count_knots", "need_few_knots", "grown", "top_of", "merged", "numbered", "least_terms"]
def loose1 : List PySem.Str := ["is_term", "is_pair", "need_term", "need_things", "need_terms", "need_pairs", "told_leads", "leads_of_web", "web_of_leads", "knot_of_term", "Web", "_law_pot", "_law_draw", "_law_pick", "_law_divisor", "_law_spot", "_law_row", "_law_web", "_law_spots_right", "_law_right", "MOST_SIGNS", "MOST_IN_WORD"]
def loose : List PySem.Str := loose0 ++ loose1
set_option maxHeartbeats 0 in
theorem run (w : World) : HandSHeadRun.RunEq R (PySem.W.view R.prog [59]) hk ob 12000 loose w := by
  intro os
  kernel_rfl
end K35H
namespace K35
open PySem PySem.Spec PyProof.Rows L2 Lw Evl LamX Tk
open Rm (R Ok Z0 Zp Fr fr_none)
open LwX (XC XF)
section
variable {P : Program} {w : World} {K : PySem.W.Frag} {mg : Str → Option Value} {base : Heap}
abbrev s_is_letter : Stmt := topS 20
theorem sc_is_letter : FnScope ["value", "sign"] ["value"] (defScope s_is_letter) := ⟨rfl, rfl, rfl, by decide +kernel, rfl, by decide +kernel, by decide +kernel⟩
theorem ok_is_letter {f : Addr} {fd : FuncData} (F : FunD K "is_letter" "is_letter" (defArgs s_is_letter) (defBody s_is_letter) (defScope s_is_letter) [] [] f fd) (T : Tx P w K mg base)  : FnOk P w K mg base CX0 1 f fd ["value"] (spLetter K) := by
  refine fnO F sc_is_letter (fun vs H Q E h => ?_) (fun cdv A outer s H vs Q E hr h => ?_)
  · obtain ⟨v, b, rfl, _⟩ := h
    rfl
  · skip
    refine ⟨_, PSs.nox ((pss_cons (ps_if (PW.pt (pw_or (pt_not (pt_val (pe_callB (call_isiK1 (K := K)) (by rfl) T.m_isinstance (by decide +kernel) (pa_cons (pv 0) (pa_cons (pe_bltn (v := .ty "str") (by rfl) T.m_str (by decide +kernel) rfl) pa_nil))))) (pw_or1 (pt_not (pt_chain op_le op_le pe_int (pe_callB call_len_str (by rfl) T.m_len (by decide +kernel) (pa_cons (pv 0) pa_nil)) (pe_glob (v := .int 8) (by rfl) T.g_MOST_SIGNS.choose_spec ⟨_, rfl⟩)))))) (pss_one (ps_ret pe_bl)) pss_nil)
      (pss_one (ps_ret (pe_callB (cr_allK (K := K)) (by rfl) T.m_all (by decide +kernel) (pa_cons (pe_lc (own := [("sign", 1)]) (g := gName 1) (tt := tYes) rfl sc_is_letter.nd (pi_str (pv 0)) (blkOk_by (own := [("sign", 1)]) (N := ["value", "sign"]) (sc := defScope s_is_letter) (by decide +kernel)) (fun _ _ _ _ _ => pg_name (i := 1) sc_is_letter.nd rfl (by first | exact Or.inl rfl | exact Or.inr rfl)) (fun _ _ _ _ _ => pts_nil) (fun _ _ _ _ _ => (pe_chain op_le_str op_le_str pe_str (pv 1) pe_str))) pa_nil)))))), ?_⟩
    obtain ⟨v, b, rfl, hb, q⟩ := h
    cases hb with
    | str s hs =>
      have e1 : isL s = ((decide ((1 : Int) ≤ (s.length : Int)) && decide ((s.length : Int) ≤ 8)) && s.cps.toList.all fun c => decide (97 ≤ c) && decide (c ≤ 122)) := by
        rw [isL_app0]
        congr 1
        congr 1
        · exact decide_eq_decide.mpr (by omega)
        · exact decide_eq_decide.mpr (by omega)
      refine q_when (b := !true || !(decide ((1 : Int) ≤ (s.length : Int)) && decide ((s.length : Int) ≤ 8))) (et_or (et_not (et_B (ev_isi (ev_var rfl) (fun _ _ => .base (.str s)) rfl))) (fun _ => et_not (et_chainI ev_c (ev_lenS (ev_var rfl) hs) ev_c))) (fun z H1 e => ?_) (fun z H1 e => ?_)
      · refine s_ret ev_c fun H2 e2 => ?_
        have : isL s = false := by
          rw [e1]
          cases q : (decide ((1 : Int) ≤ (s.length : Int)) && decide ((s.length : Int) ≤ 8)) with
          | false => rfl
          | true =>
            rw [q] at z
            cases z
        rw [← this]
        exact q H2 (e.trans e2)
      · have hc : (decide ((1 : Int) ≤ (s.length : Int)) && decide ((s.length : Int) ≤ 8)) = true := by
          cases q : (decide ((1 : Int) ≤ (s.length : Int)) && decide ((s.length : Int) ≤ 8)) with
          | true => rfl
          | false =>
            rw [q] at z
            cases z
        have e2 : isL s = (s.cps.toList.map fun c => decide (97 ≤ c) && decide (c ≤ 122)).all id := by
          rw [e1, hc, List.all_map]
          rfl
        refine s_ret (ev_all (bs := s.cps.toList.map fun c => decide (97 ≤ c) && decide (c ≤ 122)) (el_lcS (fun i => .bl ((fun c => decide (97 ≤ c) && decide (c ≤ 122)) (s.cps.toList.getD i 0))) (ev_var rfl) (by have := len_cps s; have h8 := of_decide_eq_true (Bool.and_eq_true_iff.mp hc).2; simp only [Array.length_toList] at this; omega) (fun _ => rfl) (fun i c H2 e2 hc2 => ?_)) ?_) fun H2 e3 => ?_
        · have z := ev_chainS (σ := (wipe (L2.start [Str.ofString "value", Str.ofString "sign"] [V.str s]) (List.map (fun x => x.snd) [(Str.ofString "sign", 1)])).set 1 (some (.str ⟨#[c]⟩))) (H := H2) (ta := tC (.str "a")) (tb := tVar 1) (tc := tC (.str "z")) (a := sgn 97) (b := sgn c) (c := sgn 122) ev_c (ev_var rfl) ev_c
          rw [leS_sgn, leS_sgn] at z
          have hg : s.cps.toList.getD i 0 = c := by
            rw [List.getD_eq_getElem?_getD, Array.getElem?_toList, hc2]
            rfl
          show Ev _ _ _ (V.bl (decide (97 ≤ s.cps.toList.getD i 0) && decide (s.cps.toList.getD i 0 ≤ 122)))
          rw [hg]
          exact z
        · have z := range_get s.cps.toList 0 (fun c => V.bl (decide (97 ≤ c) && decide (c ≤ 122)))
          rw [Array.length_toList] at z
          rw [List.map_map]
          exact z
        · rw [← e2]
          exact q H2 (e.trans e3)
    | oth ht hn =>
      refine q_when (b := !false || false) (et_or (et_not (et_B (ev_isi (ev_var rfl) (fun _ e => tyx_mono e ht) hn))) (fun z => by cases z)) (fun _ H1 e => ?_) (fun z => by cases z)
      exact s_ret ev_c fun H2 e2 => q H2 (e.trans e2)
variable {TT : List (Addr × Str)} {c0 P0 CS : Addr}
end
end K35
namespace K35
open PySem PySem.Spec PyProof.Rows L2 Lw Evl LamX Tk
open LwX (XC XF)
open Wp (Leads Lead getL walkL)
section
variable {P : Program} {w : World} {K : PySem.W.Frag} {mg : Str → Option Value} {base : Heap}
abbrev s_walk : Stmt := topS 29
theorem sc_walk : FnScope ["leads", "knot", "names", "here", "name"] ["leads", "knot", "names"] (defScope s_walk) := ⟨rfl, rfl, rfl, by decide +kernel, rfl, by decide +kernel, by decide +kernel⟩
theorem ok_walk {f : Addr} {fd : FuncData} (F : FunD K "walk" "walk" (defArgs s_walk) (defBody s_walk) (defScope s_walk) [] [] f fd) (T : Tx P w K mg base)  : FnOk P w K mg base CX0 1 f fd ["leads", "knot", "names"] (spWalk K) := by
  refine fnO F sc_walk (fun vs H Q E h => ?_) (fun cdv A outer s H vs Q E hr h => ?_)
  · obtain ⟨d, t, k, L, ns, rfl, _⟩ := h
    rfl
  · skip
    refine ⟨_, PSs.nox ((pss_cons (ps_set (i := 3) sc_walk.nd rfl (by first | exact Or.inl rfl | exact Or.inr rfl) (pv 1))
      (pss_cons (ps_for PassesOwn.never rfl (pi_tupK (K := K) (pv 2)) (pg_name (i := 4) sc_walk.nd rfl (by first | exact Or.inl rfl | exact Or.inr rfl)) (pss_one (ps_set (i := 3) sc_walk.nd rfl (by first | exact Or.inl rfl | exact Or.inr rfl) (pe_getN (Nat.lt_of_le_of_lt (Nat.add_le_add_left (show 1 ≤ 64 by decide) _) hr.units) (pv 0) (pe_tup (pa_cons (pv 3) (pa_cons (pv 4) pa_nil))) ⟨rfl, rfl, rfl, rfl⟩))))
      (pss_one (ps_ret (pv 3)))))), ?_⟩
    obtain ⟨d, t, k, L, ns, rfl, hd, ht, q⟩ := h
    refine q_asg (ev_var rfl) fun H1 e1 => ?_
    refine q_forT (ev_var rfl) (ex_t e1 ht) (fun i σ H' => ∃ c, σ = [some (.ref d), some (.int k), some (.ref t), some (oV (walkL L k (ns.take i))), c] ∧ Ex H H') (fun H2 e2 => ⟨_, rfl, e1.trans e2⟩) (fun i σ' H' hi hP => ex_t hP.choose_spec.2 ht) (fun i x σ' H' hx hP => ?_) (fun σ' H' hP => ?_)
    · obtain ⟨c, rfl, e⟩ := hP
      obtain ⟨y, hy, rfl⟩ := strs_get hx
      refine s_asg (ev_getL (ev_var rfl) (rd_ex e hd) (ev_var rfl) (ev_var rfl)) fun H2 e2 => ⟨some (.str y), ?_, e.trans e2⟩
      rw [take_get hy, walk_snoc]
      rfl
    · obtain ⟨c, rfl, e⟩ := hP
      refine s_ret (ev_var rfl) fun H2 e2 => ?_
      rw [List.length_map, List.take_length]
      exact q _ (e.trans e2)
abbrev s_count : Stmt := topS 30
theorem sc_count : FnScope ["leads"] ["leads"] (defScope s_count) := ⟨rfl, rfl, rfl, by decide +kernel, rfl, by decide +kernel, by decide +kernel⟩
theorem ok_count {f : Addr} {fd : FuncData} (F : FunD K "count_knots" "count_knots" (defArgs s_count) (defBody s_count) (defScope s_count) [] [] f fd) (T : Tx P w K mg base)  : FnOk P w K mg base CX0 1 f fd ["leads"] (spCount K) := by
  refine fnO F sc_count (fun vs H Q E h => ?_) (fun cdv A outer s H vs Q E hr h => ?_)
  · obtain ⟨d, L, rfl, _⟩ := h
    rfl
  · skip
    refine ⟨_, PSs.nox ((pss_one (ps_ret (pe_callB (call_lenStK (w := w)) (by rfl) T.m_len (by decide +kernel) (pa_cons (pe_callTy (cr_setInK (K := K) (w := w)) (by rfl) T.m_set (by decide +kernel) (pa_cons (pe_listVals rfl (by rfl) T.m_list (pv 0)) pa_nil)) pa_nil))))), ?_⟩
    obtain ⟨d, L, rfl, hd, hz, q⟩ := h
    refine ⟨_, rfl, d, _, rfl, hd, fun l hl => ⟨l, (Wp.vals L).map fun x : Nat => (x : Int), rfl, ?_, ?_, fun a S c ks ha nd mk hc => ⟨a, S, c, rfl, upd_same, ?_⟩⟩⟩
    · refine SqL.of ?_
      rw [upd_same]
      unfold kvL Wp.vals
      rw [List.map_map, List.map_map, List.map_map]
      rfl
    · unfold Wp.vals
      rw [List.length_map, List.length_map]
      exact hz
    · rw [← hc, ← cnt_len nd mk]
      exact q _ ((Ex.new hl).trans (Ex.new ha))
end
end K35
namespace K35
open PySem PySem.Spec PyProof.Rows L2 Lw Evl LamX Tk
open LwX (XC XF)
open Wp (Leads Lead getL walkL growA growW grow WfL)
section
variable {P : Program} {w : World} {K : PySem.W.Frag} {mg : Str → Option Value} {base : Heap}
abbrev s_grown : Stmt := topS 32
theorem sc_grown : FnScope ["leads", "told", "found", "key", "last", "knot", "names", "here", "name"] ["leads", "told"] (defScope s_grown) := ⟨rfl, rfl, rfl, by decide +kernel, rfl, by decide +kernel, by decide +kernel⟩
theorem ok_grown {f : Addr} {fd : FuncData} (F : FunD K "grown" "grown" (defArgs s_grown) (defBody s_grown) (defScope s_grown) [] [] f fd) (T : Tx P w K mg base) (dcount_knots : CalO P w K mg base CX0 1 "count_knots" ["leads"] (spCount K)) : FnOk P w K mg base CX0 2 f fd ["leads", "told"] (spGrown K) := by
  refine fnO F sc_grown (fun vs H Q E h => ?_) (fun cdv A outer s H vs Q E hr h => ?_)
  · obtain ⟨d, l, L, us, told, rfl, _⟩ := h
    rfl
  · skip
    refine ⟨_, PSs.nox ((pss_cons (ps_lock (ps_setDcT (i := 2) (Nat.lt_of_le_of_lt (Nat.le_add_right _ 64) hr.units) rfl sc_grown.nd rfl rfl (swD rfl rfl rfl (by decide +kernel)) (own := [("key", 3)]) (g := (gName 3)) (pi_keys (pv 0)) (blkOk_by (own := [("key", 3)]) (N := ["leads", "told", "found", "key", "last", "knot", "names", "here", "name"]) (sc := defScope s_grown) (by decide +kernel)) (fun _ _ _ _ _ => pg_name (i := 3) sc_grown.nd rfl (by first | exact Or.inl rfl | exact Or.inr rfl)) (fun _ _ _ _ _ => (pv 3)) (fun _ _ _ _ _ => (pe_dget (Nat.lt_of_le_of_lt (Nat.add_le_add_left (show 1 ≤ 64 by decide) _) hr.units) (pv 0) (pv 3) (fun _ _ => rfl)))))
      (pss_cons (ps_set (i := 4) sc_grown.nd rfl (by first | exact Or.inl rfl | exact Or.inr rfl) (pe_calO dcount_knots hr pass0 (pa_cons (pv 0) pa_nil)))
      (pss_cons (ps_for PassesOwn.never rfl (pi_listK (K := K) (pv 1)) (pg_tup (n := 2) rfl (pgs_cons (pg_name (i := 5) sc_grown.nd rfl (by first | exact Or.inl rfl | exact Or.inr rfl)) (pgs_cons (pg_name (i := 6) sc_grown.nd rfl (by first | exact Or.inl rfl | exact Or.inr rfl)) pgs_nil))) (pss_cons (ps_set (i := 7) sc_grown.nd rfl (by first | exact Or.inl rfl | exact Or.inr rfl) (pv 5))
      (pss_one (ps_for PassesOwn.never rfl (pi_tupK (K := K) (pv 6)) (pg_name (i := 8) sc_grown.nd rfl (by first | exact Or.inl rfl | exact Or.inr rfl)) (pss_cons (ps_if (pt_cmp (pc_dnotin (Nat.lt_of_le_of_lt (Nat.add_le_add_left (show 1 ≤ 64 by decide) _) hr.units) (pe_tup (pa_cons (pv 7) (pa_cons (pv 8) pa_nil))) (pv 2)) (by rfl)) (pss_cons (ps_aug (i := 4) sc_grown.nd rfl (.inl rfl) pe_int ip_add)
      (pss_one (ps_dput (Nat.lt_of_le_of_lt (Nat.add_le_add_left (show 1 ≤ 64 by decide) _) hr.units) (pv 2) (pe_tup (pa_cons (pv 7) (pa_cons (pv 8) pa_nil))) (pv 4) rfl))) pss_nil)
      (pss_one (ps_set (i := 7) sc_grown.nd rfl (by first | exact Or.inl rfl | exact Or.inr rfl) (pe_dget (Nat.lt_of_le_of_lt (Nat.add_le_add_left (show 1 ≤ 64 by decide) _) hr.units) (pv 2) (pe_tup (pa_cons (pv 7) (pa_cons (pv 8) pa_nil))) (fun _ _ => rfl)))))))))
      (pss_one (ps_ret (pv 2))))))), ?_⟩
    obtain ⟨d, l, L, us, told, rfl, hd, hl, ht, wf, hs, hz, q⟩ := h
    refine q_copyL (i := 0) (j := 3) hd wf.nd (by omega) (fun _ => rfl) rfl (fun _ => rfl) (fun _ => rfl) fun f H1 g1 => ?_
    refine q_asg (ev_call (ea_cons (ev_var rfl) ea_nil) fun H2 e Q q E => ⟨d, L, rfl, e _ _ (g1.ex _ _ hd), by omega, q⟩) fun H2 e2 => ?_
    refine q_forL (ev_var rfl) (ex_l (g1.step e2).ex hl) (fun i σ H' => ∃ a b c x : Option V, σ = [some (.ref d), some (.ref l), some (.ref f), none, some (.int (((told.take i).foldl growW (L, Wp.cnt L)).2 : Nat)), a, b, c, x] ∧ Gr H H' f ((told.take i).foldl growW (L, Wp.cnt L)).1) (fun H3 e3 => ⟨_, _, _, _, rfl, (g1.step e2).step e3⟩) (fun i σ' H' hi hP => ?_) (fun i x σ' H' hx hP => ?_) (fun σ' H' hP => ?_)
    · obtain ⟨_, _, _, _, _, g⟩ := hP
      exact ex_l g.ex hl
    · obtain ⟨a, b, c, x0, rfl, g⟩ := hP
      obtain ⟨⟨k, ns⟩, hk, hv⟩ := paired_at ht hx
      obtain ⟨pa, pt, rfl, h1, h2⟩ := hv
      replace h2 : SqT K H pt (ns.map V.str) := h2
      have pre := Wp.growWs_inv (told := told.take i) (st := (L, Wp.cnt L)) wf fun t m => hs t (List.mem_of_mem_take m)
      have tk := take_get hk
      have ef : (told.take (i + 1)).foldl growW (L, Wp.cnt L) = growW ((told.take i).foldl growW (L, Wp.cnt L)) (k, ns) := by
        rw [tk, List.foldl_append]
        rfl
      generalize (told.take i).foldl growW (L, Wp.cnt L) = st at pre g ef ⊢
      obtain ⟨w1, x1, _, l1⟩ := pre
      have sm : Wp.letters (told.take i) + ns.length ≤ Wp.letters told := by
        have y := List.take_append_drop (i + 1) told
        have y2 : Wp.letters told = Wp.letters (told.take (i + 1)) + Wp.letters (told.drop (i + 1)) := by
          rw [← Wp.letters_app, y]
        rw [tk, Wp.letters_app] at y2
        have y3 : Wp.letters [(k, ns)] = ns.length := Nat.add_zero _
        omega
      have l1 : st.1.length ≤ L.length + Wp.letters (told.take i) := l1
      have gi : Wp.GInv (st.1, st.2, k) := ⟨w1, (hs _ (List.mem_of_getElem? hk)).imp id x1.vals⟩
      refine ⟨pa, _, rfl, SqT.of (g.ex _ _ h1), rfl, _, _, rfl, _, _, rfl, rfl, ?_⟩
      refine q_asg (ev_var rfl) fun H3 e3 => ?_
      refine s_forT (ev_var rfl) (ex_t (g.step e3).ex h2) (fun j σ H' => ∃ y : Option V, σ = [some (.ref d), some (.ref l), some (.ref f), none, some (.int (((ns.take j).foldl growA (st.1, st.2, k)).2.1 : Nat)), some (.int (k : Int)), some (.ref pt), some (.int (((ns.take j).foldl growA (st.1, st.2, k)).2.2 : Nat)), y] ∧ Gr H H' f ((ns.take j).foldl growA (st.1, st.2, k)).1) (fun H4 e4 => ⟨_, rfl, (g.step e3).step e4⟩) (fun j σ' H' hj hP => ?_) (fun j y σ' H' hy hP => ?_) (fun σ' H' hP => ?_)
      · obtain ⟨_, _, g4⟩ := hP
        exact ex_t g4.ex h2
      · obtain ⟨y0, rfl, g4⟩ := hP
        obtain ⟨nm, hn, rfl⟩ := strs_get hy
        have jl : j < ns.length := (List.getElem?_eq_some_iff.mp hn).1
        have er : (ns.take (j + 1)).foldl growA (st.1, st.2, k) = growA ((ns.take j).foldl growA (st.1, st.2, k)) nm := by
          rw [take_get hn, List.foldl_append]
          rfl
        rw [er]
        have l2 : ((ns.take j).foldl growA (st.1, st.2, k)).1.length ≤ st.1.length + (ns.take j).length := (Wp.growAs_inv (ns := ns.take j) gi).2.2.2.1
        rw [List.length_take] at l2
        generalize (ns.take j).foldl growA (st.1, st.2, k) = r at g4 l2 ⊢
        refine q_when (b := !(getL r.1 r.2.2 nm).isSome) (et_B (ev_ninL (ev_var rfl) (.inl g4.at_) (ev_var rfl) (ev_var rfl))) (fun hb H5 e5 => ?_) (fun hb H5 e5 => ?_)
        · have gn : getL r.1 r.2.2 nm = none := by
            cases c : getL r.1 r.2.2 nm with
            | none => rfl
            | some t => rw [c] at hb; cases hb
          have ea : growA r nm = (r.1 ++ [((r.2.2, nm), r.2.1 + 1)], r.2.1 + 1, r.2.1 + 1) := by
            unfold growA
            rw [gn]
          rw [ea]
          have g6 := g4.step e5
          refine q_aug rfl ev_c fun H6 e6 => s_putL (t := r.2.1 + 1) (ev_var rfl) (ev_var rfl) (g6.step e6).at_ (ev_var rfl) (ev_var rfl) gn (by omega) fun H7 e7 => ?_
          have g8 : Gr H (upd H7 f (.dT (kvL (r.1 ++ [((r.2.2, nm), r.2.1 + 1)])))) f (r.1 ++ [((r.2.2, nm), r.2.1 + 1)]) := ((g6.step e6).step e7).put
          refine s_asg (v := .int ((r.2.1 + 1 : Nat) : Int)) (ev_dgetL (ev_var rfl) (.inl g8.at_) (ev_var rfl) (ev_var rfl) ?_) fun H8 e8 => ⟨some (.str nm), rfl, g8.step e8⟩
          rw [Wp.getL_app, gn]
          show getL [((r.2.2, nm), r.2.1 + 1)] r.2.2 nm = _
          rw [Wp.getL_cons, if_pos rfl]
        · obtain ⟨t, gs⟩ : ∃ t, getL r.1 r.2.2 nm = some t := by
            cases c : getL r.1 r.2.2 nm with
            | none => rw [c] at hb; cases hb
            | some t => exact ⟨t, rfl⟩
          have ea : growA r nm = (r.1, r.2.1, t) := by
            unfold growA
            rw [gs]
          rw [ea]
          refine s_asg (v := .int (t : Int)) (ev_dgetL (ev_var rfl) (.inl (g4.step e5).at_) (ev_var rfl) (ev_var rfl) gs) fun H8 e8 => ⟨some (.str nm), rfl, (g4.step e5).step e8⟩
      · obtain ⟨y, rfl, g4⟩ := hP
        rw [List.length_map, List.take_length] at g4 ⊢
        rw [ef]
        exact ⟨some (.int (k : Int)), some (.ref pt), _, y, rfl, g4⟩
    · obtain ⟨a, b, c, x0, rfl, g⟩ := hP
      refine s_ret (ev_var rfl) fun H3 e3 => ?_
      rw [Paired.length ht, List.take_length] at g
      exact q f _ (g.step e3)
end
end K35
namespace K35
open PySem PySem.Spec PyProof.Rows L2 Lw Evl LamX Tk
open LwX (XC XF)
open Wp (Leads Lead getL walkL MS upf topF lk mu)
section
variable {P : Program} {w : World} {K : PySem.W.Frag} {mg : Str → Option Value} {base : Heap}
abbrev s_top_of : Stmt := topS 33
theorem sc_top_of : FnScope ["above", "knot", "here"] ["above", "knot"] (defScope s_top_of) := ⟨rfl, rfl, rfl, by decide +kernel, rfl, by decide +kernel, by decide +kernel⟩
theorem ok_top_of {f : Addr} {fd : FuncData} (F : FunD K "top_of" "top_of" (defArgs s_top_of) (defBody s_top_of) (defScope s_top_of) [] [] f fd) (T : Tx P w K mg base)  : FnOk P w K mg base CX0 1 f fd ["above", "knot"] (spTop K) := by
  refine fnO F sc_top_of (fun vs H Q E h => ?_) (fun cdv A outer s H vs Q E hr h => ?_)
  · obtain ⟨a, k, N, ks, ab, rfl, _⟩ := h
    rfl
  · skip
    refine ⟨_, PSs.nox ((pss_cons (ps_set (i := 2) sc_top_of.nd rfl (by first | exact Or.inl rfl | exact Or.inr rfl) (pv 1))
      (pss_cons (ps_while PassesOwn.never (pt_cmpR op_ne (pe_dget (Nat.lt_of_le_of_lt (Nat.add_le_add_left (show 1 ≤ 64 by decide) _) hr.units) (pv 0) (pv 2) (fun _ _ => rfl)) (pv 2) (nomark _)) (pss_one (ps_set (i := 2) sc_top_of.nd rfl (by first | exact Or.inl rfl | exact Or.inr rfl) (pe_dget (Nat.lt_of_le_of_lt (Nat.add_le_add_left (show 1 ≤ 64 by decide) _) hr.units) (pv 0) (pv 2) (fun _ _ => rfl)))))
      (pss_one (ps_ret (pv 2)))))), ?_⟩
    obtain ⟨a, k, N, ks, ab, rfl, ha, hk, hc, hf, q⟩ := h
    refine q_asg (ev_var rfl) fun H1 e1 => ?_
    refine q_while (fun m σ H' => ∃ h : Nat, σ = [some (.ref a), some (.int (k : Int)), some (.int (h : Int))] ∧ Ex H H' ∧ h ∈ ks ∧ topF ab m h = topF ab N k) N ⟨k, rfl, e1, hk, rfl⟩ fun m σ' H' hP => ?_
    obtain ⟨h, rfl, e, hh, ht⟩ := hP
    refine ⟨!decide (V.int (ab h : Int) = V.int (h : Int)), et_test (ev_op (ev_dgetN (g := fun k => .int (ab k : Int)) (ev_var rfl) (rd_ex e ha) (ev_var rfl) hh) (ev_var rfl) (rv_ne rfl)), fun b H2 e2 => ?_, fun b H2 e2 => ?_⟩
    · have ne : ab h ≠ h := fun z => by rw [z] at b; simp at b
      refine ⟨fun σ2 H2 => ∃ m', m' < m ∧ ∃ h : Nat, σ2 = [some (.ref a), some (.int (k : Int)), some (.int (h : Int))] ∧ Ex H H2 ∧ h ∈ ks ∧ topF ab m' h = topF ab N k, fun _ _ z => z, ?_⟩
      cases m with
      | zero =>
        have z : h = topF ab N k := ht
        rw [← z] at hf
        exact absurd hf ne
      | succ m =>
        refine s_asg (ev_dgetN (g := fun k => .int (ab k : Int)) (ev_var rfl) (rd_ex (e.trans e2) ha) (ev_var rfl) hh) fun H3 e3 => ⟨m, Nat.lt_succ_self m, ab h, rfl, (e.trans e2).trans e3, hc h hh, ?_⟩
        have z : topF ab (m + 1) h = topF ab m (ab h) := if_neg ne
        rw [← z]
        exact ht
    · have eq : ab h = h := by
        have z : decide (V.int (ab h : Int) = V.int (h : Int)) = true := by
          cases c : decide (V.int (ab h : Int) = V.int (h : Int)) with
          | true => rfl
          | false => rw [c] at b; cases b
        have z2 := of_decide_eq_true z
        injection z2 with z2
        exact Int.ofNat.inj z2
      refine s_ret (ev_var rfl) fun H3 e3 => ?_
      rw [Wp.topF_fix eq] at ht
      rw [ht]
      exact q _ ((e.trans e2).trans e3)
abbrev s_merged : Stmt := topS 34
theorem sc_merged : FnScope ["leads", "pairs", "ways", "knot", "pair", "name", "to", "above", "weight", "waiting", "one", "another", "low", "high", "tops"] ["leads", "pairs"] (defScope s_merged) := ⟨rfl, rfl, rfl, by decide +kernel, rfl, by decide +kernel, by decide +kernel⟩
theorem ok_merged {f : Addr} {fd : FuncData} (F : FunD K "merged" "merged" (defArgs s_merged) (defBody s_merged) (defScope s_merged) [] [] f fd) (T : Tx P w K mg base) (dtop_of : CalO P w K mg base CX0 1 "top_of" ["above", "knot"] (spTop K)) : FnOk P w K mg base CX0 2 f fd ["leads", "pairs"] (spMerged K) := by
  refine fnO F sc_merged (fun vs H Q E h => ?_) (fun cdv A outer s H vs Q E hr h => ?_)
  · obtain ⟨d, l, L, us, ps, rfl, _⟩ := h
    rfl
  · skip
    refine ⟨_, PSs.nox ((pss_cons (ps_set (i := 2) sc_merged.nd rfl (by first | exact Or.inl rfl | exact Or.inr rfl) (pe_dc (own := [("knot", 3)]) (g := (gName 3)) (tt := tYes) rfl sc_merged.nd (pi_listK (K := K) (pe_op op_cat (pe_op op_cat (pe_lst (pa_cons pe_int pa_nil)) (pe_listVals rfl (by rfl) T.m_list (pv 0))) (pe_lc2 (own := [("pair", 4), ("knot", 3)]) (vs1 := [3]) (g := gName 4) (g1 := gName 3) (tt := tYes) (tt1 := tYes) rfl sc_merged.nd (pi_listK (K := K) (pv 1)) (blkOk_by (own := [("pair", 4), ("knot", 3)]) (N := ["leads", "pairs", "ways", "knot", "pair", "name", "to", "above", "weight", "waiting", "one", "another", "low", "high", "tops"]) (sc := defScope s_merged) (by decide +kernel)) (by decide) (fun _ _ _ _ _ => pg_name (i := 4) sc_merged.nd rfl (by first | exact Or.inl rfl | exact Or.inr rfl)) (fun _ _ _ _ _ => pts_nil) (fun _ _ _ _ _ => (pi_tupK (K := K) (pv 4))) (fun _ _ _ _ _ => pg_name (i := 3) sc_merged.nd rfl (by first | exact Or.inl rfl | exact Or.inr rfl)) (fun _ _ _ _ _ => pts_nil) (fun _ _ _ _ _ => (pv 3))))) (blkOk_by (own := [("knot", 3)]) (N := ["leads", "pairs", "ways", "knot", "pair", "name", "to", "above", "weight", "waiting", "one", "another", "low", "high", "tops"]) (sc := defScope s_merged) (by decide +kernel)) (fun _ _ _ _ _ => pg_name (i := 3) sc_merged.nd rfl (by first | exact Or.inl rfl | exact Or.inr rfl)) (fun _ _ _ _ _ => pts_nil) (fun _ _ _ _ _ => (pv 3)) (fun _ _ _ _ _ => pe_dnewK)))
      (pss_cons (ps_lock (ps_for PassesOwn.never rfl (pi_itemsT (pv 0)) (pg_tup (n := 2) rfl (pgs_cons (pg_tup (n := 2) rfl (pgs_cons (pg_name (i := 3) sc_merged.nd rfl (by first | exact Or.inl rfl | exact Or.inr rfl)) (pgs_cons (pg_name (i := 5) sc_merged.nd rfl (by first | exact Or.inl rfl | exact Or.inr rfl)) pgs_nil))) (pgs_cons (pg_name (i := 6) sc_merged.nd rfl (by first | exact Or.inl rfl | exact Or.inr rfl)) pgs_nil))) (pss_one (ps_dput (Nat.lt_of_le_of_lt (Nat.add_le_add_left (show 1 ≤ 64 by decide) _) hr.units) (pe_dget (Nat.lt_of_le_of_lt (Nat.add_le_add_left (show 1 ≤ 64 by decide) _) hr.units) (pv 2) (pv 3) (fun _ _ => rfl)) (pv 5) (pv 6) rfl))))
      (pss_cons (ps_set (i := 7) sc_merged.nd rfl (by first | exact Or.inl rfl | exact Or.inr rfl) (pe_lock (pe_dc (own := [("knot", 3)]) (g := (gName 3)) (tt := tYes) rfl sc_merged.nd (pi_keys (pv 2)) (blkOk_by (own := [("knot", 3)]) (N := ["leads", "pairs", "ways", "knot", "pair", "name", "to", "above", "weight", "waiting", "one", "another", "low", "high", "tops"]) (sc := defScope s_merged) (by decide +kernel)) (fun _ _ _ _ _ => pg_name (i := 3) sc_merged.nd rfl (by first | exact Or.inl rfl | exact Or.inr rfl)) (fun _ _ _ _ _ => pts_nil) (fun _ _ _ _ _ => (pv 3)) (fun _ _ _ _ _ => (pv 3)))))
      (pss_cons (ps_lock (ps_setDc (i := 8) rfl sc_merged.nd rfl rfl (swD rfl rfl rfl (by decide +kernel)) (own := [("knot", 3)]) (g := (gName 3)) (pi_keys (pv 2)) (blkOk_by (own := [("knot", 3)]) (N := ["leads", "pairs", "ways", "knot", "pair", "name", "to", "above", "weight", "waiting", "one", "another", "low", "high", "tops"]) (sc := defScope s_merged) (by decide +kernel)) (fun _ _ _ _ _ => pg_name (i := 3) sc_merged.nd rfl (by first | exact Or.inl rfl | exact Or.inr rfl)) (fun _ _ _ _ _ => (pv 3)) (fun _ _ _ _ _ => (pe_op op_add pe_int (pe_callB call_lenD (by rfl) T.m_len (by decide +kernel) (pa_cons (pe_dget (Nat.lt_of_le_of_lt (Nat.add_le_add_left (show 1 ≤ 64 by decide) _) hr.units) (pv 2) (pv 3) (fun _ _ => rfl)) pa_nil))))))
      (pss_cons (ps_set (i := 9) sc_merged.nd rfl (by first | exact Or.inl rfl | exact Or.inr rfl) (pe_callTy call_list_of (by rfl) T.m_list (by decide +kernel) (pa_cons (pv 1) pa_nil)))
      (pss_cons (ps_while PassesOwn.never (pt_truthK (K := K) (pv 9)) (pss_cons (ps_asg (pe_bm0 PySem.F.plainAttrs_list PySem.F.slot_list_pop PySem.F.type_list_pop mt_pop (pv 9)) (pg_tup (n := 2) rfl (pgs_cons (pg_name (i := 10) sc_merged.nd rfl (by first | exact Or.inl rfl | exact Or.inr rfl)) (pgs_cons (pg_name (i := 11) sc_merged.nd rfl (by first | exact Or.inl rfl | exact Or.inr rfl)) pgs_nil))))
      (pss_cons (ps_par (i := 12) (j := 13) (by rfl) sc_merged.nd rfl rfl (by decide) rfl rfl (pa_cons (pe_calO dtop_of hr pass0 (pa_cons (pv 7) (pa_cons (pv 10) pa_nil))) (pa_cons (pe_calO dtop_of hr pass0 (pa_cons (pv 7) (pa_cons (pv 11) pa_nil))) pa_nil)) (by rfl))
      (pss_cons (ps_if (pt_cmpR op_eq (pv 12) (pv 13) (nomark _)) (pss_one ps_continue) pss_nil)
      (pss_cons (ps_if (pt_cmpR op_gt (pe_dget (Nat.lt_of_le_of_lt (Nat.add_le_add_left (show 1 ≤ 64 by decide) _) hr.units) (pv 8) (pv 12) (fun _ _ => rfl)) (pe_dget (Nat.lt_of_le_of_lt (Nat.add_le_add_left (show 1 ≤ 64 by decide) _) hr.units) (pv 8) (pv 13) (fun _ _ => rfl)) (nomark _)) (pss_one (ps_par (i := 12) (j := 13) (by rfl) sc_merged.nd rfl rfl (by decide) rfl rfl (pa_cons (pv 13) (pa_cons (pv 12) pa_nil)) (by rfl))) pss_nil)
      (pss_cons (ps_dput (Nat.lt_of_le_of_lt (Nat.add_le_add_left (show 1 ≤ 64 by decide) _) hr.units) (pv 7) (pv 12) (pv 13) rfl)
      (pss_cons (ps_dput (Nat.lt_of_le_of_lt (Nat.add_le_add_left (show 1 ≤ 64 by decide) _) hr.units) (pv 8) (pv 13) (pe_op op_add (pe_dget (Nat.lt_of_le_of_lt (Nat.add_le_add_left (show 1 ≤ 64 by decide) _) hr.units) (pv 8) (pv 13) (fun _ _ => rfl)) (pe_dget (Nat.lt_of_le_of_lt (Nat.add_le_add_left (show 1 ≤ 64 by decide) _) hr.units) (pv 8) (pv 12) (fun _ _ => rfl))) rfl)
      (pss_one (ps_for PassesOwn.never rfl (pi_listK (K := K) (pe_listItems rfl (by rfl) T.m_list (pe_dget (Nat.lt_of_le_of_lt (Nat.add_le_add_left (show 1 ≤ 64 by decide) _) hr.units) (pv 2) (pv 12) (fun _ _ => rfl)))) (pg_tup (n := 2) rfl (pgs_cons (pg_name (i := 5) sc_merged.nd rfl (by first | exact Or.inl rfl | exact Or.inr rfl)) (pgs_cons (pg_name (i := 6) sc_merged.nd rfl (by first | exact Or.inl rfl | exact Or.inr rfl)) pgs_nil))) (pss_one (ps_if (pt_cmp (pc_din (Nat.lt_of_le_of_lt (Nat.add_le_add_left (show 1 ≤ 64 by decide) _) hr.units) (pv 5) (pe_dget (Nat.lt_of_le_of_lt (Nat.add_le_add_left (show 1 ≤ 64 by decide) _) hr.units) (pv 2) (pv 13) (fun _ _ => rfl))) (by rfl)) (pss_one (ps_expr (pe_bm PySem.F.plainAttrs_list PySem.F.slot_list_append PySem.F.type_list_append mt_append (pv 9) (pa_cons (pe_tup (pa_cons (pe_dget (Nat.lt_of_le_of_lt (Nat.add_le_add_left (show 1 ≤ 64 by decide) _) hr.units) (pe_dget (Nat.lt_of_le_of_lt (Nat.add_le_add_left (show 1 ≤ 64 by decide) _) hr.units) (pv 2) (pv 13) (fun _ _ => rfl)) (pv 5) (fun _ _ => rfl)) (pa_cons (pv 6) pa_nil))) pa_nil)))) (pss_one (ps_dput (Nat.lt_of_le_of_lt (Nat.add_le_add_left (show 1 ≤ 64 by decide) _) hr.units) (pe_dget (Nat.lt_of_le_of_lt (Nat.add_le_add_left (show 1 ≤ 64 by decide) _) hr.units) (pv 2) (pv 13) (fun _ _ => rfl)) (pv 5) (pv 6) rfl)))))))))))))
      (pss_cons (ps_lock (ps_setLc (i := 14) (own := [("knot", 3)]) (g := gName 3) rfl sc_merged.nd rfl rfl (sw_true rfl rfl rfl (by decide +kernel)) (pi_keys (pv 2)) (blkOk_by (own := [("knot", 3)]) (N := ["leads", "pairs", "ways", "knot", "pair", "name", "to", "above", "weight", "waiting", "one", "another", "low", "high", "tops"]) (sc := defScope s_merged) (by decide +kernel)) (fun _ _ _ _ _ => pg_name (i := 3) sc_merged.nd rfl (by first | exact Or.inl rfl | exact Or.inr rfl)) (fun _ _ _ _ _ => (pts_one (pt_cmpR op_eq (pe_dget (Nat.lt_of_le_of_lt (Nat.add_le_add_left (show 1 ≤ 64 by decide) _) hr.units) (pv 7) (pv 3) (fun _ _ => rfl)) (pv 3) (nomark _)))) (fun _ _ _ _ _ => (pv 3))))
      (pss_one (ps_ret (pe_locks (pe_dc2 (own := [("knot", 3), ("name", 5)]) (ws1 := [5]) (g := (gName 3)) (g1 := (gName 5)) (Nat.lt_of_le_of_lt (Nat.le_add_right _ 64) hr.units) rfl sc_merged.nd (pi_listK (K := K) (pv 14)) (blkOk_by (own := [("knot", 3), ("name", 5)]) (N := ["leads", "pairs", "ways", "knot", "pair", "name", "to", "above", "weight", "waiting", "one", "another", "low", "high", "tops"]) (sc := defScope s_merged) (by decide +kernel)) (by decide) (fun _ _ _ _ _ => pg_name (i := 3) sc_merged.nd rfl (by first | exact Or.inl rfl | exact Or.inr rfl)) (fun _ _ _ _ _ => (pi_keys (pe_dget (Nat.lt_of_le_of_lt (Nat.add_le_add_left (show 1 ≤ 64 by decide) _) hr.units) (pv 2) (pv 3) (fun _ _ => rfl)))) (fun _ _ _ _ _ => pg_name (i := 5) sc_merged.nd rfl (by first | exact Or.inl rfl | exact Or.inr rfl)) (fun _ _ _ _ _ => (pe_tup (pa_cons (pv 3) (pa_cons (pv 5) pa_nil)))) (fun _ _ _ _ _ => (pe_calO dtop_of hr pass0 (pa_cons (pv 7) (pa_cons (pe_dget (Nat.lt_of_le_of_lt (Nat.add_le_add_left (show 1 ≤ 64 by decide) _) hr.units) (pe_dget (Nat.lt_of_le_of_lt (Nat.add_le_add_left (show 1 ≤ 64 by decide) _) hr.units) (pv 2) (pv 3) (fun _ _ => rfl)) (pv 5) (fun _ _ => rfl)) pa_nil)))))))))))))))), ?_⟩
    obtain ⟨d, l, L, us, ps, rfl, hd, hl, hp, wf, hv, hz, hq, q⟩ := h
    have ndk := Wp.ks_nodup (L := L) (pairs := ps)
    have lks := Wp.ks_len (L := L) hv
    refine q_ways (xs := 0 :: Wp.vals L ++ ps.flatMap fun p => [p.1, p.2]) ?_ ?_ (fun _ => rfl) (fun _ => rfl) fun wy ad H1 w1 => ?_
    · have z : (0 :: Wp.vals L ++ ps.flatMap fun p => [p.1, p.2]).map (fun x : Nat => V.int (x : Int)) = [V.int 0] ++ (Wp.vals L).map (fun x : Nat => V.int (x : Int)) ++ (ps.flatMap fun p => [p.1, p.2]).map fun x : Nat => V.int (x : Int) := by
        rw [List.map_append]
        rfl
      rw [z]
      have fl : ∀ qs : List (Nat × Nat), (qs.flatMap fun p => [p.1, p.2]).length = 2 * qs.length := fun qs => by
        induction qs with
        | nil => rfl
        | cons p qs ih =>
          rw [List.flatMap_cons, List.length_append, ih]
          show 2 + 2 * qs.length = 2 * (qs.length + 1)
          omega
      have lv : (Wp.vals L).length = L.length := List.length_map ..
      refine el_cat (el_cat (el_lst (ea_cons ev_c ea_nil) (by show 1 ≤ 100000; decide)) (el_vals (ev_var rfl) hd) ?_) (el_pairs (i := 1) (j := 4) (k := 3) rfl hl hp hq (fun _ => rfl) (fun _ => rfl) (fun _ _ => rfl) (fun _ _ => rfl)) ?_
      · rw [List.length_map, lv]
        show 1 + L.length ≤ _
        omega
      · rw [List.length_append, List.length_map, List.length_map, lv, fl]
        show 1 + L.length + _ ≤ _
        omega
    · have lv : (Wp.vals L).length = L.length := List.length_map ..
      have fl : ∀ qs : List (Nat × Nat), (qs.flatMap fun p => [p.1, p.2]).length = 2 * qs.length := fun qs => by
        induction qs with
        | nil => rfl
        | cons p qs ih =>
          rw [List.flatMap_cons, List.length_append, ih]
          show 2 + 2 * qs.length = 2 * (qs.length + 1)
          omega
      rw [List.length_append, List.length_cons, lv, fl]
      omega
    change WAt H H1 wy ad (Wp.ksOf L ps) _ at w1
    have hl1 := ex_l w1.ex hl
    have srcs := Wp.src_ks (L := L) (pairs := ps) wf
    refine ⟨d, _, w1.ex _ _ hd, trivial, fun od => ⟨_, rfl, d, od, _, rfl, upd_same, ?_⟩⟩
    refine for_it walk_itemsT (fun i σ H' => ∃ a b c : Option V, σ = [some (.ref d), some (.ref l), some (.ref wy), a, none, b, c, none, none, none, none, none, none, none, none] ∧ WAt (upd H d (.frz od (.dT (kvL L)))) H' wy ad (Wp.ksOf L ps) (Wp.ways (L.take i))) ⟨none, none, none, rfl, w1.frz hd⟩ (fun i σ' H' hi hP => ?_) (fun i x σ' H2 H3 hi hP y => ?_) (fun σ' H' hP => ?_)
    · obtain ⟨_, _, _, _, w2⟩ := hP
      exact w2.ex _ _ upd_same
    · obtain ⟨a, b, c, rfl, w2⟩ := hP
      obtain ⟨t, kq, k, v, hk, rfl, hkq, ht, rfl⟩ := y
      unfold kvL at hk
      rw [List.getElem?_map] at hk
      obtain ⟨e, he, ek⟩ := Option.map_eq_some_iff.mp hk
      cases ek
      have w3 := w2.step (Ex.new (o := .tup [.ref kq, .int (e.2 : Int)]) ht)
      have mk := srcs e (List.mem_of_getElem? he)
      refine ⟨t, _, rfl, SqT.of upd_same, rfl, _, _, rfl, kq, _, rfl, SqT.of ((Ex.new ht) _ _ hkq), rfl, _, _, rfl, _, _, rfl, rfl, _, _, rfl, rfl, ?_⟩
      have gn := Gr.more wf.nd he
      refine ⟨_, rfl, _, rfl, _, rfl, wy, .ref (ad e.1.1), rfl, .inl ⟨_, .inl (e.1.1 : Int), .inl w3.way, rfl, ?_⟩, _, rfl, ad e.1.1, _, rfl, DPut.k (k := .inr e.1.2) (w3.inn _ mk) ?_, some (.int (e.1.1 : Int)), some (.str e.1.2), some (.int (e.2 : Int)), rfl, ?_⟩
      · unfold kvR
        rw [val_kvN, if_pos mk]
      · unfold kvW Wp.ways
        rw [List.length_map, List.length_map]
        have := List.length_filter_le (fun x : Lead => decide (x.1.1 = e.1.1)) (L.take i)
        rw [List.length_take] at this
        exact sz_lt (by omega)
      · rw [put_kvW (lk_ways gn), take_get he, ways_snoc]
        exact w3.setIn mk _
    · obtain ⟨a, b, c, rfl, w2⟩ := hP
      have lk1 : (kvL L).length = L.length := List.length_map ..
      rw [lk1, List.take_length] at w2
      refine ⟨w2.ex _ _ upd_same, ?_⟩
      have w3 := w2.thaw hd
      generalize upd H' d (.dT (kvL L)) = H2 at w3 ⊢
      have lkk : (Wp.ksOf L ps).length < 100000 := by omega
      refine q_keysE (i := 2) (j := 3) (r := 7) (g := fun k => .ref (ad k)) (h := fun k => .int ((k : Nat) : Int)) w3.way ndk lkk rfl (fun _ => rfl) (fun _ => rfl) (fun od k hk H5 e5 => ev_var rfl) fun al H4 na e4 ha => ?_
      have w4 := w3.step e4
      refine q_keysS (i := 2) (j := 3) (r := 8) (g := fun k => .ref (ad k)) (h := fun k => .int ((1 + (Wp.ways L k).length : Nat) : Int)) w4.way ndk lkk rfl (fun _ => rfl) (fun _ => rfl) (fun od k hk H5 e5 => ?_) fun wl H5 nw e5 hwl => ?_
      · refine ev_op (z := .int ((1 + (Wp.ways L k).length : Nat) : Int)) ev_c (y := .int (((Wp.ways L k).length : Nat) : Int)) (fun H6 e6 Q q => ev_dgetN (g := fun k => .ref (ad k)) (k := k) (ks := Wp.ksOf L ps) (ev_var rfl) (.inr ⟨od, e5 _ _ upd_same⟩) (ev_var rfl) hk H6 e6 _ fun H7 e7 => ⟨ad k, _, rfl, e7 _ _ (e6 _ _ (e5 _ _ (by rw [upd_ne (w4.new.2 k hk).2]; exact w4.inn k hk))), ?_⟩) rv_I0
        unfold kvW
        rw [List.length_map]
        exact q _ e7
      have w5 := w4.step e5
      refine q_asgL (el_list (ev_var rfl) (ex_l w5.ex hl)) fun qa H6 nq e6 hqa => ?_
      have w6 := w5.step e6
      have alwl : al ≠ wl := fun z => by rw [← z, ha] at nw; cases nw
      have alwy : al ≠ wy := fun z => by rw [z, w3.way] at na; cases na
      have wlwy : wl ≠ wy := fun z => by rw [z, w4.way] at nw; cases nw
      have adn : ∀ k ∈ Wp.ksOf L ps, ad k ≠ al ∧ ad k ≠ wl ∧ ad k ≠ wy := fun k hk => ⟨fun z => (by
        have y := w3.inn k hk
        rw [z, na] at y
        cases y), fun z => (by
        have y := w4.inn k hk
        rw [z, nw] at y
        cases y), (w3.new.2 k hk).2⟩
      have j0 : JAt H H6 wy al wl qa ad (Wp.ksOf L ps) (Wp.ms0 L ps) := ⟨w6.ex, w6.way, w6.inn, w6.inj, (e5.trans e6) _ _ ha, e6 _ _ hwl, ⟨us, hqa, paired_mono (fun _ _ r => pairV_ex w6.ex r) hp⟩,
        ⟨w6.new.1, fresh_back w3.ex na, fresh_back w4.ex nw, fresh_back w5.ex nq, fun k hk => (w6.new.2 k hk).1⟩, alwl, alwy, wlwy, adn⟩
      have M0 := Wp.ms0_inv (pairs := ps) wf hv
      clear w1 w2 w3 w4 w5 w6 hqa hwl ha
      have lks2 : (Wp.ksOf L ps).length * (L.length + 1) + ps.length ≤ 9100000 := by
        have a1 := Nat.mul_le_mul lks (Nat.le_refl (L.length + 1))
        have a2 : (L.length + 1) * (L.length + 1) ≤ 3001 * 3001 := Nat.mul_le_mul (by omega) (by omega)
        omega
      have zl : sizeLine = 16777216 := sizeLine_eq
      refine q_while (WM H d l wy al wl qa ad L ps) _ ⟨a, b, c, none, none, none, none, _, rfl, j0, M0, Nat.le_of_eq Wp.mu_ms0, lks2, rfl⟩ fun m σ' H' hP => ?_
      obtain ⟨x3, x5, x6, x10, x11, x12, x13, s, rfl, j, M, hm, hm9, hr⟩ := hP
      obtain ⟨us', u1, u2⟩ := j.wai
      refine ⟨!us'.isEmpty, fun H2 e2 Q q => ⟨.ref qa, rfl, !us'.isEmpty, .inl ⟨us', SqL.of (e2 _ _ u1), rfl⟩, q _ (Ex.refl _)⟩, fun hb H2 e2 => ⟨fun σ2 H3 => ∃ m', m' < m ∧ WM H d l wy al wl qa ad L ps m' σ2 H3, fun _ _ z => z, ?_⟩, fun hb H2 e2 => ?_⟩
      · rcases List.eq_nil_or_concat us' with rfl | ⟨uu, u, rfl⟩
        · cases hb
        rw [List.concat_eq_append] at u1 u2
        obtain ⟨wa, p, ew, u3, pa, rfl, hpa⟩ := paired_split u2
        have mw : mu (Wp.ksOf L ps) L s = Wp.tops (Wp.ksOf L ps) s * (L.length + 1) + s.wa.length := rfl
        have lw : s.wa.length = wa.length + 1 := by
          rw [ew, List.length_append]
          rfl
        obtain ⟨m, rfl⟩ : ∃ m0, m = m0 + 1 := ⟨m - 1, by omega⟩
        rw [mrun_step ew] at hr
        obtain ⟨M2, hm2⟩ := Wp.step_inv M srcs ew
        have mp : p ∈ s.wa := by
          rw [ew]
          exact List.mem_append_right _ (List.mem_singleton_self _)
        obtain ⟨k1, k2, _, _⟩ := M.wak p mp
        have j2 := j.step e2
        refine q_asgG ⟨_, rfl, .inl ⟨rfl, _, SqL.of (e2 _ _ u1)⟩, qa, _, .ref pa, rfl, rfl, e2 _ _ u1, ?_, ?_⟩
        · rw [List.length_append, List.length_singleton, List.getElem?_append_right (by omega)]
          show [V.ref pa][uu.length + 1 - 1 - uu.length]? = _
          rw [show uu.length + 1 - 1 - uu.length = 0 from by omega]
          rfl
        rw [List.dropLast_concat]
        have j3 := j2.setWa (us := uu) (wa := wa) (paired_mono (fun _ _ r => pairV_ex e2 r) u3)
        have hpa3 : (upd H2 qa (.lst uu)) pa = some (.tup [.int (p.1 : Int), .int (p.2 : Int)]) := by
          rw [upd_ne fun z => by
            rw [z, u1] at hpa
            cases hpa]
          exact e2 _ _ hpa
        generalize upd H2 qa (.lst uu) = H3 at j3 hpa3 ⊢
        refine ⟨pa, _, rfl, SqT.of hpa3, rfl, _, _, rfl, _, _, rfl, rfl, ?_⟩
        have tp : ∀ k ∈ Wp.ksOf L ps, ∀ H4, Ex H3 H4 → SpV (spTop K) [.ref al, .int (k : Int)] H4 (.int (topF s.ab (Wp.ksOf L ps).length k : Nat)) := fun k hk H4 e4 H5 e5 Q q E => ⟨al, k, (Wp.ksOf L ps).length, Wp.ksOf L ps, s.ab, rfl, .inl ((e4.trans e5) _ _ j3.abo), hk, M.A.abk, Wp.top_fix M.A hk, q⟩
        refine q_par ?_
        refine ev_call (ea_cons (ev_var rfl) (ea_cons (ev_var rfl) ea_nil)) (tp p.1 k1 H3 (Ex.refl _)) H3 (Ex.refl _) _ fun H4 e4 => ?_
        refine ev_call (ea_cons (ev_var rfl) (ea_cons (ev_var rfl) ea_nil)) (tp p.2 k2 H4 e4) H4 (Ex.refl _) _ fun H5 e5 => ?_
        have j5 := (j3.step e4).step e5
        have tA : topF s.ab (Wp.ksOf L ps).length p.1 ∈ Wp.ksOf L ps := Wp.top_mem M.A k1
        have tB : topF s.ab (Wp.ksOf L ps).length p.2 ∈ Wp.ksOf L ps := Wp.top_mem M.A k2
        have hmst : Wp.mstep (Wp.ksOf L ps).length s p wa = if topF s.ab (Wp.ksOf L ps).length p.1 = topF s.ab (Wp.ksOf L ps).length p.2 then { s with wa := wa }
          else if s.wt (topF s.ab (Wp.ksOf L ps).length p.2) < s.wt (topF s.ab (Wp.ksOf L ps).length p.1) then Wp.mjoin s (topF s.ab (Wp.ksOf L ps).length p.2) (topF s.ab (Wp.ksOf L ps).length p.1) wa
          else Wp.mjoin s (topF s.ab (Wp.ksOf L ps).length p.1) (topF s.ab (Wp.ksOf L ps).length p.2) wa := rfl
        generalize topF s.ab (Wp.ksOf L ps).length p.1 = ta at tA hmst ⊢
        generalize topF s.ab (Wp.ksOf L ps).length p.2 = tb at tB hmst ⊢
        refine q_when (b := decide (V.int (ta : Int) = V.int (tb : Int))) (et_test (ev_op (ev_var rfl) (ev_var rfl) (rv_eq rfl))) (fun hb H6 e6 => ?_) (fun hb H6 e6 => ?_)
        · have et : ta = tb := by
            have z := of_decide_eq_true hb
            injection z with z
            exact Int.ofNat.inj z
          rw [if_pos et] at hmst
          rw [hmst] at hr M2 hm2
          exact ⟨m, Nat.lt_succ_self m, _, _, _, _, _, _, _, _, rfl, j5.step e6, M2, by omega, by omega, hr⟩
        · have et : ta ≠ tb := fun z => by
            rw [z, decide_eq_true rfl] at hb
            cases hb
          rw [if_neg et] at hmst
          have j6 := j5.step e6
          refine q_swap (b := decide (s.wt tb < s.wt ta)) ?_ rfl rfl fun H7 e7 => ?_
          · exact et_is (et_test (ev_op (ev_dgetN (g := fun k => .int (s.wt k : Int)) (ks := Wp.ksOf L ps) (ev_var rfl) (.inl j6.wei) (ev_var rfl) tA) (ev_dgetN (g := fun k => .int (s.wt k : Int)) (ks := Wp.ksOf L ps) (ev_var rfl) (.inl j6.wei) (ev_var rfl) tB) rv_I0)) (decide_eq_decide.mpr Int.ofNat_lt)
          have mlo : (if decide (s.wt tb < s.wt ta) = true then tb else ta) ∈ Wp.ksOf L ps := by split <;> assumption
          have mhi : (if decide (s.wt tb < s.wt ta) = true then ta else tb) ∈ Wp.ksOf L ps := by split <;> assumption
          have mjo : Wp.mstep (Wp.ksOf L ps).length s p wa = Wp.mjoin s (if decide (s.wt tb < s.wt ta) = true then tb else ta) (if decide (s.wt tb < s.wt ta) = true then ta else tb) wa := by
            rw [hmst]
            by_cases c : s.wt tb < s.wt ta
            · rw [if_pos c, if_pos (decide_eq_true c), if_pos (decide_eq_true c)]
            · rw [if_neg c, if_neg (fun z => c (of_decide_eq_true z)), if_neg (fun z => c (of_decide_eq_true z))]
          have lne : (if decide (s.wt tb < s.wt ta) = true then tb else ta) ≠ (if decide (s.wt tb < s.wt ta) = true then ta else tb) := by
            split
            · exact fun z => et z.symm
            · exact et
          generalize (if decide (s.wt tb < s.wt ta) = true then tb else ta) = lo at mlo mjo lne ⊢
          generalize (if decide (s.wt tb < s.wt ta) = true then ta else tb) = hi at mhi mjo lne ⊢
          have j7 := j6.step e7
          rw [mjo] at hr M2 hm2
          refine ⟨_, rfl, _, rfl, _, rfl, al, _, rfl, DPut.k (k := .inl (lo : Int)) j7.abo ?_, ?_⟩
          · unfold kvI kvN
            rw [List.length_map]
            omega
          rw [put_kvI mlo]
          have j8 := j7.setAb (upf s.ab lo hi)
          generalize upd H7 al (.dK (kvI (Wp.ksOf L ps) (upf s.ab lo hi))) = H8 at j8 ⊢
          refine ev_op (ev_dgetN (g := fun k => .int (s.wt k : Int)) (k := hi) (ks := Wp.ksOf L ps) (ev_var rfl) (.inl j8.wei) (ev_var rfl) mhi) (ev_dgetN (g := fun k => .int (s.wt k : Int)) (k := lo) (ks := Wp.ksOf L ps) (ev_var rfl) (.inl j8.wei) (ev_var rfl) mlo) rv_I0 H8 (Ex.refl _) _ fun H9 e9 => ⟨_, rfl, _, rfl, wl, _, rfl, DPut.k (k := .inl (hi : Int)) (j8.step e9).wei ?_, ?_⟩
          · unfold kvI kvN
            rw [List.length_map]
            omega
          have pw := put_kvI (f := s.wt) (v := s.wt hi + s.wt lo) mhi
          rw [show ((s.wt hi + s.wt lo : Nat) : Int) = (s.wt hi : Int) + (s.wt lo : Int) from rfl] at pw
          rw [pw]
          have j9 := (j8.step e9).setWt (upf s.wt hi (s.wt hi + s.wt lo))
          generalize upd H9 wl (.dK (kvI (Wp.ksOf L ps) (upf s.wt hi (s.wt hi + s.wt lo)))) = H10 at j9 ⊢
          have fw := M.few mlo
          have fh := M.few mhi
          refine s_moved j9 mlo mhi (by show wa.length + (s.W lo).length < sizeLine; omega) (by show (s.W hi).length + (s.W lo).length < sizeLine; omega) fun x y H11 j10 => ⟨m, Nat.lt_succ_self m, _, _, _, _, _, _, _, _, rfl, ?_, M2, by omega, by omega, hr⟩
          have em : mst { W := s.W, ab := upf s.ab lo hi, wt := upf s.wt hi (s.wt hi + s.wt lo), wa := wa } lo hi (s.W lo).length = Wp.mjoin s lo hi wa := by
            unfold mst Wp.mjoin
            dsimp only
            rw [List.take_length]
          exact em ▸ j10
      · have un : us' = [] := by
          cases us' with
          | nil => rfl
          | cons x xs => cases hb
        subst un
        have wn : s.wa = [] := by
          cases e : s.wa with
          | nil => rfl
          | cons x xs => rw [e] at u2; cases u2
        rw [mrun_nil wn] at hr
        subst hr
        have j2 := j.step e2
        refine q_listK (i := 2) (j := 3) (r := 14) (g := fun k => .ref (ad k)) (b := fun k => decide ((Wp.mEnd L ps).ab k = k)) j2.way lkk rfl (fun _ => rfl) (fun _ => rfl) (fun od k hk H3 e3 => ?_) fun tl H3 ntl e3 htl => ?_
        · refine et_is (et_test (ev_op (ev_dgetN (g := fun k => .int ((Wp.mEnd L ps).ab k : Int)) (k := k) (ks := Wp.ksOf L ps) (ev_var rfl) (.inl (e3 _ _ (by rw [upd_ne alwy]; exact j2.abo))) (ev_var rfl) hk) (ev_var rfl) (rv_eq rfl))) (decide_eq_decide.mpr ⟨fun z => ?_, fun z => by rw [z]⟩)
          injection z with z
          exact Int.ofNat.inj z
        · have wfm := Wp.merge_wf wf hv
          have ol := Wp.out_len M
          have a1 := Nat.mul_le_mul lks hz
          exact s_out (j2.step e3) M ndk wfm.nd (by omega) htl rfl rfl rfl rfl fun f H4 g => q f H4 g
end
end K35
namespace K35
open PySem PySem.Spec PyProof.Rows L2 Lw Evl LamX Tk
open LwX (XC XF)
open Wp (Leads Lead getL walkL WfL)
section
variable {P : Program} {w : World} {K : PySem.W.Frag} {mg : Str → Option Value} {base : Heap}
abbrev s_numbered : Stmt := topS 35
theorem sc_numbered : FnScope ["leads", "names_at", "knot", "name", "numbers", "turn", "found", "at", "to"] ["leads"] (defScope s_numbered) := ⟨rfl, rfl, rfl, by decide +kernel, rfl, by decide +kernel, by decide +kernel⟩
theorem ok_numbered {f : Addr} {fd : FuncData} (F : FunD K "numbered" "numbered" (defArgs s_numbered) (defBody s_numbered) (defScope s_numbered) [] [] f fd) (T : Tx P w K mg base)  : FnOk P w K mg base CX0 1 f fd ["leads"] (spNumbered K) := by
  refine fnO F sc_numbered (fun vs H Q E h => ?_) (fun cdv A outer s H vs Q E hr h => ?_)
  · obtain ⟨d, L, rfl, _⟩ := h
    rfl
  · skip
    refine ⟨_, PSs.nox ((pss_cons (ps_setDc (i := 1) rfl sc_numbered.nd rfl rfl (swD rfl rfl rfl (by decide +kernel)) (own := [("knot", 2)]) (g := (gName 2)) (pi_listK (K := K) (pe_op op_cat (pe_lst (pa_cons pe_int pa_nil)) (pe_listVals rfl (by rfl) T.m_list (pv 0)))) (blkOk_by (own := [("knot", 2)]) (N := ["leads", "names_at", "knot", "name", "numbers", "turn", "found", "at", "to"]) (sc := defScope s_numbered) (by decide +kernel)) (fun _ _ _ _ _ => pg_name (i := 2) sc_numbered.nd rfl (by first | exact Or.inl rfl | exact Or.inr rfl)) (fun _ _ _ _ _ => (pv 2)) (fun _ _ _ _ _ => (pe_lst pa_nil)))
      (pss_cons (ps_lock (ps_for PassesOwn.never rfl (pi_keys (pv 0)) (pg_tup (n := 2) rfl (pgs_cons (pg_name (i := 2) sc_numbered.nd rfl (by first | exact Or.inl rfl | exact Or.inr rfl)) (pgs_cons (pg_name (i := 3) sc_numbered.nd rfl (by first | exact Or.inl rfl | exact Or.inr rfl)) pgs_nil))) (pss_one (ps_expr (pe_bm PySem.F.plainAttrs_list PySem.F.slot_list_append PySem.F.type_list_append mt_append (pe_dget (Nat.lt_of_le_of_lt (Nat.add_le_add_left (show 1 ≤ 64 by decide) _) hr.units) (pv 1) (pv 2) (fun _ _ => rfl)) (pa_cons (pv 3) pa_nil))))))
      (pss_cons (ps_set (i := 4) sc_numbered.nd rfl (by first | exact Or.inl rfl | exact Or.inr rfl) (pe_disp (pps_cons pe_int pe_int pps_nil) (by rfl) (by rfl) (fun z => by cases z) (by decide)))
      (pss_cons (ps_set (i := 5) sc_numbered.nd rfl (by first | exact Or.inl rfl | exact Or.inr rfl) (pe_lst (pa_cons pe_int pa_nil)))
      (pss_cons (ps_set (i := 6) sc_numbered.nd rfl (by first | exact Or.inl rfl | exact Or.inr rfl) pe_dnewT)
      (pss_cons (ps_set (i := 7) sc_numbered.nd rfl (by first | exact Or.inl rfl | exact Or.inr rfl) pe_int)
      (pss_cons (ps_while PassesOwn.never (pt_cmpR op_lt (pv 7) (pe_callB (call_lenK (K := K)) (by rfl) T.m_len (by decide +kernel) (pa_cons (pv 5) pa_nil)) (nomark _)) (pss_cons (ps_for PassesOwn.never rfl (pi_listK (K := K) (pe_callB (cr_sortedSK (K := K)) (by rfl) T.m_sorted (by decide +kernel) (pa_cons (pe_dget (Nat.lt_of_le_of_lt (Nat.add_le_add_left (show 1 ≤ 64 by decide) _) hr.units) (pv 1) (pe_ix (ix_listK (K := K)) (pv 5) (pv 7) (fun _ _ => rfl)) (fun _ _ => rfl)) pa_nil))) (pg_name (i := 3) sc_numbered.nd rfl (by first | exact Or.inl rfl | exact Or.inr rfl)) (pss_cons (ps_set (i := 8) sc_numbered.nd rfl (by first | exact Or.inl rfl | exact Or.inr rfl) (pe_dget (Nat.lt_of_le_of_lt (Nat.add_le_add_left (show 1 ≤ 64 by decide) _) hr.units) (pv 0) (pe_tup (pa_cons (pe_ix (ix_listK (K := K)) (pv 5) (pv 7) (fun _ _ => rfl)) (pa_cons (pv 3) pa_nil))) (fun _ _ => rfl)))
      (pss_cons (ps_if (pt_cmp (pc_dnotin (Nat.lt_of_le_of_lt (Nat.add_le_add_left (show 1 ≤ 64 by decide) _) hr.units) (pv 8) (pv 4)) (by rfl)) (pss_cons (ps_dput (Nat.lt_of_le_of_lt (Nat.add_le_add_left (show 1 ≤ 64 by decide) _) hr.units) (pv 4) (pv 8) (pe_callB (call_lenK (K := K)) (by rfl) T.m_len (by decide +kernel) (pa_cons (pv 5) pa_nil)) rfl)
      (pss_one (ps_expr (pe_bm PySem.F.plainAttrs_list PySem.F.slot_list_append PySem.F.type_list_append mt_append (pv 5) (pa_cons (pv 8) pa_nil))))) pss_nil)
      (pss_one (ps_dput (Nat.lt_of_le_of_lt (Nat.add_le_add_left (show 1 ≤ 64 by decide) _) hr.units) (pv 6) (pe_tup (pa_cons (pv 7) (pa_cons (pv 3) pa_nil))) (pe_dget (Nat.lt_of_le_of_lt (Nat.add_le_add_left (show 1 ≤ 64 by decide) _) hr.units) (pv 4) (pv 8) (fun _ _ => rfl)) rfl)))))
      (pss_one (ps_aug (i := 7) sc_numbered.nd rfl (.inl rfl) pe_int ip_add))))
      (pss_one (ps_ret (pv 6))))))))))), ?_⟩
    obtain ⟨d, L, rfl, hd, wf, hz, h64, q⟩ := h
    have lv : (Wp.vals L).length = L.length := List.length_map ..
    refine q_objs (o0 := lsT []) (xs := 0 :: Wp.vals L) ?_ (by rw [List.length_cons, lv]; omega) (fun τ H Q k => ⟨Nat.zero_le _, k⟩) (fun _ => rfl) (fun _ => rfl) fun na ad H1 w1 => ?_
    · have z : (0 :: Wp.vals L).map (fun x : Nat => V.int (x : Int)) = [V.int 0] ++ (Wp.vals L).map (fun x : Nat => V.int (x : Int)) := rfl
      rw [z]
      refine el_cat (el_lst (ea_cons ev_c ea_nil) (by show 1 ≤ 100000; decide)) (el_vals (ev_var rfl) hd) ?_
      rw [List.length_map, lv]
      show 1 + L.length ≤ _
      omega
    have mks : ∀ k, k ∈ Wp.firsts [] (0 :: Wp.vals L) ↔ k = 0 ∨ k ∈ Wp.vals L := fun k => by
      rw [Wp.mem_firsts, List.mem_cons]
      exact ⟨fun z => z.resolve_left fun y => (by cases y), .inr⟩
    have srcs : ∀ e ∈ L, e.1.1 ∈ Wp.firsts [] (0 :: Wp.vals L) := fun e he => (mks _).mpr (wf.src e he)
    generalize Wp.firsts [] (0 :: Wp.vals L) = ks at w1 mks srcs
    refine ⟨d, _, w1.ex _ _ hd, trivial, fun od => ⟨_, rfl, d, od, rfl, .inr ⟨_, upd_same, ?_⟩⟩⟩
    refine for_it walk_keysT (fun i σ H' => ∃ a b : Option V, σ = [some (.ref d), some (.ref na), a, b, none, none, none, none, none] ∧ OAt (upd H d (.frz od (.dT (kvL L)))) H' na ad ks (fun k => lsT (Wp.names (L.take i) k))) ⟨none, none, rfl, w1.frz hd⟩ (fun i σ' H' hi hP => ?_) (fun i x σ' H2 H3 hi hP y => ?_) (fun σ' H' hP => ?_)
    · obtain ⟨_, _, _, w2⟩ := hP
      exact w2.ex _ _ upd_same
    · obtain ⟨a, b, rfl, w2⟩ := hP
      obtain ⟨rfl, k, v, kq, hk, rfl, hkq⟩ := y
      unfold kvL at hk
      rw [List.getElem?_map] at hk
      obtain ⟨e, he, ek⟩ := Option.map_eq_some_iff.mp hk
      cases ek
      have mk := srcs e (List.mem_of_getElem? he)
      refine ⟨kq, _, rfl, SqT.of hkq, rfl, _, _, rfl, _, _, rfl, rfl, ?_⟩
      refine s_app (xs := (Wp.names (L.take i) e.1.1).map V.str) (w2.inn _ mk) (ev_dgetN (g := fun k => .ref (ad k)) (k := e.1.1) (ks := ks) (ev_var rfl) (.inl w2.way) (ev_var rfl) mk) (ev_var rfl) ?_ fun H4 e4 => ⟨_, _, rfl, ?_⟩
      · rw [List.length_map]
        have := List.length_filter_le (fun x : Lead => decide (x.1.1 = e.1.1)) (L.take i)
        rw [List.length_take] at this
        unfold Wp.names
        rw [List.length_map]
        omega
      · have w3 := (w2.step e4).setIn mk (lsT (Wp.names (L.take i) e.1.1 ++ [e.1.2]))
        rw [upf_lsT, ← names_snoc, ← take_get he] at w3
        have eo : lsT (Wp.names (L.take i) e.1.1 ++ [e.1.2]) = .lst ((Wp.names (L.take i) e.1.1).map V.str ++ [.str e.1.2]) := by
          unfold lsT
          rw [List.map_append]
          rfl
        rw [eo] at w3
        exact w3
    · obtain ⟨a, b, rfl, w2⟩ := hP
      have lk1 : (kvL L).length = L.length := List.length_map ..
      rw [lk1, List.take_length] at w2
      refine ⟨w2.ex _ _ upd_same, ?_⟩
      have w3 := w2.thaw hd
      generalize upd H' d (.dT (kvL L)) = H2 at w3 ⊢
      dsimp only
      refine q_asgT (te := tDisp _) fun nu hnu => ⟨upd_same, [(.inl 0, .int 0)], rfl, by decide, ?_⟩
      rw [upd_upd]
      have en := Ex.new (o := .dK (mergeK [] [(Sum.inl 0, V.int 0)])) hnu
      have hnu2 : (upd H2 nu (.dK (mergeK [] [(Sum.inl 0, V.int 0)]))) nu = some (.dK (kvI [0] (Wp.ixOf [0]))) := by
        rw [upd_same]
        rfl
      generalize upd H2 nu (.dK (mergeK [] [(Sum.inl 0, V.int 0)])) = H3 at en hnu2 ⊢
      refine q_asgL (el_lst (ea_cons ev_c ea_nil) (by show 1 ≤ 100000; decide)) fun tu H4 ntu e4 htu => ?_
      refine q_asgT (te := tDNewT) fun fo hfo => ?_
      have e5 := Ex.new (o := .dT []) hfo
      have hfo5 : (upd H4 fo (.dT [])) fo = some (.dT (kvL [])) := upd_same
      generalize upd H4 fo (.dT []) = H5 at e5 hfo5 ⊢
      have n0 : NAt H2 H5 nu tu fo ([0], []) := ⟨(en.trans e4).trans e5, (e4.trans e5) _ _ hnu2, e5 _ _ htu, hfo5, hnu, fresh_back en ntu, fresh_back (en.trans e4) hfo⟩
      refine q_asg ev_c fun H6 e6 => ?_
      refine q_while (fun m σ H' => ∃ (i : Nat) (s : List Nat × Leads) (b c : Option V), σ = [some (.ref d), some (.ref na), a, b, some (.ref nu), some (.ref tu), some (.ref fo), some (.int (i : Int)), c] ∧ NAt H2 H' nu tu fo s ∧ Wp.NAt L i s ∧ Wp.nrun L m i s = Wp.nrun L (L.length + 2) 0 ([0], []) ∧ L.length + 1 < m + i ∧ i ≤ s.1.length) (L.length + 2) ⟨0, _, b, none, rfl, n0.step e6, Wp.n0_at L, rfl, by omega, Nat.zero_le _⟩ fun m σ' H' hP => ?_
      obtain ⟨i, s, b, c, rfl, j, nI, hr, hm, hi⟩ := hP
      refine ⟨decide (i < s.1.length), ?_, fun hb H7 e7 => ?_, fun hb H7 e7 => ?_⟩
      · refine et_is (et_test (ev_op (ev_var rfl) (ev_len (ev_var rfl) (SqL.of j.tu_)) rv_I0)) ?_
        rw [List.length_map]
        exact decide_eq_decide.mpr Int.ofNat_lt
      · have il := of_decide_eq_true hb
        have ll := nI.inv.len_le
        obtain ⟨m, rfl⟩ : ∃ m0, m = m0 + 1 := ⟨m - 1, by omega⟩
        obtain ⟨k, hk⟩ : ∃ k, s.1[i]? = some k := ⟨_, List.getElem?_eq_getElem il⟩
        have hr2 : Wp.nrun L m (i + 1) (Wp.nfold L k i (Wp.namesS L k) s) = Wp.nrun L (L.length + 2) 0 ([0], []) := by
          rw [← hr]
          show _ = (match s.1[i]? with | none => s | some k => Wp.nrun L m (i + 1) (Wp.nfold L k i (Wp.namesS L k) s))
          rw [hk]
        obtain ⟨nI2, _⟩ := Wp.n_turn wf nI hk
        refine ⟨fun σ2 H3 => ∃ m', m' < m + 1 ∧ ∃ (i : Nat) (s : List Nat × Leads) (b c : Option V), σ2 = [some (.ref d), some (.ref na), a, b, some (.ref nu), some (.ref tu), some (.ref fo), some (.int (i : Int)), c] ∧ NAt H2 H3 nu tu fo s ∧ Wp.NAt L i s ∧ Wp.nrun L m' i s = Wp.nrun L (L.length + 2) 0 ([0], []) ∧ L.length + 1 < m' + i ∧ i ≤ s.1.length, fun _ _ z => z, ?_⟩
        have kk : k ∈ ks := (mks k).mpr (nI.inv.sub k (List.mem_of_getElem? hk))
        have w7 := w3.step (j.ex.trans e7)
        have j7 := j.step e7
        have ek : atI (s.1.map fun x : Nat => V.int (x : Int)) (i : Int) = some (.int (k : Int)) := atI_nat (by rw [List.getElem?_map, hk]; rfl)
        refine q_forNL (el_sortedN (ss := Wp.names L k) (ev_dgetN (g := fun k => .ref (ad k)) (k := k) (ks := ks) (ev_var rfl) (.inl w7.way) (ev_op (ev_var rfl) (ev_var rfl) (rv_ixL (SqL.of j7.tu_) ek)) kk) (w7.inn k kk) (Wp.names_nodup wf.nd k) (h64 k))
          (fun p n σ H' => ∃ b c : Option V, σ = [some (.ref d), some (.ref na), a, b, some (.ref nu), some (.ref tu), some (.ref fo), some (.int (i : Int)), c] ∧ NAt H2 H' nu tu fo (Wp.nfold L k i ((Wp.namesS L k).take n) s) ∧ H' p = some (.lst ((Wp.namesS L k).map V.str)) ∧ p ≠ tu)
          (fun p H8 np e8 hp => ⟨_, _, rfl, j7.step e8, hp, fun z => by rw [z, j7.tu_] at np; cases np⟩) (fun p n σ' H' _ hP => ?_) (fun p n x σ' H' hx hP => ?_) (fun p σ' H' hP => ?_)
        · obtain ⟨_, _, _, _, hp, _⟩ := hP
          exact SqL.of hp
        · obtain ⟨b2, c2, rfl, j8, hp, ptu⟩ := hP
          obtain ⟨nm, hn, rfl⟩ := strs_get hx
          replace hn : (Wp.namesS L k)[n]? = some nm := hn
          obtain ⟨t, gt, tp, tv⟩ := Wp.namesS_get wf (List.mem_of_getElem? hn)
          obtain ⟨r, pre⟩ := Wp.nfold_pre (L := L) (k := k) (i := i) (xs := (Wp.namesS L k).take n) (s := s)
          have keys := Wp.nfold_keys (L := L) (k := k) (i := i) (xs := (Wp.namesS L k).take n) (s := s)
          have tk := take_get hn
          have en2 : Wp.nfold L k i ((Wp.namesS L k).take (n + 1)) s = Wp.nfold L k i [nm] (Wp.nfold L k i ((Wp.namesS L k).take n) s) := by
            rw [tk, Wp.nfold_app]
          have inv8 := (Wp.nfold_inv (k := k) wf (ns := (Wp.namesS L k).take n) nI.inv hk (fun x hx => (Wp.namesS_get wf (List.mem_of_mem_take hx)).imp fun _ z => z.1) ((Tk.ltW_nodup _).sublist (List.take_sublist _ _)) (fun x _ e he c => by
            have := nI.lt e he
            rw [c] at this
            have : i < i := this
            omega)).1
          have ndn := Tk.ltW_nodup [Wp.names L k]
          rw [Wp.nfold_cons gt] at en2
          generalize Wp.nfold L k i ((Wp.namesS L k).take n) s = s8 at j8 pre keys en2 inv8
          obtain ⟨T8, F⟩ := s8
          have pre : T8 = s.1 ++ r := pre
          have il8 : T8[i]? = some k := by rw [pre, List.getElem?_append_left il]; exact hk
          have gF : getL F i nm = none := Wp.getL_none.mpr fun e he c => by
            rcases keys e he with z | ⟨n2, m2, z⟩
            · have := nI.lt e z
              rw [c] at this
              have : i < i := this
              omega
            · rw [c] at z
              have e2 : nm = n2 := (Prod.mk.inj z).2
              subst e2
              obtain ⟨i2, h2⟩ := List.getElem?_of_mem m2
              rw [List.getElem?_take] at h2
              split at h2
              · rename_i lt
                have := (List.getElem?_inj (List.getElem?_eq_some_iff.mp h2).1 ndn).mp (h2.trans hn.symm)
                omega
              · cases h2
          have lt8 : T8.length ≤ L.length + 1 := inv8.len_le
          have ll8 : F.length ≤ L.length := inv8.found_le
          have x8 : Ex H H' := w3.ex.trans j8.ex
          refine q_asg (ev_dgetL (ev_var rfl) (.inl (x8 _ _ hd)) (ev_op (ev_var rfl) (ev_var rfl) (rv_ixL (SqL.of j8.tu_) (atI_nat (by rw [List.getElem?_map, il8]; rfl)))) (ev_var rfl) gt) fun H9 e9 => ?_
          have j9 := j8.step e9
          refine q_when (b := !decide (t ∈ T8)) (et_B (ev_ninN (g := fun x => .int (Wp.ixOf T8 x : Int)) (ev_var rfl) (.inl j9.nu_) (ev_var rfl))) (fun hb2 H10 e10 => ?_) (fun hb2 H10 e10 => ?_)
          · have nt : t ∉ T8 := fun z => by
              rw [decide_eq_true z] at hb2
              cases hb2
            rw [if_neg nt] at en2
            rw [en2]
            have j10 := j9.step e10
            refine ev_len (ev_var rfl) (SqL.of j10.tu_) H10 (Ex.refl _) _ fun H11 e11 => ⟨_, rfl, _, rfl, nu, _, rfl, DPut.k (k := .inl (t : Int)) (j10.step e11).nu_ ?_, ?_⟩
            · unfold kvI kvN
              rw [List.length_map]
              show T8.length < _
              exact sz_lt (by omega)
            rw [List.length_map]
            obtain ⟨n1, n2, n3⟩ := j8.ne
            refine s_app (xs := T8.map fun x : Nat => V.int (x : Int)) ?_ (ev_var rfl) (ev_var rfl) ?_ fun H12 e12 => ?_
            · rw [upd_ne n1.symm]
              exact (j10.step e11).tu_
            · rw [List.length_map]
              omega
            have j12 := j10.more e11 nt e12
            dsimp only
            refine s_putL (t := T8.length) ?_ (ev_var rfl) j12.fo_ (ev_var rfl) (ev_var rfl) gF (by show F.length < 100000; omega) fun H13 e13 => ⟨_, _, rfl, j12.found e13 _, ?_, ptu⟩
            · have z := ev_dgetN (g := fun x => .int (Wp.ixOf (T8 ++ [t]) x : Int)) (k := t) (ks := T8 ++ [t]) (td := tVar 4) (ta := tVar 8) (σ := ([some (.ref d), some (.ref na), a, some (.str nm), some (.ref nu), some (.ref tu), some (.ref fo), some (.int (i : Int)), some (.int (t : Int))] : L2.St)) (ev_var rfl) (.inl j12.nu_) (ev_var rfl) (List.mem_append_right _ (List.mem_singleton_self _))
              rw [Wp.ixOf_new nt] at z
              exact z
            · have pfo : p ≠ fo := fun z => by
                have y := j8.fo_
                rw [← z, hp] at y
                cases y
              have pnu : p ≠ nu := fun z => by
                have y := j8.nu_
                rw [← z, hp] at y
                cases y
              rw [upd_ne pfo]
              refine e13 _ _ ?_
              rw [upd_ne ptu]
              refine e12 _ _ ?_
              rw [upd_ne pnu]
              exact ((e9.trans e10).trans e11) _ _ hp
          · have nt : t ∈ T8 := by
              cases c : decide (t ∈ T8) with
              | true => exact of_decide_eq_true c
              | false => rw [c] at hb2; cases hb2
            rw [if_pos nt] at en2
            rw [en2]
            have j10 := j9.step e10
            refine s_putL (t := Wp.ixOf T8 t) (ev_dgetN (g := fun x => .int (Wp.ixOf T8 x : Int)) (k := t) (ks := T8) (ev_var rfl) (.inl j10.nu_) (ev_var rfl) nt) (ev_var rfl) j10.fo_ (ev_var rfl) (ev_var rfl) gF (by show F.length < 100000; omega) fun H13 e13 => ⟨_, _, rfl, j10.found e13 _, ?_, ptu⟩
            have pfo : p ≠ fo := fun z => by
              have y := j8.fo_
              rw [← z, hp] at y
              cases y
            rw [upd_ne pfo]
            exact ((e9.trans e10).trans e13) _ _ hp
        · obtain ⟨b2, c2, rfl, j8, hp, ptu⟩ := hP
          have ln : ((Tk.ltW [Wp.names L k]).map V.str).length = (Wp.namesS L k).length := List.length_map ..
          rw [ln, List.take_length] at j8
          obtain ⟨r, pre⟩ := Wp.nfold_pre (L := L) (k := k) (i := i) (xs := Wp.namesS L k) (s := s)
          refine s_aug rfl ev_c fun H14 e14 => ⟨m, Nat.lt_succ_self m, i + 1, _, _, _, rfl, j8.step e14, nI2, hr2, by omega, ?_⟩
          rw [pre, List.length_append]
          omega
      · have il : ¬ i < s.1.length := fun z => by rw [decide_eq_true z] at hb; cases hb
        refine s_ret (ev_var rfl) fun H8 e8 => ?_
        have jj := (j.step e7).step e8
        have er : Wp.nrun L m i s = s := by
          cases m with
          | zero => rfl
          | succ m =>
            show (match s.1[i]? with | none => s | some k => Wp.nrun L m (i + 1) (Wp.nfold L k i (Wp.namesS L k) s)) = s
            rw [List.getElem?_eq_none (by omega)]
        rw [er] at hr
        refine q fo _ ⟨?_, w3.ex.trans jj.ex, ?_⟩
        · exact fresh_back w3.ex jj.new.2.2
        · rw [jj.fo_, hr]
          rfl
abbrev s_least_terms : Stmt := topS 36
theorem sc_least_terms : FnScope ["leads", "found", "knot", "name", "to"] ["leads"] (defScope s_least_terms) := ⟨rfl, rfl, rfl, by decide +kernel, rfl, by decide +kernel, by decide +kernel⟩
theorem ok_least_terms {f : Addr} {fd : FuncData} (F : FunD K "least_terms" "least_terms" (defArgs s_least_terms) (defBody s_least_terms) (defScope s_least_terms) [] [] f fd) (T : Tx P w K mg base)  : FnOk P w K mg base CX0 1 f fd ["leads"] (spLeast K) := by
  refine fnO F sc_least_terms (fun vs H Q E h => ?_) (fun cdv A outer s H vs Q E hr h => ?_)
  · obtain ⟨d, L, rfl, _⟩ := h
    rfl
  · skip
    refine ⟨_, PSs.nox ((pss_cons (ps_set (i := 1) sc_least_terms.nd rfl (by first | exact Or.inl rfl | exact Or.inr rfl) (pe_lst (pa_cons (pe_tup pa_nil) pa_nil)))
      (pss_cons (ps_lock (ps_for PassesOwn.never rfl (pi_itemsT (pv 0)) (pg_tup (n := 2) rfl (pgs_cons (pg_tup (n := 2) rfl (pgs_cons (pg_name (i := 2) sc_least_terms.nd rfl (by first | exact Or.inl rfl | exact Or.inr rfl)) (pgs_cons (pg_name (i := 3) sc_least_terms.nd rfl (by first | exact Or.inl rfl | exact Or.inr rfl)) pgs_nil))) (pgs_cons (pg_name (i := 4) sc_least_terms.nd rfl (by first | exact Or.inl rfl | exact Or.inr rfl)) pgs_nil))) (pss_one (ps_if (pt_cmpR op_eq (pv 4) (pe_callB (call_lenK (K := K)) (by rfl) T.m_len (by decide +kernel) (pa_cons (pv 1) pa_nil)) (nomark _)) (pss_one (ps_expr (pe_bm PySem.F.plainAttrs_list PySem.F.slot_list_append PySem.F.type_list_append mt_append (pv 1) (pa_cons (pe_op (op_catAK (K := K)) (pe_ix (ix_listK (K := K)) (pv 1) (pv 2) (fun _ _ => rfl)) (pe_tup (pa_cons (pv 3) pa_nil))) pa_nil)))) pss_nil))))
      (pss_one (ps_ret (pv 1)))))), ?_⟩
    obtain ⟨d, L, rfl, hd, ok, hz, q⟩ := h
    refine ⟨Nat.zero_le _, fun p1 hp1 => ⟨(by show 1 ≤ sizeLine; decide), fun l1 hl1 => ?_⟩⟩
    have nl : H l1 = none := fresh_back (Ex.new hp1) hl1
    have e1 : Ex H (upd (upd H p1 (.tup [])) l1 (.lst [.ref p1])) := (Ex.new hp1).trans (Ex.new hl1)
    have hL1 : LW K (upd (upd H p1 (.tup [])) l1 (.lst [.ref p1])) l1 [[]] := ⟨_, upd_same, .cons ⟨p1, rfl, (Ex.new hl1) _ _ upd_same⟩ .nil⟩
    generalize upd (upd H p1 (.tup [])) l1 (.lst [.ref p1]) = H1 at e1 hL1 ⊢
    have ld : l1 ≠ d := fun z => by rw [z, hd] at nl; cases nl
    refine ⟨d, _, e1 _ _ hd, trivial, fun od => ⟨_, rfl, d, od, _, rfl, upd_same, ?_⟩⟩
    have lwf : ∀ {G : Hp} {ws : List (List Str)} {o : HO}, G d = some (.dT (kvL L)) → LW K G l1 ws → LW K (upd G d o) l1 ws := fun hG ⟨us, h1, h2⟩ => ⟨us, by rw [upd_ne ld]; exact h1, paired_mono (fun v w ⟨a, h3, h4⟩ => ⟨a, h3, by
      rw [upd_ne fun z => by rw [z, hG] at h4; cases h4]
      exact h4⟩) h2⟩
    have lwt : ∀ {G : Hp} {ws : List (List Str)} {o o' : HO}, G d = some (.frz od o) → LW K G l1 ws → LW K (upd G d o') l1 ws := fun hG ⟨us, h1, h2⟩ => ⟨us, by rw [upd_ne ld]; exact h1, paired_mono (fun v w ⟨a, h3, h4⟩ => ⟨a, h3, by
      rw [upd_ne fun z => by rw [z, hG] at h4; cases h4]
      exact h4⟩) h2⟩
    refine for_it walk_itemsT (fun i σ H' => ∃ a b c : Option V, σ = [some (.ref d), some (.ref l1), a, b, c] ∧ Ex (upd H d (.frz od (.dT (kvL L)))) H' ∧ LW K H' l1 (Wp.leastF [[]] (L.take i))) ⟨none, none, none, rfl, ex_frz e1, lwf (e1 _ _ hd) hL1⟩ (fun i σ' H' hi hP => ?_) (fun i x σ' H2 H3 hi hP y => ?_) (fun σ' H' hP => ?_)
    · obtain ⟨_, _, _, _, e2, _⟩ := hP
      exact e2 _ _ upd_same
    · obtain ⟨a, b, c, rfl, e2, hW⟩ := hP
      obtain ⟨t, kq, k, v, hk, rfl, hkq, ht, rfl⟩ := y
      unfold kvL at hk
      rw [List.getElem?_map] at hk
      obtain ⟨e, he, ek⟩ := Option.map_eq_some_iff.mp hk
      cases ek
      have en := Ex.new (o := .tup [.ref kq, .int (e.2 : Int)]) ht
      have il : i < L.length := (List.getElem?_eq_some_iff.mp he).1
      have et : Wp.leastF [[]] (L.take (i + 1)) = Wp.lstep (Wp.leastF [[]] (L.take i)) e := by rw [take_get he, Wp.leastF_snoc]
      have lf := leastF_len (L := L.take i) (acc := [[]]) (n := 0) fun w hw => by rw [List.mem_singleton.mp hw]; exact Nat.le_refl _
      rw [List.length_take] at lf
      have oka := okLt_at ok he
      rw [et]
      generalize Wp.leastF [[]] (L.take i) = acc at hW lf oka ⊢
      have lf2 : acc.length ≤ 1 + L.length := by
        have : [([] : List Str)].length = 1 := rfl
        omega
      refine ⟨t, _, rfl, SqT.of upd_same, rfl, _, _, rfl, kq, _, rfl, SqT.of (en _ _ hkq), rfl, _, _, rfl, _, _, rfl, rfl, _, _, rfl, rfl, ?_⟩
      have hW2 := lw_mono en hW
      have e3 := e2.trans en
      generalize upd H2 t (.tup [.ref kq, .int (e.2 : Int)]) = H3 at hW2 e3 ⊢
      obtain ⟨us, u1, u2⟩ := hW2
      have lu := Paired.length u2
      refine s_when (b := decide (V.int (e.2 : Int) = V.int (us.length : Int))) (et_test (ev_op (ev_var rfl) (ev_len (ev_var rfl) (SqL.of u1)) (rv_eq rfl))) (fun hb H4 e4 => ?_) (fun hb H4 e4 => ?_)
      · have eq : e.2 = acc.length := by
          have z := of_decide_eq_true hb
          injection z with z
          have := Int.ofNat.inj z
          omega
        have lt := oka eq
        have hW4 : LW K H4 l1 acc := ⟨us, e4 _ _ u1, paired_mono (fun _ _ r => wd_mono e4 r) u2⟩
        have gx : acc[e.1.1]? = some acc[e.1.1] := List.getElem?_eq_getElem lt
        have wl : acc[e.1.1].length ≤ 3000 := by
          have := lf.1 _ (List.getElem_mem lt)
          omega
        dsimp only
        refine s_appW (us := us) (w := acc[e.1.1] ++ [e.1.2]) (e4 _ _ u1) (ev_var rfl) (ew_cat (ew_ixLW (i := e.1.1) (ev_var rfl) (ev_var rfl) hW4 gx) (ew_tup (ys := [e.1.2]) (ea_cons (ev_var rfl) ea_nil) (by show 1 ≤ 100000; decide)) (by show acc[e.1.1].length + 1 ≤ _; omega)) (sz_lt (by omega)) fun v H6 e6 hv => ⟨some (.int (e.1.1 : Int)), some (.str e.1.2), some (.int (e.2 : Int)), rfl, ?_, ?_⟩
        · have nl2 : (upd H d (.frz od (.dT (kvL L)))) l1 = none := by
            rw [upd_ne ld]
            exact nl
          exact ((e3.trans e4).trans e6).mut nl2
        · have e7 := e4.trans e6
          have es : Wp.lstep acc e = acc ++ [acc[e.1.1] ++ [e.1.2]] := by
            unfold Wp.lstep
            rw [if_pos eq, List.getD_eq_getElem?_getD, gx]
            rfl
          rw [es]
          have mon : ∀ v w, Wd K H6 v w → Wd K (upd H6 l1 (.lst (us ++ [v]))) v w → True := fun _ _ _ _ => trivial
          have up : ∀ u w (o : HO), Wd K H6 u w → Wd K (upd H6 l1 o) u w := fun u w o ⟨b2, h3, h4⟩ => ⟨b2, h3, by
            rw [upd_ne fun z => by
              rw [z, e7 _ _ u1] at h4
              cases h4]
            exact h4⟩
          exact ⟨_, upd_same, paired_app (paired_mono (fun u w r => up u w _ (wd_mono e7 r)) u2) (.cons (up _ _ _ hv) .nil)⟩
      · have ne : e.2 ≠ acc.length := fun z => by
          rw [z, ← lu, decide_eq_true rfl] at hb
          cases hb
        have es : Wp.lstep acc e = acc := if_neg ne
        refine ⟨_, _, _, rfl, e3.trans e4, ?_⟩
        rw [es]
        exact ⟨us, e4 _ _ u1, paired_mono (fun _ _ r => wd_mono e4 r) u2⟩
    · obtain ⟨a, b, c, rfl, e2, hW⟩ := hP
      have lk1 : (kvL L).length = L.length := List.length_map ..
      rw [lk1, List.take_length] at hW
      refine ⟨e2 _ _ upd_same, ?_⟩
      refine s_ret (ev_var rfl) fun H3 e3 => q l1 _ nl ((back_frz hd e2).trans e3) (lw_mono e3 (lwt (e2 _ _ upd_same) hW))
end
end K35
namespace K35
open PySem PySem.Spec PyProof.Rows L2 Lw Evl LamX Tk
section
variable {P : Program} {w : World} {K : PySem.W.Frag} {mg : Str → Option Value} {base : Heap}
abbrev s_is_list : Stmt := topS 2
theorem sc_is_list : FnScope ["value"] ["value"] (defScope s_is_list) := ⟨rfl, rfl, rfl, by decide +kernel, rfl, by decide +kernel, by decide +kernel⟩
theorem ok_is_list {f : Addr} {fd : FuncData} (F : FunD K "is_list" "is_list" (defArgs s_is_list) (defBody s_is_list) (defScope s_is_list) [] [] f fd) (T : Tx P w K mg base)  : FnOk P w K mg base CX0 1 f fd ["value"] (spIsListX K) := by
  refine fnO F sc_is_list (fun vs H Q E h => ?_) (fun cdv A outer s H vs Q E hr h => ?_)
  · obtain ⟨v, t, b, rfl, _⟩ := h
    rfl
  · skip
    refine ⟨_, PSs.nox ((pss_one (ps_ret (pe_callB (call_isiTK (K := K)) (by rfl) T.m_isinstance (by decide +kernel) (pa_cons (pv 0) (pa_cons (pe_tup (pa_cons (pe_bltn (v := .ty "list") (by rfl) T.m_list (by decide +kernel) rfl) (pa_cons (pe_bltn (v := .ty "tuple") (by rfl) T.m_tuple (by decide +kernel) rfl) pa_nil))) pa_nil)))))), ?_⟩
    obtain ⟨v, t, b, rfl, ht, hc, q⟩ := h
    refine ⟨_, rfl, (by show 2 ≤ sizeLine; decide), fun p hp => ?_⟩
    exact ⟨v, p, [.ty "list", .ty "tuple"], t, [.type "list", .type "tuple"], b, rfl, upd_same, .cons (.ty _) (.cons (.ty _) .nil), tyx_mono (Ex.new hp) ht, hc, q _ (Ex.new hp)⟩
theorem ev_isListX {σ : L2.St} {H : Hp} {te : TE} {v : V} {t : Value} {b : Bool} (h : Ev te σ H v) (ht : TyX K H v t) (hc : PySem.W.kitAny K t [.type "list", .type "tuple"] = some b) : Ev (tCall (spIsListX K) [] E0 (tCons te tNil)) σ H (.bl b) :=
  ev_call (ea_cons h ea_nil) fun H1 e Q q E => ⟨v, t, b, rfl, tyx_mono e ht, hc, q⟩
end
end K35
namespace K35
open PySem PySem.Spec PyProof.Rows L2 Lw Evl LamX Tk
open Rm (R Ok Z0 Zp Fr fr_none)
open LwX (XC XF)
section
variable {P : Program} {w : World} {K : PySem.W.Frag} {mg : Str → Option Value} {base : Heap} {CE : Addr}
abbrev s_is_term : Stmt := topS 38
theorem sc_is_term : FnScope ["value", "part"] ["value"] (defScope s_is_term) := ⟨rfl, rfl, rfl, by decide +kernel, rfl, by decide +kernel, by decide +kernel⟩
theorem ok_is_term {f : Addr} {fd : FuncData} (F : FunD K "is_term" "is_term" (defArgs s_is_term) (defBody s_is_term) (defScope s_is_term) [] [] f fd) (T : Tx P w K mg base) (dis_letter : CalO P w K mg base CX0 1 "is_letter" ["value"] (spLetter K)) : FnOk P w K mg base CX0 2 f fd ["value"] (spTermX K) := by
  refine fnO F sc_is_term (fun vs H Q E h => ?_) (fun cdv A outer s H vs Q E hr h => ?_)
  · obtain ⟨v, b, rfl, _⟩ := h
    rfl
  · skip
    refine ⟨_, PSs.nox ((pss_cons (ps_if (PW.pt (pw_or (pt_not (pt_val (pe_callB (call_isiK1 (K := K)) (by rfl) T.m_isinstance (by decide +kernel) (pa_cons (pv 0) (pa_cons (pe_bltn (v := .ty "tuple") (by rfl) T.m_tuple (by decide +kernel) rfl) pa_nil))))) (pw_or1 (pt_not (pt_truthK (K := K) (pv 0)))))) (pss_one (ps_ret pe_bl)) pss_nil)
      (pss_one (ps_ret (pe_callB (cr_allK (K := K)) (by rfl) T.m_all (by decide +kernel) (pa_cons (pe_lc (own := [("part", 1)]) (g := gName 1) (tt := tYes) rfl sc_is_term.nd (pi_tupK (K := K) (pv 0)) (blkOk_by (own := [("part", 1)]) (N := ["value", "part"]) (sc := defScope s_is_term) (by decide +kernel)) (fun _ _ _ _ _ => pg_name (i := 1) sc_is_term.nd rfl (by first | exact Or.inl rfl | exact Or.inr rfl)) (fun _ _ _ _ _ => pts_nil) (fun _ _ _ _ _ => (pe_calO dis_letter hr pass0 (pa_cons (pv 1) pa_nil)))) pa_nil)))))), ?_⟩
    obtain ⟨v, b, rfl, hb, q⟩ := h
    cases hb with
    | @tup a vs bs h hl hb =>
      refine q_when (b := !true || !(!vs.isEmpty)) (et_or (et_not (et_B fun H1 e Q q => ⟨_, rfl, _, .ty "tuple", .type "tuple", .type "tuple", true, rfl, .ty _, tyx_tup (SqT.of (e _ _ h)), rfl, q H1 (Ex.refl H1)⟩)) (fun _ => et_not (et_truT (ev_var rfl) h))) (fun z H1 e => ?_) (fun z H1 e => ?_)
      · refine s_ret ev_c fun H2 e2 => ?_
        have : vs.isEmpty = true := by
          cases c : vs.isEmpty with
          | true => rfl
          | false => rw [c] at z; cases z
        have y := q H2 (e.trans e2)
        rw [this] at y
        exact y
      · have : vs.isEmpty = false := by
          cases c : vs.isEmpty with
          | false => rfl
          | true => rw [c] at z; cases z
        refine s_ret (ev_all (bs := bs) (el_lcT (fun i => .bl (bs.getD i false)) (ev_var rfl) (SqT.of (e _ _ h)) hl (fun _ => rfl) (fun i x H2 e2 hx => ?_)) ?_) fun H2 e3 => ?_
        · obtain ⟨y, hy, r⟩ := paired_get hb hx
          have hg : bs.getD i false = y := by
            rw [List.getD_eq_getElem?_getD, hy]
            rfl
          show Ev _ _ _ (V.bl (bs.getD i false))
          rw [hg]
          exact ev_letter (ev_var rfl) (lb_mono (e.trans e2) r)
        · rw [Paired.length hb]
          exact range_get bs false V.bl
        · have z := q H2 (e.trans e3)
          rw [this] at z
          exact z
    | @oth _ t ht hn =>
      refine q_when (b := !false || false) (et_or (et_not (et_B fun H1 e Q q => ⟨_, rfl, _, .ty "tuple", t, .type "tuple", false, rfl, .ty _, tyx_mono e ht, hn, q H1 (Ex.refl H1)⟩)) (fun z => by cases z)) (fun _ H1 e => ?_) (fun z => by cases z)
      exact s_ret ev_c fun H2 e2 => q H2 (e.trans e2)
abbrev s_is_pair : Stmt := topS 39
theorem sc_is_pair : FnScope ["value"] ["value"] (defScope s_is_pair) := ⟨rfl, rfl, rfl, by decide +kernel, rfl, by decide +kernel, by decide +kernel⟩
theorem ok_is_pair {f : Addr} {fd : FuncData} (F : FunD K "is_pair" "is_pair" (defArgs s_is_pair) (defBody s_is_pair) (defScope s_is_pair) [] [] f fd) (T : Tx P w K mg base) (dis_term : CalO P w K mg base CX0 2 "is_term" ["value"] (spTermX K)) : FnOk P w K mg base CX0 3 f fd ["value"] (spPairX K) := by
  refine fnO F sc_is_pair (fun vs H Q E h => ?_) (fun cdv A outer s H vs Q E hr h => ?_)
  · obtain ⟨v, b, rfl, _⟩ := h
    rfl
  · skip
    refine ⟨_, PSs.nox ((pss_one (ps_ret (pe_and (pe_callB (call_isiK1 (K := K)) (by rfl) T.m_isinstance (by decide +kernel) (pa_cons (pv 0) (pa_cons (pe_bltn (v := .ty "tuple") (by rfl) T.m_tuple (by decide +kernel) rfl) pa_nil))) (pe_and (pe_cmpR op_eq (pe_callB (call_lenK (K := K)) (by rfl) T.m_len (by decide +kernel) (pa_cons (pv 0) pa_nil)) pe_int (nomark _)) (pe_and (pe_calO dis_term hr pass0 (pa_cons (pe_ix (ix_tupK (K := K)) (pv 0) pe_int (fun _ _ => rfl)) pa_nil)) (pe_one (pe_calO dis_term hr pass0 (pa_cons (pe_ix (ix_tupK (K := K)) (pv 0) pe_int (fun _ _ => rfl)) pa_nil))))))))), ?_⟩
    obtain ⟨v, b, rfl, hb, q⟩ := h
    cases hb with
    | @two a x y b c h hx hy =>
      have hi : Ev (tCB (rIsi K) (tCons (tVar 0) (tCons (tC (.ty "tuple")) tNil))) [some (.ref a)] H (.bl true) := fun H1 e Q q => ⟨_, rfl, _, .ty "tuple", .type "tuple", .type "tuple", true, rfl, .ty _, tyx_tup (SqT.of (e _ _ h)), rfl, q H1 (Ex.refl H1)⟩
      have two : decide (V.int (([x, y] : List V).length : Int) = V.int 2) = true := rfl
      refine s_ret (v := .bl (true && (decide (V.int (([x, y] : List V).length : Int) = V.int 2) && (b && c)))) (ev_andV hi fun _ => ev_andV (ev_op (ev_lenT (ev_var rfl) (SqT.of h)) ev_c (rv_eq rfl)) fun _ => ev_andV (ev_termX (ev_at0 (ev_var rfl) h) hx) fun _ => ev_termX (ev_at1 (ev_var rfl) h) hy) fun H1 e => ?_
      rw [two]
      exact q H1 e
    | @far a vs h hn =>
      have hi : Ev (tCB (rIsi K) (tCons (tVar 0) (tCons (tC (.ty "tuple")) tNil))) [some (.ref a)] H (.bl true) := fun H1 e Q q => ⟨_, rfl, _, .ty "tuple", .type "tuple", .type "tuple", true, rfl, .ty _, tyx_tup (SqT.of (e _ _ h)), rfl, q H1 (Ex.refl H1)⟩
      have two : decide (V.int (vs.length : Int) = V.int 2) = false := decide_eq_false fun z => hn (by
        injection z with z
        omega)
      refine s_ret (v := .bl (true && (decide (V.int (vs.length : Int) = V.int 2) && false))) (ev_andV hi fun _ => ev_andV (ev_op (ev_lenT (ev_var rfl) (SqT.of h)) ev_c (rv_eq rfl)) fun z => by rw [two] at z; cases z) fun H1 e => ?_
      rw [two]
      exact q H1 e
    | @oth _ t ht hn =>
      exact s_ret (v := .bl (false && false)) (ev_andV (fun H1 e Q q => ⟨_, rfl, _, .ty "tuple", t, .type "tuple", false, rfl, .ty _, tyx_mono e ht, hn, q H1 (Ex.refl H1)⟩) fun z => by cases z) fun H1 e => q H1 e
abbrev s_need_term : Stmt := topS 40
theorem sc_need_term : FnScope ["value"] ["value"] (defScope s_need_term) := ⟨rfl, rfl, rfl, by decide +kernel, rfl, by decide +kernel, by decide +kernel⟩
theorem ok_need_term {f : Addr} {fd : FuncData} (F : FunD K "need_term" "need_term" (defArgs s_need_term) (defBody s_need_term) (defScope s_need_term) [] [] f fd) (T : Tx P w K mg base) (xInvalidTerm : XRz P w K mg base 1 "InvalidTerm" CE "value") (dis_term : CalO P w K mg base CX0 2 "is_term" ["value"] (spTermX K)) : FnOk P w K mg base (L2.CX P w) 3 f fd ["value"] (spNeedT K CE) := by
  refine fnO F sc_need_term (fun vs H Q E h => ?_) (fun cdv A outer s H vs Q E hr h => ?_)
  · obtain ⟨v, rfl, _⟩ := h
    rfl
  · skip
    refine ⟨_, (pss_one (ps_if (pt_not (pt_val (pe_calO dis_term hr pass0 (pa_cons (pv 0) pa_nil)))) (pss_one (ps_rz xInvalidTerm hr rfl (takes_of rfl rfl rfl rfl) (pv 0))) pss_nil)), ?_⟩
    obtain ⟨v, rfl, ⟨hb, q⟩ | ⟨hb, hE⟩⟩ := h
    · exact s_when (b := !true) (et_not (et_B (ev_termX (ev_var rfl) hb))) (fun z => by cases z) (fun _ H1 e => q H1 e)
    · exact s_when (b := !false) (et_not (et_B (ev_termX (ev_var rfl) hb))) (fun _ H2 e2 => ⟨_, rfl, fun d H5 e5 hd => hE d H5 (e2.trans e5) hd⟩) (fun z => by cases z)
abbrev s_need_things : Stmt := topS 41
theorem sc_need_things : FnScope ["things", "position", "thing"] ["things"] (defScope s_need_things) := ⟨rfl, rfl, rfl, by decide +kernel, rfl, by decide +kernel, by decide +kernel⟩
theorem ok_need_things {f : Addr} {fd : FuncData} (F : FunD K "need_things" "need_things" (defArgs s_need_things) (defBody s_need_things) (defScope s_need_things) [] [] f fd) (T : Tx P w K mg base) (xInvalidThings : XRz P w K mg base 1 "InvalidThings" CE "position") (dis_list : CalO P w K mg base CX0 1 "is_list" ["value"] (spIsListX K)) (dis_letter : CalO P w K mg base CX0 1 "is_letter" ["value"] (spLetter K)) : FnOk P w K mg base (L2.CX P w) 3 f fd ["things"] (spNeedS K (LB K) CE) := by
  refine fnO F sc_need_things (fun vs H Q E h => ?_) (fun cdv A outer s H vs Q E hr h => ?_)
  · obtain ⟨v, rfl, _⟩ := h
    rfl
  · skip
    refine ⟨_, (pss_cons (ps_if (pt_not (pt_val (pe_calO dis_list hr pass0 (pa_cons (pv 0) pa_nil)))) (pss_one (ps_rz xInvalidThings hr rfl (takes_of rfl rfl rfl rfl) pe_non)) pss_nil)
      (pss_one (ps_for (passes_of rfl) rfl (pi_enumSK (K := K) (by rfl) T.m_enumerate (pa_cons (pv 0) pa_nil)) (pg_tup (n := 2) rfl (pgs_cons (pg_name (i := 1) sc_need_things.nd rfl (by first | exact Or.inl rfl | exact Or.inr rfl)) (pgs_cons (pg_name (i := 2) sc_need_things.nd rfl (by first | exact Or.inl rfl | exact Or.inr rfl)) pgs_nil))) (pss_one (ps_if (pt_not (pt_val (pe_calO dis_letter hr pass0 (pa_cons (pv 2) pa_nil)))) (pss_one (ps_rz xInvalidThings hr rfl (takes_of rfl rfl rfl rfl) (pv 1))) pss_nil))))), ?_⟩
    rcases h with ⟨v, rfl, ⟨p, hb, hE⟩ | ⟨hg, q⟩⟩
    · rcases hb with ⟨⟨t, hty, hk⟩, rfl⟩ | ⟨l, us, m, rest, rfl, hl, hp, rfl⟩
      · exact q_when (b := !false) (et_not (et_B (ev_isListX (ev_var rfl) hty hk))) (fun _ H2 e2 => fun d H5 e5 hd => hE d H5 (e2.trans e5) hd) (fun z => by cases z)
      obtain ⟨t, hty, hk⟩ := sqq_ty hl
      refine q_when (b := !true) (et_not (et_B (ev_isListX (ev_var rfl) hty hk))) (fun z => by cases z) fun _ H1 e1 => ?_
      have ml : m < us.length := by
        have := Paired.length hp
        rw [List.length_append, List.length_replicate, List.length_cons] at this
        omega
      have step : ∀ (i : Nat) (x : V) (H2 : Hp), Ex H1 H2 → i ≤ m → us[i]? = some x → ∃ b, LB K H2 x b ∧ (i < m → b = true) ∧ (i = m → b = false) := fun i x H2 e2 hi hx => by
        obtain ⟨b, hb, r⟩ := paired_get hp hx
        refine ⟨b, lb_mono (e1.trans e2) r, fun lt => ?_, fun e => ?_⟩
        · rw [List.getElem?_append_left (by rw [List.length_replicate]; exact lt), List.getElem?_replicate, if_pos lt] at hb
          exact (Option.some.inj hb).symm
        · subst e
          rw [List.getElem?_append_right (by rw [List.length_replicate]; exact Nat.le_refl _), List.length_replicate, Nat.sub_self] at hb
          exact (Option.some.inj hb).symm
      refine ⟨_, rfl, l, rfl, ?_⟩
      rcases sqq_ls hl with h1 | h1
      · refine .inl ⟨us, ex_l e1 h1, for_it walk_enum (fun i σ H2 => i ≤ m ∧ ∃ a b, σ = [some (.ref l), a, b] ∧ Ex H1 H2) ⟨Nat.zero_le _, _, _, rfl, Ex.refl H1⟩ (fun _ _ H2 _ p => ex_l p.2.choose_spec.choose_spec.2 (ex_l e1 h1)) (fun i x2 σ H2 H3 hi p y => ?_) fun σ H2 p => absurd p.1 (by omega)⟩
        obtain ⟨im, a, b, rfl, e2⟩ := p
        obtain ⟨T, xi, xv, rfl, hT, rfl, hi1, hv1⟩ := y
        have e3 : Ex H1 (upd H2 T (.tup [xi, xv])) := e2.trans (Ex.new hT)
        obtain rfl : xi = .int (i : Int) := (Option.some.inj hi1).symm
        obtain ⟨c, hc, c1, c2⟩ := step i xv _ e3 im hv1
        refine ⟨T, _, rfl, SqT.of upd_same, rfl, _, _, rfl, _, _, rfl, rfl, ?_⟩
        refine s_when (b := !c) (et_not (et_B (ev_letter (ev_var rfl) hc))) (fun z H5 e5 => ?_) fun z H5 e5 => ?_
        · have cf : c = false := by cases c <;> simp_all
          have im2 : i = m := by
            rcases Nat.lt_or_eq_of_le im with lt | e
            · rw [c1 lt] at cf
              cases cf
            · exact e
          subst im2
          exact ⟨_, rfl, fun d H6 e6 hd => hE d H6 (((e1.trans e3).trans e5).trans e6) hd⟩
        · have ct : c = true := by cases c <;> simp_all
          refine ⟨?_, _, _, rfl, e3.trans e5⟩
          rcases Nat.lt_or_eq_of_le im with lt | e
          · exact lt
          · rw [c2 e] at ct
            cases ct
      · refine .inr ⟨us, ex_t e1 h1, for_it walkEnumT (fun i σ H2 => i ≤ m ∧ ∃ a b, σ = [some (.ref l), a, b] ∧ Ex H1 H2) ⟨Nat.zero_le _, _, _, rfl, Ex.refl H1⟩ (fun _ _ H2 _ p => ex_t p.2.choose_spec.choose_spec.2 (ex_t e1 h1)) (fun i x2 σ H2 H3 hi p y => ?_) fun σ H2 p => absurd p.1 (by omega)⟩
        obtain ⟨im, a, b, rfl, e2⟩ := p
        obtain ⟨T, xi, xv, rfl, hT, rfl, hi1, hv1⟩ := y
        have e3 : Ex H1 (upd H2 T (.tup [xi, xv])) := e2.trans (Ex.new hT)
        obtain rfl : xi = .int (i : Int) := (Option.some.inj hi1).symm
        obtain ⟨c, hc, c1, c2⟩ := step i xv _ e3 im hv1
        refine ⟨T, _, rfl, SqT.of upd_same, rfl, _, _, rfl, _, _, rfl, rfl, ?_⟩
        refine s_when (b := !c) (et_not (et_B (ev_letter (ev_var rfl) hc))) (fun z H5 e5 => ?_) fun z H5 e5 => ?_
        · have cf : c = false := by cases c <;> simp_all
          have im2 : i = m := by
            rcases Nat.lt_or_eq_of_le im with lt | e
            · rw [c1 lt] at cf
              cases cf
            · exact e
          subst im2
          exact ⟨_, rfl, fun d H6 e6 hd => hE d H6 (((e1.trans e3).trans e5).trans e6) hd⟩
        · have ct : c = true := by cases c <;> simp_all
          refine ⟨?_, _, _, rfl, e3.trans e5⟩
          rcases Nat.lt_or_eq_of_le im with lt | e
          · exact lt
          · rw [c2 e] at ct
            cases ct
    · obtain ⟨l, us, rfl, hl, hp⟩ := hg
      obtain ⟨t, hty, hk⟩ := sqq_ty hl
      refine q_when (b := !true) (et_not (et_B (ev_isListX (ev_var rfl) hty hk))) (fun z => by cases z) fun _ H1 e1 => ?_
      refine ⟨_, rfl, l, rfl, ?_⟩
      rcases sqq_ls hl with h1 | h1
      · refine .inl ⟨us, ex_l e1 h1, for_it walk_enum (fun i σ H2 => ∃ a b, σ = [some (.ref l), a, b] ∧ Ex H1 H2) ⟨_, _, rfl, Ex.refl H1⟩ (fun _ _ H2 _ p => ex_l p.choose_spec.choose_spec.2 (ex_l e1 h1)) (fun i x2 σ H2 H3 hi p y => ?_) fun σ H2 p => ?_⟩
        · obtain ⟨a, b, rfl, e2⟩ := p
          obtain ⟨T, xi, xv, rfl, hT, rfl, hi1, hv1⟩ := y
          have e3 : Ex H1 (upd H2 T (.tup [xi, xv])) := e2.trans (Ex.new hT)
          obtain ⟨c, hc, r⟩ := paired_get hp hv1
          have ct : c = true := List.eq_of_mem_replicate (List.mem_of_getElem? hc)
          subst ct
          refine ⟨T, _, rfl, SqT.of upd_same, rfl, _, _, rfl, _, _, rfl, rfl, ?_⟩
          exact s_when (b := !true) (et_not (et_B (ev_letter (ev_var rfl) (lb_mono (e1.trans e3) r)))) (fun z => by cases z) fun z H5 e5 => ⟨_, _, rfl, e3.trans e5⟩
        · obtain ⟨a, b, rfl, e2⟩ := p
          exact q H2 (e1.trans e2)
      · refine .inr ⟨us, ex_t e1 h1, for_it walkEnumT (fun i σ H2 => ∃ a b, σ = [some (.ref l), a, b] ∧ Ex H1 H2) ⟨_, _, rfl, Ex.refl H1⟩ (fun _ _ H2 _ p => ex_t p.choose_spec.choose_spec.2 (ex_t e1 h1)) (fun i x2 σ H2 H3 hi p y => ?_) fun σ H2 p => ?_⟩
        · obtain ⟨a, b, rfl, e2⟩ := p
          obtain ⟨T, xi, xv, rfl, hT, rfl, hi1, hv1⟩ := y
          have e3 : Ex H1 (upd H2 T (.tup [xi, xv])) := e2.trans (Ex.new hT)
          obtain ⟨c, hc, r⟩ := paired_get hp hv1
          have ct : c = true := List.eq_of_mem_replicate (List.mem_of_getElem? hc)
          subst ct
          refine ⟨T, _, rfl, SqT.of upd_same, rfl, _, _, rfl, _, _, rfl, rfl, ?_⟩
          exact s_when (b := !true) (et_not (et_B (ev_letter (ev_var rfl) (lb_mono (e1.trans e3) r)))) (fun z => by cases z) fun z H5 e5 => ⟨_, _, rfl, e3.trans e5⟩
        · obtain ⟨a, b, rfl, e2⟩ := p
          exact q H2 (e1.trans e2)
abbrev s_need_terms : Stmt := topS 42
theorem sc_need_terms : FnScope ["terms", "position", "term"] ["terms"] (defScope s_need_terms) := ⟨rfl, rfl, rfl, by decide +kernel, rfl, by decide +kernel, by decide +kernel⟩
theorem ok_need_terms {f : Addr} {fd : FuncData} (F : FunD K "need_terms" "need_terms" (defArgs s_need_terms) (defBody s_need_terms) (defScope s_need_terms) [] [] f fd) (T : Tx P w K mg base) (xInvalidTerms : XRz P w K mg base 1 "InvalidTerms" CE "position") (dis_list : CalO P w K mg base CX0 1 "is_list" ["value"] (spIsListX K)) (dis_term : CalO P w K mg base CX0 2 "is_term" ["value"] (spTermX K)) : FnOk P w K mg base (L2.CX P w) 3 f fd ["terms"] (spNeedS K (TB K) CE) := by
  refine fnO F sc_need_terms (fun vs H Q E h => ?_) (fun cdv A outer s H vs Q E hr h => ?_)
  · obtain ⟨v, rfl, _⟩ := h
    rfl
  · skip
    refine ⟨_, (pss_cons (ps_if (pt_not (pt_val (pe_calO dis_list hr pass0 (pa_cons (pv 0) pa_nil)))) (pss_one (ps_rz xInvalidTerms hr rfl (takes_of rfl rfl rfl rfl) pe_non)) pss_nil)
      (pss_one (ps_for (passes_of rfl) rfl (pi_enumSK (K := K) (by rfl) T.m_enumerate (pa_cons (pv 0) pa_nil)) (pg_tup (n := 2) rfl (pgs_cons (pg_name (i := 1) sc_need_terms.nd rfl (by first | exact Or.inl rfl | exact Or.inr rfl)) (pgs_cons (pg_name (i := 2) sc_need_terms.nd rfl (by first | exact Or.inl rfl | exact Or.inr rfl)) pgs_nil))) (pss_one (ps_if (pt_not (pt_val (pe_calO dis_term hr pass0 (pa_cons (pv 2) pa_nil)))) (pss_one (ps_rz xInvalidTerms hr rfl (takes_of rfl rfl rfl rfl) (pv 1))) pss_nil))))), ?_⟩
    rcases h with ⟨v, rfl, ⟨p, hb, hE⟩ | ⟨hg, q⟩⟩
    · rcases hb with ⟨⟨t, hty, hk⟩, rfl⟩ | ⟨l, us, m, rest, rfl, hl, hp, rfl⟩
      · exact q_when (b := !false) (et_not (et_B (ev_isListX (ev_var rfl) hty hk))) (fun _ H2 e2 => fun d H5 e5 hd => hE d H5 (e2.trans e5) hd) (fun z => by cases z)
      obtain ⟨t, hty, hk⟩ := sqq_ty hl
      refine q_when (b := !true) (et_not (et_B (ev_isListX (ev_var rfl) hty hk))) (fun z => by cases z) fun _ H1 e1 => ?_
      have ml : m < us.length := by
        have := Paired.length hp
        rw [List.length_append, List.length_replicate, List.length_cons] at this
        omega
      have step : ∀ (i : Nat) (x : V) (H2 : Hp), Ex H1 H2 → i ≤ m → us[i]? = some x → ∃ b, TB K H2 x b ∧ (i < m → b = true) ∧ (i = m → b = false) := fun i x H2 e2 hi hx => by
        obtain ⟨b, hb, r⟩ := paired_get hp hx
        refine ⟨b, tb_mono (e1.trans e2) r, fun lt => ?_, fun e => ?_⟩
        · rw [List.getElem?_append_left (by rw [List.length_replicate]; exact lt), List.getElem?_replicate, if_pos lt] at hb
          exact (Option.some.inj hb).symm
        · subst e
          rw [List.getElem?_append_right (by rw [List.length_replicate]; exact Nat.le_refl _), List.length_replicate, Nat.sub_self] at hb
          exact (Option.some.inj hb).symm
      refine ⟨_, rfl, l, rfl, ?_⟩
      rcases sqq_ls hl with h1 | h1
      · refine .inl ⟨us, ex_l e1 h1, for_it walk_enum (fun i σ H2 => i ≤ m ∧ ∃ a b, σ = [some (.ref l), a, b] ∧ Ex H1 H2) ⟨Nat.zero_le _, _, _, rfl, Ex.refl H1⟩ (fun _ _ H2 _ p => ex_l p.2.choose_spec.choose_spec.2 (ex_l e1 h1)) (fun i x2 σ H2 H3 hi p y => ?_) fun σ H2 p => absurd p.1 (by omega)⟩
        obtain ⟨im, a, b, rfl, e2⟩ := p
        obtain ⟨T, xi, xv, rfl, hT, rfl, hi1, hv1⟩ := y
        have e3 : Ex H1 (upd H2 T (.tup [xi, xv])) := e2.trans (Ex.new hT)
        obtain rfl : xi = .int (i : Int) := (Option.some.inj hi1).symm
        obtain ⟨c, hc, c1, c2⟩ := step i xv _ e3 im hv1
        refine ⟨T, _, rfl, SqT.of upd_same, rfl, _, _, rfl, _, _, rfl, rfl, ?_⟩
        refine s_when (b := !c) (et_not (et_B (ev_termX (ev_var rfl) hc))) (fun z H5 e5 => ?_) fun z H5 e5 => ?_
        · have cf : c = false := by cases c <;> simp_all
          have im2 : i = m := by
            rcases Nat.lt_or_eq_of_le im with lt | e
            · rw [c1 lt] at cf
              cases cf
            · exact e
          subst im2
          exact ⟨_, rfl, fun d H6 e6 hd => hE d H6 (((e1.trans e3).trans e5).trans e6) hd⟩
        · have ct : c = true := by cases c <;> simp_all
          refine ⟨?_, _, _, rfl, e3.trans e5⟩
          rcases Nat.lt_or_eq_of_le im with lt | e
          · exact lt
          · rw [c2 e] at ct
            cases ct
      · refine .inr ⟨us, ex_t e1 h1, for_it walkEnumT (fun i σ H2 => i ≤ m ∧ ∃ a b, σ = [some (.ref l), a, b] ∧ Ex H1 H2) ⟨Nat.zero_le _, _, _, rfl, Ex.refl H1⟩ (fun _ _ H2 _ p => ex_t p.2.choose_spec.choose_spec.2 (ex_t e1 h1)) (fun i x2 σ H2 H3 hi p y => ?_) fun σ H2 p => absurd p.1 (by omega)⟩
        obtain ⟨im, a, b, rfl, e2⟩ := p
        obtain ⟨T, xi, xv, rfl, hT, rfl, hi1, hv1⟩ := y
        have e3 : Ex H1 (upd H2 T (.tup [xi, xv])) := e2.trans (Ex.new hT)
        obtain rfl : xi = .int (i : Int) := (Option.some.inj hi1).symm
        obtain ⟨c, hc, c1, c2⟩ := step i xv _ e3 im hv1
        refine ⟨T, _, rfl, SqT.of upd_same, rfl, _, _, rfl, _, _, rfl, rfl, ?_⟩
        refine s_when (b := !c) (et_not (et_B (ev_termX (ev_var rfl) hc))) (fun z H5 e5 => ?_) fun z H5 e5 => ?_
        · have cf : c = false := by cases c <;> simp_all
          have im2 : i = m := by
            rcases Nat.lt_or_eq_of_le im with lt | e
            · rw [c1 lt] at cf
              cases cf
            · exact e
          subst im2
          exact ⟨_, rfl, fun d H6 e6 hd => hE d H6 (((e1.trans e3).trans e5).trans e6) hd⟩
        · have ct : c = true := by cases c <;> simp_all
          refine ⟨?_, _, _, rfl, e3.trans e5⟩
          rcases Nat.lt_or_eq_of_le im with lt | e
          · exact lt
          · rw [c2 e] at ct
            cases ct
    · obtain ⟨l, us, rfl, hl, hp⟩ := hg
      obtain ⟨t, hty, hk⟩ := sqq_ty hl
      refine q_when (b := !true) (et_not (et_B (ev_isListX (ev_var rfl) hty hk))) (fun z => by cases z) fun _ H1 e1 => ?_
      refine ⟨_, rfl, l, rfl, ?_⟩
      rcases sqq_ls hl with h1 | h1
      · refine .inl ⟨us, ex_l e1 h1, for_it walk_enum (fun i σ H2 => ∃ a b, σ = [some (.ref l), a, b] ∧ Ex H1 H2) ⟨_, _, rfl, Ex.refl H1⟩ (fun _ _ H2 _ p => ex_l p.choose_spec.choose_spec.2 (ex_l e1 h1)) (fun i x2 σ H2 H3 hi p y => ?_) fun σ H2 p => ?_⟩
        · obtain ⟨a, b, rfl, e2⟩ := p
          obtain ⟨T, xi, xv, rfl, hT, rfl, hi1, hv1⟩ := y
          have e3 : Ex H1 (upd H2 T (.tup [xi, xv])) := e2.trans (Ex.new hT)
          obtain ⟨c, hc, r⟩ := paired_get hp hv1
          have ct : c = true := List.eq_of_mem_replicate (List.mem_of_getElem? hc)
          subst ct
          refine ⟨T, _, rfl, SqT.of upd_same, rfl, _, _, rfl, _, _, rfl, rfl, ?_⟩
          exact s_when (b := !true) (et_not (et_B (ev_termX (ev_var rfl) (tb_mono (e1.trans e3) r)))) (fun z => by cases z) fun z H5 e5 => ⟨_, _, rfl, e3.trans e5⟩
        · obtain ⟨a, b, rfl, e2⟩ := p
          exact q H2 (e1.trans e2)
      · refine .inr ⟨us, ex_t e1 h1, for_it walkEnumT (fun i σ H2 => ∃ a b, σ = [some (.ref l), a, b] ∧ Ex H1 H2) ⟨_, _, rfl, Ex.refl H1⟩ (fun _ _ H2 _ p => ex_t p.choose_spec.choose_spec.2 (ex_t e1 h1)) (fun i x2 σ H2 H3 hi p y => ?_) fun σ H2 p => ?_⟩
        · obtain ⟨a, b, rfl, e2⟩ := p
          obtain ⟨T, xi, xv, rfl, hT, rfl, hi1, hv1⟩ := y
          have e3 : Ex H1 (upd H2 T (.tup [xi, xv])) := e2.trans (Ex.new hT)
          obtain ⟨c, hc, r⟩ := paired_get hp hv1
          have ct : c = true := List.eq_of_mem_replicate (List.mem_of_getElem? hc)
          subst ct
          refine ⟨T, _, rfl, SqT.of upd_same, rfl, _, _, rfl, _, _, rfl, rfl, ?_⟩
          exact s_when (b := !true) (et_not (et_B (ev_termX (ev_var rfl) (tb_mono (e1.trans e3) r)))) (fun z => by cases z) fun z H5 e5 => ⟨_, _, rfl, e3.trans e5⟩
        · obtain ⟨a, b, rfl, e2⟩ := p
          exact q H2 (e1.trans e2)
abbrev s_need_pairs : Stmt := topS 43
theorem sc_need_pairs : FnScope ["pairs", "position", "pair"] ["pairs"] (defScope s_need_pairs) := ⟨rfl, rfl, rfl, by decide +kernel, rfl, by decide +kernel, by decide +kernel⟩
theorem ok_need_pairs {f : Addr} {fd : FuncData} (F : FunD K "need_pairs" "need_pairs" (defArgs s_need_pairs) (defBody s_need_pairs) (defScope s_need_pairs) [] [] f fd) (T : Tx P w K mg base) (xInvalidPairs : XRz P w K mg base 1 "InvalidPairs" CE "position") (dis_list : CalO P w K mg base CX0 1 "is_list" ["value"] (spIsListX K)) (dis_pair : CalO P w K mg base CX0 3 "is_pair" ["value"] (spPairX K)) : FnOk P w K mg base (L2.CX P w) 4 f fd ["pairs"] (spNeedS K (PB K) CE) := by
  refine fnO F sc_need_pairs (fun vs H Q E h => ?_) (fun cdv A outer s H vs Q E hr h => ?_)
  · obtain ⟨v, rfl, _⟩ := h
    rfl
  · skip
    refine ⟨_, (pss_cons (ps_if (pt_not (pt_val (pe_calO dis_list hr pass0 (pa_cons (pv 0) pa_nil)))) (pss_one (ps_rz xInvalidPairs hr rfl (takes_of rfl rfl rfl rfl) pe_non)) pss_nil)
      (pss_one (ps_for (passes_of rfl) rfl (pi_enumSK (K := K) (by rfl) T.m_enumerate (pa_cons (pv 0) pa_nil)) (pg_tup (n := 2) rfl (pgs_cons (pg_name (i := 1) sc_need_pairs.nd rfl (by first | exact Or.inl rfl | exact Or.inr rfl)) (pgs_cons (pg_name (i := 2) sc_need_pairs.nd rfl (by first | exact Or.inl rfl | exact Or.inr rfl)) pgs_nil))) (pss_one (ps_if (pt_not (pt_val (pe_calO dis_pair hr pass0 (pa_cons (pv 2) pa_nil)))) (pss_one (ps_rz xInvalidPairs hr rfl (takes_of rfl rfl rfl rfl) (pv 1))) pss_nil))))), ?_⟩
    rcases h with ⟨v, rfl, ⟨p, hb, hE⟩ | ⟨hg, q⟩⟩
    · rcases hb with ⟨⟨t, hty, hk⟩, rfl⟩ | ⟨l, us, m, rest, rfl, hl, hp, rfl⟩
      · exact q_when (b := !false) (et_not (et_B (ev_isListX (ev_var rfl) hty hk))) (fun _ H2 e2 => fun d H5 e5 hd => hE d H5 (e2.trans e5) hd) (fun z => by cases z)
      obtain ⟨t, hty, hk⟩ := sqq_ty hl
      refine q_when (b := !true) (et_not (et_B (ev_isListX (ev_var rfl) hty hk))) (fun z => by cases z) fun _ H1 e1 => ?_
      have ml : m < us.length := by
        have := Paired.length hp
        rw [List.length_append, List.length_replicate, List.length_cons] at this
        omega
      have step : ∀ (i : Nat) (x : V) (H2 : Hp), Ex H1 H2 → i ≤ m → us[i]? = some x → ∃ b, PB K H2 x b ∧ (i < m → b = true) ∧ (i = m → b = false) := fun i x H2 e2 hi hx => by
        obtain ⟨b, hb, r⟩ := paired_get hp hx
        refine ⟨b, pb_mono (e1.trans e2) r, fun lt => ?_, fun e => ?_⟩
        · rw [List.getElem?_append_left (by rw [List.length_replicate]; exact lt), List.getElem?_replicate, if_pos lt] at hb
          exact (Option.some.inj hb).symm
        · subst e
          rw [List.getElem?_append_right (by rw [List.length_replicate]; exact Nat.le_refl _), List.length_replicate, Nat.sub_self] at hb
          exact (Option.some.inj hb).symm
      refine ⟨_, rfl, l, rfl, ?_⟩
      rcases sqq_ls hl with h1 | h1
      · refine .inl ⟨us, ex_l e1 h1, for_it walk_enum (fun i σ H2 => i ≤ m ∧ ∃ a b, σ = [some (.ref l), a, b] ∧ Ex H1 H2) ⟨Nat.zero_le _, _, _, rfl, Ex.refl H1⟩ (fun _ _ H2 _ p => ex_l p.2.choose_spec.choose_spec.2 (ex_l e1 h1)) (fun i x2 σ H2 H3 hi p y => ?_) fun σ H2 p => absurd p.1 (by omega)⟩
        obtain ⟨im, a, b, rfl, e2⟩ := p
        obtain ⟨T, xi, xv, rfl, hT, rfl, hi1, hv1⟩ := y
        have e3 : Ex H1 (upd H2 T (.tup [xi, xv])) := e2.trans (Ex.new hT)
        obtain rfl : xi = .int (i : Int) := (Option.some.inj hi1).symm
        obtain ⟨c, hc, c1, c2⟩ := step i xv _ e3 im hv1
        refine ⟨T, _, rfl, SqT.of upd_same, rfl, _, _, rfl, _, _, rfl, rfl, ?_⟩
        refine s_when (b := !c) (et_not (et_B (ev_pairX (ev_var rfl) hc))) (fun z H5 e5 => ?_) fun z H5 e5 => ?_
        · have cf : c = false := by cases c <;> simp_all
          have im2 : i = m := by
            rcases Nat.lt_or_eq_of_le im with lt | e
            · rw [c1 lt] at cf
              cases cf
            · exact e
          subst im2
          exact ⟨_, rfl, fun d H6 e6 hd => hE d H6 (((e1.trans e3).trans e5).trans e6) hd⟩
        · have ct : c = true := by cases c <;> simp_all
          refine ⟨?_, _, _, rfl, e3.trans e5⟩
          rcases Nat.lt_or_eq_of_le im with lt | e
          · exact lt
          · rw [c2 e] at ct
            cases ct
      · refine .inr ⟨us, ex_t e1 h1, for_it walkEnumT (fun i σ H2 => i ≤ m ∧ ∃ a b, σ = [some (.ref l), a, b] ∧ Ex H1 H2) ⟨Nat.zero_le _, _, _, rfl, Ex.refl H1⟩ (fun _ _ H2 _ p => ex_t p.2.choose_spec.choose_spec.2 (ex_t e1 h1)) (fun i x2 σ H2 H3 hi p y => ?_) fun σ H2 p => absurd p.1 (by omega)⟩
        obtain ⟨im, a, b, rfl, e2⟩ := p
        obtain ⟨T, xi, xv, rfl, hT, rfl, hi1, hv1⟩ := y
        have e3 : Ex H1 (upd H2 T (.tup [xi, xv])) := e2.trans (Ex.new hT)
        obtain rfl : xi = .int (i : Int) := (Option.some.inj hi1).symm
        obtain ⟨c, hc, c1, c2⟩ := step i xv _ e3 im hv1
        refine ⟨T, _, rfl, SqT.of upd_same, rfl, _, _, rfl, _, _, rfl, rfl, ?_⟩
        refine s_when (b := !c) (et_not (et_B (ev_pairX (ev_var rfl) hc))) (fun z H5 e5 => ?_) fun z H5 e5 => ?_
        · have cf : c = false := by cases c <;> simp_all
          have im2 : i = m := by
            rcases Nat.lt_or_eq_of_le im with lt | e
            · rw [c1 lt] at cf
              cases cf
            · exact e
          subst im2
          exact ⟨_, rfl, fun d H6 e6 hd => hE d H6 (((e1.trans e3).trans e5).trans e6) hd⟩
        · have ct : c = true := by cases c <;> simp_all
          refine ⟨?_, _, _, rfl, e3.trans e5⟩
          rcases Nat.lt_or_eq_of_le im with lt | e
          · exact lt
          · rw [c2 e] at ct
            cases ct
    · obtain ⟨l, us, rfl, hl, hp⟩ := hg
      obtain ⟨t, hty, hk⟩ := sqq_ty hl
      refine q_when (b := !true) (et_not (et_B (ev_isListX (ev_var rfl) hty hk))) (fun z => by cases z) fun _ H1 e1 => ?_
      refine ⟨_, rfl, l, rfl, ?_⟩
      rcases sqq_ls hl with h1 | h1
      · refine .inl ⟨us, ex_l e1 h1, for_it walk_enum (fun i σ H2 => ∃ a b, σ = [some (.ref l), a, b] ∧ Ex H1 H2) ⟨_, _, rfl, Ex.refl H1⟩ (fun _ _ H2 _ p => ex_l p.choose_spec.choose_spec.2 (ex_l e1 h1)) (fun i x2 σ H2 H3 hi p y => ?_) fun σ H2 p => ?_⟩
        · obtain ⟨a, b, rfl, e2⟩ := p
          obtain ⟨T, xi, xv, rfl, hT, rfl, hi1, hv1⟩ := y
          have e3 : Ex H1 (upd H2 T (.tup [xi, xv])) := e2.trans (Ex.new hT)
          obtain ⟨c, hc, r⟩ := paired_get hp hv1
          have ct : c = true := List.eq_of_mem_replicate (List.mem_of_getElem? hc)
          subst ct
          refine ⟨T, _, rfl, SqT.of upd_same, rfl, _, _, rfl, _, _, rfl, rfl, ?_⟩
          exact s_when (b := !true) (et_not (et_B (ev_pairX (ev_var rfl) (pb_mono (e1.trans e3) r)))) (fun z => by cases z) fun z H5 e5 => ⟨_, _, rfl, e3.trans e5⟩
        · obtain ⟨a, b, rfl, e2⟩ := p
          exact q H2 (e1.trans e2)
      · refine .inr ⟨us, ex_t e1 h1, for_it walkEnumT (fun i σ H2 => ∃ a b, σ = [some (.ref l), a, b] ∧ Ex H1 H2) ⟨_, _, rfl, Ex.refl H1⟩ (fun _ _ H2 _ p => ex_t p.choose_spec.choose_spec.2 (ex_t e1 h1)) (fun i x2 σ H2 H3 hi p y => ?_) fun σ H2 p => ?_⟩
        · obtain ⟨a, b, rfl, e2⟩ := p
          obtain ⟨T, xi, xv, rfl, hT, rfl, hi1, hv1⟩ := y
          have e3 : Ex H1 (upd H2 T (.tup [xi, xv])) := e2.trans (Ex.new hT)
          obtain ⟨c, hc, r⟩ := paired_get hp hv1
          have ct : c = true := List.eq_of_mem_replicate (List.mem_of_getElem? hc)
          subst ct
          refine ⟨T, _, rfl, SqT.of upd_same, rfl, _, _, rfl, _, _, rfl, rfl, ?_⟩
          exact s_when (b := !true) (et_not (et_B (ev_pairX (ev_var rfl) (pb_mono (e1.trans e3) r)))) (fun z => by cases z) fun z H5 e5 => ⟨_, _, rfl, e3.trans e5⟩
        · obtain ⟨a, b, rfl, e2⟩ := p
          exact q H2 (e1.trans e2)
abbrev s_need_few : Stmt := topS 31
theorem sc_need_few : FnScope ["leads", "limit"] ["leads", "limit"] (defScope s_need_few) := ⟨rfl, rfl, rfl, by decide +kernel, rfl, by decide +kernel, by decide +kernel⟩
theorem ok_need_few {f : Addr} {fd : FuncData} (F : FunD K "need_few_knots" "need_few_knots" (defArgs s_need_few) (defBody s_need_few) (defScope s_need_few) [] [] f fd) (T : Tx P w K mg base) (dcount_knots : CalO P w K mg base CX0 1 "count_knots" ["leads"] (spCount K)) : FnOk P w K mg base CX0 2 f fd ["leads", "limit"] spFew := by
  refine fnO F sc_need_few (fun vs H Q E h => ?_) (fun cdv A outer s H vs Q E hr h => ?_)
  · obtain ⟨d, L, n, rfl, _⟩ := h
    rfl
  · skip
    refine ⟨_, PSs.nox ((pss_one (ps_if (pt_cmpR op_gt (pe_calO dcount_knots hr pass0 (pa_cons (pv 0) pa_nil)) (pv 1) (nomark _)) pss_never pss_nil))), ?_⟩
    obtain ⟨d, L, n, rfl, hd, hz, hc, q⟩ := h
    have le : decide ((Wp.cnt L : Int) > (n : Int)) = false := decide_eq_false (by omega)
    exact s_when (b := decide ((Wp.cnt L : Int) > (n : Int))) (et_test (ev_op (ev_call (ea_cons (ev_var rfl) ea_nil) fun H1 e Q q E => ⟨d, L, rfl, e _ _ hd, hz, q⟩) (ev_var rfl) rv_I0)) (fun z => by rw [le] at z; cases z) (fun _ H1 e => q H1 e)
end
end K35
namespace Tk
open PySem PySem.Spec PyProof.Rows L2 Lw Evl LamX TL
open Rm (R Ok Z0 Zp Fr fr_none fr_ne nt_lst nt_tup NT Zn)
end Tk
namespace Lw
open PySem PySem.Spec PyProof.Rows L2 Evl
/-- l == [], l any list -/
def rEqNil : R2 := fun x y H Q => ∃ (l b : Addr) (us : List V), x = .ref l ∧ y = .ref b ∧ H l = some (.lst us) ∧ H b = some (.lst []) ∧ Q (.bl us.isEmpty) H
theorem op_eqNil {X : Cx} (hu : X.A.units + 64 < cLine) : OpR X (compareOp .Eq) rEqNil := by
  intro pins s σ H x y v u Q I rx ry h
  obtain ⟨l, b, us, rfl, rfl, hl, hb, q⟩ := h
  cases rx
  cases ry
  obtain ⟨_, its, n, rv, ho⟩ : us.length ≤ sizeLine ∧ ∃ (its : List Value) (n : Nat), Vals us its ∧ s.heap.get? l = some { cls := .type "list", data := .seq its.toArray n } := I.hok l _ hl
  obtain ⟨_, its2, n2, rv2, ho2⟩ : ([] : List V).length ≤ sizeLine ∧ ∃ (its : List Value) (n : Nat), Vals [] its ∧ s.heap.get? b = some { cls := .type "list", data := .seq its.toArray n } := I.hok b _ hb
  cases rv2
  have fin : ∀ k : Bool, k = us.isEmpty → EP X pins σ Q (.bool k) s := fun k e => ⟨.bl us.isEmpty, H, I, by rw [e]; rfl, q⟩
  show wpAny _ _ (richCompare .Eq (.ref l) (.ref b)) _ _ _
  cases its with
  | nil =>
    cases rv
    exact SeqAt.RcAt.lists (e := fun _ => true) ⟨_, ho, rfl, n, rfl⟩ ⟨_, ho2, rfl, n2, rfl⟩ rfl (by omega) (fun j h1 h2 => absurd h1 (by simp)) _ _ _ _ (fin _ rfl)
  | cons z zs =>
    have e : us.isEmpty = false := by cases rv; rfl
    exact SeqAt.RcAt.lists_lengths ⟨_, ho, rfl, n, rfl⟩ ⟨_, ho2, rfl, n2, rfl⟩ (by simp) (by omega) _ _ _ _ (fin _ e.symm)
end Lw
namespace Tk
open PySem PySem.Spec PyProof.Rows L2 Lw Evl LamX TL
open Rm (R Ok Z0 Zp Fr fr_none fr_ne nt_lst nt_tup NT Zn)
open Wp (Leads Lead getL upf WfL walkL)
def L1 : Leads := [((0, ("a" : Str)), 1), ((1, ("f" : Str)), 2), ((2, ("f" : Str)), 3)]
end Tk
namespace Tk
open PySem PySem.Spec PyProof.Rows L2 Lw Evl LamX TL
open Rm (R Ok Z0 Zp Fr fr_none fr_ne nt_lst nt_tup NT Zn)
section
variable {P : Program} {w : World} {K : PySem.W.Frag} {mg : Str → Option Value} {Z : Zn} {H H0 H1 : Hp} {σ : L2.St} {v u x : V} {n a b c : Nat} {te ti t0 t1 t2 ta tb : TE} {us vs : List V} {l : Addr}
theorem pairT_R {p : List Str × List Str} (r : R Z H H1) (h : PairT K H v p) : PairT K H1 v p := by
  obtain ⟨a, x, y, h1, h2, h3, h4⟩ := h
  exact ⟨a, x, y, h1, r.tup h2, Rm.wd_R r h3, Rm.wd_R r h4⟩
/-- x == [] -/
theorem et_eqNil (h : Ev te σ H (.ref l)) (hl : H l = some (.lst us)) : EvT (tTest (tOp rEqNil te (tLst tNil))) σ H us.isEmpty := fun H1 e Q q => h H1 e _ fun H2 e2 => ⟨Nat.zero_le _, fun b hb => ⟨l, b, us, rfl, rfl, (Ex.new hb) _ _ ((e.trans e2) _ _ hl), upd_same, ⟨_, rfl, q _ (e2.trans (Ex.new hb))⟩⟩⟩
end
end Tk
namespace Tk
open PySem PySem.Spec PyProof.Rows L2 Lw Evl LamX TL
open Rm (R Ok Z0 Zp Fr fr_none fr_ne nt_lst nt_tup NT Zn)
open Wp (Leads)
end Tk
namespace Lw
open PySem PySem.Spec PyProof.Rows L2 Evl
end Lw
namespace Tk
open PySem PySem.Spec PyProof.Rows L2 Lw Evl LamX TL
open Rm (R Ok Z0 Zp Fr fr_none fr_ne nt_lst nt_tup NT Zn)
end Tk
namespace Tk
open PySem PySem.Spec PyProof.Rows L2 Lw Evl LamX TL
open Rm (R Ok Z0 Zp Fr fr_none fr_ne nt_lst nt_tup NT Zn)
end Tk
namespace Lw
open PySem PySem.Spec PyProof.Rows L2 Evl
end Lw
namespace Tk
open PySem PySem.Spec PyProof.Rows L2 Lw Evl LamX TL
open Rm (R Ok Z0 Zp Fr fr_none fr_ne nt_lst nt_tup NT Zn)
abbrev za : Str := "zzzzzzza"
abbrev zb : Str := "zzzzzzzb"
abbrev zc : Str := "zzzzzzzc"
abbrev zd : Str := "zzzzzzzd"
end Tk
namespace Lw
open PySem PySem.Spec PyProof.Rows L2 Evl
end Lw
namespace Tk
open PySem PySem.Spec PyProof.Rows L2 Lw Evl LamX TL
open Rm (R Ok Z0 Zp Fr fr_none fr_ne nt_lst nt_tup NT Zn)
end Tk
namespace Tk
open PySem PySem.Spec PyProof.Rows L2 Lw Evl LamX TL
open Rm (R Ok Z0 Zp Fr fr_none fr_ne nt_lst nt_tup NT Zn)
section
variable {t : Str} {k : Nat} {b : Bool}
theorem lz : isL za = true ∧ isL zb = true ∧ isL zc = true ∧ isL zd = true := by decide +kernel
end
end Tk
namespace Lw
open PySem PySem.Spec PyProof.Rows L2 Evl
end Lw
namespace Tk
open PySem PySem.Spec PyProof.Rows L2 Lw Evl LamX TL
open Rm (R Ok Z0 Zp Fr fr_none fr_ne nt_lst nt_tup NT Zn)
open Wp (Leads walkL)
section
variable {P : Program} {w : World} {K : PySem.W.Frag} {mg : Str → Option Value} {Z : Zn} {H H0 H1 : Hp} {σ : L2.St} {u v x : V} {n i j : Nat} {te ta tb tc : TE} {CW a : Addr} {L : Leads} {m : Str} {sp : Sp} {E : XK} {Q : VK} {xs : List Str}
/-- two arguments: both told, or the first one a new term -/
theorem wm_2 (o : Ok Z H) (ha : ∀ H1, R Z H H1 → Ev ta σ H1 (.ref a)) (hb : ∀ H1, R Z H H1 → Ev tb σ H1 v) (hc : ∀ H1, R Z H H1 → Ev tc σ H1 u) (hW : WbAt K CW H a L) (hm : (m == ("_leads" : Str)) = false ∧ (m == ("_least" : Str)) = false) (hsp : ∀ H3, R Z H H3 → WbAt K CW H3 a L → sp [.ref a, v, u] H3 Q E) : tMeth CW m sp [] E ta (tCons tb (tCons tc tNil)) σ H Q :=
  ha H (.refl o) H (Ex.refl H) _ fun H2 e2 => by
    have r2 : R Z H H2 := .of o e2
    obtain ⟨dx, d, l, h1, _⟩ := wb_R r2 hW
    exact ⟨a, dx, _, rfl, h1, by simp [List.lookup, hm.1, hm.2], hb H2 r2 H2 (Ex.refl H2) _ fun H3 e3 => hc H3 (r2.ex e3) H3 (Ex.refl H3) _ fun H4 e4 => hsp H4 ((r2.ex e3).ex e4) (wb_R ((r2.ex e3).ex e4) hW)⟩
end
end Tk
namespace Wp
open PySem
abbrev Tm := List Str
/-- the least relation: what is told is there, with its beginnings; pairs are the same; what the same letter leads to is the same -/
inductive Sm (T : List Tm) (P : List (Tm × Tm)) : Tm → Tm → Prop
  | told {t : Tm} : t ∈ T → t ≠ [] → Sm T P t t
  | pair {a b : Tm} : (a, b) ∈ P → a ≠ [] → b ≠ [] → Sm T P a b
  | symm {a b : Tm} : Sm T P a b → Sm T P b a
  | trans {a b c : Tm} : Sm T P a b → Sm T P b c → Sm T P a c
  | pre {u : Tm} {n : Str} : u ≠ [] → Sm T P (u ++ [n]) (u ++ [n]) → Sm T P u u
  | con {u v : Tm} {n : Str} : Sm T P u v → Sm T P (u ++ [n]) (u ++ [n]) → Sm T P (u ++ [n]) (v ++ [n])
structure Cong (E : Tm → Tm → Prop) : Prop where
  symm : ∀ {a b}, E a b → E b a
  trans : ∀ {a b c}, E a b → E b c → E a c
  con : ∀ {u v n}, E u v → E (u ++ [n]) (u ++ [n]) → E (u ++ [n]) (v ++ [n])
section
variable {T T' : List Tm} {P P' : List (Tm × Tm)} {a b : Tm}
theorem sm_cong : Cong (Sm T P) := ⟨.symm, .trans, .con⟩
theorem Sm.left (h : Sm T P a b) : Sm T P a a := h.trans h.symm
theorem Sm.right (h : Sm T P a b) : Sm T P b b := h.symm.trans h
theorem Sm.ne (h : Sm T P a b) : a ≠ [] ∧ b ≠ [] := by
  induction h with
  | told _ h => exact ⟨h, h⟩
  | pair _ h1 h2 => exact ⟨h1, h2⟩
  | symm _ i => exact ⟨i.2, i.1⟩
  | trans _ _ i j => exact ⟨i.1, j.2⟩
  | pre h _ _ => exact ⟨h, h⟩
  | con _ _ _ _ => exact ⟨by simp, by simp⟩
theorem Sm.mono (ht : ∀ t ∈ T, t ∈ T') (hp : ∀ p ∈ P, p ∈ P') (h : Sm T P a b) : Sm T' P' a b := by
  induction h with
  | told m h => exact .told (ht _ m) h
  | pair m h1 h2 => exact .pair (hp _ m) h1 h2
  | symm _ i => exact i.symm
  | trans _ _ i j => exact i.trans j
  | pre h _ i => exact .pre h i
  | con _ _ i j => exact .con i j
end
theorem revInd {α : Type} {C : List α → Prop} (h0 : C []) (hs : ∀ u n, C u → C (u ++ [n])) (t : List α) : C t := by
  have key : ∀ r : List α, C r.reverse := fun r => by
    induction r with
    | nil => exact h0
    | cons x r ih =>
      rw [List.reverse_cons]
      exact hs _ _ ih
  have z := key t.reverse
  rwa [List.reverse_reverse] at z
section
variable {T T' : List Tm} {P P' : List (Tm × Tm)} {a b : Tm}
theorem Sm.app {u : Tm} (hu : u ≠ []) (v : Tm) : Sm T P (u ++ v) (u ++ v) → Sm T P u u := by
  induction v using revInd with
  | h0 =>
    rw [List.append_nil]
    exact id
  | hs v n ih => exact fun h => ih (Sm.pre (n := n) (by simp [hu]) (by rw [List.append_assoc]; exact h))
end
theorem walk_app {L : Leads} : ∀ {t u : Tm} {k : Nat}, walkL L k (t ++ u) = (walkL L k t).bind fun j => walkL L j u
  | [], u, k => rfl
  | n :: t, u, k => by
    show walkL L k (n :: (t ++ u)) = _
    rw [walkL, walkL]
    cases getL L k n with
    | none => rfl
    | some j => exact walk_app
theorem walk_one {L : Leads} {k : Nat} {n : Str} : walkL L k [n] = getL L k n := by
  rw [walkL]
  cases getL L k n <;> rfl
theorem walk_snoc {L : Leads} {t : Tm} {n : Str} {k : Nat} : walkL L k (t ++ [n]) = (walkL L k t).bind fun j => getL L j n := by
  rw [walk_app]
  cases walkL L k t with
  | none => rfl
  | some j => exact walk_one
theorem walk_val {L : Leads} (wf : WfL L) {t : Tm} {k : Nat} (n : t ≠ []) (h : walkL L 0 t = some k) : k ∈ vals L ∧ 0 < k := by
  revert n h
  induction t using revInd generalizing k with
  | h0 => exact fun n => absurd rfl n
  | hs u n _ =>
    intro _ h
    rw [walk_snoc] at h
    cases c : walkL L 0 u with
    | none => rw [c] at h; cases h
    | some j =>
      rw [c] at h
      exact ⟨mem_vals (getL_mem h), wf.pos _ (getL_mem h)⟩
def t0 (τ : Nat → Tm) (k : Nat) : Tm := if k = 0 then [] else τ k
def Snd (E : Tm → Tm → Prop) (L : Leads) (τ : Nat → Tm) : Prop := ∀ e ∈ L, E (t0 τ e.1.1 ++ [e.1.2]) (τ e.2)
def Rch (L : Leads) : Prop := ∀ k ∈ vals L, ∃ t, walkL L 0 t = some k
section
variable {E : Tm → Tm → Prop} {L : Leads} {τ : Nat → Tm}
theorem snd_walk (C : Cong E) (wf : WfL L) (S : Snd E L τ) {t : Tm} {k : Nat} (n : t ≠ []) (h : walkL L 0 t = some k) : E t (τ k) := by
  revert n h
  induction t using revInd generalizing k with
  | h0 => exact fun n => absurd rfl n
  | hs u n ih =>
    intro _ h
    rw [walk_snoc] at h
    cases c : walkL L 0 u with
    | none => rw [c] at h; cases h
    | some j =>
      rw [c] at h
      have e := S _ (getL_mem h)
      dsimp only at e
      by_cases hu : u = []
      · subst hu
        have j0 : j = 0 := (Option.some.inj c).symm
        subst j0
        exact e
      · have jp := (walk_val wf hu c).2
        have z := ih hu c
        unfold t0 at e
        rw [if_neg (by omega)] at e
        exact C.trans (C.symm (C.con (C.symm z) (C.trans e (C.symm e)))) e
end
/-- what is walked to one knot -/
def WS (L : Leads) (t u : Tm) : Prop := t ≠ [] ∧ u ≠ [] ∧ ∃ k, walkL L 0 t = some k ∧ walkL L 0 u = some k
/-- the leads are those of what is told -/
structure Pres (T : List Tm) (P : List (Tm × Tm)) (L : Leads) : Prop where
  wf : WfL L
  snd : ∃ τ, Snd (Sm T P) L τ
  tot : ∀ t ∈ T, t ≠ [] → ∃ k, walkL L 0 t = some k
  par : ∀ p ∈ P, p.1 ≠ [] → p.2 ≠ [] → ∃ k, walkL L 0 p.1 = some k ∧ walkL L 0 p.2 = some k
  rch : Rch L
theorem pres_iff {T : List Tm} {P : List (Tm × Tm)} {L : Leads} (H : Pres T P L) {t u : Tm} : WS L t u ↔ Sm T P t u := by
  constructor
  · rintro ⟨n1, n2, k, h1, h2⟩
    obtain ⟨τ, S⟩ := H.snd
    exact (snd_walk sm_cong H.wf S n1 h1).trans (snd_walk sm_cong H.wf S n2 h2).symm
  · intro h
    induction h with
    | told m n =>
      obtain ⟨k, h⟩ := H.tot _ m n
      exact ⟨n, n, k, h, h⟩
    | pair m n1 n2 => exact ⟨n1, n2, H.par _ m n1 n2⟩
    | symm _ i =>
      obtain ⟨n1, n2, k, h1, h2⟩ := i
      exact ⟨n2, n1, k, h2, h1⟩
    | trans _ _ i j =>
      obtain ⟨n1, n2, k, h1, h2⟩ := i
      obtain ⟨n3, n4, k2, h3, h4⟩ := j
      rw [h2] at h3
      cases h3
      exact ⟨n1, n4, k, h1, h4⟩
    | pre n _ i =>
      obtain ⟨_, _, k, h1, _⟩ := i
      rw [walk_snoc] at h1
      cases c : walkL L 0 _ with
      | none => rw [c] at h1; cases h1
      | some j => exact ⟨n, n, j, c, c⟩
    | @con u v n _ _ i j =>
      obtain ⟨n1, n2, k, h1, h2⟩ := i
      obtain ⟨n3, n4, k2, h3, _⟩ := j
      refine ⟨by simp, by simp, k2, h3, ?_⟩
      rw [walk_snoc, h1] at h3
      rw [walk_snoc, h2]
      exact h3
end Wp
namespace Wp
open PySem
structure GP (E : Tm → Tm → Prop) (τ : Nat → Tm) (st : Leads × Nat × Nat) (u : Tm) : Prop where
  inv : GInv st
  le : ∀ x ∈ vals st.1, x ≤ st.2.1
  snd : Snd E st.1 τ
  wk : walkL st.1 0 u = some st.2.2
  rch : Rch st.1
section
variable {E : Tm → Tm → Prop} {τ : Nat → Tm} {st : Leads × Nat × Nat} {u : Tm} {n : Str}
theorem growA_pres (C : Cong E) (h : GP E τ st u) (d : E (u ++ [n]) (u ++ [n])) : ∃ τ', GP E τ' (growA st n) (u ++ [n]) := by
  obtain ⟨g1, x1, g2, _, _⟩ := growA_inv (n := n) h.inv
  have wk : walkL (growA st n).1 0 (u ++ [n]) = some (growA st n).2.2 := by
    rw [walk_snoc, x1.walk h.wk]
    exact g2
  unfold growA at g1 x1 wk ⊢
  cases c : getL st.1 st.2.2 n with
  | some t =>
    rw [c] at g1 x1 wk
    exact ⟨τ, g1, h.le, h.snd, wk, h.rch⟩
  | none =>
    rw [c] at g1 x1 wk
    dsimp only at g1 x1 wk ⊢
    have inv := h.inv
    have hs : ∀ k, k = 0 ∨ k ∈ vals st.1 → t0 (upf τ (st.2.1 + 1) (u ++ [n])) k = t0 τ k := fun k hk => by
      unfold t0
      by_cases z : k = 0
      · rw [if_pos z, if_pos z]
      · rw [if_neg z, if_neg z]
        have := h.le k (hk.resolve_left z)
        exact upf_ne (by omega)
    refine ⟨upf τ (st.2.1 + 1) (u ++ [n]), g1, fun x hx => ?_, fun e he => ?_, wk, fun k hk => ?_⟩
    · rcases vals_app.mp hx with hx | hx
      · have := h.le x hx
        show x ≤ st.2.1 + 1
        omega
      · rw [List.mem_singleton.mp hx]
        exact Nat.le_refl _
    · rcases List.mem_append.mp he with he | he
      · have l := h.le e.2 (mem_vals he)
        rw [hs _ (inv.wf.src e he), upf_ne (by omega)]
        exact h.snd e he
      · rw [List.mem_singleton.mp he]
        show E (t0 _ st.2.2 ++ [n]) (upf τ (st.2.1 + 1) (u ++ [n]) (st.2.1 + 1))
        rw [upf_same, hs _ inv.at_]
        by_cases hu : u = []
        · have z : st.2.2 = 0 := by
            have w := h.wk
            rw [hu] at w
            exact (Option.some.inj w).symm
          have e0 : t0 τ st.2.2 = [] := by
            unfold t0
            rw [if_pos z]
          rw [e0]
          rw [hu] at d ⊢
          exact d
        · have p := (walk_val inv.wf hu h.wk).2
          have e0 : t0 τ st.2.2 = τ st.2.2 := by
            unfold t0
            rw [if_neg (by omega)]
          rw [e0]
          exact C.symm (C.con (snd_walk C inv.wf h.snd hu h.wk) d)
    · rcases vals_app.mp hk with hk | hk
      · exact (h.rch k hk).imp fun t ht => x1.walk ht
      · rw [List.mem_singleton.mp hk]
        exact ⟨_, wk⟩
theorem growAs_pres (C : Cong E) (pre : ∀ u v, u ≠ [] → E (u ++ v) (u ++ v) → E u u) : ∀ {ns : Tm} {st : Leads × Nat × Nat} {τ : Nat → Tm} {u : Tm}, GP E τ st u → (ns ≠ [] → E (u ++ ns) (u ++ ns)) → ∃ τ', GP E τ' (ns.foldl growA st) (u ++ ns)
  | [], st, τ, u, h, _ => ⟨τ, by rw [List.append_nil]; exact h⟩
  | n :: ns, st, τ, u, h, d => by
    have d := d (by simp)
    rw [show u ++ n :: ns = (u ++ [n]) ++ ns by simp] at d ⊢
    obtain ⟨τ', h2⟩ := growA_pres C h (pre _ ns (by simp) d)
    rw [List.foldl_cons]
    exact growAs_pres C pre h2 fun _ => d
/-- nothing lacks below the number of knots -/
structure WP (E : Tm → Tm → Prop) (τ : Nat → Tm) (st : Leads × Nat) : Prop where
  wf : WfL st.1
  le : ∀ x ∈ vals st.1, x ≤ st.2
  snd : Snd E st.1 τ
  rch : Rch st.1
theorem growWs_pres (C : Cong E) (pre : ∀ u v, u ≠ [] → E (u ++ v) (u ++ v) → E u u) : ∀ {ts : List Tm} {st : Leads × Nat} {τ : Nat → Tm}, WP E τ st → (∀ t ∈ ts, t ≠ [] → E t t) → ∃ τ', WP E τ' ((ts.map fun t => (0, t)).foldl growW st)
  | [], st, τ, h, _ => ⟨τ, h⟩
  | t :: ts, st, τ, h, d => by
    obtain ⟨τ', h2⟩ := growAs_pres C pre (ns := t) (st := (st.1, st.2, 0)) (u := []) ⟨⟨h.wf, .inl rfl⟩, h.le, h.snd, rfl, h.rch⟩ (d t List.mem_cons_self)
    rw [List.map_cons, List.foldl_cons]
    exact growWs_pres C pre (ts := ts) (st := growW st (0, t)) ⟨h2.inv.wf, h2.le, h2.snd, h2.rch⟩ fun u hu => d u (List.mem_cons_of_mem _ hu)
end
theorem sm_pre {T : List Tm} {P : List (Tm × Tm)} (u v : Tm) (n : u ≠ []) (h : Sm T P (u ++ v) (u ++ v)) : Sm T P u u := Sm.app n v h
/-- leads grown by terms -/
theorem grow_pres {E : Tm → Tm → Prop} {L : Leads} {ts : List Tm} (C : Cong E) (pre : ∀ u v, u ≠ [] → E (u ++ v) (u ++ v) → E u u) (wf : WfL L) (le : ∀ x ∈ vals L, x ≤ cnt L) (S : ∃ τ, Snd E L τ) (r : Rch L) (d : ∀ t ∈ ts, t ≠ [] → E t t) :
    WfL (grow L (ts.map fun t => (0, t))) ∧ Ext L (grow L (ts.map fun t => (0, t))) ∧ (∃ τ, Snd E (grow L (ts.map fun t => (0, t))) τ) ∧ Rch (grow L (ts.map fun t => (0, t))) ∧ ∀ t ∈ ts, ∃ k, walkL (grow L (ts.map fun t => (0, t))) 0 t = some k ∧ (t = [] ∨ k ∈ vals (grow L (ts.map fun t => (0, t)))) := by
  obtain ⟨τ, S⟩ := S
  obtain ⟨τ', h⟩ := growWs_pres C pre (ts := ts) (st := (L, cnt L)) ⟨wf, le, S, r⟩ d
  obtain ⟨h1, h2, h3, _⟩ := grow_inv (told := ts.map fun t => (0, t)) wf fun t ht => by
    obtain ⟨u, _, rfl⟩ := List.mem_map.mp ht
    exact .inl rfl
  exact ⟨h1, h2, ⟨τ', h.snd⟩, h.rch, fun t ht => h3 (0, t) (List.mem_map.mpr ⟨t, ht, rfl⟩)⟩
end Wp
namespace Wp
open PySem
/-- what waits comes of the same letter -/
theorem mfold_same : ∀ {r Wh : List (Str × Nat)} {wa : List (Nat × Nat)}, ∀ p ∈ (mfold Wh wa r).2, p ∈ wa ∨ ∃ n x y, (n, x) ∈ (mfold Wh wa r).1 ∧ (n, y) ∈ r ∧ p = (x, y)
  | [], Wh, wa, p, h => .inl h
  | e :: r, Wh, wa, p, h => by
    rw [mfold] at h ⊢
    cases c : lk Wh e.1 with
    | some t =>
      rw [c] at h
      have h2 := mfold_keep (r := r) (Wh := Wh) (wa := wa ++ [(t, e.2)]) _ (lk_mem c)
      rcases mfold_same p h with z | ⟨n, x, y, hx, hy, rfl⟩
      · rcases List.mem_append.mp z with z | z
        · exact .inl z
        · exact .inr ⟨e.1, t, e.2, h2, List.mem_cons_self, List.mem_singleton.mp z⟩
      · exact .inr ⟨n, x, y, hx, List.mem_cons_of_mem _ hy, rfl⟩
    | none =>
      rw [c] at h
      rcases mfold_same p h with z | ⟨n, x, y, hx, hy, rfl⟩
      · exact .inl z
      · exact .inr ⟨n, x, y, hx, List.mem_cons_of_mem _ hy, rfl⟩
where
  mfold_keep : ∀ {r Wh : List (Str × Nat)} {wa : List (Nat × Nat)}, ∀ e ∈ Wh, e ∈ (mfold Wh wa r).1
    | [], Wh, wa, e, h => h
    | d :: r, Wh, wa, e, h => by
      rw [mfold]
      cases c : lk Wh d.1 with
      | some t => exact mfold_keep e h
      | none => exact mfold_keep e (List.mem_append_left _ h)
structure SInv (E : Tm → Tm → Prop) (τ : Nat → Tm) (ks : List Nat) (s : MS) : Prop where
  ab : ∀ k ∈ ks, k ≠ 0 → E (τ k) (τ (s.ab k))
  wa : ∀ p ∈ s.wa, E (τ p.1) (τ p.2)
  w : ∀ k ∈ ks, ∀ e ∈ s.W k, E (t0 τ k ++ [e.1]) (τ e.2)
  z : s.ab 0 = 0
variable {E : Tm → Tm → Prop} {τ : Nat → Tm} {ks : List Nat} {s : MS} {L : Leads} {l h : Nat} {wa : List (Nat × Nat)} {p : Nat × Nat}
theorem s_top (C : Cong E) (A : AInv ks s) (S : SInv E τ ks s) : ∀ (f : Nat) {k : Nat}, k ∈ ks → k ≠ 0 → E (τ k) (τ (topF s.ab f k))
  | 0, k, hk, n => C.trans (S.ab k hk n) (C.symm (S.ab k hk n))
  | f + 1, k, hk, n => by
    unfold topF
    split
    · exact C.trans (S.ab k hk n) (C.symm (S.ab k hk n))
    · exact C.trans (S.ab k hk n) (s_top C A S f (A.abk k hk) (A.z k n))
theorem t0_ne {k : Nat} (n : k ≠ 0) : t0 τ k = τ k := by
  unfold t0
  rw [if_neg n]
theorem s_join (C : Cong E) (S : SInv E τ ks s) (hl : l ∈ ks) (hh : h ∈ ks) (l0 : l ≠ 0) (h0 : h ≠ 0) (ws : ∀ q ∈ wa, q ∈ s.wa) (hE : E (τ l) (τ h)) : SInv E τ ks (mjoin s l h wa) := by
  have sub : ∀ e ∈ (mfold (s.W h) wa (s.W l)).1, e ∈ s.W h ∨ e ∈ s.W l := by
    have key : ∀ {r Wh : List (Str × Nat)} {wa : List (Nat × Nat)}, ∀ e ∈ (mfold Wh wa r).1, e ∈ Wh ∨ e ∈ r := fun {r} => by
      induction r with
      | nil => exact fun e he => .inl he
      | cons d r ih =>
        intro Wh wa e he
        rw [mfold] at he
        cases c : lk Wh d.1 with
        | some t =>
          rw [c] at he
          exact (ih e he).imp id (List.mem_cons_of_mem _)
        | none =>
          rw [c] at he
          rcases ih e he with z | z
          · rcases List.mem_append.mp z with z | z
            · exact .inl z
            · rw [List.mem_singleton.mp z]
              exact .inr List.mem_cons_self
          · exact .inr (List.mem_cons_of_mem _ z)
    exact key
  have low : ∀ e ∈ s.W l, E (τ h ++ [e.1]) (τ e.2) := fun e he => by
    have z := S.w l hl e he
    rw [t0_ne l0] at z
    exact C.trans (C.symm (C.con hE (C.trans z (C.symm z)))) z
  have new : ∀ e ∈ (mfold (s.W h) wa (s.W l)).1, E (τ h ++ [e.1]) (τ e.2) := fun e he => by
    rcases sub e he with z | z
    · have z2 := S.w h hh e z
      rw [t0_ne h0] at z2
      exact z2
    · exact low e z
  refine ⟨fun k hk n => ?_, fun q hq => ?_, fun k hk e he => ?_, ?_⟩
  · show E (τ k) (τ (upf s.ab l h k))
    by_cases c : k = l
    · rw [c, upf_same]
      exact hE
    · rw [upf_ne c]
      exact S.ab k hk n
  · rcases mfold_same q hq with z | ⟨n, x, y, hx, hy, rfl⟩
    · exact S.wa q (ws q z)
    · exact C.trans (C.symm (new _ hx)) (low _ hy)
  · have he : e ∈ upf s.W h (mfold (s.W h) wa (s.W l)).1 k := he
    by_cases c : k = h
    · rw [c, upf_same] at he
      rw [c, t0_ne h0]
      exact new e he
    · rw [upf_ne c] at he
      exact S.w k hk e he
  · show upf s.ab l h 0 = 0
    rw [upf_ne l0.symm]
    exact S.z
theorem s_drop (S : SInv E τ ks s) (ws : ∀ q ∈ wa, q ∈ s.wa) : SInv E τ ks { s with wa := wa } := ⟨S.ab, fun q hq => S.wa q (ws q hq), S.w, S.z⟩
theorem s_step (C : Cong E) (M : MInv ks L s) (S : SInv E τ ks s) (ew : s.wa = wa ++ [p]) : SInv E τ ks (mstep ks.length s p wa) := by
  have ws : ∀ q ∈ wa, q ∈ s.wa := fun q hq => by
    rw [ew]
    exact List.mem_append_left _ hq
  have mp : p ∈ s.wa := by
    rw [ew]
    exact List.mem_append_right _ (List.mem_singleton_self _)
  obtain ⟨k1, k2, z1, z2⟩ := M.wak p mp
  have e1 := s_top C M.A S ks.length k1 z1
  have e2 := s_top C M.A S ks.length k2 z2
  have e12 : E (τ (topF s.ab ks.length p.1)) (τ (topF s.ab ks.length p.2)) := C.trans (C.symm e1) (C.trans (S.wa p mp) e2)
  have m1 : topF s.ab ks.length p.1 ∈ ks := top_mem M.A k1
  have m2 : topF s.ab ks.length p.2 ∈ ks := top_mem M.A k2
  have n1 := top_pos M.A ks.length z1
  have n2 := top_pos M.A ks.length z2
  unfold mstep
  split
  · exact s_drop S ws
  · split
    · exact s_join C S m2 m1 n2 n1 ws (C.symm e12)
    · exact s_join C S m1 m2 n1 n2 ws e12
theorem s_run (C : Cong E) (hs : ∀ e ∈ L, e.1.1 ∈ ks) : ∀ (f : Nat) {s : MS}, MInv ks L s → SInv E τ ks s → SInv E τ ks (mrun ks.length f s)
  | 0, s, M, S => S
  | f + 1, s, M, S => by
    unfold mrun
    cases c : s.wa.getLast? with
    | none => exact S
    | some p =>
      have ew : s.wa = s.wa.dropLast ++ [p] := by
        obtain ⟨ys, hy⟩ := List.getLast?_eq_some_iff.mp c
        rw [hy, List.dropLast_concat]
      exact s_run C hs f (step_inv M hs ew).1 (s_step C M S ew)
theorem cn_join (M : MInv ks L s) (ew : s.wa = wa ++ [p]) (hp : (top ks s p.1 = l ∧ top ks s p.2 = h) ∨ (top ks s p.1 = h ∧ top ks s p.2 = l)) (ne : l ≠ h) (x y : Nat) (c : Cn s x y) : Cn (mjoin s l h wa) x y := by
  have mp : p ∈ s.wa := by
    rw [ew]
    exact List.mem_append_right _ (List.mem_singleton_self _)
  obtain ⟨k1, k2, z1, z2⟩ := M.wak p mp
  have A := M.A
  have hl : l ∈ ks ∧ s.ab l = l := by
    rcases hp with ⟨e, _⟩ | ⟨_, e⟩
    · exact e ▸ ⟨top_mem A k1, top_fix A k1⟩
    · exact e ▸ ⟨top_mem A k2, top_fix A k2⟩
  have hh : h ∈ ks ∧ s.ab h = h := by
    rcases hp with ⟨_, e⟩ | ⟨e, _⟩
    · exact e ▸ ⟨top_mem A k2, top_fix A k2⟩
    · exact e ▸ ⟨top_mem A k1, top_fix A k1⟩
  obtain ⟨hl, tl⟩ := hl
  obtain ⟨hh, th⟩ := hh
  have jt := fun k => join_top (wa := wa) A hl hh tl th ne k
  obtain ⟨f1, f2, f3, f4, f5, f6, f7⟩ := mfold_spec (r := s.W l) (wa := wa) (M.wn h hh)
  induction c with
  | rfl x => exact .rfl x
  | symm _ i => exact i.symm
  | trans _ _ i j => exact i.trans j
  | up k =>
    by_cases e : k = l
    · rw [e, tl]
      exact .rfl l
    · have z := Cn.up (s := mjoin s l h wa) k
      rw [show (mjoin s l h wa).ab k = s.ab k from upf_ne e] at z
      exact z
  | @wa x y hm =>
    rw [ew] at hm
    rcases List.mem_append.mp hm with hm | hm
    · exact .wa (f3 _ hm)
    · have e : (x, y) = p := List.mem_singleton.mp hm
      have ex : x = p.1 := by rw [← e]
      have ey : y = p.2 := by rw [← e]
      have cx : Cn (mjoin s l h wa) x (top ks (mjoin s l h wa) x) := .topF _ _
      have cy : Cn (mjoin s l h wa) y (top ks (mjoin s l h wa) y) := .topF _ _
      rw [jt] at cx cy
      rw [ex] at cx ⊢
      rw [ey] at cy ⊢
      rcases hp with ⟨e1, e2⟩ | ⟨e1, e2⟩
      · rw [e1, if_pos rfl] at cx
        rw [e2, if_neg ne.symm] at cy
        exact cx.trans cy.symm
      · rw [e1, if_neg ne.symm] at cx
        rw [e2, if_pos rfl] at cy
        exact cx.trans cy.symm
theorem cn_drop (ew : s.wa = wa ++ [p]) (e : top ks s p.1 = top ks s p.2) (x y : Nat) (c : Cn s x y) : Cn { s with wa := wa } x y := by
  induction c with
  | rfl x => exact .rfl x
  | symm _ i => exact i.symm
  | trans _ _ i j => exact i.trans j
  | up k => exact Cn.up (s := { s with wa := wa }) k
  | @wa x y hm =>
    rw [ew] at hm
    rcases List.mem_append.mp hm with hm | hm
    · exact .wa hm
    · have e2 : (x, y) = p := List.mem_singleton.mp hm
      have ex : x = p.1 := by rw [← e2]
      have ey : y = p.2 := by rw [← e2]
      have cx : Cn { s with wa := wa } x (topF s.ab ks.length x) := Cn.topF (s := { s with wa := wa }) _ _
      have cy : Cn { s with wa := wa } y (topF s.ab ks.length y) := Cn.topF (s := { s with wa := wa }) _ _
      rw [ex] at cx ⊢
      rw [ey] at cy ⊢
      have e3 : topF s.ab ks.length p.1 = topF s.ab ks.length p.2 := e
      rw [e3] at cx
      exact cx.trans cy.symm
theorem cn_step (M : MInv ks L s) (ew : s.wa = wa ++ [p]) {x y : Nat} (c : Cn s x y) : Cn (mstep ks.length s p wa) x y := by
  unfold mstep
  split
  · rename_i e
    exact cn_drop ew e x y c
  · rename_i ne
    split
    · exact cn_join M ew (.inr ⟨rfl, rfl⟩) (fun z => ne z.symm) x y c
    · exact cn_join M ew (.inl ⟨rfl, rfl⟩) ne x y c
theorem cn_run (hs : ∀ e ∈ L, e.1.1 ∈ ks) : ∀ (f : Nat) {s : MS}, MInv ks L s → ∀ {x y : Nat}, Cn s x y → Cn (mrun ks.length f s) x y
  | 0, s, M, x, y, c => c
  | f + 1, s, M, x, y, c => by
    unfold mrun
    cases e : s.wa.getLast? with
    | none => exact c
    | some p =>
      have ew : s.wa = s.wa.dropLast ++ [p] := by
        obtain ⟨ys, hy⟩ := List.getLast?_eq_some_iff.mp e
        rw [hy, List.dropLast_concat]
      exact cn_run hs f (step_inv M hs ew).1 (cn_step M ew c)
theorem out_pres (C : Cong E) (nd : WfL (outL ks s)) (M : MInv ks L s) (S : SInv E τ ks s) (e0 : s.wa = []) (hs : ∀ e ∈ L, e.1.1 ∈ ks) :
    Snd E (outL ks s) τ ∧ ∀ {t : Tm} {k : Nat}, walkL L 0 t = some k → walkL (outL ks s) 0 t = some (top ks s k) := by
  refine ⟨fun e he => ?_, fun {t k} h => ?_⟩
  · obtain ⟨⟨h1, h2⟩, t, ht, e2⟩ := mem_out.mp he
    have a := M.wk _ h1 _ ht
    have z := S.w _ h1 _ ht
    rw [e2]
    exact C.trans z (s_top C M.A S ks.length a.1 a.2.1)
  · revert k
    induction t using revInd with
    | h0 =>
      intro k h
      have k0 : k = 0 := (Option.some.inj h).symm
      rw [k0]
      exact congrArg some (topF_fix S.z _).symm
    | hs u n ih =>
      intro k h
      rw [walk_snoc] at h ⊢
      cases c : walkL L 0 u with
      | none => rw [c] at h; cases h
      | some j =>
        rw [c] at h
        rw [ih c]
        have m := getL_mem h
        obtain ⟨t, ht, cc⟩ := M.con _ m
        have hj := hs _ m
        have et := cn_top M e0 cc
        refine getL_of nd.nd (mem_out.mpr ⟨⟨top_mem M.A hj, top_fix M.A hj⟩, t, ht, ?_⟩)
        exact et
theorem merge_pres (C : Cong E) {ps : List (Nat × Nat)} (wf : WfL L) (hp : ∀ p ∈ ps, p.1 ∈ vals L ∧ p.2 ∈ vals L) (S : Snd E L τ) (r : Rch L) (hE : ∀ p ∈ ps, E (τ p.1) (τ p.2)) :
    Snd E (merge L ps) τ ∧ Rch (merge L ps) ∧ ∃ f : Nat → Nat, (∀ {t : Tm} {k : Nat}, walkL L 0 t = some k → walkL (merge L ps) 0 t = some (f k)) ∧ ∀ p ∈ ps, f p.1 = f p.2 := by
  obtain ⟨M, e0⟩ := end_inv wf hp
  have pv : ∀ k ∈ ksOf L ps, k ≠ 0 → k ∈ vals L := fun k hk n => by
    rcases mem_ks.mp hk with z | z | ⟨p, h, z⟩
    · exact absurd z n
    · exact z
    · rcases z with rfl | rfl
      · exact (hp p h).1
      · exact (hp p h).2
  have def_ : ∀ k ∈ vals L, E (τ k) (τ k) := fun k hk => by
    obtain ⟨e, he, rfl⟩ := List.mem_map.mp hk
    exact C.trans (C.symm (S e he)) (S e he)
  have S0 : SInv E τ (ksOf L ps) (ms0 L ps) := ⟨fun k hk n => def_ k (pv k hk n), hE, fun k _ e he => S _ (mem_ways.mp he), rfl⟩
  have S1 : SInv E τ (ksOf L ps) (mEnd L ps) := s_run C (src_ks wf) _ (ms0_inv wf hp) S0
  obtain ⟨o1, o2⟩ := out_pres C (merge_wf wf hp) M S1 e0 (src_ks wf)
  refine ⟨o1, fun k hk => ?_, top (ksOf L ps) (mEnd L ps), o2, fun p h => cn_top M e0 (cn_run (src_ks wf) _ (ms0_inv wf hp) (.wa h))⟩
  obtain ⟨e, he, rfl⟩ := List.mem_map.mp hk
  obtain ⟨⟨h1, h2⟩, t, ht, e2⟩ := mem_out.mp he
  have a := M.wk _ h1 _ ht
  obtain ⟨u, hu⟩ := r t (pv t a.1 a.2.1)
  exact ⟨u, by rw [e2]; exact o2 hu⟩
end Wp
namespace Wp
open PySem Lw
theorem flat_map {ps : List (Tm × Tm)} : (ps.flatMap fun p => [((0 : Nat), p.1), (0, p.2)]) = (ps.flatMap fun p => [p.1, p.2]).map fun t => ((0 : Nat), t) := by
  induction ps with
  | nil => rfl
  | cons p ps ih => rw [List.flatMap_cons, List.flatMap_cons, List.map_append, ih]; rfl
theorem told_pres {T ts : List Tm} {P ps : List (Tm × Tm)} {L : Leads} (H : Pres T P L) (le : ∀ x ∈ vals L, x ≤ cnt L) (nt : ∀ t ∈ ts, t ≠ []) (np : ∀ p ∈ ps, p.1 ≠ [] ∧ p.2 ≠ []) : Pres (T ++ ts) (P ++ ps) (toldL L ts ps) := by
  have eT : toldOf ts ps = (ts ++ ps.flatMap fun p => [p.1, p.2]).map fun t => ((0 : Nat), t) := by
    unfold toldOf
    rw [flat_map, List.map_append]
  have C : Cong (Sm (T ++ ts) (P ++ ps)) := sm_cong
  have pE : ∀ p ∈ ps, Sm (T ++ ts) (P ++ ps) p.1 p.2 := fun p hp => .pair (List.mem_append_right _ hp) (np p hp).1 (np p hp).2
  obtain ⟨g1, g2, ⟨τ, g3⟩, g4, g5⟩ := grow_pres (E := Sm (T ++ ts) (P ++ ps)) (ts := ts ++ ps.flatMap fun p => [p.1, p.2]) C sm_pre H.wf le (H.snd.imp fun τ S e he => (S e he).mono (fun t => List.mem_append_left _) fun p => List.mem_append_left _) H.rch fun t ht n => by
    rcases List.mem_append.mp ht with ht | ht
    · exact .told (List.mem_append_right _ ht) n
    · obtain ⟨p, hp, z⟩ := List.mem_flatMap.mp ht
      have z2 := pE p hp
      simp only [List.mem_cons, List.not_mem_nil, or_false] at z
      rcases z with rfl | rfl
      · exact z2.left
      · exact z2.right
  rw [← eT] at g1 g2 g3 g4 g5
  change WfL (moreL L ts ps) at g1
  change Ext L (moreL L ts ps) at g2
  change Snd _ (moreL L ts ps) τ at g3
  change Rch (moreL L ts ps) at g4
  have g5 : ∀ t ∈ ts ++ ps.flatMap fun p => [p.1, p.2], ∃ k, walkL (moreL L ts ps) 0 t = some k ∧ (t = [] ∨ k ∈ vals (moreL L ts ps)) := g5
  have gp : ∀ p ∈ ps, ∃ k1 k2, walkL (moreL L ts ps) 0 p.1 = some k1 ∧ walkL (moreL L ts ps) 0 p.2 = some k2 ∧ k1 ∈ vals (moreL L ts ps) ∧ k2 ∈ vals (moreL L ts ps) := fun p hp => by
    have m : ∀ x, x = p.1 ∨ x = p.2 → x ∈ ts ++ ps.flatMap fun p => [p.1, p.2] := fun x hx => List.mem_append_right _ (List.mem_flatMap.mpr ⟨p, hp, by simpa using hx⟩)
    obtain ⟨k1, a1, b1⟩ := g5 _ (m _ (.inl rfl))
    obtain ⟨k2, a2, b2⟩ := g5 _ (m _ (.inr rfl))
    exact ⟨k1, k2, a1, a2, b1.resolve_left (np p hp).1, b2.resolve_left (np p hp).2⟩
  have ge : ∀ q ∈ endsOf (moreL L ts ps) ps, ∃ p ∈ ps, walkL (moreL L ts ps) 0 p.1 = some q.1 ∧ walkL (moreL L ts ps) 0 p.2 = some q.2 ∧ q.1 ∈ vals (moreL L ts ps) ∧ q.2 ∈ vals (moreL L ts ps) := fun q hq => by
    obtain ⟨p, hp, rfl⟩ := List.mem_map.mp hq
    obtain ⟨k1, k2, a1, a2, b1, b2⟩ := gp p hp
    refine ⟨p, hp, ?_⟩
    rw [a1, a2]
    exact ⟨rfl, rfl, b1, b2⟩
  obtain ⟨m1, m2, f, m3, m4⟩ := merge_pres (ps := endsOf (moreL L ts ps) ps) C g1 (fun q hq => by
    obtain ⟨p, _, _, _, b1, b2⟩ := ge q hq
    exact ⟨b1, b2⟩) g3 g4 fun q hq => by
      obtain ⟨p, hp, a1, a2, _, _⟩ := ge q hq
      exact C.trans (C.symm (snd_walk C g1 g3 (np p hp).1 a1)) (C.trans (pE p hp) (snd_walk C g1 g3 (np p hp).2 a2))
  refine ⟨merge_wf g1 fun q hq => by
    obtain ⟨p, _, _, _, b1, b2⟩ := ge q hq
    exact ⟨b1, b2⟩, ⟨τ, m1⟩, fun t ht n => ?_, fun p hp n1 n2 => ?_, m2⟩
  · rcases List.mem_append.mp ht with ht | ht
    · obtain ⟨k, hk⟩ := H.tot t ht n
      exact ⟨_, m3 (g2.walk hk)⟩
    · obtain ⟨k, hk, _⟩ := g5 t (List.mem_append_left _ ht)
      exact ⟨_, m3 hk⟩
  · rcases List.mem_append.mp hp with hp | hp
    · obtain ⟨k, h1, h2⟩ := H.par p hp n1 n2
      exact ⟨_, m3 (g2.walk h1), m3 (g2.walk h2)⟩
    · obtain ⟨k1, k2, a1, a2, _, _⟩ := gp p hp
      have q : (k1, k2) ∈ endsOf (moreL L ts ps) ps := List.mem_map.mpr ⟨p, hp, by rw [a1, a2]; rfl⟩
      have z := m4 _ q
      dsimp only at z
      exact ⟨_, m3 a1, by rw [z]; exact m3 a2⟩
theorem pres_nil : Pres [] [] [] := ⟨.nil, ⟨fun _ => [], fun e h => absurd h List.not_mem_nil⟩, fun t h => absurd h List.not_mem_nil, fun p h => absurd h List.not_mem_nil, fun k h => absurd h List.not_mem_nil⟩
structure NI2 (L : Leads) (at_ : Nat) (s : List Nat × Leads) : Prop where
  tgt : ∀ e ∈ s.2, ∃ k t, s.1[e.1.1]? = some k ∧ getL L k e.1.2 = some t ∧ s.1[e.2]? = some t
  all : ∀ i k n t, i < at_ → s.1[i]? = some k → getL L k n = some t → ∃ e ∈ s.2, e.1 = (i, n)
variable {L : Leads} {at_ k : Nat} {s : List Nat × Leads}
/-- one is told after the other -/
def Pre2 (s s' : List Nat × Leads) : Prop := (∃ r, s'.1 = s.1 ++ r) ∧ ∃ r, s'.2 = s.2 ++ r
theorem Pre2.trans {s s' s'' : List Nat × Leads} (h : Pre2 s s') (k : Pre2 s' s'') : Pre2 s s'' := by
  obtain ⟨⟨a, h1⟩, b, h2⟩ := h
  obtain ⟨⟨c, k1⟩, d, k2⟩ := k
  exact ⟨⟨a ++ c, by rw [k1, h1, List.append_assoc]⟩, b ++ d, by rw [k2, h2, List.append_assoc]⟩
theorem Pre2.get {s s' : List Nat × Leads} (h : Pre2 s s') {i x : Nat} (e : s.1[i]? = some x) : s'.1[i]? = some x := by
  obtain ⟨⟨a, h1⟩, _⟩ := h
  rw [h1, List.getElem?_append_left (List.getElem?_eq_some_iff.mp e).1]
  exact e
theorem Pre2.mem {s s' : List Nat × Leads} (h : Pre2 s s') {e : Lead} (m : e ∈ s.2) : e ∈ s'.2 := by
  obtain ⟨_, b, h2⟩ := h
  rw [h2]
  exact List.mem_append_left _ m
theorem nfold_pres (hk : s.1[at_]? = some k) : ∀ {ns : List Str} {s : List Nat × Leads}, s.1[at_]? = some k → (∀ n ∈ ns, ∃ t, getL L k n = some t) → (∀ e ∈ s.2, ∃ k t, s.1[e.1.1]? = some k ∧ getL L k e.1.2 = some t ∧ s.1[e.2]? = some t) →
    Pre2 s (nfold L k at_ ns s) ∧ (∀ e ∈ (nfold L k at_ ns s).2, ∃ k' t, (nfold L k at_ ns s).1[e.1.1]? = some k' ∧ getL L k' e.1.2 = some t ∧ (nfold L k at_ ns s).1[e.2]? = some t) ∧ ∀ n ∈ ns, ∃ e ∈ (nfold L k at_ ns s).2, e.1 = (at_, n)
  | [], s, h1, _, h3 => ⟨⟨⟨[], (List.append_nil _).symm⟩, [], (List.append_nil _).symm⟩, h3, fun _ h => absurd h List.not_mem_nil⟩
  | n :: r, s, h1, h2, h3 => by
    obtain ⟨t, ht⟩ := h2 n List.mem_cons_self
    rw [nfold_cons ht]
    have go : ∀ s1 : List Nat × Leads, Pre2 s s1 → (∃ j, s1.2 = s.2 ++ [((at_, n), j)] ∧ s1.1[j]? = some t) → Pre2 s (nfold L k at_ r s1) ∧ (∀ e ∈ (nfold L k at_ r s1).2, ∃ k' t, (nfold L k at_ r s1).1[e.1.1]? = some k' ∧ getL L k' e.1.2 = some t ∧ (nfold L k at_ r s1).1[e.2]? = some t) ∧ ∀ m ∈ n :: r, ∃ e ∈ (nfold L k at_ r s1).2, e.1 = (at_, m) := fun s1 p1 ⟨j, e1, hj⟩ => by
      obtain ⟨q1, q2, q3⟩ := nfold_pres hk (ns := r) (s := s1) (p1.get h1) (fun m hm => h2 m (List.mem_cons_of_mem _ hm)) fun e he => by
        rw [e1] at he
        rcases List.mem_append.mp he with he | he
        · obtain ⟨k', t', a, b, c⟩ := h3 e he
          exact ⟨k', t', p1.get a, b, p1.get c⟩
        · rw [List.mem_singleton.mp he]
          exact ⟨k, t, p1.get h1, ht, hj⟩
      refine ⟨p1.trans q1, q2, fun m hm => ?_⟩
      rcases List.mem_cons.mp hm with rfl | hm
      · exact ⟨_, q1.mem (by rw [e1]; exact List.mem_append_right _ (List.mem_singleton_self _)), rfl⟩
      · exact q3 m hm
    by_cases c : t ∈ s.1
    · rw [if_pos c]
      exact go (s.1, s.2 ++ [((at_, n), ixOf s.1 t)]) ⟨⟨[], (List.append_nil _).symm⟩, _, rfl⟩ ⟨_, rfl, ixOf_get c⟩
    · rw [if_neg c]
      refine go (s.1 ++ [t], s.2 ++ [((at_, n), s.1.length)]) ⟨⟨[t], rfl⟩, _, rfl⟩ ⟨_, rfl, ?_⟩
      show (s.1 ++ [t])[s.1.length]? = some t
      rw [List.getElem?_append_right (Nat.le_refl _), Nat.sub_self]
      rfl
theorem nrun_pres (wf : WfL L) : ∀ (f i : Nat) {s : List Nat × Leads}, NI2 L i s → NAt L i s → i ≤ s.1.length → L.length + 1 < f + i → ∃ j, NI2 L j (nrun L f i s) ∧ NAt L j (nrun L f i s) ∧ (nrun L f i s).1[j]? = none
  | 0, i, s, h2, h, hi, hf => ⟨i, h2, h, List.getElem?_eq_none (by
      have := h.inv.len_le
      show s.1.length ≤ i
      omega)⟩
  | f + 1, i, s, h2, h, hi, hf => by
    unfold nrun
    cases e : s.1[i]? with
    | none => exact ⟨i, h2, h, e⟩
    | some k =>
      dsimp only
      obtain ⟨h3, _⟩ := n_turn wf h e
      have hl : i < s.1.length := (List.getElem?_eq_some_iff.mp e).1
      obtain ⟨q1, q2, q3⟩ := nfold_pres (L := L) e (ns := namesS L k) e (fun n hn => (namesS_get wf hn).imp fun _ z => z.1) h2.tgt
      have hl2 : s.1.length ≤ (nfold L k i (namesS L k) s).1.length := by
        obtain ⟨⟨r, er⟩, _⟩ := q1
        rw [er, List.length_append]
        omega
      refine nrun_pres wf f (i + 1) ⟨q2, fun a k' n t ha hk' hg => ?_⟩ h3 (by omega) (by omega)
      by_cases c : a = i
      · subst c
        have z := q1.get e
        rw [hk'] at z
        cases z
        exact q3 n (mem_namesS.mpr ⟨t, getL_mem hg⟩)
      · have la : a < s.1.length := by omega
        have z : s.1[a]? = some k' := by
          obtain ⟨⟨r, er⟩, _⟩ := q1
          rw [er, List.getElem?_append_left la] at hk'
          exact hk'
        obtain ⟨e', he', ee⟩ := h2.all a k' n t (by omega) z hg
        exact ⟨e', q1.mem he', ee⟩
/-- the turns, and what they find -/
structure Nm (M L : Leads) (T : List Nat) : Prop where
  nd : T.Nodup
  z : T[0]? = some 0
  sub : ∀ x ∈ T, x = 0 ∨ x ∈ vals M
  fn : (L.map (·.1)).Nodup
  tgt : ∀ e ∈ L, ∃ k t, T[e.1.1]? = some k ∧ getL M k e.1.2 = some t ∧ T[e.2]? = some t
  all : ∀ i k n t, T[i]? = some k → getL M k n = some t → ∃ j, ((i, n), j) ∈ L ∧ T[j]? = some t
  val : ∀ i, i ∈ vals L ↔ 0 < i ∧ i < T.length
theorem numb_nm {M : Leads} (wf : WfL M) : ∃ T, Nm M (numb M) T ∧ (least (numb M)).length = T.length := by
  obtain ⟨j, h2, h, e⟩ := nrun_pres wf (M.length + 2) 0 (s := ([0], [])) ⟨fun _ h => absurd h List.not_mem_nil, fun i _ _ _ h => absurd h (Nat.not_lt_zero _)⟩ (n0_at M) (by omega) (by omega)
  have hj := List.getElem?_eq_none_iff.mp e
  refine ⟨_, ⟨h.inv.nd, h.inv.z, h.inv.sub, h.inv.fn, h2.tgt, fun i k n t hi hg => ?_, fun i => ⟨fun hi => ?_, fun ⟨a, b⟩ => h.inv.all i a b⟩⟩, h.inv.len⟩
  · have li := (List.getElem?_eq_some_iff.mp hi).1
    obtain ⟨x, hx, ex⟩ := h2.all i k n t (by omega) hi hg
    obtain ⟨k', t', a, b, c⟩ := h2.tgt x hx
    rw [ex] at a b
    dsimp only at a b
    rw [hi] at a
    cases a
    rw [hg] at b
    cases b
    exact ⟨x.2, by rw [← ex]; exact hx, c⟩
  · obtain ⟨x, hx, rfl⟩ := List.mem_map.mp hi
    obtain ⟨_, _, a, b⟩ := h.inv.lt x hx
    exact ⟨a, b⟩
theorem nm_inj {T : List Nat} (nd : T.Nodup) {i j x : Nat} (h1 : T[i]? = some x) (h2 : T[j]? = some x) : i = j := (List.getElem?_inj (List.getElem?_eq_some_iff.mp h1).1 nd).mp (h1.trans h2.symm)
theorem nm_walk {M L : Leads} {T : List Nat} (N : Nm M L T) : ∀ {t : Tm} {k : Nat}, walkL M 0 t = some k → ∃ i, walkL L 0 t = some i ∧ T[i]? = some k := fun {t} => by
  induction t using revInd with
  | h0 =>
    intro k h
    have k0 : k = 0 := (Option.some.inj h).symm
    rw [k0]
    exact ⟨0, rfl, N.z⟩
  | hs u n ih =>
    intro k h
    rw [walk_snoc] at h
    cases c : walkL M 0 u with
    | none => rw [c] at h; cases h
    | some j =>
      rw [c] at h
      obtain ⟨i, h1, h2⟩ := ih c
      obtain ⟨j2, m, h3⟩ := N.all i j n k h2 h
      refine ⟨j2, ?_, h3⟩
      rw [walk_snoc, h1]
      exact getL_of N.fn m
theorem numb_pres {T : List Tm} {P : List (Tm × Tm)} {M : Leads} (H : Pres T P M) : Pres T P (numb M) := by
  obtain ⟨X, N, el⟩ := numb_nm H.wf
  obtain ⟨nl, _, _⟩ := numb_num H.wf
  obtain ⟨τ, S⟩ := H.snd
  refine ⟨nl.wf, ⟨fun i => τ (X.getD i 0), fun e he => ?_⟩, fun t ht n => ?_, fun p hp n1 n2 => ?_, fun k hk => ?_⟩
  · obtain ⟨k, t, a, b, c⟩ := N.tgt e he
    have z := S _ (getL_mem b)
    have e1 : X.getD e.1.1 0 = k := by rw [List.getD_eq_getElem?_getD, a]; rfl
    have e2 : X.getD e.2 0 = t := by rw [List.getD_eq_getElem?_getD, c]; rfl
    have e3 : t0 (fun i => τ (X.getD i 0)) e.1.1 = t0 τ k := by
      unfold t0
      by_cases z : e.1.1 = 0
      · have k0 : k = 0 := by
          rw [z, N.z] at a
          exact (Option.some.inj a).symm
        rw [if_pos z, if_pos k0]
      · have k0 : k ≠ 0 := fun k0 => z (nm_inj N.nd (by rw [a, k0]) N.z)
        rw [if_neg z, if_neg k0]
        show τ (X.getD e.1.1 0) = τ k
        rw [e1]
    show Sm T P (t0 (fun i => τ (X.getD i 0)) e.1.1 ++ [e.1.2]) (τ (X.getD e.2 0))
    rw [e3, e2]
    exact z
  · obtain ⟨k, h⟩ := H.tot t ht n
    obtain ⟨i, hi, _⟩ := nm_walk N h
    exact ⟨i, hi⟩
  · obtain ⟨k, h1, h2⟩ := H.par p hp n1 n2
    obtain ⟨i, hi, a⟩ := nm_walk N h1
    obtain ⟨j, hj, b⟩ := nm_walk N h2
    exact ⟨i, hi, by rw [nm_inj N.nd a b]; exact hj⟩
  · obtain ⟨k0, kl⟩ := (N.val k).mp hk
    have hx : X[k]? = some X[k] := List.getElem?_eq_getElem kl
    rcases N.sub _ (List.getElem_mem kl) with z | z
    · rw [z] at hx
      have := nm_inj N.nd hx N.z
      omega
    · obtain ⟨t, ht⟩ := H.rch _ z
      obtain ⟨i, hi, a⟩ := nm_walk N ht
      exact ⟨t, by rw [hi, nm_inj N.nd a hx]⟩
/-- the number of knots of numbered leads -/
theorem num_le {L : Leads} (h : NumL L) : ∀ x ∈ vals L, x ≤ cnt L := fun x hx => by
  obtain ⟨x0, xl⟩ := (h.val x).mpr hx
  have z : ((List.range (least L).length).drop 1).length ≤ (firsts [] (vals L)).length := by
    refine nodup_le ?_ fun y hy => ?_
    · exact List.nodup_range.sublist (List.drop_sublist _ _)
    · obtain ⟨i, hi⟩ := List.getElem?_of_mem hy
      rw [List.getElem?_drop] at hi
      obtain ⟨hl, e⟩ := List.getElem?_eq_some_iff.mp hi
      rw [List.getElem_range] at e
      rw [List.length_range] at hl
      exact mem_firsts.mpr (.inr ((h.val y).mp ⟨by omega, by omega⟩))
  rw [List.length_drop, List.length_range] at z
  unfold cnt
  omega
end Wp
namespace Wp
open PySem Lw
theorem lexW_app : ∀ {u v : Tm} (a b : Tm), lexW u v = true → u.length = v.length → lexW (u ++ a) (v ++ b) = true
  | [], [], a, b, h, _ => by cases h
  | [], y :: v, a, b, h, l => by cases l
  | x :: u, [], a, b, h, l => by cases l
  | x :: u, y :: v, a, b, h, l => by
    have h : (if x = y then lexW u v else decide (x.cps.toList < y.cps.toList)) = true := h
    show (if x = y then lexW (u ++ a) (v ++ b) else decide (x.cps.toList < y.cps.toList)) = true
    by_cases e : x = y
    · rw [if_pos e] at h ⊢
      exact lexW_app a b h (Nat.succ.inj l)
    · rw [if_neg e] at h ⊢
      exact h
theorem lexW_same : ∀ (u : Tm) {a b : Tm}, lexW (u ++ a) (u ++ b) = lexW a b
  | [], a, b => rfl
  | x :: u, a, b => by
    show (if x = x then lexW (u ++ a) (u ++ b) else _) = _
    rw [if_pos rfl]
    exact lexW_same u
theorem ahead_len {u v : Tm} (h : u.length < v.length) : aheadW u v = true := by
  unfold aheadW
  rw [if_neg (by omega)]
  exact decide_eq_true h
/-- one letter more -/
theorem ahead_snoc {u v : Tm} {x y : Str} (h : aheadW u v = true) : aheadW (u ++ [x]) (v ++ [y]) = true := by
  by_cases e : u.length = v.length
  · unfold aheadW at h ⊢
    rw [if_pos e] at h
    rw [if_pos (by rw [List.length_append, List.length_append, e]; rfl)]
    exact lexW_app _ _ h e
  · have l := ahead_le h
    exact ahead_len (by
      rw [List.length_append, List.length_append]
      show u.length + 1 < v.length + 1
      omega)
theorem ahead_name {u : Tm} {x y : Str} (h : aheadW [x] [y] = true) : aheadW (u ++ [x]) (u ++ [y]) = true := by
  unfold aheadW at h ⊢
  rw [if_pos (by rw [List.length_append, List.length_append]; rfl), lexW_same]
  exact h
/-- knots are told one by one -/
def Dis : List Tm → Leads → Prop
  | _, [] => True
  | acc, e :: L => (e.2 ≤ acc.length ∧ e.1.1 < acc.length) ∧ Dis (lstep acc e) L
theorem dis_snoc {e : Lead} : ∀ {L : Leads} {acc : List Tm}, Dis acc L → (e.2 ≤ (leastF acc L).length ∧ e.1.1 < (leastF acc L).length) → Dis acc (L ++ [e])
  | [], acc, _, h => ⟨h, True.intro⟩
  | d :: L, acc, k, h => ⟨k.1, dis_snoc k.2 h⟩
def kLt (a b : Lead) : Prop := a.1.1 < b.1.1 ∨ (a.1.1 = b.1.1 ∧ aheadW [a.1.2] [b.1.2] = true)
theorem kLt_trans {a b c : Lead} (h : kLt a b) (k : kLt b c) : kLt a c := by
  rcases h with h | ⟨h1, h2⟩
  · rcases k with k | ⟨k1, _⟩
    · exact .inl (by omega)
    · exact .inl (by omega)
  · rcases k with k | ⟨k1, k2⟩
    · exact .inl (by omega)
    · exact .inr ⟨by omega, ahead_trans h2 k2⟩
theorem kLt_irr {a : Lead} (h : kLt a a) : False := by
  rcases h with h | ⟨_, h⟩
  · omega
  · rw [ahead_irr] at h
    cases h
structure Can (L : Leads) : Prop where
  num : NumL L
  dis : Dis [[]] L
  srt : L.Pairwise kLt
structure NI3 (at_ : Nat) (s : List Nat × Leads) : Prop where
  dis : Dis [[]] s.2
  len : (leastF [[]] s.2).length = s.1.length
  srt : s.2.Pairwise kLt
  lt : ∀ e ∈ s.2, e.1.1 ≤ at_
theorem nfold_can {L : Leads} {at_ k : Nat} : ∀ {ns : List Str} {s : List Nat × Leads}, NI3 at_ s → at_ < s.1.length → (∀ n ∈ ns, ∃ t, getL L k n = some t) → Sd (ns.map fun n => [n]) → (∀ e ∈ s.2, e.1.1 = at_ → ∀ n ∈ ns, aheadW [e.1.2] [n] = true) → NI3 at_ (nfold L k at_ ns s)
  | [], s, h, _, _, _, _ => h
  | n :: r, s, h, hat, hg, sd, hb => by
    obtain ⟨t, ht⟩ := hg n List.mem_cons_self
    rw [nfold_cons ht]
    have sd2 : (∀ v ∈ r.map fun n => [n], aheadW [n] v = true) ∧ Sd (r.map fun n => [n]) := List.pairwise_cons.mp sd
    have go : ∀ (s1 : List Nat × Leads) (j : Nat), s1.2 = s.2 ++ [((at_, n), j)] → j ≤ s.1.length → (leastF [[]] s1.2).length = s1.1.length → s.1.length ≤ s1.1.length → NI3 at_ (nfold L k at_ r s1) := fun s1 j e1 hj hl hle => by
      refine nfold_can (s := s1) ⟨?_, hl, ?_, fun e he => ?_⟩ (by omega) (fun m hm => hg m (List.mem_cons_of_mem _ hm)) sd2.2 fun e he ea m hm => ?_
      · rw [e1]
        exact dis_snoc h.dis (by rw [h.len]; exact ⟨hj, hat⟩)
      · rw [e1]
        refine List.pairwise_append.mpr ⟨h.srt, List.pairwise_singleton _ _, fun a ha b hb2 => ?_⟩
        rw [List.mem_singleton.mp hb2]
        rcases Nat.lt_or_eq_of_le (h.lt a ha) with z | z
        · exact .inl z
        · exact .inr ⟨z, hb a ha z n List.mem_cons_self⟩
      · rw [e1] at he
        rcases List.mem_append.mp he with he | he
        · exact h.lt e he
        · rw [List.mem_singleton.mp he]
          exact Nat.le_refl _
      · rw [e1] at he
        rcases List.mem_append.mp he with he | he
        · exact hb e he ea m (List.mem_cons_of_mem _ hm)
        · rw [List.mem_singleton.mp he]
          exact sd2.1 _ (List.mem_map.mpr ⟨m, hm, rfl⟩)
    by_cases c : t ∈ s.1
    · rw [if_pos c]
      have i1 := ixOf_lt c
      refine go (s.1, s.2 ++ [((at_, n), ixOf s.1 t)]) _ rfl (by omega) ?_ (Nat.le_refl _)
      show (leastF [[]] (s.2 ++ [((at_, n), ixOf s.1 t)])).length = s.1.length
      rw [leastF_snoc]
      unfold lstep
      rw [if_neg (by rw [h.len]; show ¬ ixOf s.1 t = s.1.length; omega), h.len]
    · rw [if_neg c]
      have lap : (s.1 ++ [t]).length = s.1.length + 1 := List.length_append
      refine go (s.1 ++ [t], s.2 ++ [((at_, n), s.1.length)]) _ rfl (Nat.le_refl _) ?_ (by show s.1.length ≤ (s.1 ++ [t]).length; omega)
      show (leastF [[]] (s.2 ++ [((at_, n), s.1.length)])).length = (s.1 ++ [t]).length
      rw [leastF_snoc, lap]
      unfold lstep
      rw [if_pos h.len.symm, List.length_append, h.len]
      rfl
theorem nrun_can {L : Leads} (wf : WfL L) : ∀ (f i : Nat) {s : List Nat × Leads}, NI3 i s → (∀ e ∈ s.2, e.1.1 < i) → Dis [[]] (nrun L f i s).2 ∧ (nrun L f i s).2.Pairwise kLt
  | 0, i, s, h, _ => ⟨h.dis, h.srt⟩
  | f + 1, i, s, h, hl => by
    unfold nrun
    cases e : s.1[i]? with
    | none => exact ⟨h.dis, h.srt⟩
    | some k =>
      dsimp only
      have z := nfold_can (L := L) (k := k) (ns := namesS L k) h (List.getElem?_eq_some_iff.mp e).1 (fun n hn => (namesS_get wf hn).imp fun _ z => z.1) (Tk.ltW_sd _) fun e he ea => by
        have := hl e he
        omega
      exact nrun_can wf f (i + 1) ⟨z.dis, z.len, z.srt, fun e he => Nat.le_succ_of_le (z.lt e he)⟩ fun e he => Nat.lt_succ_of_le (z.lt e he)
theorem numb_can {M : Leads} (wf : WfL M) : Can (numb M) := by
  obtain ⟨a, b⟩ := nrun_can wf (M.length + 2) 0 (s := ([0], [])) ⟨True.intro, rfl, .nil, fun _ h => absurd h List.not_mem_nil⟩ fun _ h => absurd h List.not_mem_nil
  exact ⟨(numb_num wf).1, a, b⟩
structure FL (D : Leads) (acc : List Tm) : Prop where
  z : acc[0]? = some []
  tl : ∀ e ∈ D, e.2 < acc.length
  fst : ∀ i, 0 < i → i < acc.length → ∃ p q e, D = p ++ e :: q ∧ e.2 = i ∧ (∀ d ∈ p, d.2 < i) ∧ e.1.1 < i ∧ ∃ r, acc[e.1.1]? = some r ∧ acc[i]? = some (r ++ [e.1.2])
theorem fl_run : ∀ {L D : Leads} {acc : List Tm}, FL D acc → Dis acc L → FL (D ++ L) (leastF acc L)
  | [], D, acc, h, _ => by rw [List.append_nil]; exact h
  | x :: L, D, acc, h, d => by
    obtain ⟨⟨d1, d2⟩, d3⟩ := d
    have s1 : FL (D ++ [x]) (lstep acc x) := by
      unfold lstep
      by_cases c : x.2 = acc.length
      · rw [if_pos c]
        have gx : acc[x.1.1]? = some (acc.getD x.1.1 []) := by
          rw [List.getD_eq_getElem?_getD, List.getElem?_eq_getElem d2]
          rfl
        have al : (acc ++ [acc.getD x.1.1 [] ++ [x.1.2]]).length = acc.length + 1 := List.length_append
        have old : ∀ {i : Nat} {r : Tm}, acc[i]? = some r → (acc ++ [acc.getD x.1.1 [] ++ [x.1.2]])[i]? = some r := fun e => by
          rw [List.getElem?_append_left (List.getElem?_eq_some_iff.mp e).1]
          exact e
        refine ⟨old h.z, fun e he => ?_, fun i i0 il => ?_⟩
        · rw [al]
          rcases List.mem_append.mp he with he | he
          · have := h.tl e he
            omega
          · rw [List.mem_singleton.mp he]
            omega
        · rw [al] at il
          by_cases e : i = acc.length
          · refine ⟨D, [], x, rfl, by omega, fun d hd => by have := h.tl d hd; omega, by omega, _, old gx, ?_⟩
            rw [e, List.getElem?_append_right (Nat.le_refl _), Nat.sub_self]
            rfl
          · obtain ⟨p, q, e', h1, h2, h3, h4, r, h5, h6⟩ := h.fst i i0 (by omega)
            exact ⟨p, q ++ [x], e', by rw [h1, List.append_assoc]; rfl, h2, h3, h4, r, old h5, old h6⟩
      · rw [if_neg c]
        refine ⟨h.z, fun e he => ?_, fun i i0 il => ?_⟩
        · rcases List.mem_append.mp he with he | he
          · exact h.tl e he
          · rw [List.mem_singleton.mp he]
            omega
        · obtain ⟨p, q, e', h1, h2, h3, h4, r, h5, h6⟩ := h.fst i i0 il
          exact ⟨p, q ++ [x], e', by rw [h1, List.append_assoc]; rfl, h2, h3, h4, r, h5, h6⟩
    have z := fl_run (L := L) s1 d3
    rw [List.append_assoc] at z
    exact z
theorem can_fl {L : Leads} (h : Can L) : FL L (least L) := fl_run (L := L) (D := []) ⟨rfl, fun _ h => absurd h List.not_mem_nil, fun i i0 il => by
  have il : i < 1 := il
  omega⟩ h.dis
section
variable {L : Leads}
theorem least_ne (h : Can L) {i : Nat} {r : Tm} (i0 : 0 < i) (e : (least L)[i]? = some r) : r ≠ [] := by
  obtain ⟨p, q, x, _, _, _, _, r', _, h6⟩ := (can_fl h).fst i i0 (List.getElem?_eq_some_iff.mp e).1
  rw [e] at h6
  cases h6
  simp
/-- a lead ahead of another one -/
theorem fl_before {p q : Leads} {e d : Lead} (hL : L = p ++ e :: q) (hs : L.Pairwise kLt) (hd : d ∈ L) (hp : d ∉ p) : d = e ∨ kLt e d := by
  rw [hL] at hd hs
  rcases List.mem_append.mp hd with z | z
  · exact absurd z hp
  · rcases List.mem_cons.mp z with z | z
    · exact .inl z
    · exact .inr ((List.pairwise_cons.mp (List.pairwise_append.mp hs).2.1).1 d z)
theorem least_lt (h : Can L) : ∀ (j : Nat) {i : Nat} {r s : Tm}, i < j → (least L)[i]? = some r → (least L)[j]? = some s → aheadW r s = true := fun j => by
  induction j using Nat.strongRecOn with
  | ind j ih =>
    intro i r s hij hi hj
    have F := can_fl h
    have jl := (List.getElem?_eq_some_iff.mp hj).1
    have sn := least_ne h (by omega) hj
    by_cases i0 : i = 0
    · rw [i0, F.z] at hi
      cases hi
      refine ahead_len ?_
      cases s with
      | nil => exact absurd rfl sn
      | cons x s => exact Nat.succ_pos _
    · obtain ⟨p, q, e, h1, h2, h3, h4, r', h5, h6⟩ := F.fst i (by omega) (by omega)
      obtain ⟨p2, q2, e2, k1, k2, k3, k4, s', k5, k6⟩ := F.fst j (by omega) jl
      rw [hi] at h6
      cases h6
      rw [hj] at k6
      cases k6
      have m2 : e2 ∈ L := by rw [k1]; exact List.mem_append_right _ List.mem_cons_self
      rcases fl_before h1 h.srt m2 (fun m => by have := h3 _ m; omega) with z | z | ⟨z1, z2⟩
      · rw [z] at k2
        omega
      · exact ahead_snoc (ih e2.1.1 (by omega) z h5 k5)
      · rw [z1, k5] at h5
        cases h5
        exact ahead_name z2
theorem least_walk (h : Can L) : ∀ (i : Nat) {r : Tm}, (least L)[i]? = some r → walkL L 0 r = some i := fun i => by
  induction i using Nat.strongRecOn with
  | ind i ih =>
    intro r hi
    have F := can_fl h
    by_cases i0 : i = 0
    · rw [i0, F.z] at hi
      cases hi
      rw [i0]
      rfl
    · obtain ⟨p, q, e, h1, h2, h3, h4, r', h5, h6⟩ := F.fst i (by omega) (List.getElem?_eq_some_iff.mp hi).1
      rw [hi] at h6
      cases h6
      rw [walk_snoc, ih e.1.1 h4 h5, ← h2]
      have m : e ∈ L := by rw [h1]; exact List.mem_append_right _ List.mem_cons_self
      exact getL_of h.num.wf.nd m
theorem least_min (h : Can L) {t : Tm} : ∀ {i : Nat} {r : Tm}, walkL L 0 t = some i → (least L)[i]? = some r → r = t ∨ aheadW r t = true := by
  induction t using revInd with
  | h0 =>
    intro i r hw hi
    have z : i = 0 := (Option.some.inj hw).symm
    rw [z, (can_fl h).z] at hi
    exact .inl (Option.some.inj hi).symm
  | hs u n ih =>
    intro i r hw hi
    have F := can_fl h
    rw [walk_snoc] at hw
    cases c : walkL L 0 u with
    | none => rw [c] at hw; cases hw
    | some k =>
      rw [c] at hw
      have m := getL_mem hw
      have ip : 0 < i := h.num.wf.pos _ m
      obtain ⟨p, q, e, h1, h2, h3, h4, r', h5, h6⟩ := F.fst i ip (List.getElem?_eq_some_iff.mp hi).1
      rw [hi] at h6
      cases h6
      have kl : k < (least L).length := by
        by_cases k0 : k = 0
        · rw [k0]
          exact (List.getElem?_eq_some_iff.mp F.z).1
        · by_cases un : u = []
          · rw [un] at c
            exact absurd (Option.some.inj c).symm k0
          · exact ((h.num.val k).mpr (walk_val h.num.wf un c).1).2
      have gk : (least L)[k]? = some (least L)[k] := List.getElem?_eq_getElem kl
      generalize (least L)[k] = rk at gk
      have ik := ih c gk
      have up : ∀ {x : Tm}, aheadW x (rk ++ [n]) = true → aheadW x (u ++ [n]) = true := fun hx => by
        rcases ik with rfl | ik
        · exact hx
        · exact ahead_trans hx (ahead_snoc ik)
      rcases fl_before h1 h.srt m (fun z => by have := h3 _ z; dsimp only at this; omega) with z | z | ⟨z1, z2⟩
      · rw [← z] at h5 ⊢
        dsimp only at h5 ⊢
        rw [gk] at h5
        cases h5
        rcases ik with rfl | ik
        · exact .inl rfl
        · exact .inr (ahead_snoc ik)
      · exact .inr (up (ahead_snoc (least_lt h k z h5 gk)))
      · have z1 : e.1.1 = k := z1
        rw [z1, gk] at h5
        cases h5
        exact .inr (up (ahead_name z2))
theorem least_sd (h : Can L) : Sd (least L) := List.pairwise_iff_getElem.mpr fun i j hi hj hij => least_lt h j hij (List.getElem?_eq_getElem hi) (List.getElem?_eq_getElem hj)
end
end Wp
namespace Wp
open PySem Lw
theorem pw_uniq {α : Type} {lt : α → α → Prop} (irr : ∀ {a}, ¬ lt a a) (tr : ∀ {a b c}, lt a b → lt b c → lt a c) : ∀ {xs ys : List α}, xs.Pairwise lt → ys.Pairwise lt → (∀ x, x ∈ xs ↔ x ∈ ys) → xs = ys
  | [], [], _, _, _ => rfl
  | [], y :: ys, _, _, m => absurd ((m y).mpr List.mem_cons_self) List.not_mem_nil
  | x :: xs, [], _, _, m => absurd ((m x).mp List.mem_cons_self) List.not_mem_nil
  | x :: xs, y :: ys, h, k, m => by
    obtain ⟨h1, h2⟩ := List.pairwise_cons.mp h
    obtain ⟨k1, k2⟩ := List.pairwise_cons.mp k
    have e : x = y := by
      rcases List.mem_cons.mp ((m x).mp List.mem_cons_self) with e | e
      · exact e
      · rcases List.mem_cons.mp ((m y).mpr List.mem_cons_self) with f | f
        · exact f.symm
        · exact absurd (tr (h1 y f) (k1 x e)) irr
    subst e
    rw [pw_uniq irr tr h2 k2 fun z => ?_]
    constructor
    · intro hz
      rcases List.mem_cons.mp ((m z).mp (List.mem_cons_of_mem _ hz)) with f | f
      · rw [f] at hz
        exact absurd (h1 x hz) irr
      · exact f
    · intro hz
      rcases List.mem_cons.mp ((m z).mpr (List.mem_cons_of_mem _ hz)) with f | f
      · rw [f] at hz
        exact absurd (k1 x hz) irr
      · exact f
section
variable {L M : Leads}
theorem least_get (h : Can L) {k : Nat} (hk : k = 0 ∨ k ∈ vals L) : ∃ r, (least L)[k]? = some r := by
  have l : k < (least L).length := by
    rcases hk with z | z
    · rw [z]
      exact (List.getElem?_eq_some_iff.mp (can_fl h).z).1
    · exact ((h.num.val k).mpr z).2
  exact ⟨_, List.getElem?_eq_getElem l⟩
theorem ws_walk {t : Tm} {k : Nat} (n : t ≠ []) (h : walkL L 0 t = some k) : WS L t t := ⟨n, n, k, h, h⟩
/-- the least terms are the first ones of those that are the same -/
theorem mem_least (h : Can L) {t : Tm} (n : t ≠ []) : t ∈ least L ↔ WS L t t ∧ ∀ u, WS L t u → t = u ∨ aheadW t u = true := by
  constructor
  · intro m
    obtain ⟨i, hi⟩ := List.getElem?_of_mem m
    have w := least_walk h i hi
    refine ⟨ws_walk n w, fun u ⟨_, _, k, h1, h2⟩ => ?_⟩
    rw [w] at h1
    cases h1
    exact least_min h h2 hi
  · rintro ⟨⟨_, _, k, h1, _⟩, m⟩
    obtain ⟨r, hr⟩ := least_get h (.inr (walk_val h.num.wf n h1).1)
    have rn := least_ne h (walk_val h.num.wf n h1).2 hr
    have w := least_walk h k hr
    have e : t = r := by
      rcases m r ⟨n, rn, k, h1, w⟩ with e | e
      · exact e
      · rcases least_min h h1 hr with f | f
        · exact f.symm
        · rw [ahead_asymm e] at f
          cases f
    rw [e]
    exact List.mem_of_getElem? hr
theorem least_same (h : Can L) (k : Can M) (s : ∀ t u, WS L t u ↔ WS M t u) : least L = least M := sd_uniq (least_sd h) (least_sd k) fun t => by
  by_cases n : t = []
  · subst n
    exact ⟨fun _ => List.mem_of_getElem? (can_fl k).z, fun _ => List.mem_of_getElem? (can_fl h).z⟩
  · rw [mem_least h n, mem_least k n, s t t]
    exact ⟨fun z => ⟨z.1, fun u hu => z.2 u ((s t u).mpr hu)⟩, fun z => ⟨z.1, fun u hu => z.2 u ((s t u).mp hu)⟩⟩
/-- a lead, by the least terms of its ends -/
theorem mem_can (h : Can L) {k j : Nat} {n : Str} : ((k, n), j) ∈ L ↔ ∃ r s, (least L)[k]? = some r ∧ (least L)[j]? = some s ∧ WS L (r ++ [n]) s := by
  constructor
  · intro m
    obtain ⟨r, hr⟩ := least_get h (h.num.wf.src _ m)
    obtain ⟨s, hs⟩ := least_get h (.inr (mem_vals m))
    have wr := least_walk h k hr
    refine ⟨r, s, hr, hs, by simp, least_ne h (h.num.wf.pos _ m) hs, j, ?_, least_walk h j hs⟩
    rw [walk_snoc, wr]
    exact getL_of h.num.wf.nd m
  · rintro ⟨r, s, hr, hs, _, _, i, h1, h2⟩
    rw [least_walk h j hs] at h2
    cases h2
    rw [walk_snoc, least_walk h k hr] at h1
    exact getL_mem h1
theorem can_uniq (h : Can L) (k : Can M) (s : ∀ t u, WS L t u ↔ WS M t u) : L = M := by
  have e := least_same h k s
  refine pw_uniq (lt := kLt) (fun z => kLt_irr z) kLt_trans h.srt k.srt fun ⟨⟨a, n⟩, b⟩ => ?_
  rw [mem_can h, mem_can k, e]
  exact ⟨fun ⟨x, y, h1, h2, h3⟩ => ⟨x, y, h1, h2, (s _ _).mp h3⟩, fun ⟨x, y, h1, h2, h3⟩ => ⟨x, y, h1, h2, (s _ _).mpr h3⟩⟩
theorem pres_uniq {T T' : List Tm} {P P' : List (Tm × Tm)} (h : Can L) (k : Can M) (H : Pres T P L) (H' : Pres T' P' M) (s : ∀ t u, Sm T P t u ↔ Sm T' P' t u) : L = M :=
  can_uniq h k fun t u => by rw [pres_iff H, pres_iff H', s]
end
/-- a web of the package, and what it tells -/
structure Web (T : List Tm) (P : List (Tm × Tm)) (L : Leads) : Prop where
  can : Can L
  pres : Pres T P L
theorem web_nil : Web [] [] [] := ⟨⟨⟨.nil, True.intro, fun i => ⟨fun ⟨a, b⟩ => by
  have b : i < 1 := b
  omega, fun h => absurd h List.not_mem_nil⟩⟩, True.intro, .nil⟩, pres_nil⟩
theorem web_told {T ts : List Tm} {P ps : List (Tm × Tm)} {L : Leads} (H : Web T P L) (nt : ∀ t ∈ ts, t ≠ []) (np : ∀ p ∈ ps, p.1 ≠ [] ∧ p.2 ≠ []) : Web (T ++ ts) (P ++ ps) (numb (toldL L ts ps)) := by
  have z := told_pres H.pres (num_le H.can.num) nt np
  exact ⟨numb_can z.wf, numb_pres z⟩
theorem web_uniq {T T' : List Tm} {P P' : List (Tm × Tm)} {L M : Leads} (h : Web T P L) (k : Web T' P' M) (s : ∀ t u, Sm T P t u ↔ Sm T' P' t u) : L = M := pres_uniq h.can k.can h.pres k.pres s
end Wp
namespace Wp
open PySem Lw
abbrev nmC (lb lt : Str) (i : Nat) : Str := if i = 0 then lb else lt
abbrev rwC (lb lt : Str) (n : Nat) : Tm := lb :: List.replicate n lt
abbrev tmC (lb lt : Str) (i : Nat) : Tm := if i = 0 then [] else rwC lb lt (i - 1)
def chL (lb lt : Str) (m : Nat) : Leads := (List.range m).map fun i => ((i, nmC lb lt i), i + 1)
/-- the leads of a loop of g from b on; of a chain, if g is 0 -/
def rhoL (lb lt : Str) (b g m : Nat) : Leads := if g = 0 then chL lb lt m else chL lb lt m ++ [((m, lt), b + 1)]
def spotN (b g n : Nat) : Nat := if g = 0 ∨ n < b + g then n else b + (n - b) % g
section
variable {lb lt : Str} {b g m n : Nat}
theorem rwC_succ : rwC lb lt (n + 1) = rwC lb lt n ++ [lt] := by
  unfold rwC
  rw [List.replicate_succ', List.cons_append]
theorem rwC_ne : rwC lb lt n ≠ [] := by simp
theorem rwC_inj {k : Nat} (h : rwC lb lt n = rwC lb lt k) : n = k := by
  have z := congrArg List.length h
  simpa [rwC] using z
theorem chL_succ : chL lb lt (m + 1) = chL lb lt m ++ [((m, nmC lb lt m), m + 1)] := by
  unfold chL
  rw [List.range_succ, List.map_append]
  rfl
theorem mem_chL {e : Lead} : e ∈ chL lb lt m ↔ e.1.1 < m ∧ e.1.2 = nmC lb lt e.1.1 ∧ e.2 = e.1.1 + 1 := by
  unfold chL
  rw [List.mem_map]
  constructor
  · rintro ⟨i, hi, rfl⟩
    exact ⟨List.mem_range.mp hi, rfl, rfl⟩
  · rintro ⟨h1, h2, h3⟩
    exact ⟨e.1.1, List.mem_range.mpr h1, by
      obtain ⟨⟨a, c⟩, d⟩ := e
      dsimp only at h2 h3 ⊢
      rw [h2, h3]⟩
theorem chL_len : (chL lb lt m).length = m := by
  unfold chL
  rw [List.length_map, List.length_range]
theorem chL_least : ∀ {m : Nat}, least (chL lb lt m) = (List.range (m + 1)).map (tmC lb lt)
  | 0 => rfl
  | m + 1 => by
    have ih := chL_least (m := m)
    unfold least at ih ⊢
    rw [chL_succ, leastF_snoc, ih]
    unfold lstep
    have len : ((List.range (m + 1)).map (tmC lb lt)).length = m + 1 := by rw [List.length_map, List.length_range]
    have gt : ((List.range (m + 1)).map (tmC lb lt)).getD m [] = tmC lb lt m := by
      rw [List.getD_eq_getElem?_getD, List.getElem?_map, List.getElem?_range (Nat.lt_succ_self m)]
      rfl
    rw [if_pos (by rw [len]), List.range_succ (n := m + 1), List.map_append]
    dsimp only
    rw [gt]
    congr 1
    show [tmC lb lt m ++ [nmC lb lt m]] = [tmC lb lt (m + 1)]
    unfold tmC nmC
    rw [if_neg (show ¬ m + 1 = 0 by omega), Nat.add_sub_cancel]
    by_cases c : m = 0
    · subst c
      rfl
    · rw [if_neg c, if_neg c, ← rwC_succ, show m - 1 + 1 = m from by omega]
theorem chL_kn : ((chL lb lt m).map (·.1)).Nodup := by
  unfold chL
  rw [List.map_map]
  exact List.pairwise_map.mpr (List.nodup_range.imp fun h e => h (congrArg Prod.fst e))
theorem rho_kn (m0 : 0 < m) : ((rhoL lb lt b g m).map (·.1)).Nodup := by
  unfold rhoL
  split
  · exact chL_kn
  · rw [List.map_append]
    refine List.nodup_append.mpr ⟨chL_kn, by simp, fun x hx y hy e => ?_⟩
    obtain ⟨z, hz, rfl⟩ := List.mem_map.mp hx
    have y2 := List.mem_singleton.mp hy
    rw [y2] at e
    have := (mem_chL.mp hz).1
    rw [e] at this
    exact absurd this (Nat.lt_irrefl _)
theorem mem_rho {e : Lead} : e ∈ rhoL lb lt b g m ↔ e ∈ chL lb lt m ∨ (g ≠ 0 ∧ e = ((m, lt), b + 1)) := by
  unfold rhoL
  split
  · rename_i c
    exact ⟨.inl, fun h => h.elim id fun z => absurd c z.1⟩
  · rename_i c
    rw [List.mem_append, List.mem_singleton]
    exact ⟨fun h => h.imp id fun z => ⟨c, z⟩, fun h => h.imp id fun z => z.2⟩
theorem rho_least (hb : g ≠ 0 → b < m) : least (rhoL lb lt b g m) = (List.range (m + 1)).map (tmC lb lt) := by
  unfold rhoL
  split
  · exact chL_least
  · rename_i c
    have z := chL_least (lb := lb) (lt := lt) (m := m)
    unfold least at z ⊢
    rw [leastF_snoc, z]
    unfold lstep
    rw [if_neg]
    rw [List.length_map, List.length_range]
    have := hb c
    show ¬ b + 1 = m + 1
    omega
theorem chL_dis : ∀ {m : Nat}, Dis [[]] (chL lb lt m) ∧ okLt [[]] (chL lb lt m)
  | 0 => ⟨True.intro, True.intro⟩
  | m + 1 => by
    obtain ⟨h1, h2⟩ := chL_dis (m := m)
    have z := chL_least (lb := lb) (lt := lt) (m := m)
    unfold least at z
    have l : (leastF [[]] (chL lb lt m)).length = m + 1 := by rw [z, List.length_map, List.length_range]
    rw [chL_succ]
    exact ⟨dis_snoc h1 ⟨by rw [l]; exact Nat.le_refl _, by rw [l]; exact Nat.lt_succ_self _⟩, okLt_snoc h2 fun _ => by rw [l]; exact Nat.lt_succ_self _⟩
theorem rho_dis (hb : g ≠ 0 → b < m) : Dis [[]] (rhoL lb lt b g m) ∧ okLt [[]] (rhoL lb lt b g m) := by
  unfold rhoL
  split
  · exact chL_dis
  · rename_i c
    have z := chL_least (lb := lb) (lt := lt) (m := m)
    unfold least at z
    have l : (leastF [[]] (chL lb lt m)).length = m + 1 := by rw [z, List.length_map, List.length_range]
    have := hb c
    exact ⟨dis_snoc chL_dis.1 ⟨by rw [l]; show b + 1 ≤ _; omega, by rw [l]; exact Nat.lt_succ_self _⟩, okLt_snoc chL_dis.2 fun _ => by rw [l]; exact Nat.lt_succ_self _⟩
theorem rho_wf (m0 : 0 < m) (hb : g ≠ 0 → b < m) : WfL (rhoL lb lt b g m) := by
  refine ⟨rho_kn m0, fun e h => ?_, fun e h => ?_⟩
  · rcases mem_rho.mp h with h | ⟨_, h⟩
    · have := (mem_chL.mp h).2.2
      omega
    · rw [h]
      exact Nat.succ_pos _
  · have src : ∀ k, k ≤ m → k = 0 ∨ k ∈ vals (rhoL lb lt b g m) := fun k hk => by
      by_cases c : k = 0
      · exact .inl c
      · exact .inr (List.mem_map.mpr ⟨((k - 1, nmC lb lt (k - 1)), k - 1 + 1), mem_rho.mpr (.inl (mem_chL.mpr ⟨by show k - 1 < m; omega, rfl, rfl⟩)), by show k - 1 + 1 = k; omega⟩)
    refine src _ ?_
    rcases mem_rho.mp h with h | ⟨_, h⟩
    · have := (mem_chL.mp h).1
      omega
    · rw [h]
      exact Nat.le_refl _
theorem rho_can (m0 : 0 < m) (hb : g ≠ 0 → b < m) : Can (rhoL lb lt b g m) := by
  refine ⟨⟨rho_wf m0 hb, (rho_dis hb).2, fun i => ?_⟩, (rho_dis hb).1, ?_⟩
  · rw [rho_least hb, List.length_map, List.length_range]
    constructor
    · rintro ⟨h1, h2⟩
      exact List.mem_map.mpr ⟨((i - 1, nmC lb lt (i - 1)), i - 1 + 1), mem_rho.mpr (.inl (mem_chL.mpr ⟨by show i - 1 < m; omega, rfl, rfl⟩)), by show i - 1 + 1 = i; omega⟩
    · intro h
      obtain ⟨e, he, rfl⟩ := List.mem_map.mp h
      rcases mem_rho.mp he with h | ⟨c, h⟩
      · have := mem_chL.mp h
        omega
      · rw [h]
        have := hb c
        show 0 < b + 1 ∧ b + 1 < m + 1
        omega
  · have ch : (chL lb lt m).Pairwise kLt := by
      unfold chL
      exact List.pairwise_map.mpr (List.pairwise_lt_range.imp fun h => .inl h)
    unfold rhoL
    split
    · exact ch
    · refine List.pairwise_append.mpr ⟨ch, List.pairwise_singleton _ _, fun a ha c hc => ?_⟩
      rw [List.mem_singleton.mp hc]
      exact .inl (mem_chL.mp ha).1
theorem get_chain (m0 : 0 < m) {k : Nat} (h : k < m) : getL (rhoL lb lt b g m) k (nmC lb lt k) = some (k + 1) := getL_of (rho_kn m0) (mem_rho.mpr (.inl (mem_chL.mpr ⟨h, rfl, rfl⟩)))
theorem get_back (m0 : 0 < m) (hg : g ≠ 0) : getL (rhoL lb lt b g m) m lt = some (b + 1) := getL_of (rho_kn m0) (mem_rho.mpr (.inr ⟨hg, rfl⟩))
theorem get_end (hg : g = 0) : getL (rhoL lb lt b g m) m lt = none := getL_none.mpr fun e he c => by
  rcases mem_rho.mp he with h | ⟨z, _⟩
  · have := (mem_chL.mp h).1
    rw [c] at this
    exact absurd this (Nat.lt_irrefl _)
  · exact z hg
theorem spot_lt (hg : g ≠ 0) : spotN b g n < b + g := by
  unfold spotN
  split
  · rename_i c
    exact c.resolve_left hg
  · have := Nat.mod_lt (n - b) (Nat.pos_of_ne_zero hg)
    omega
theorem spot_small (h : n < b + g) : spotN b g n = n := by
  unfold spotN
  rw [if_pos (.inr h)]
theorem spot_succ (hg : g ≠ 0) : spotN b g (n + 1) = if spotN b g n + 1 < b + g then spotN b g n + 1 else b := by
  by_cases c : n < b + g
  · rw [spot_small c]
    by_cases c2 : n + 1 < b + g
    · rw [if_pos c2, spot_small c2]
    · rw [if_neg c2]
      unfold spotN
      rw [if_neg (by omega)]
      have e : n + 1 - b = g := by omega
      rw [e, Nat.mod_self]
      rfl
  · have h1 : spotN b g n = b + (n - b) % g := by unfold spotN; rw [if_neg (by omega)]
    have h2 : spotN b g (n + 1) = b + (n + 1 - b) % g := by unfold spotN; rw [if_neg (by omega)]
    have e : n + 1 - b = (n - b) + 1 := by omega
    have gp := Nat.pos_of_ne_zero hg
    have l := Nat.mod_lt (n - b) gp
    rw [h1, h2, e, Nat.add_mod]
    by_cases c2 : (n - b) % g + 1 < g
    · rw [if_pos (by omega)]
      by_cases c3 : g = 1
      · omega
      · rw [Nat.mod_eq_of_lt (a := 1) (by omega), Nat.mod_eq_of_lt c2]
        omega
    · rw [if_neg (by omega)]
      by_cases c3 : g = 1
      · rw [c3, Nat.mod_one]
        rfl
      · rw [Nat.mod_eq_of_lt (a := 1) (by omega), show (n - b) % g + 1 = g from by omega, Nat.mod_self]
        rfl
theorem walk_rho (m0 : 0 < m) (hg : g ≠ 0) (hm : m = b + g) : ∀ (n : Nat), walkL (rhoL lb lt b g m) 0 (rwC lb lt n) = some (spotN b g n + 1)
  | 0 => by
    show walkL _ 0 [lb] = _
    rw [walk_one, spot_small (by omega)]
    exact get_chain (lb := lb) (lt := lt) m0 m0
  | n + 1 => by
    rw [rwC_succ, walk_snoc, walk_rho m0 hg hm n, spot_succ hg]
    have l := spot_lt (b := b) (n := n) hg
    show getL _ (spotN b g n + 1) lt = _
    by_cases c : spotN b g n + 1 < b + g
    · rw [if_pos c]
      have z := get_chain (lb := lb) (lt := lt) (b := b) (g := g) m0 (k := spotN b g n + 1) (by omega)
      unfold nmC at z
      rw [if_neg (by omega)] at z
      exact z
    · rw [if_neg c, show spotN b g n + 1 = m from by omega]
      exact get_back m0 hg
theorem walk_chain (m0 : 0 < m) : ∀ {n : Nat}, n < m → walkL (rhoL lb lt b g m) 0 (rwC lb lt n) = some (n + 1)
  | 0, h => by
    show walkL _ 0 [lb] = _
    rw [walk_one]
    exact get_chain (lb := lb) (lt := lt) m0 m0
  | n + 1, h => by
    rw [rwC_succ, walk_snoc, walk_chain m0 (by omega : n < m)]
    have z := get_chain (lb := lb) (lt := lt) (b := b) (g := g) m0 h
    unfold nmC at z
    rw [if_neg (by omega)] at z
    exact z
theorem walk_far (m0 : 0 < m) (hg : g = 0) : ∀ {n : Nat}, m ≤ n → walkL (rhoL lb lt b g m) 0 (rwC lb lt n) = none
  | 0, h => absurd h (by omega)
  | n + 1, h => by
    rw [rwC_succ, walk_snoc]
    by_cases c : n < m
    · rw [walk_chain m0 c]
      show getL _ (n + 1) lt = none
      rw [show n + 1 = m from by omega]
      exact get_end hg
    · rw [walk_far m0 hg (by omega : m ≤ n)]
      rfl
end
end Wp
namespace Wp
open PySem Lw
def dif (p : Nat × Nat) : Nat := if p.1 ≤ p.2 then p.2 - p.1 else p.1 - p.2
/-- begin, length and number of the knots, by numbers that are told -/
def RhoN (ts : List Nat) (ps : List (Nat × Nat)) (b g m : Nat) : Prop :=
  (g = 0 ∧ b = 0 ∧ (∀ p ∈ ps, p.1 = p.2) ∧ (∀ n ∈ ts, n < m) ∧ (∀ p ∈ ps, p.1 < m) ∧ (m = 1 ∨ m - 1 ∈ ts ∨ ∃ p ∈ ps, m - 1 = p.1)) ∨
  (0 < g ∧ m = b + g ∧ (∀ d, d ∣ g ↔ ∀ p ∈ ps, d ∣ dif p) ∧ (∀ p ∈ ps, p.1 ≠ p.2 → b ≤ p.1 ∧ b ≤ p.2) ∧ ∃ p ∈ ps, p.1 ≠ p.2 ∧ (p.1 = b ∨ p.2 = b))
/-- terms and pairs, by the numbers of their letters -/
structure RhoT (lb lt : Str) (ts : List Nat) (ps : List (Nat × Nat)) (T : List Tm) (P : List (Tm × Tm)) : Prop where
  t1 : ∀ t ∈ T, t = [lb] ∨ ∃ n ∈ ts, t = rwC lb lt n
  t2 : [lb] ∈ T ∧ ∀ n ∈ ts, rwC lb lt n ∈ T
  p1 : ∀ p ∈ P, ∃ q ∈ ps, p = (rwC lb lt q.1, rwC lb lt q.2) ∨ p = (rwC lb lt q.2, rwC lb lt q.1)
  p2 : ∀ q ∈ ps, (rwC lb lt q.1, rwC lb lt q.2) ∈ P ∨ (rwC lb lt q.2, rwC lb lt q.1) ∈ P
/-- what is closed under sums and differences is closed under the greatest divisor -/
theorem gcd_closed {S : Nat → Prop} (z : S 0) (add : ∀ {a c}, S a → S c → S (a + c)) (sub : ∀ {a c}, S (a + c) → S c → S a) : ∀ {a c : Nat}, S a → S c → S (Nat.gcd a c) := by
  have mul : ∀ {a : Nat} (k : Nat), S a → S (a * k) := fun {a} k h => by
    induction k with
    | zero => rw [Nat.mul_zero]; exact z
    | succ k ih => rw [Nat.mul_succ]; exact add ih h
  intro a c
  induction a, c using Nat.gcd.induction with
  | H0 n => rw [Nat.gcd_zero_left]; exact fun _ h => h
  | H1 a c h ih =>
    intro h1 h2
    rw [Nat.gcd_rec]
    refine ih (sub (c := a * (c / a)) ?_ (mul _ h1)) h1
    rw [Nat.mod_add_div]
    exact h2
theorem gcds_closed {S : Nat → Prop} (z : S 0) (add : ∀ {a c}, S a → S c → S (a + c)) (sub : ∀ {a c}, S (a + c) → S c → S a) : ∀ {ds : List Nat}, (∀ d ∈ ds, S d) → ∃ g, S g ∧ ∀ d, d ∣ g ↔ ∀ x ∈ ds, d ∣ x
  | [], _ => ⟨0, z, fun d => ⟨fun _ x h => absurd h List.not_mem_nil, fun _ => Nat.dvd_zero d⟩⟩
  | x :: ds, h => by
    obtain ⟨g, h1, h2⟩ := gcds_closed z add sub (ds := ds) fun d hd => h d (List.mem_cons_of_mem _ hd)
    refine ⟨Nat.gcd x g, gcd_closed z add sub (h x List.mem_cons_self) h1, fun d => ?_⟩
    rw [Nat.dvd_gcd_iff, h2]
    constructor
    · rintro ⟨a, c⟩ y hy
      rcases List.mem_cons.mp hy with e | e
      · rw [e]; exact a
      · exact c y e
    · exact fun k => ⟨k x List.mem_cons_self, fun y hy => k y (List.mem_cons_of_mem _ hy)⟩
section
variable {lb lt : Str} {ts : List Nat} {ps : List (Nat × Nat)} {T : List Tm} {P : List (Tm × Tm)} {b g m : Nat}
theorem smc_pre (lb lt : Str) {n k : Nat} (h : Sm T P (rwC lb lt n) (rwC lb lt n)) (le : k ≤ n) : Sm T P (rwC lb lt k) (rwC lb lt k) := by
  refine Sm.app (v := List.replicate (n - k) lt) rwC_ne ?_
  have e : rwC lb lt k ++ List.replicate (n - k) lt = rwC lb lt n := by
    unfold rwC
    rw [List.cons_append, List.replicate_append_replicate, show k + (n - k) = n from by omega]
  rw [e]
  exact h
/-- a loop goes on -/
theorem sm_loop {d k : Nat} (d0 : 0 < d) (h : Sm T P (rwC lb lt k) (rwC lb lt (k + d))) : ∀ j, Sm T P (rwC lb lt (k + j)) (rwC lb lt (k + j + d))
  | 0 => h
  | j + 1 => by
    have ih := sm_loop d0 h j
    have ex := smc_pre lb lt ih.right (k := k + j + 1) (by omega)
    have z := Sm.con (n := lt) ih (by rw [← rwC_succ]; exact ex)
    rw [← rwC_succ, ← rwC_succ] at z
    have e : k + j + d + 1 = k + (j + 1) + d := by omega
    rw [e] at z
    exact z
theorem sm_all {d k : Nat} (d0 : 0 < d) (h : Sm T P (rwC lb lt k) (rwC lb lt (k + d))) (n : Nat) : Sm T P (rwC lb lt n) (rwC lb lt n) := by
  by_cases c : n ≤ k
  · exact smc_pre lb lt h.left c
  · have z := (sm_loop d0 h (n - k)).left
    rw [show k + (n - k) = n from by omega] at z
    exact z
/-- what is the same goes on, where all is there -/
theorem sm_on {x y : Nat} (al : ∀ n, Sm T P (rwC lb lt n) (rwC lb lt n)) (h : Sm T P (rwC lb lt x) (rwC lb lt y)) : ∀ j, Sm T P (rwC lb lt (x + j)) (rwC lb lt (y + j))
  | 0 => h
  | j + 1 => by
    have z := Sm.con (n := lt) (sm_on al h j) (by rw [← rwC_succ]; exact al _)
    rw [← rwC_succ, ← rwC_succ] at z
    exact z
theorem rho_pair (R : RhoT lb lt ts ps T P) {q : Nat × Nat} (h : q ∈ ps) : Sm T P (rwC lb lt q.1) (rwC lb lt q.2) := by
  rcases R.p2 q h with z | z
  · exact .pair z rwC_ne rwC_ne
  · exact (Sm.pair z rwC_ne rwC_ne).symm
theorem spot_same {x y : Nat} (hg : 0 < g) (hx : b ≤ x) (hy : b ≤ y) (hd : g ∣ dif (x, y)) : spotN b g x = spotN b g y := by
  have f : ∀ {n}, b ≤ n → spotN b g n = b + (n - b) % g := fun {n} h => by
    unfold spotN
    split
    · rename_i c
      rw [Nat.mod_eq_of_lt (by omega)]
      omega
    · rfl
  rw [f hx, f hy]
  have key : ∀ {x y : Nat}, b ≤ x → x ≤ y → g ∣ y - x → (x - b) % g = (y - b) % g := fun {x y} h1 h2 ⟨k, hk⟩ => by
    rw [show y - b = x - b + g * k from by omega, Nat.add_mul_mod_self_left]
  unfold dif at hd
  split at hd
  · rename_i c; rw [key hx c hd]
  · rename_i c
    have c : y ≤ x := by have c : ¬ x ≤ y := c; omega
    rw [key hy c hd]
theorem rho_web (R : RhoT lb lt ts ps T P) (N : RhoN ts ps b g m) : Web T P (rhoL lb lt b g m) := by
  rcases N with ⟨rfl, rfl, eq, h1, h2, h3⟩ | ⟨g0, rfl, dv, lo, p0, hp0, ne0, e0⟩
  · -- a chain
    have m0 : 0 < m := by
      rcases h3 with h | h | ⟨p, h, _⟩
      · omega
      · have := h1 _ h; omega
      · have := h2 _ h; omega
    have hb : (0 : Nat) ≠ 0 → 0 < m := fun h => absurd rfl h
    have top : Sm T P (rwC lb lt (m - 1)) (rwC lb lt (m - 1)) := by
      rcases h3 with h | h | ⟨p, h, e⟩
      · rw [h]
        exact .told R.t2.1 rwC_ne
      · exact .told (R.t2.2 _ h) rwC_ne
      · rw [e]
        exact (rho_pair R h).left
    have al : ∀ n, n < m → Sm T P (rwC lb lt n) (rwC lb lt n) := fun n hn => smc_pre lb lt top (by omega)
    have wk := fun n (h : n < m) => walk_chain (lb := lb) (lt := lt) (b := 0) (g := 0) m0 h
    refine ⟨rho_can m0 hb, rho_wf m0 hb, ⟨fun k => rwC lb lt (k - 1), fun e he => ?_⟩, fun t ht _ => ?_, fun p hp _ _ => ?_, fun k hk => ?_⟩
    · have he := mem_chL.mp ((mem_rho.mp he).resolve_right fun z => z.1 rfl)
      have z := al e.1.1 he.1
      unfold t0
      rw [he.2.1, he.2.2]
      dsimp only
      rw [Nat.add_sub_cancel]
      by_cases c : e.1.1 = 0
      · rw [c] at z ⊢
        exact z
      · rw [if_neg c]
        unfold nmC
        rw [if_neg c, ← rwC_succ, show e.1.1 - 1 + 1 = e.1.1 from by omega]
        exact z
    · rcases R.t1 t ht with e | ⟨n, hn, e⟩
      · exact ⟨_, (congrArg (walkL _ 0) e).trans (wk 0 m0)⟩
      · exact ⟨_, (congrArg (walkL _ 0) e).trans (wk n (h1 n hn))⟩
    · obtain ⟨q, hq, e⟩ := R.p1 p hp
      have z := eq q hq
      have l := h2 q hq
      rcases e with e | e
      · rw [e]
        exact ⟨_, wk _ l, z ▸ wk _ l⟩
      · rw [e]
        exact ⟨_, z ▸ wk _ l, wk _ l⟩
    · obtain ⟨e, he, rfl⟩ := List.mem_map.mp hk
      have he := mem_chL.mp ((mem_rho.mp he).resolve_right fun z => z.1 rfl)
      exact ⟨_, he.2.2 ▸ wk _ he.1⟩
  · -- a loop
    have gn : g ≠ 0 := by omega
    have m0 : 0 < b + g := by omega
    have hb : g ≠ 0 → b < b + g := fun _ => by omega
    -- the first loop
    obtain ⟨d0, dp, first⟩ : ∃ d, 0 < d ∧ Sm T P (rwC lb lt b) (rwC lb lt (b + d)) := by
      have z := rho_pair R hp0
      have l := lo p0 hp0 ne0
      rcases e0 with e | e
      · refine ⟨p0.2 - b, by omega, ?_⟩
        rw [← e]
        rw [show p0.1 + (p0.2 - p0.1) = p0.2 from by omega]
        exact z
      · refine ⟨p0.1 - b, by omega, ?_⟩
        rw [← e]
        rw [show p0.2 + (p0.1 - p0.2) = p0.1 from by omega]
        exact z.symm
    have al := sm_all dp first
    let S : Nat → Prop := fun d => ∀ n, b ≤ n → Sm T P (rwC lb lt n) (rwC lb lt (n + d))
    have Sd : S d0 := fun n hn => by
      have z := sm_loop dp first (n - b)
      rw [show b + (n - b) = n from by omega] at z
      exact z
    have Sz : S 0 := fun n _ => al n
    have Sadd : ∀ {a c}, S a → S c → S (a + c) := fun {a c} h k n hn => (h n hn).trans (by
      have z := k (n + a) (by omega)
      rw [Nat.add_assoc] at z
      exact z)
    have Ssub : ∀ {a c}, S (a + c) → S c → S a := fun {a c} h k n hn => (h n hn).trans (by
      have z := k (n + a) (by omega)
      rw [Nat.add_assoc] at z
      exact z.symm)
    have Smul : ∀ k, S (d0 * k) := fun k => by
      induction k with
      | zero => exact Sz
      | succ k ih => rw [Nat.mul_succ]; exact Sadd ih Sd
    have Sp : ∀ {x y : Nat}, b ≤ x → x ≤ y → Sm T P (rwC lb lt x) (rwC lb lt y) → S (y - x) := fun {x y} hx hxy h n hn => by
      -- far enough beyond x
      have ge : x ≤ n + d0 * x := Nat.le_trans (Nat.le_mul_of_pos_left x dp) (Nat.le_add_left _ _)
      have z1 := Smul x n hn
      have z2 := sm_on al h (n + d0 * x - x)
      rw [show x + (n + d0 * x - x) = n + d0 * x from by omega, show y + (n + d0 * x - x) = n + (y - x) + d0 * x from by omega] at z2
      exact z1.trans (z2.trans (Smul x (n + (y - x)) (by omega)).symm)
    have Sps : ∀ d ∈ ps.map dif, S d := fun d hd => by
      obtain ⟨q, hq, rfl⟩ := List.mem_map.mp hd
      by_cases c : q.1 = q.2
      · unfold dif
        rw [if_pos (by omega), show q.2 - q.1 = 0 from by omega]
        exact Sz
      · have l := lo q hq c
        unfold dif
        split
        · rename_i k
          exact Sp l.1 k (rho_pair R hq)
        · rename_i k
          exact Sp l.2 (by omega) (rho_pair R hq).symm
    have Sg : S g := by
      obtain ⟨g2, h1, h2⟩ := gcds_closed Sz Sadd Ssub Sps
      have dv2 : ∀ d, d ∣ g ↔ d ∣ g2 := fun d => by
        rw [dv, h2]
        exact ⟨fun k x hx => by
          obtain ⟨q, hq, rfl⟩ := List.mem_map.mp hx
          exact k q hq, fun k q hq => k _ (List.mem_map.mpr ⟨q, hq, rfl⟩)⟩
      have e : g = g2 := Nat.dvd_antisymm ((dv2 g).mp (Nat.dvd_refl g)) ((dv2 g2).mpr (Nat.dvd_refl g2))
      rw [e]
      exact h1
    have wk := fun n => walk_rho (lb := lb) (lt := lt) m0 gn rfl n
    refine ⟨rho_can m0 hb, rho_wf m0 hb, ⟨fun k => rwC lb lt (k - 1), fun e he => ?_⟩, fun t ht _ => ?_, fun p hp _ _ => ?_, fun k hk => ?_⟩
    · rcases mem_rho.mp he with he | ⟨_, rfl⟩
      · have he := mem_chL.mp he
        have z := al e.1.1
        unfold t0
        rw [he.2.1, he.2.2]
        dsimp only
        rw [Nat.add_sub_cancel]
        by_cases c : e.1.1 = 0
        · rw [c] at z ⊢
          exact z
        · rw [if_neg c]
          unfold nmC
          rw [if_neg c, ← rwC_succ, show e.1.1 - 1 + 1 = e.1.1 from by omega]
          exact z
      · unfold t0
        dsimp only
        rw [if_neg (by omega), ← rwC_succ, show b + g - 1 + 1 = b + g from by omega, Nat.add_sub_cancel]
        exact (Sg b (Nat.le_refl b)).symm
    · rcases R.t1 t ht with e | ⟨n, hn, e⟩
      · exact ⟨_, (congrArg (walkL _ 0) e).trans (wk 0)⟩
      · exact ⟨_, (congrArg (walkL _ 0) e).trans (wk n)⟩
    · obtain ⟨q, hq, e⟩ := R.p1 p hp
      have z : spotN b g q.1 = spotN b g q.2 := by
        by_cases c : q.1 = q.2
        · rw [c]
        · exact spot_same g0 (lo q hq c).1 (lo q hq c).2 ((dv g).mp (Nat.dvd_refl g) q hq)
      rcases e with e | e
      · rw [e]
        exact ⟨_, wk _, z ▸ wk _⟩
      · rw [e]
        exact ⟨_, wk _, z ▸ wk _⟩
    · obtain ⟨e, he, rfl⟩ := List.mem_map.mp hk
      rcases mem_rho.mp he with he | ⟨_, rfl⟩
      · have he := mem_chL.mp he
        refine ⟨rwC lb lt e.1.1, ?_⟩
        rw [he.2.2, wk, spot_small he.1]
      · refine ⟨rwC lb lt b, ?_⟩
        rw [wk, spot_small (hb gn)]
end
end Wp
namespace L2
open PySem PySem.Spec PyProof.Rows
theorem tuple_mul0 (l : Addr) (items : Array Value) (n : Nat) (dd : Option Addr) (sl : Array (Option Value)) (u : Tok) (c : items.isEmpty = false) :
    Meets (Builtin.«tuple.__mul__» ⟨[.ref l, .int 0 u], []⟩) (fun _ R s => s.heap.get? l = some { cls := .type "tuple", dict := dd, data := .seq items n, slots := sl } ∧
      R (.ok (.ret (Value.ref s.heap.objs.size))) { s with heap := s.heap.push { cls := Value.type "tuple", data := Data.seq #[] }, toks := s.toks }) :=
  .of_wp fun prog w A R s h => by
    obtain ⟨hp, g, d, tk, os⟩ := s
    obtain ⟨hl, h⟩ := h
    have f1 := AutoSeq1.idx_int
    wp_walk using wpAny_loadPart' hl
    exact ⟨_, rfl, h⟩
theorem tuple_mul1 (l : Addr) (items : Array Value) (n : Nat) (dd : Option Addr) (sl : Array (Option Value)) (u : Tok) :
    Meets (Builtin.«tuple.__mul__» ⟨[.ref l, .int 1 u], []⟩) (fun _ R s => s.heap.get? l = some { cls := .type "tuple", dict := dd, data := .seq items n, slots := sl } ∧
      R (.ok (.ret (Value.ref l))) s) :=
  .of_wp fun prog w A R s h => by
    obtain ⟨hp, g, d, tk, os⟩ := s
    obtain ⟨hl, h⟩ := h
    have f1 := AutoSeq1.idx_int
    wp_walk using wpAny_loadPart' hl
    exact ⟨_, rfl, h⟩
/-- t * n, n at least none -/
def rRepA (K : PySem.W.Frag) : R2 := fun x y H Q => ∃ l k xs, x = .ref l ∧ y = .int k ∧ SqT K H l xs ∧ xs ≠ [] ∧ 0 ≤ k ∧ k ≤ 1000 ∧ xs.length ≤ 1000 ∧ (k = 1 → Q (.ref l) H) ∧ (k ≠ 1 → ∀ p, H p = none → Q (.ref p) (upd H p (.tup (List.replicate k.toNat xs).flatten)))
section
variable {X : Cx}
theorem op_repA : OpR X (binaryOp .Mult) (rRepA X.K) := by
  intro pins s σ H x y v u Q I rx ry h
  obtain ⟨l, k, xs, rfl, rfl, hT, hne, h1, h2, hz, q1, q2⟩ := h
  by_cases k2 : 2 ≤ k
  · exact op_repT pins s σ H _ _ v u Q I rx ry ⟨l, k, xs, rfl, rfl, hT, hne, k2, h2, hz, q2 (by omega)⟩
  cases rx
  obtain ⟨t, rfl⟩ := ry
  obtain ⟨its, r, ⟨⟨cls, dd, data, sl⟩, ho, hc, n, hd⟩, hs⟩ := I.tuple hT
  simp only at hc hd
  subst hc hd
  have hle : its.length = xs.length := r.length.symm
  have hn : its ≠ [] := fun e => hne (by
    rw [e] at hle
    exact List.eq_nil_of_length_eq_zero hle.symm)
  have hi : its.toArray.isEmpty = false := by
    cases its with
    | nil => exact absurd rfl hn
    | cons a b => rfl
  rcases (by omega : k = 0 ∨ k = 1) with rfl | rfl
  · refine wpAny_binaryOp_repeat_ref (T := "tuple") (U := "int") (by decide) ⟨_, ho, rfl⟩ (fun s' => typeIs_int s' 0 t) noFill_tuple_mul F.fills_int_mul F.slot_int_rmul repeat_tuple F.slot_int_index.lookup
      (call_meets F.slot_int_rmul (typeIs_int s 0 t) F.entry_int_rmul (F.args_int_rmul_2 _ _) (int_rmul_tuple 0 t l its.toArray n dd sl)
        ⟨ho, rfl, ⟨_, ho, rfl⟩, call_meets F.slot_tuple_mul ⟨_, ho, rfl⟩ F.entry_tuple_mul (F.args_tuple_mul_2 _ _) (tuple_mul0 l its.toArray n dd sl t hi) ⟨ho, ?_⟩⟩)
    refine ⟨.ref s.heap.objs.size, _, I.laid (t' := s.toks) (o := .tup (List.replicate (0 : Int).toNat xs).flatten) (fun b ob q => Heap.get?_push_of_some _ q) (Nat.le_refl _) ?_, rfl, q2 (by decide) _ (I.hok.fresh (Nat.le_refl _))⟩
    exact ⟨Nat.zero_le _, [], .nil, IsTup.new _ _⟩
  · refine wpAny_binaryOp_repeat_ref (T := "tuple") (U := "int") (by decide) ⟨_, ho, rfl⟩ (fun s' => typeIs_int s' 1 t) noFill_tuple_mul F.fills_int_mul F.slot_int_rmul repeat_tuple F.slot_int_index.lookup
      (call_meets F.slot_int_rmul (typeIs_int s 1 t) F.entry_int_rmul (F.args_int_rmul_2 _ _) (int_rmul_tuple 1 t l its.toArray n dd sl)
        ⟨ho, rfl, ⟨_, ho, rfl⟩, call_meets F.slot_tuple_mul ⟨_, ho, rfl⟩ F.entry_tuple_mul (F.args_tuple_mul_2 _ _) (tuple_mul1 l its.toArray n dd sl t) ⟨ho, ?_⟩⟩)
    exact ⟨.ref l, H, I, rfl, q1 rfl⟩
theorem op_repAK {K : PySem.W.Frag} (h : X.K = K := by rfl) : OpR X (binaryOp .Mult) (rRepA K) := h ▸ op_repA
end
end L2
namespace Wp
open PySem Lw
section
variable {T : List Tm} {P : List (Tm × Tm)} {A : List Str} {a b : Tm} {L : Leads}
/-- what is the same is of the letters that are told -/
theorem sm_alf (hT : ∀ t ∈ T, ∀ s ∈ t, s ∈ A) (hP : ∀ p ∈ P, (∀ s ∈ p.1, s ∈ A) ∧ ∀ s ∈ p.2, s ∈ A) (h : Sm T P a b) : (∀ s ∈ a, s ∈ A) ∧ ∀ s ∈ b, s ∈ A := by
  induction h with
  | told m _ => exact ⟨hT _ m, hT _ m⟩
  | pair m _ _ => exact ⟨(hP _ m).1, (hP _ m).2⟩
  | symm _ i => exact ⟨i.2, i.1⟩
  | trans _ _ i j => exact ⟨i.1, j.2⟩
  | pre _ _ i => exact ⟨fun s hs => i.1 s (List.mem_append_left _ hs), fun s hs => i.1 s (List.mem_append_left _ hs)⟩
  | con _ _ i j => exact ⟨j.1, fun s hs => (List.mem_append.mp hs).elim (i.2 s) fun z => j.1 s (List.mem_append_right _ z)⟩
theorem pres_alf (H : Pres T P L) (hT : ∀ t ∈ T, ∀ s ∈ t, s ∈ A) (hP : ∀ p ∈ P, (∀ s ∈ p.1, s ∈ A) ∧ ∀ s ∈ p.2, s ∈ A) : ∀ e ∈ L, e.1.2 ∈ A := fun e he => by
  obtain ⟨τ, S⟩ := H.snd
  exact (sm_alf hT hP (S e he)).1 _ (List.mem_append_right _ (List.mem_singleton.mpr rfl))
theorem names_alf (wf : WfL L) (hA : ∀ e ∈ L, e.1.2 ∈ A) (k : Nat) : (names L k).length ≤ A.length := by
  refine Lw.nodup_le (l := names L k) (m := A) ?_ fun x hx => ?_
  · unfold names
    refine List.pairwise_map.mpr ?_
    have nd := List.pairwise_map.mp wf.nd
    refine (List.Pairwise.filter _ nd).imp_of_mem fun {a b} ha hb h e => h ?_
    have h1 := of_decide_eq_true (List.mem_filter.mp ha).2
    have h2 := of_decide_eq_true (List.mem_filter.mp hb).2
    exact Prod.ext (h1.trans h2.symm) e
  · unfold names at hx
    obtain ⟨e, he, rfl⟩ := List.mem_map.mp hx
    exact hA e (List.mem_filter.mp he).1
theorem prod_len {α β : Type} (xs : List α) (ys : List β) : (xs.flatMap fun x => ys.map fun y => (x, y)).length = xs.length * ys.length := by
  induction xs with
  | nil => rw [List.length_nil, Nat.zero_mul]; rfl
  | cons x xs ih => rw [List.flatMap_cons, List.length_append, ih, List.length_map, List.length_cons, Nat.succ_mul, Nat.add_comm]
theorem len_alf (wf : WfL L) (hA : ∀ e ∈ L, e.1.2 ∈ A) : L.length ≤ (cnt L + 1) * A.length := by
  have z := Lw.nodup_le (l := L.map (·.1)) (m := (0 :: firsts [] (vals L)).flatMap fun x => A.map fun y => (x, y)) wf.nd fun x hx => by
    obtain ⟨e, he, rfl⟩ := List.mem_map.mp hx
    refine List.mem_flatMap.mpr ⟨e.1.1, ?_, List.mem_map.mpr ⟨e.1.2, hA e he, rfl⟩⟩
    rcases wf.src e he with z | z
    · rw [z]
      exact List.mem_cons_self
    · exact List.mem_cons_of_mem _ (mem_firsts.mpr (.inr z))
  rw [prod_len, List.length_map, List.length_cons] at z
  exact z
/-- the knots of what is told are all numbered -/
theorem pres_cnt (H : Pres T P L) : cnt L + 1 ≤ (least (numb L)).length := by
  obtain ⟨X, N, e⟩ := numb_nm H.wf
  rw [e]
  refine Lw.nodup_le (l := 0 :: firsts [] (vals L)) (m := X) (List.nodup_cons.mpr ⟨fun h => ?_, firsts_nodup .nil⟩) fun x hx => ?_
  · rcases mem_firsts.mp h with h | h
    · exact List.not_mem_nil h
    · obtain ⟨d, hd, e0⟩ := List.mem_map.mp h
      have := H.wf.pos d hd
      omega
  · rcases List.mem_cons.mp hx with rfl | hx
    · exact List.mem_of_getElem? N.z
    · rcases mem_firsts.mp hx with h | h
      · exact absurd h List.not_mem_nil
      · obtain ⟨t, ht⟩ := H.rch x h
        obtain ⟨i, _, hi⟩ := nm_walk N ht
        exact List.mem_of_getElem? hi
end
end Wp
namespace Lw
open PySem PySem.Spec PyProof.Rows L2
theorem pe_notTK {X : Cx} {K : PySem.W.Frag} {a : Expr} {ta : TE} {pos : Pos} (ha : PE X a ta) (h : X.K = K := by rfl) : PE X (.UnaryOp .Not a pos) (tNotT K ta) := h ▸ pe_notT ha
end Lw
namespace Tk
open PySem PySem.Spec PyProof.Rows L2 Lw Evl LamX TL
open Rm (R Ok Z0 Zp Fr fr_none fr_ne nt_lst nt_tup NT Zn)
open Wp (Leads Lead getL walkL WfL Web)
/-- what is told is not too much -/
structure FitL (L : Leads) (ts : List (List Str)) (ps : List (List Str × List Str)) : Prop where
  wf : WfL (toldL L ts ps)
  ne : ∀ p ∈ ps, p.1 ≠ [] ∧ p.2 ≠ []
  sz : L.length + sizeT ts ps ≤ 2500
  len : (toldL L ts ps).length ≤ 2550
  nm : ∀ k, (Wp.names (toldL L ts ps) k).length < 64
  cnt : Wp.cnt (toldL L ts ps) ≤ 400
theorem fit_of {T : List Wp.Tm} {P : List (Wp.Tm × Wp.Tm)} {L : Leads} {ts : List (List Str)} {ps : List (List Str × List Str)} {A : List Str} (H : Web T P L) (nt : ∀ t ∈ ts, t ≠ []) (np : ∀ p ∈ ps, p.1 ≠ [] ∧ p.2 ≠ []) (hT : ∀ t ∈ T ++ ts, ∀ s ∈ t, s ∈ A) (hP : ∀ p ∈ P ++ ps, (∀ s ∈ p.1, s ∈ A) ∧ ∀ s ∈ p.2, s ∈ A) (hA : A.length ≤ 6) (hz : L.length + sizeT ts ps ≤ 2500) (hc : (Wp.least (Wp.numb (toldL L ts ps))).length ≤ 401) : FitL L ts ps := by
  have z := Wp.told_pres H.pres (Wp.num_le H.can.num) nt np
  have al := Wp.pres_alf z hT hP
  have c : Wp.cnt (toldL L ts ps) ≤ 400 := by
    have y := Wp.pres_cnt z
    omega
  refine ⟨z.wf, np, hz, Nat.le_trans (Wp.len_alf z.wf al) (Nat.le_trans (Nat.mul_le_mul (Nat.succ_le_succ c) hA) (by decide)), fun k => Nat.lt_of_le_of_lt (Wp.names_alf z.wf al k) (by omega), c⟩
theorem fit_ok {L : Leads} {ts : List (List Str)} {ps : List (List Str × List Str)} (F : FitL L ts ps) : WbL (Wp.numb (toldL L ts ps)) := by
  obtain ⟨n1, n2, n3⟩ := Wp.numb_num F.wf
  have := F.len
  exact ⟨n1, by omega, by omega, least_pos⟩
theorem web_wbl {T : List Wp.Tm} {P : List (Wp.Tm × Wp.Tm)} {L : Leads} (H : Web T P L) (h : L.length ≤ 2550) (h2 : (Wp.least L).length ≤ 2551) : WbL L := ⟨H.can.num, h, h2, least_pos⟩
def spToldL2 (K : PySem.W.Frag) : Sp := fun vs H Q _ => ∃ (d l m : Addr) (L : Leads) (us ks : List V) (ts : List (List Str)) (ps : List (List Str × List Str)), vs = [.ref d, .ref l, .ref m] ∧ H d = some (.dT (kvL L)) ∧ H l = some (.lst us) ∧ Paired (Wd K H) us ts ∧ Sqq K H m ks ∧ Paired (PairT K H) ks ps ∧ WfL L ∧
  (∀ p ∈ ps, p.1 ≠ [] ∧ p.2 ≠ []) ∧ L.length + sizeT ts ps ≤ 2500 ∧ ts.length ≤ 1000 ∧ ps.length ≤ 1000 ∧ ∀ f H', Gr H H' f (toldL L ts ps) → Q (.ref f) H'
def spWbI2 (K : PySem.W.Frag) (CW : Addr) : Sp := fun vs H Q _ => ∃ (a dx : Addr) (x y z : V) (H0 : Hp), vs = [.ref a, x, y, z] ∧ H = upd (upd H0 dx (.own a)) a (.ins CW dx []) ∧ H0 a = none ∧ H0 dx = none ∧ dx ≠ a ∧
   ∃ xs ts ps, GoodX K H0 x xs ∧ GoodY K H0 y ts ∧ GoodZ K H0 z ps ∧ FitL [] (xs.map (fun x => [x]) ++ ts) ps ∧ xs.length ≤ 100 ∧ ts.length ≤ 900 ∧ ps.length ≤ 900 ∧ ∀ H', Ex H0 H' → WbAt K CW H' a (webL xs ts ps) → Q .non H'
def spWebOf (K : PySem.W.Frag) (CW : Addr) : Sp := fun vs H Q _ => ∃ (d : Addr) (M : Leads), vs = [.ref d] ∧ H d = some (.dT (kvL M)) ∧ WfL M ∧ M.length ≤ 2550 ∧ (∀ k, (Wp.names M k).length < 64) ∧ Wp.cnt M ≤ 400 ∧ ∀ a H', H a = none → Ex H H' → WbAt K CW H' a (Wp.numb M) → Q (.ref a) H'
def spKnot2 (K : PySem.W.Frag) (CW : Addr) : Sp := fun vs H Q _ => ∃ (a : Addr) (v : V) (L : Leads) (n : Nat), vs = [.ref a, v] ∧ WbAt K CW H a L ∧ TmAt K L H v n ∧ ∀ H', Ex H H' → Q (.int (n : Int)) H'
def spWbGet (K : PySem.W.Frag) (CW : Addr) : Sp := fun vs H Q _ => ∃ (a : Addr) (v : V) (L : Leads) (n : Nat) (t : List Str), vs = [.ref a, v] ∧ WbAt K CW H a L ∧ TmAt K L H v n ∧ (Wp.least L)[n]? = some t ∧ ∀ x H', Ex H H' → Wd K H' x t → Q x H'
def spWbSame2 (K : PySem.W.Frag) (CW : Addr) : Sp := fun vs H Q _ => ∃ (a : Addr) (v u : V) (L : Leads) (n m : Nat), vs = [.ref a, v, u] ∧ WbAt K CW H a L ∧ TmAt K L H v n ∧ TmAt K L H u m ∧ ∀ H', Ex H H' → Q (.bl (decide (n = m))) H'
def spWbLetters (K : PySem.W.Frag) (CW : Addr) : Sp := fun vs H Q _ => ∃ (a : Addr) (v : V) (L : Leads) (n : Nat), vs = [.ref a, v] ∧ WbAt K CW H a L ∧ WbL L ∧ TmAt K L H v n ∧ ∀ l H', H l = none → Ex H H' → H' l = some (.lst ((Wp.names L n).map V.str)) → Q (.ref l) H'
def spWbLen (K : PySem.W.Frag) (CW : Addr) : Sp := fun vs H Q _ => ∃ (a : Addr) (L : Leads), vs = [.ref a] ∧ WbAt K CW H a L ∧ WbL L ∧ ∀ H', Ex H H' → Q (.int (((Wp.least L).drop 1).length : Int)) H'
/-- what is told beside the least terms -/
def pairL (L : Leads) (e : Lead) : List Str × List Str := ((Wp.least L).getD e.1.1 [] ++ [e.1.2], (Wp.least L).getD e.2 [])
def pairsL (L : Leads) : List (List Str × List Str) := (L.map (pairL L)).filter fun p => !decide (p.1 = p.2)
def spWbPairs2 (K : PySem.W.Frag) (CW : Addr) : Sp := fun vs H Q _ => ∃ (a : Addr) (L : Leads), vs = [.ref a] ∧ WbAt K CW H a L ∧ WbL L ∧ (∀ t ∈ Wp.least L, isT t = true ∨ t = []) ∧ (∀ e ∈ L, isL e.1.2 = true) ∧ ∀ l us H', H l = none → Ex H H' → H' l = some (.lst us) → Paired (PairT K H') us (pairsL L) → Q (.ref l) H'
def spWbTree (K : PySem.W.Frag) (CW : Addr) : Sp := fun vs H Q _ => ∃ (a : Addr) (L : Leads), vs = [.ref a] ∧ WbAt K CW H a L ∧ WbL L ∧ (∀ t ∈ Wp.least L, isT t = true ∨ t = []) ∧ (∀ e ∈ L, isL e.1.2 = true) ∧ ∀ H', Ex H H' → Q (.bl (pairsL L).isEmpty) H'
def spWbAdd2 (K : PySem.W.Frag) (CW : Addr) : Sp := fun vs H Q _ => ∃ (a : Addr) (v : V) (L : Leads) (t : List Str), vs = [.ref a, v] ∧ WbAt K CW H a L ∧ WbL L ∧ Wd K H v t ∧ isT t = true ∧ t.length ≤ 1000 ∧ FitL L [t] [] ∧ ∀ b H', H b = none → Ex H H' → WbAt K CW H' b (Wp.numb (toldL L [t] [])) → Q (.ref b) H'
def spWbPair2 (K : PySem.W.Frag) (CW : Addr) : Sp := fun vs H Q _ => ∃ (a : Addr) (v u : V) (L : Leads) (t s : List Str), vs = [.ref a, v, u] ∧ WbAt K CW H a L ∧ WbL L ∧ Wd K H v t ∧ Wd K H u s ∧ (isT t = true ∧ t.length ≤ 1000) ∧ (isT s = true ∧ s.length ≤ 1000) ∧ FitL L [] [(t, s)] ∧ ∀ b H', H b = none → Ex H H' → WbAt K CW H' b (Wp.numb (toldL L [] [(t, s)])) → Q (.ref b) H'
def spNeedT2 (K : PySem.W.Frag) : Sp := fun vs H Q _ => ∃ v, vs = [v] ∧ TB K H v true ∧ ∀ H', Ex H H' → Q .non H'
section
variable {K : PySem.W.Frag} {CW : Addr}
theorem fit_nil : FitL [] [] [] := fit_of (T := []) (P := []) (A := []) Wp.web_nil (fun _ h => absurd h List.not_mem_nil) (fun _ h => absurd h List.not_mem_nil) (fun _ h => absurd h List.not_mem_nil) (fun _ h => absurd h List.not_mem_nil) (by decide) (by decide) (by decide +kernel)
/-- Web() -/
theorem wb_mk0 {σ : L2.St} {H : Hp} {Q : VK} {E : XK} {dA dB dC : Addr} (hA : SqT K H dA []) (hB : SqT K H dB []) (hC : SqT K H dC []) (q : ∀ a H', H a = none → Ex H H' → WbAt K CW H' a (webL [] [] []) → Q (.ref a) H') : tMake CW (spWbI2 K CW) [.ref dA, .ref dB, .ref dC] E tNil σ H Q := fun a dx na nd ne =>
  ⟨a, dx, _, _, _, H, rfl, rfl, na, nd, ne, [], [], [], ⟨dA, rfl, .inr hA, fun _ h => absurd h List.not_mem_nil⟩, ⟨dB, [], rfl, .inr hB, .nil, fun _ h => absurd h List.not_mem_nil⟩, ⟨dC, [], rfl, .inr hC, .nil, fun _ h => absurd h List.not_mem_nil⟩, fit_nil, by decide, by decide, by decide, fun H' e hW => ⟨rfl, q a H' na e hW⟩⟩
end
theorem nm_snoc {L : Leads} {e : Lead} {k : Nat} : Wp.names (L ++ [e]) k = if e.1.1 = k then Wp.names L k ++ [e.1.2] else Wp.names L k := by
  unfold Wp.names
  rw [List.filter_append, List.map_append, List.filter_cons]
  by_cases c : e.1.1 = k
  · rw [if_pos c, if_pos (decide_eq_true c)]
    rfl
  · rw [if_neg c, if_neg (by rw [decide_eq_false c]; exact Bool.false_ne_true)]
    exact List.append_nil _
theorem nm_len {L : Leads} {k : Nat} : (Wp.names L k).length ≤ L.length := by
  unfold Wp.names
  rw [List.length_map]
  exact List.length_filter_le ..
section
variable {K : PySem.W.Frag}
def LL (xs : List Str) : Prop := ∀ s ∈ xs, isL s = true
theorem isT_LL {xs : List Str} (h : isT xs = true) : LL xs := (isT_all h).2
theorem LL_nil : LL [] := fun _ h => absurd h List.not_mem_nil
theorem lt_LL {t : List Str} (h : isT t = true ∨ t = []) : LL t := h.elim isT_LL fun e => e ▸ LL_nil
theorem LL_snoc {t : List Str} {n : Str} (h : LL t) (k : isL n = true) : LL (t ++ [n]) := fun s hs => (List.mem_append.mp hs).elim (h s) fun z => (List.mem_singleton.mp z) ▸ k
theorem isT_LLn {t : List Str} (h : LL t) (n : t ≠ []) : isT t = true := by
  unfold isT
  cases t with
  | nil => exact absurd rfl n
  | cons x xs => exact Bool.and_eq_true_iff.mpr ⟨rfl, List.all_eq_true.mpr h⟩
def pD (p : List Str × List Str) : PyData := .tuple [wD p.1, wD p.2]
theorem shaped_t {xs : List Str} (h : LL xs) : SeqAt.shaped (wD xs) = true := shaped_strsT fun x hx => strOk_of (h x hx)
theorem lay_t {xs : List Str} (h : LL xs) : (wD xs).canLay0 = true ∧ (wD xs).depth ≤ 1 := by
  obtain ⟨l1, l2⟩ := lay_strs fun x hx => strOk_of (h x hx)
  constructor
  · simp [PyData.canLay0, wD, l1]
  · simp [PyData.depth, wD, l2]
theorem shaped_ds {α : Type} {f : α → PyData} {ws : List α} (h : ∀ w ∈ ws, (f w).canLay0 = true ∧ (f w).depth ≤ 2) : SeqAt.shaped (.list (ws.map f)) = true := by
  have key : ∀ ws : List α, (∀ w ∈ ws, (f w).canLay0 = true ∧ (f w).depth ≤ 2) → PyData.canLayAll0 (ws.map f) = true ∧ PyData.depthAll (ws.map f) ≤ 2 := fun ws => by
    induction ws with
    | nil => intro _; exact ⟨rfl, Nat.zero_le _⟩
    | cons w ws ih =>
      intro h
      obtain ⟨h1, h2⟩ := ih fun y hy => h y (List.mem_cons_of_mem _ hy)
      obtain ⟨l1, l2⟩ := h w List.mem_cons_self
      constructor
      · simp [PyData.canLayAll0, l1, h1]
      · simp [PyData.depthAll]
        exact Nat.max_le.mpr ⟨l2, h2⟩
  obtain ⟨h1, h2⟩ := key ws h
  simp [SeqAt.shaped, PyData.canLay0, PyData.depth, h1]
  omega
theorem lay_p {p : List Str × List Str} (h1 : LL p.1) (h2 : LL p.2) : (pD p).canLay0 = true ∧ (pD p).depth ≤ 2 := by
  obtain ⟨a, b⟩ := lay_t h1
  obtain ⟨c, d⟩ := lay_t h2
  constructor
  · simp [pD, PyData.canLay0, PyData.canLayAll0, a, c]
  · simp [pD, PyData.depth, PyData.depthAll]
    omega
theorem eqvAll_pDs : ∀ xs ys : List (List Str × List Str), PyData.eqvAll (xs.map pD) (ys.map pD) = decide (xs = ys)
  | [], [] => rfl
  | [], _ :: _ => rfl
  | _ :: _, [] => rfl
  | x :: xs, y :: ys => by
    rw [List.map_cons, List.map_cons]
    unfold PyData.eqvAll
    rw [eqvAll_pDs xs ys]
    have e : PyData.eqv (pD x) (pD y) = decide (x = y) := by
      obtain ⟨x1, x2⟩ := x
      obtain ⟨y1, y2⟩ := y
      unfold pD PyData.eqv
      dsimp only
      unfold PyData.eqvAll PyData.eqvAll PyData.eqvAll
      rw [eqv_wD, eqv_wD, Bool.and_true, ← Bool.decide_and]
      exact decide_eq_decide.mpr (by rw [Prod.mk.injEq])
    rw [e, ← Bool.decide_and]
    exact decide_eq_decide.mpr (by rw [List.cons.injEq])
theorem dp_pair {H : Hp} {v : V} {p : List Str × List Str} (h : PairT K H v p) : Dp K H v (pD p) := by
  obtain ⟨a, x, y, rfl, ha, h1, h2⟩ := h
  exact .tup (SqT.of ha) (.cons (dp_word h1) (.cons (dp_word h2) .nil))
theorem dpa_pairs {H : Hp} {us : List V} {ps : List (List Str × List Str)} (h : Paired (PairT K H) us ps) : DpAll K H us (ps.map pD) := by
  induction h with
  | nil => exact .nil
  | cons r t ih => exact .cons (dp_pair r) ih
section
variable {σ : L2.St} {H : Hp} {ta tb : TE} {x y : List Str}
theorem ev_neT (ha : EvW K ta σ H x) (hb : EvW K tb σ H y) (hx : LL x) (hy : LL y) : Ev (tOp (rNeD K) ta tb) σ H (.bl (!decide (x = y))) := fun H1 e Q q => ha H1 e _ fun v H2 e2 hv => hb H2 (e.trans e2) _ fun u H3 e3 hu =>
  ⟨wD x, wD y, dp_word (wd_mono e3 hv), dp_word hu, shaped_t hx, shaped_t hy, by rw [eqv_wD]; exact q H3 (e2.trans e3)⟩
/-- new lists of pairs -/
theorem ev_nePs {ps qs : List (List Str × List Str)} (ha : EvB (PairT K) ta σ H ps) (hb : EvB (PairT K) tb σ H qs) (hx : ∀ p ∈ ps, LL p.1 ∧ LL p.2) (hy : ∀ p ∈ qs, LL p.1 ∧ LL p.2) : Ev (tOp (rNeD K) ta tb) σ H (.bl (!decide (ps = qs))) := fun H1 e Q q => ha H1 e _ fun v H2 us n2 e2 h1 h2 => hb H2 (e.trans e2) _ fun u H3 vs n3 e3 k1 k2 => by
  have e' : PyData.eqv (.list (ps.map pD)) (.list (qs.map pD)) = decide (ps = qs) := by
    unfold PyData.eqv
    exact eqvAll_pDs ps qs
  exact ⟨.list (ps.map pD), .list (qs.map pD), .lst (SqL.of (e3 _ _ h1)) (dpa_pairs (paired_mono (fun _ _ r => pairT_mono e3 r) h2)), .lst (SqL.of k1) (dpa_pairs k2), shaped_ds fun p hp => lay_p (hx p hp).1 (hx p hp).2, shaped_ds fun p hp => lay_p (hy p hp).1 (hy p hp).2, by rw [e']; exact q H3 (e2.trans e3)⟩
end
end
theorem rep_flat {α : Type} (n : Nat) (x : α) : (List.replicate n [x]).flatten = List.replicate n x := by
  induction n with
  | zero => rfl
  | succ n ih => rw [List.replicate_succ, List.flatten_cons, ih, List.replicate_succ]; rfl
/-- (y,) * n -/
theorem ew_repN {K : PySem.W.Frag} {σ : L2.St} {H : Hp} {te tn : TE} {y : Str} {n : Nat} (h : EvW K te σ H [y]) (hn : Ev tn σ H (.int (n : Int))) (hz : n ≤ 1000) : EvW K (tOp (rRepA K) te tn) σ H (List.replicate n y) := fun H1 e Q q => h H1 e _ fun v H2 e2 hv => hn H2 (e.trans e2) _ fun H3 e3 => by
  obtain ⟨a, ea, ha⟩ := wd_mono e3 hv
  refine ⟨a, (n : Int), [.str y], ea, rfl, SqT.of ha, (fun z => by cases z), by omega, by omega, (by show 1 ≤ 1000; decide), fun c => ?_, fun c p hp => ?_⟩
  · obtain rfl : n = 1 := by omega
    exact q _ H3 (e2.trans e3) ⟨a, rfl, ha⟩
  · refine q _ _ ((e2.trans e3).trans (Ex.new hp)) ⟨p, rfl, ?_⟩
    rw [upd_same, Int.toNat_natCast, rep_flat, List.map_replicate]
end Tk
namespace K35
open PySem PySem.Spec PyProof.Rows L2 Lw Evl LamX Tk
open Rm (R Ok Z0 Zp Fr fr_none)
open LwX (XC XF)
section
variable {P : Program} {w : World} {K : PySem.W.Frag} {mg : Str → Option Value} {base : Heap}
abbrev s_told_leads : Stmt := topS 44
theorem sc_told_leads : FnScope ["leads", "terms", "pairs", "more", "term", "pair", "one", "another"] ["leads", "terms", "pairs"] (defScope s_told_leads) := ⟨rfl, rfl, rfl, by decide +kernel, rfl, by decide +kernel, by decide +kernel⟩
theorem ok_told_leads {f : Addr} {fd : FuncData} (F : FunD K "told_leads" "told_leads" (defArgs s_told_leads) (defBody s_told_leads) (defScope s_told_leads) [] [] f fd) (T : Tx P w K mg base) (dgrown : CalO P w K mg base CX0 2 "grown" ["leads", "told"] (spGrown K)) (dwalk : CalO P w K mg base CX0 1 "walk" ["leads", "knot", "names"] (spWalk K)) (dmerged : CalO P w K mg base CX0 2 "merged" ["leads", "pairs"] (spMerged K)) : FnOk P w K mg base CX0 3 f fd ["leads", "terms", "pairs"] (spToldL2 K) := by
  refine fnO F sc_told_leads (fun vs H Q E h => ?_) (fun cdv A outer s H vs Q E hr h => ?_)
  · obtain ⟨d, l, m, L, us, ks, ts, ps, rfl, _⟩ := h
    rfl
  · skip
    refine ⟨_, PSs.nox ((pss_cons (ps_set (i := 3) sc_told_leads.nd rfl (by first | exact Or.inl rfl | exact Or.inr rfl) (pe_calO dgrown hr pass0 (pa_cons (pv 0) (pa_cons (pe_op op_cat (pe_lc (own := [("term", 4)]) (g := gName 4) (tt := tYes) rfl sc_told_leads.nd (pi_listK (K := K) (pv 1)) (blkOk_by (own := [("term", 4)]) (N := ["leads", "terms", "pairs", "more", "term", "pair", "one", "another"]) (sc := defScope s_told_leads) (by decide +kernel)) (fun _ _ _ _ _ => pg_name (i := 4) sc_told_leads.nd rfl (by first | exact Or.inl rfl | exact Or.inr rfl)) (fun _ _ _ _ _ => pts_nil) (fun _ _ _ _ _ => (pe_tup (pa_cons pe_int (pa_cons (pv 4) pa_nil))))) (pe_lc2 (own := [("pair", 5), ("term", 4)]) (vs1 := [4]) (g := gName 5) (g1 := gName 4) (tt := tYes) (tt1 := tYes) rfl sc_told_leads.nd (pi_seqS (K := K) (pv 2)) (blkOk_by (own := [("pair", 5), ("term", 4)]) (N := ["leads", "terms", "pairs", "more", "term", "pair", "one", "another"]) (sc := defScope s_told_leads) (by decide +kernel)) (by decide) (fun _ _ _ _ _ => pg_name (i := 5) sc_told_leads.nd rfl (by first | exact Or.inl rfl | exact Or.inr rfl)) (fun _ _ _ _ _ => pts_nil) (fun _ _ _ _ _ => (pi_tupK (K := K) (pv 5))) (fun _ _ _ _ _ => pg_name (i := 4) sc_told_leads.nd rfl (by first | exact Or.inl rfl | exact Or.inr rfl)) (fun _ _ _ _ _ => pts_nil) (fun _ _ _ _ _ => (pe_tup (pa_cons pe_int (pa_cons (pv 4) pa_nil)))))) pa_nil))))
      (pss_one (ps_ret (pe_calO dmerged hr pass0 (pa_cons (pv 3) (pa_cons (pe_lc (own := [("one", 6), ("another", 7)]) (g := gTup K 2 (gCons (gName 6) (gCons (gName 7) gNil))) (tt := tYes) rfl sc_told_leads.nd (pi_seqS (K := K) (pv 2)) (blkOk_by (own := [("one", 6), ("another", 7)]) (N := ["leads", "terms", "pairs", "more", "term", "pair", "one", "another"]) (sc := defScope s_told_leads) (by decide +kernel)) (fun _ _ _ _ _ => pg_tupK (K := K) (n := 2) rfl (pgs_cons (pg_name (i := 6) sc_told_leads.nd rfl (by first | exact Or.inl rfl | exact Or.inr rfl)) (pgs_cons (pg_name (i := 7) sc_told_leads.nd rfl (by first | exact Or.inl rfl | exact Or.inr rfl)) pgs_nil))) (fun _ _ _ _ _ => pts_nil) (fun _ _ _ _ _ => (pe_tup (pa_cons (pe_calO dwalk hr pass0 (pa_cons (pv 3) (pa_cons pe_int (pa_cons (pv 6) pa_nil)))) (pa_cons (pe_calO dwalk hr pass0 (pa_cons (pv 3) (pa_cons pe_int (pa_cons (pv 7) pa_nil)))) pa_nil))))) pa_nil))))))), ?_⟩
    obtain ⟨d, l, m, L, us, ks, ts, ps, rfl, hd, hl, hu, hm, hp, wf, ne, hz, hz1, hz2, q⟩ := h
    obtain ⟨wm, lm, hw, he⟩ := more_inv (ts := ts) wf ne
    have bz : (ps.flatMap fun p => [((0 : Nat), p.1), (0, p.2)]).length ≤ 2000 := by
      have z : ∀ qs : List (List Str × List Str), (qs.flatMap fun p => [((0 : Nat), p.1), (0, p.2)]).length = 2 * qs.length := fun qs => by
        induction qs with
        | nil => rfl
        | cons p qs ih =>
          have c : (p :: qs).length = qs.length + 1 := rfl
          rw [List.flatMap_cons, List.length_append, ih, c]
          show 2 + 2 * qs.length = _
          omega
      rw [z]
      omega
    have hok : ∀ p ∈ ps, (∃ n, Wp.walkL (moreL L ts ps) 0 p.1 = some n) ∧ ∃ n, Wp.walkL (moreL L ts ps) 0 p.2 = some n := fun p hp2 => ⟨(hw (0, p.1) (List.mem_append_right _ (List.mem_flatMap.mpr ⟨p, hp2, List.mem_cons_self ..⟩))).imp fun k z => z.1, (hw (0, p.2) (List.mem_append_right _ (List.mem_flatMap.mpr ⟨p, hp2, List.mem_cons_of_mem _ (List.mem_cons_self ..)⟩))).imp fun k z => z.1⟩
    refine q_asgT ⟨_, rfl, eb_cat (B := ToldN K) (xs := ts.map fun t => (0, t)) (ys := ps.flatMap fun p => [(0, p.1), (0, p.2)]) toldN_mono (eb_t0 rfl hl hu hz1 (fun _ => rfl) (fun _ => rfl)) (eb_t2 rfl hm hp hz2 (fun _ => rfl) (fun _ => rfl) (fun _ _ => rfl) (fun _ _ => rfl)) (by rw [List.length_map]; exact Nat.le_trans (Nat.add_le_add hz1 bz) (by decide)) H (Ex.refl H) _ fun l2 H2 us2 hl2 e2 h2 p2 => ?_⟩
    refine ⟨d, l2, L, us2, toldOf ts ps, rfl, e2 _ _ hd, SqL.of h2, paired_mono (fun _ _ r => toldN_V r) p2, wf, fun t ht => .inl (told_zero t ht), (by rw [letters_of]; omega), fun f H3 g => ?_⟩
    refine ⟨_, rfl, eb_ends (f := f) (M := moreL L ts ps) rfl (sqq_ex (e2.trans g.ex) hm) (paired_mono (fun _ _ r => pairT_mono (e2.trans g.ex) r) hp) hz2 g.at_ hok (fun _ _ => rfl) (fun _ _ => rfl) (fun _ _ => rfl) (fun _ _ => rfl) H3 (Ex.refl H3) _ fun l3 H4 us3 hl3 e4 h4 p4 => ?_⟩
    exact ⟨f, l3, moreL L ts ps, us3, endsOf (moreL L ts ps) ps, rfl, e4 _ _ g.at_, SqL.of h4, p4, wm, he, by omega, (by unfold endsOf; rw [List.length_map]; omega), fun f2 H5 g5 => q f2 H5 ⟨fresh_back ((e2.trans g.ex).trans e4) g5.nf, ((e2.trans g.ex).trans e4).trans g5.ex, g5.at_⟩⟩
end
end K35
namespace K35
open PySem PySem.Spec PyProof.Rows L2 Lw Evl LamX Tk
open Rm (R Ok Z0 Zp Fr fr_none)
open LwX (XC XF)
open Wp (Leads walkL)
section
variable {P : Program} {w : World} {K : PySem.W.Frag} {mg : Str → Option Value} {base : Heap} {CW CF CE CT CU CA : Addr}
abbrev s_leads_of_web : Stmt := topS 45
theorem sc_leads_of_web : FnScope ["web"] ["web"] (defScope s_leads_of_web) := ⟨rfl, rfl, rfl, by decide +kernel, rfl, by decide +kernel, by decide +kernel⟩
theorem ok_leads_of_web {f : Addr} {fd : FuncData} (F : FunD K "leads_of_web" "leads_of_web" (defArgs s_leads_of_web) (defBody s_leads_of_web) (defScope s_leads_of_web) [] [] f fd) (T : Tx P w K mg base) (OWb : OwnC K mg "Web" CW) (nL : NoAttr K CW "_leads") : FnOk P w K mg base CX0 1 f fd ["web"] (spLeads CW) := by
  refine fnO F sc_leads_of_web (fun vs H Q E h => ?_) (fun cdv A outer s H vs Q E hr h => ?_)
  · obtain ⟨a, dx, d, l, rfl, _⟩ := h
    rfl
  · skip
    refine ⟨_, PSs.nox ((pss_one (ps_ret (pe_fldK (pv 0))))), ?_⟩
    obtain ⟨a, dx, d, l, rfl, h1, q⟩ := h
    exact ⟨_, rfl, a, CW, dx, _, .ref d, rfl, h1, OWb.cl, nL, rfl, q H (Ex.refl H)⟩
theorem ev_leads {σ : L2.St} {H : Hp} {te : TE} {a d dx l : Addr} {L : Leads} (h : Ev te σ H (.ref a)) (h1 : H a = some (.ins CW dx [("_leads", .ref d), ("_least", .ref l)])) (OWb : OwnC K mg "Web" CW) (nL : NoAttr K CW "_leads") : Ev (tFld K te "_leads") σ H (.ref d) := fun H1 e Q q =>
  h H1 e _ fun H2 e2 => ⟨a, CW, dx, _, .ref d, rfl, (e.trans e2) _ _ h1, OWb.cl, nL, rfl, q H2 e2⟩
theorem ev_least {σ : L2.St} {H : Hp} {te : TE} {a d dx l : Addr} (h : Ev te σ H (.ref a)) (h1 : H a = some (.ins CW dx [("_leads", .ref d), ("_least", .ref l)])) (OWb : OwnC K mg "Web" CW) (nT : NoAttr K CW "_least") : Ev (tFld K te "_least") σ H (.ref l) := fun H1 e Q q =>
  h H1 e _ fun H2 e2 => ⟨a, CW, dx, _, .ref l, rfl, (e.trans e2) _ _ h1, OWb.cl, nT, rfl, q H2 e2⟩
theorem ev_walkL {σ : L2.St} {H : Hp} {ta tk tb : TE} {d : Addr} {L : Leads} {k : Nat} {xs : List Str} {v : V} (hf : Ev ta σ H (.ref d)) (hM : H d = some (.dT (kvL L))) (hk : Ev tk σ H (.int (k : Int))) (ht : Ev tb σ H v) (hv : Wd K H v xs) : Ev (tCall (spWalk K) [] E0 (tCons ta (tCons tk (tCons tb tNil)))) σ H (oV (walkL L k xs)) := by
  obtain ⟨b, rfl, hb⟩ := hv
  exact ev_call (ea_cons hf (ea_cons hk (ea_cons ht ea_nil))) fun H1 e Q q E => ⟨d, b, k, L, xs, rfl, .inl (e _ _ hM), SqT.of (e _ _ hb), fun H2 e2 => q H2 e2⟩
abbrev s_knot_of_term : Stmt := topS 47
theorem sc_knot_of_term : FnScope ["web", "term", "knot"] ["web", "term"] (defScope s_knot_of_term) := ⟨rfl, rfl, rfl, by decide +kernel, rfl, by decide +kernel, by decide +kernel⟩
theorem ok_knot_of_term {f : Addr} {fd : FuncData} (F : FunD K "knot_of_term" "knot_of_term" (defArgs s_knot_of_term) (defBody s_knot_of_term) (defScope s_knot_of_term) [] [] f fd) (T : Tx P w K mg base) (dneed_term : CalO P w K mg base (L2.CX P w) 3 "need_term" ["value"] (spNeedT K CT)) (dleads_of_web : CalO P w K mg base CX0 1 "leads_of_web" ["web"] (spLeads CW)) (dwalk : CalO P w K mg base CX0 1 "walk" ["leads", "knot", "names"] (spWalk K)) (xUnknownTerm : XR1 P w K mg base 1 "UnknownTerm" CU "value") : FnOk P w K mg base (L2.CX P w) 5 f fd ["web", "term"] (spKnot K CW CT CU) := by
  refine fnO F sc_knot_of_term (fun vs H Q E h => ?_) (fun cdv A outer s H vs Q E hr h => ?_)
  · obtain ⟨a, v, L, rfl, _⟩ := h
    rfl
  · skip
    refine ⟨_, (pss_cons (ps_expr (pe_calO dneed_term hr (passes_call (takes_of rfl rfl rfl rfl) fun _ _ _ _ h => h) (pa_cons (pv 1) pa_nil)))
      (pss_cons (ps_set (i := 2) sc_knot_of_term.nd rfl (by first | exact Or.inl rfl | exact Or.inr rfl) (pe_calO dwalk hr pass0 (pa_cons (pe_calO dleads_of_web hr pass0 (pa_cons (pv 0) pa_nil)) (pa_cons pe_int (pa_cons (pv 1) pa_nil)))))
      (pss_cons (ps_if (pt_cmpR op_isN (pv 2) pe_non (nomark _)) (pss_one (ps_r1 xUnknownTerm hr rfl (takes_of rfl rfl rfl rfl) (pv 1))) pss_nil)
      (pss_one (ps_ret (pv 2)))))), ?_⟩
    obtain ⟨a, v, L, rfl, ⟨dx, d, l, h1, h2, h3⟩, h⟩ := h
    have ld : ∀ {σ : L2.St} {H1 : Hp}, σ[0]? = some (some (.ref a)) → Ex H H1 → Ev (tCall (spLeads CW) [] E0 (tCons (tVar 0) tNil)) σ H1 (.ref d) := fun hs e => ev_call (ea_cons (ev_var hs) ea_nil) fun H2 e2 Q q E => ⟨a, dx, d, l, rfl, (e.trans e2) _ _ h1, q⟩
    rcases h with (⟨hb, hE⟩ | ⟨xs, hx, ht, hz, ho, hE⟩) | ⟨n, ⟨xs, hx, ht, hz, ho⟩, q⟩
    · exact ⟨_, rfl, v, rfl, .inr ⟨hb, hE⟩⟩
    · refine ⟨_, rfl, v, rfl, .inl ⟨tb_term hx (by omega) ht, fun H1 e1 => ?_⟩⟩
      refine q_asg (ev_walkL (k := 0) (ld rfl e1) (e1 _ _ h2) ev_c (ev_var rfl) (wd_mono e1 hx)) fun H2 e2 => ?_
      rw [ho]
      refine q_when (b := decide (V.non = V.non)) (et_test (ev_op (r := fun x y H Q => y = .non ∧ Q (.bl (decide (x = .non))) H) (ev_var rfl) ev_c fun G e Q k => ⟨rfl, k G (Ex.refl G)⟩)) (fun _ H3 e3 => ⟨_, rfl, fun e H5 e5 he => hE e H5 (((e1.trans e2).trans e3).trans e5) he⟩) (fun z => by cases z)
    · refine ⟨_, rfl, v, rfl, .inl ⟨tb_term hx (by omega) ht, fun H1 e1 => ?_⟩⟩
      refine q_asg (ev_walkL (k := 0) (ld rfl e1) (e1 _ _ h2) ev_c (ev_var rfl) (wd_mono e1 hx)) fun H2 e2 => ?_
      rw [ho]
      refine q_when (b := decide (V.int (n : Int) = V.non)) (et_test (ev_op (r := fun x y H Q => y = .non ∧ Q (.bl (decide (x = .non))) H) (ev_var rfl) ev_c fun G e Q k => ⟨rfl, k G (Ex.refl G)⟩)) (fun z => by cases z) (fun _ H3 e3 => ?_)
      exact s_ret (ev_var rfl) fun H4 e4 => q H4 (((e1.trans e2).trans e3).trans e4)
end
end K35
namespace K35
open PySem PySem.Spec PyProof.Rows L2 Lw Evl LamX Tk
open Rm (R Ok Z0 Zp Fr fr_none)
open LwX (XC XF)
open Wp (Leads walkL WfL)
section
variable {P : Program} {w : World} {K : PySem.W.Frag} {mg : Str → Option Value} {base : Heap} {CW CX CY CZ CF CE CT CU CA dA dB dC : Addr}
abbrev s_wb_init : Stmt := inClass (topS 48) 1
theorem sc_wb_init : FnScope ["self", "things", "terms", "pairs", "leads", "thing"] ["self", "things", "terms", "pairs"] (defScope s_wb_init) := ⟨rfl, rfl, rfl, by decide +kernel, rfl, by decide +kernel, by decide +kernel⟩
theorem ok_wb_init {f : Addr} {fd : FuncData} (F : FunD K "__init__" "Web.__init__" (defArgs s_wb_init) (defBody s_wb_init) (defScope s_wb_init) [V.ref dA, V.ref dB, V.ref dC] [] f fd) (T : Tx P w K mg base) (OWb : OwnC K mg "Web" CW) (nL : NoAttr K CW "_leads") (nT : NoAttr K CW "_least") (CIM : CInt K CW "MOST_KNOTS" 400) (dneed_things : CalO P w K mg base (L2.CX P w) 3 "need_things" ["things"] (spNeedS K (LB K) CX)) (dneed_terms : CalO P w K mg base (L2.CX P w) 3 "need_terms" ["terms"] (spNeedS K (TB K) CY)) (dneed_pairs : CalO P w K mg base (L2.CX P w) 4 "need_pairs" ["pairs"] (spNeedS K (PB K) CZ)) (dtold_leads : CalO P w K mg base CX0 3 "told_leads" ["leads", "terms", "pairs"] (spToldL2 K)) (dneed_few_knots : CalO P w K mg base CX0 2 "need_few_knots" ["leads", "limit"] spFew) (dnumbered : CalO P w K mg base CX0 1 "numbered" ["leads"] (spNumbered K)) (dleast_terms : CalO P w K mg base CX0 1 "least_terms" ["leads"] (spLeast K)) : FnOk P w K mg base (L2.CX P w) 5 f fd ["self", "things", "terms", "pairs"] (spWbI2 K CW) := by
  refine fnO F sc_wb_init (fun vs H Q E h => ?_) (fun cdv A outer s H vs Q E hr h => ?_)
  · obtain ⟨a, dx, x, y, z, H0, rfl, _⟩ := h
    rfl
  · skip
    refine ⟨_, (pss_cons (ps_expr (pe_calO dneed_things hr (passes_call (takes_of rfl rfl rfl rfl) fun _ _ _ _ h => h) (pa_cons (pv 1) pa_nil)))
      (pss_cons (ps_expr (pe_calO dneed_terms hr (passes_call (takes_of rfl rfl rfl rfl) fun _ _ _ _ h => h) (pa_cons (pv 2) pa_nil)))
      (pss_cons (ps_expr (pe_calO dneed_pairs hr (passes_call (takes_of rfl rfl rfl rfl) fun _ _ _ _ h => h) (pa_cons (pv 3) pa_nil)))
      (pss_cons (ps_set (i := 4) sc_wb_init.nd rfl (by first | exact Or.inl rfl | exact Or.inr rfl) (pe_calO dtold_leads hr pass0 (pa_cons pe_dnewT (pa_cons (pe_op op_cat (pe_lc (own := [("thing", 5)]) (g := gName 5) (tt := tYes) rfl sc_wb_init.nd (pi_seqS (K := K) (pv 1)) (blkOk_by (own := [("thing", 5)]) (N := ["self", "things", "terms", "pairs", "leads", "thing"]) (sc := defScope s_wb_init) (by decide +kernel)) (fun _ _ _ _ _ => pg_name (i := 5) sc_wb_init.nd rfl (by first | exact Or.inl rfl | exact Or.inr rfl)) (fun _ _ _ _ _ => pts_nil) (fun _ _ _ _ _ => (pe_tup (pa_cons (pv 5) pa_nil)))) (pe_callTy (call_list_ofK (K := K)) (by rfl) T.m_list (by decide +kernel) (pa_cons (pv 2) pa_nil))) (pa_cons (pv 3) pa_nil)))))
      (pss_cons (ps_expr (pe_calO dneed_few_knots hr pass0 (pa_cons (pv 4) (pa_cons (pe_cvalK (K := K) (pe_glob (v := .ref CW) (by rfl) OWb.g rfl)) pa_nil))))
      (pss_cons (ps_fldK (pv 0) (pe_calO dnumbered hr pass0 (pa_cons (pv 4) pa_nil)))
      (pss_one (ps_fldK (pv 0) (pe_calO dleast_terms hr pass0 (pa_cons (pe_fldK (pv 0)) pa_nil)))))))))), ?_⟩
    obtain ⟨a, dx, x, y, z, H0, rfl, rfl, na, nd, ne, xs, ts, ps, gx, gy, gz, fit, lx1, hz1, hz2, q⟩ := h
    have na2 : (upd H0 dx (.own a)) a = none := by
      rw [upd_ne ne.symm]
      exact na
    have e0 : Ex H0 (upd (upd H0 dx (.own a)) a (.ins CW dx [])) := (Ex.new nd).trans (Ex.new na2)
    have ha0 : (upd (upd H0 dx (.own a)) a (.ins CW dx [])) a = some (.ins CW dx []) := upd_same
    generalize upd (upd H0 dx (.own a)) a (.ins CW dx []) = H1 at e0 ha0
    refine ⟨_, rfl, x, rfl, .inr ⟨goodSeq_ex (lb_mono e0) e0 (goodX_seq gx), fun H2 e2 => ?_⟩⟩
    refine ⟨_, rfl, y, rfl, .inr ⟨goodSeq_ex (tb_mono (e0.trans e2)) (e0.trans e2) (goodY_seq gy), fun H3 e3 => ?_⟩⟩
    refine ⟨_, rfl, z, rfl, .inr ⟨goodSeq_ex (pb_mono ((e0.trans e2).trans e3)) ((e0.trans e2).trans e3) (goodZ_seq gz), fun H4 e4 => ?_⟩⟩
    have e04 := ((e0.trans e2).trans e3).trans e4
    have ha4 : H4 a = some (.ins CW dx []) := e4 _ _ (e3 _ _ (e2 _ _ ha0))
    obtain ⟨lx, rfl, sx, hx⟩ := goodX_ex e04 gx
    obtain ⟨ly, us, rfl, sy, py, hy⟩ := goodY_ex e04 gy
    obtain ⟨lz, ks, rfl, sz, pz, hz3⟩ := goodZ_ex e04 gz
    have ne2 : ∀ p ∈ ps, p.1 ≠ [] ∧ p.2 ≠ [] := fun p hp => ⟨(isT_all (hz3 p hp).1.1).1, (isT_all (hz3 p hp).2.1).1⟩
    have hsz := fit.sz
    rw [List.length_nil] at hsz
    obtain ⟨k1, k2, k3, k4⟩ := (⟨fit.wf, fit.len, fit.nm, fit.cnt⟩ : _ ∧ _ ∧ _ ∧ _)
    refine q_asgT (te := tCall (spToldL2 K) [] E0 (tCons tDNewT _)) fun d hd => ?_
    have eD : Ex H4 (upd H4 d (.dT [])) := Ex.new hd
    refine eb_cat (B := Wd K) (xs := xs.map fun x => [x]) (ys := ts) wd_mono (eb_ones rfl (sqq_ex eD sx) (by omega) (fun _ => rfl) (fun _ => rfl)) (eb_list (B := Wd K) wd_mono (ev_var rfl) (sqq_ex eD sy) (paired_mono (fun _ _ r => wd_mono eD r) py)) (by rw [List.length_map]; omega) _ (Ex.refl _) _ fun l2 H5 us2 nl2 e5 h5 p5 => ?_
    have e45 := eD.trans e5
    refine ⟨_, rfl, d, l2, lz, [], us2, ks, _, ps, rfl, e5 _ _ upd_same, h5, p5, sqq_ex e45 sz, paired_mono (fun _ _ r => pairT_mono e45 r) pz, WfL.nil, ne2, (by rw [List.length_nil]; omega), (by rw [List.length_append, List.length_map]; omega), (by omega), fun f H6 g6 => ?_⟩
    have e46 := e45.trans g6.ex
    refine q_drop (ev_call (ea_cons (ev_var rfl) (ea_cons (ev_cint CIM ev_c) ea_nil)) fun H7 e7 Q q E => ⟨f, _, 400, rfl, e7 _ _ g6.at_, (by omega), (by omega), q⟩) fun H7 e7 => ?_
    have e47 := e46.trans e7
    refine ⟨_, rfl, f, _, rfl, e7 _ _ g6.at_, k1, by omega, k3, fun f2 H8 g8 => ?_⟩
    have e48 := e47.trans g8.ex
    have ha8 := e48 _ _ ha4
    refine ⟨_, rfl, a, CW, dx, [], rfl, ha8, OWb.cl, nL, by decide, ?_⟩
    have e08 := (e04.trans e48).mut (o := .ins CW dx (putF "_leads" (.ref f2) [])) na
    have af2 : f2 ≠ a := fun z => by
      have y := g8.at_
      rw [z, ha8] at y
      cases y
    have h82 : (upd H8 a (.ins CW dx (putF "_leads" (.ref f2) []))) f2 = some (.dT (kvL (webL xs ts ps))) := by
      rw [upd_ne af2]
      exact g8.at_
    have ha9 : (upd H8 a (.ins CW dx (putF "_leads" (.ref f2) []))) a = some (.ins CW dx [("_leads", .ref f2)]) := upd_same
    generalize upd H8 a (.ins CW dx (putF "_leads" (.ref f2) [])) = H9 at e08 h82 ha9
    have wo : WbL (webL xs ts ps) := fit_ok fit
    generalize webL xs ts ps = W at h82 wo q
    refine ⟨_, rfl, a, CW, dx, [("_leads", .ref f2)], .ref f2, rfl, ha9, OWb.cl, nL, rfl, ?_⟩
    have wl : W.length ≤ 3000 := by have := wo.len; omega
    refine ⟨f2, W, rfl, h82, wo.num.ok, wl, fun l3 H10 nl3 e10 hL => ?_⟩
    have ha10 := e10 _ _ ha9
    refine ⟨_, rfl, a, CW, dx, [("_leads", .ref f2)], rfl, ha10, OWb.cl, nT, (by show 1 < 1000; decide), ?_⟩
    refine q _ ((e08.trans e10).mut na) ⟨dx, f2, l3, upd_same, ?_, ?_⟩
    · rw [upd_ne af2]
      exact e10 _ _ h82
    · obtain ⟨vs, v1, v2⟩ := hL
      refine ⟨vs, ?_, paired_mono (fun u t ⟨b, b1, b2⟩ => ⟨b, b1, ?_⟩) v2⟩
      · rw [upd_ne fun z => by rw [z, ha10] at v1; cases v1]
        exact v1
      · rw [upd_ne fun z => by rw [z, ha10] at b2; cases b2]
        exact b2
end
end K35
namespace K35
open PySem PySem.Spec PyProof.Rows L2 Lw Evl LamX Tk
open Rm (R Ok Z0 Zp Fr fr_none)
open LwX (XC XF)
open Wp (Leads Lead walkL WfL)
section
variable {P : Program} {w : World} {K : PySem.W.Frag} {mg : Str → Option Value} {base : Heap} {CW CT CU dA dB dC : Addr}
abbrev s_web_of : Stmt := topS 46
theorem sc_web_of : FnScope ["leads", "web"] ["leads"] (defScope s_web_of) := ⟨rfl, rfl, rfl, by decide +kernel, rfl, by decide +kernel, by decide +kernel⟩
theorem ok_web_of {f : Addr} {fd : FuncData} (F : FunD K "web_of_leads" "web_of_leads" (defArgs s_web_of) (defBody s_web_of) (defScope s_web_of) [] [] f fd) (T : Tx P w K mg base) (OWb : OwnC K mg "Web" CW) (nL : NoAttr K CW "_leads") (nT : NoAttr K CW "_least") (CIM : CInt K CW "MOST_KNOTS" 400) (hA : ∀ H, SqT K H dA []) (hB : ∀ H, SqT K H dB []) (hC3 : ∀ H, SqT K H dC []) (MWb : MkW P w K mg base (L2.CX P w) 5 "Web" CW ["things", "terms", "pairs"] dA dB dC (spWbI2 K CW)) (dneed_few_knots : CalO P w K mg base CX0 2 "need_few_knots" ["leads", "limit"] spFew) (dnumbered : CalO P w K mg base CX0 1 "numbered" ["leads"] (spNumbered K)) (dleast_terms : CalO P w K mg base CX0 1 "least_terms" ["leads"] (spLeast K)) : FnOk P w K mg base CX0 7 f fd ["leads"] (spWebOf K CW) := by
  refine fnO F sc_web_of (fun vs H Q E h => ?_) (fun cdv A outer s H vs Q E hr h => ?_)
  · obtain ⟨d, M, rfl, _⟩ := h
    rfl
  · skip
    refine ⟨_, PSs.nox ((pss_cons (ps_expr (pe_calO dneed_few_knots hr pass0 (pa_cons (pv 0) (pa_cons (pe_cvalK (K := K) (pe_glob (v := .ref CW) (by rfl) OWb.g rfl)) pa_nil))))
      (pss_cons (ps_set (i := 1) sc_web_of.nd rfl (by first | exact Or.inl rfl | exact Or.inr rfl) (pe_mkW0 MWb hr passE0))
      (pss_cons (ps_fldK (pv 1) (pe_calO dnumbered hr pass0 (pa_cons (pv 0) pa_nil)))
      (pss_cons (ps_fldK (pv 1) (pe_calO dleast_terms hr pass0 (pa_cons (pe_fldK (pv 1)) pa_nil)))
      (pss_one (ps_ret (pv 1)))))))), ?_⟩
    obtain ⟨d, M, rfl, hd, wf, hl, hn, hc, q⟩ := h
    refine q_drop (ev_call (ea_cons (ev_var rfl) (ea_cons (ev_cint CIM ev_c) ea_nil)) fun H7 e7 Q q E => ⟨d, _, 400, rfl, e7 _ _ hd, (by omega), (by omega), q⟩) fun H1 e1 => ?_
    refine q_asgX (wb_mk0 (K := K) (CW := CW) (hA H1) (hB H1) (hC3 H1) fun a H2 na e2 hW => ?_)
    obtain ⟨dx, d0, l0, ha, _, _⟩ := hW
    have hd2 := e2 _ _ (e1 _ _ hd)
    have na0 : H a = none := fresh_back e1 na
    refine ⟨_, rfl, d, M, rfl, hd2, wf, (by omega), hn, fun f2 H8 g8 => ?_⟩
    have ha8 := g8.ex _ _ ha
    refine ⟨_, rfl, a, CW, dx, _, rfl, ha8, OWb.cl, nL, (by show 2 < 1000; decide), ?_⟩
    have e08 := ((e1.trans e2).trans g8.ex).mut (o := .ins CW dx (putF "_leads" (.ref f2) [("_leads", .ref d0), ("_least", .ref l0)])) na0
    have af2 : f2 ≠ a := fun z => by
      have y := g8.at_
      rw [z, ha8] at y
      cases y
    have h82 : (upd H8 a (.ins CW dx (putF "_leads" (.ref f2) [("_leads", .ref d0), ("_least", .ref l0)]))) f2 = some (.dT (kvL (Wp.numb M))) := by
      rw [upd_ne af2]
      exact g8.at_
    have ha9 : (upd H8 a (.ins CW dx (putF "_leads" (.ref f2) [("_leads", .ref d0), ("_least", .ref l0)]))) a = some (.ins CW dx [("_leads", .ref f2), ("_least", .ref l0)]) := upd_same
    generalize upd H8 a (.ins CW dx (putF "_leads" (.ref f2) [("_leads", .ref d0), ("_least", .ref l0)])) = H9 at e08 h82 ha9
    obtain ⟨n1, n2, n3⟩ := Wp.numb_num wf
    generalize Wp.numb M = W at h82 n1 n2 n3 q
    refine ⟨_, rfl, a, CW, dx, [("_leads", .ref f2), ("_least", .ref l0)], .ref f2, rfl, ha9, OWb.cl, nL, rfl, ?_⟩
    refine ⟨f2, W, rfl, h82, n1.ok, (by omega), fun l3 H10 nl3 e10 hL => ?_⟩
    have ha10 := e10 _ _ ha9
    refine ⟨_, rfl, a, CW, dx, [("_leads", .ref f2), ("_least", .ref l0)], rfl, ha10, OWb.cl, nT, (by show 2 < 1000; decide), ?_⟩
    refine ⟨_, rfl, q a _ na0 ((e08.trans e10).mut na0) ⟨dx, f2, l3, upd_same, ?_, ?_⟩⟩
    · rw [upd_ne af2]
      exact e10 _ _ h82
    · obtain ⟨vs, v1, v2⟩ := hL
      refine ⟨vs, ?_, paired_mono (fun u t ⟨b, b1, b2⟩ => ⟨b, b1, ?_⟩) v2⟩
      · rw [upd_ne fun z => by rw [z, ha10] at v1; cases v1]
        exact v1
      · rw [upd_ne fun z => by rw [z, ha10] at b2; cases b2]
        exact b2
theorem ev_knot {σ : L2.St} {H : Hp} {ta tb : TE} {a : Addr} {v : V} {L : Leads} {n : Nat} (ha : Ev ta σ H (.ref a)) (hb : Ev tb σ H v) (hW : WbAt K CW H a L) (ht : TmAt K L H v n) : Ev (tCall (spKnot2 K CW) [] E0 (tCons ta (tCons tb tNil))) σ H (.int (n : Int)) :=
  ev_call (ea_cons ha (ea_cons hb ea_nil)) fun H1 e Q q E => ⟨a, v, L, n, rfl, wb_ex e hW, tmAt_ex e ht, q⟩
abbrev s_wb_len : Stmt := inClass (topS 48) 5
theorem sc_wb_len : FnScope ["self"] ["self"] (defScope s_wb_len) := ⟨rfl, rfl, rfl, by decide +kernel, rfl, by decide +kernel, by decide +kernel⟩
theorem ok_wb_len {f : Addr} {fd : FuncData} (F : FunD K "__len__" "Web.__len__" (defArgs s_wb_len) (defBody s_wb_len) (defScope s_wb_len) [] [] f fd) (T : Tx P w K mg base) (OWb : OwnC K mg "Web" CW) (nT : NoAttr K CW "_least") : FnOk P w K mg base CX0 1 f fd ["self"] (spWbLen K CW) := by
  refine fnO F sc_wb_len (fun vs H Q E h => ?_) (fun cdv A outer s H vs Q E hr h => ?_)
  · obtain ⟨a, L, rfl, _⟩ := h
    rfl
  · skip
    refine ⟨_, PSs.nox ((pss_one (ps_ret (pe_callB (call_lenK (K := K)) (by rfl) T.m_len (by decide +kernel) (pa_cons (pe_slice (sl_listK (K := K)) (pe_fldK (pv 0)) (po_some pe_int) po_none) pa_nil))))), ?_⟩
    obtain ⟨a, L, rfl, ⟨dx, d, l, h1, h2, h3⟩, wo, q⟩ := h
    refine elw_drop (K := K) (n := 1) (ta := tFld K (tVar 0) "_least") (ev_least (ev_var rfl) h1 OWb nT) h3 (eo_some ev_c) eo_none wo.pos H (Ex.refl H) _ fun r H3 nr e3 hr => ?_
    exact ev_lenLW (K := K) (σ := L2.start ["self"] [.ref a]) (ta := fun σ H Q => Q (.ref r) H) (fun H e Q q => q H (Ex.refl H)) hr H3 (Ex.refl H3) _ fun H4 e4 => q H4 (e3.trans e4)
abbrev s_wb_get : Stmt := inClass (topS 48) 7
theorem sc_wb_get : FnScope ["self", "term"] ["self", "term"] (defScope s_wb_get) := ⟨rfl, rfl, rfl, by decide +kernel, rfl, by decide +kernel, by decide +kernel⟩
theorem ok_wb_get {f : Addr} {fd : FuncData} (F : FunD K "__getitem__" "Web.__getitem__" (defArgs s_wb_get) (defBody s_wb_get) (defScope s_wb_get) [] [] f fd) (T : Tx P w K mg base) (OWb : OwnC K mg "Web" CW) (nT : NoAttr K CW "_least") (dknot_of_term : CalO P w K mg base CX0 5 "knot_of_term" ["web", "term"] (spKnot2 K CW)) : FnOk P w K mg base CX0 6 f fd ["self", "term"] (spWbGet K CW) := by
  refine fnO F sc_wb_get (fun vs H Q E h => ?_) (fun cdv A outer s H vs Q E hr h => ?_)
  · obtain ⟨a, v, L, n, t, rfl, _⟩ := h
    rfl
  · skip
    refine ⟨_, PSs.nox ((pss_one (ps_ret (pe_ix (ix_listK (K := K)) (pe_fldK (pv 0)) (pe_calO dknot_of_term hr pass0 (pa_cons (pv 0) (pa_cons (pv 1) pa_nil))) (fun _ _ => rfl))))), ?_⟩
    obtain ⟨a, v, L, n, t, rfl, hW, ht, hl, q⟩ := h
    obtain ⟨dx, d, l, h1, h2, h3⟩ := id hW
    exact ew_ixLW (i := n) (ev_least (ev_var rfl) h1 OWb nT) (ev_knot (ev_var rfl) (ev_var rfl) hW ht) h3 hl H (Ex.refl H) _ fun x H2 e2 hx => q x H2 e2 hx
abbrev s_wb_same : Stmt := inClass (topS 48) 9
theorem sc_wb_same : FnScope ["self", "one", "another"] ["self", "one", "another"] (defScope s_wb_same) := ⟨rfl, rfl, rfl, by decide +kernel, rfl, by decide +kernel, by decide +kernel⟩
theorem ok_wb_same {f : Addr} {fd : FuncData} (F : FunD K "same" "Web.same" (defArgs s_wb_same) (defBody s_wb_same) (defScope s_wb_same) [] [] f fd) (T : Tx P w K mg base) (dknot_of_term : CalO P w K mg base CX0 5 "knot_of_term" ["web", "term"] (spKnot2 K CW)) : FnOk P w K mg base CX0 6 f fd ["self", "one", "another"] (spWbSame2 K CW) := by
  refine fnO F sc_wb_same (fun vs H Q E h => ?_) (fun cdv A outer s H vs Q E hr h => ?_)
  · obtain ⟨a, v, u, L, n, m, rfl, _⟩ := h
    rfl
  · skip
    refine ⟨_, PSs.nox ((pss_one (ps_ret (pe_cmpR op_eq (pe_calO dknot_of_term hr pass0 (pa_cons (pv 0) (pa_cons (pv 1) pa_nil))) (pe_calO dknot_of_term hr pass0 (pa_cons (pv 0) (pa_cons (pv 2) pa_nil))) (nomark _))))), ?_⟩
    obtain ⟨a, v, u, L, n, m, rfl, hW, ht, hu, q⟩ := h
    refine s_ret (v := .bl (decide (V.int (n : Int) = V.int (m : Int)))) (ev_op (ev_knot (ev_var rfl) (ev_var rfl) hW ht) (ev_knot (ev_var rfl) (ev_var rfl) hW hu) (rv_eq rfl)) fun H1 e => ?_
    have z : decide (V.int (n : Int) = V.int (m : Int)) = decide (n = m) := decide_eq_decide.mpr ⟨fun z => by injection z with z; omega, fun z => by rw [z]⟩
    rw [z]
    exact q H1 e
abbrev s_wb_letters : Stmt := inClass (topS 48) 12
theorem sc_wb_letters : FnScope ["self", "term", "here", "knot", "letter"] ["self", "term"] (defScope s_wb_letters) := ⟨rfl, rfl, rfl, by decide +kernel, rfl, by decide +kernel, by decide +kernel⟩
theorem ok_wb_letters {f : Addr} {fd : FuncData} (F : FunD K "letters_at" "Web.letters_at" (defArgs s_wb_letters) (defBody s_wb_letters) (defScope s_wb_letters) [] [] f fd) (T : Tx P w K mg base) (OWb : OwnC K mg "Web" CW) (nL : NoAttr K CW "_leads") (dknot_of_term : CalO P w K mg base CX0 5 "knot_of_term" ["web", "term"] (spKnot2 K CW)) : FnOk P w K mg base CX0 6 f fd ["self", "term"] (spWbLetters K CW) := by
  refine fnO F sc_wb_letters (fun vs H Q E h => ?_) (fun cdv A outer s H vs Q E hr h => ?_)
  · obtain ⟨a, v, L, n, rfl, _⟩ := h
    rfl
  · skip
    refine ⟨_, PSs.nox ((pss_cons (ps_set (i := 2) sc_wb_letters.nd rfl (by first | exact Or.inl rfl | exact Or.inr rfl) (pe_calO dknot_of_term hr pass0 (pa_cons (pv 0) (pa_cons (pv 1) pa_nil))))
      (pss_one (ps_ret (pe_lock (pe_lc (own := [("knot", 3), ("letter", 4)]) (g := gTup K 2 (gCons (gName 3) (gCons (gName 4) gNil))) rfl sc_wb_letters.nd (pi_keys (pe_fldK (pv 0))) (blkOk_by (own := [("knot", 3), ("letter", 4)]) (N := ["self", "term", "here", "knot", "letter"]) (sc := defScope s_wb_letters) (by decide +kernel)) (fun _ _ _ _ _ => pg_tupK (K := K) (n := 2) rfl (pgs_cons (pg_name (i := 3) sc_wb_letters.nd rfl (by first | exact Or.inl rfl | exact Or.inr rfl)) (pgs_cons (pg_name (i := 4) sc_wb_letters.nd rfl (by first | exact Or.inl rfl | exact Or.inr rfl)) pgs_nil))) (fun _ _ _ _ _ => (pts_one (pt_cmpR op_eq (pv 3) (pv 2) (nomark _)))) (fun _ _ _ _ _ => (pv 4)))))))), ?_⟩
    obtain ⟨a, v, L, n, rfl, hW, wo, ht, q⟩ := h
    refine q_asg (ev_knot (ev_var rfl) (ev_var rfl) hW ht) fun H0 e0 => ?_
    obtain ⟨dx, d, l, h1, h2, h3⟩ := wb_ex e0 hW
    have ad : a ≠ d := fun z => by rw [z, h2] at h1; cases h1
    refine ⟨d, _, h2, trivial, fun od => ?_⟩
    have ha1 : (upd H0 d (.frz od (.dT (kvL L)))) a = some (.ins CW dx [("_leads", .ref d), ("_least", .ref l)]) := by
      rw [upd_ne ad]
      exact h1
    refine ⟨_, rfl, a, CW, dx, _, .ref d, rfl, ha1, OWb.cl, nL, rfl, d, od, rfl, .inr ⟨kvL L, upd_same, fun D hD => ?_⟩⟩
    have Dd : D ≠ d := fun z => by
      rw [z, upd_same] at hD
      cases hD
    have nD : H0 D = none := by
      rw [upd_ne Dd] at hD
      exact hD
    have ll := wo.len
    refine w_it (walk_keysT (kvs := kvL L)) (fun i H' => Ex (upd H0 d (.frz od (.dT (kvL L)))) H' ∧ H' D = some (.lst ((Wp.names (L.take i) n).map V.str))) ⟨Ex.new hD, upd_same⟩ (fun i H' _ p => p.1 _ _ upd_same) (fun i x H1 H2 hi p y => ?_) fun H' p => ?_
    · obtain ⟨rfl, k, v, r, hk, rfl, hr⟩ := y
      obtain ⟨e1, hu⟩ := p
      obtain ⟨e, he, rfl, rfl⟩ := kvL_at hk
      have hr2 : H2 r = some (.tup [.int (e.1.1 : Int), .str e.1.2]) := hr
      refine ⟨r, _, rfl, SqT.of hr2, rfl, _, _, rfl, _, _, rfl, rfl, rfl, ?_⟩
      refine (et_test (ev_op (ev_var rfl) (ev_var rfl) (rv_eq rfl)) : EvT _ _ _ (decide (V.int (e.1.1 : Int) = V.int (n : Int)))) H2 (Ex.refl H2) _ fun H3 e3 => ?_
      rw [take_get he, nm_snoc]
      by_cases c : e.1.1 = n
      · rw [if_pos (decide_eq_true (by rw [c])), if_pos c]
        refine ⟨_, rfl, _, e3 _ _ hu, ?_, (e1.trans e3).mut hD, ?_⟩
        · have := nm_len (L := L.take i) (k := n)
          rw [List.length_take] at this
          rw [List.length_map]
          exact sz_lt (by omega)
        · rw [upd_same, List.map_append]
          rfl
      · rw [if_neg (by
          rw [decide_eq_false fun z => c (by
            injection z with z
            omega)]
          exact Bool.false_ne_true), if_neg c]
        exact ⟨e1.trans e3, e3 _ _ hu⟩
    · obtain ⟨e1, hu⟩ := p
      have lk1 : (kvL L).length = L.length := List.length_map ..
      rw [lk1, List.take_length] at hu
      refine ⟨e1 _ _ upd_same, q D _ (fresh_back e0 nD) (e0.trans (back_frz h2 e1)) ?_⟩
      rw [upd_ne Dd]
      exact hu
abbrev s_wb_pairs : Stmt := inClass (topS 48) 14
theorem sc_wb_pairs : FnScope ["self", "told", "knot", "name", "to", "term", "least"] ["self"] (defScope s_wb_pairs) := ⟨rfl, rfl, rfl, by decide +kernel, rfl, by decide +kernel, by decide +kernel⟩
theorem ok_wb_pairs {f : Addr} {fd : FuncData} (F : FunD K "pairs" "Web.pairs" (defArgs s_wb_pairs) (defBody s_wb_pairs) (defScope s_wb_pairs) [] [] f fd) (T : Tx P w K mg base) (OWb : OwnC K mg "Web" CW) (nL : NoAttr K CW "_leads") (nT : NoAttr K CW "_least") : FnOk P w K mg base CX0 1 f fd ["self"] (spWbPairs2 K CW) := by
  refine fnO F sc_wb_pairs (fun vs H Q E h => ?_) (fun cdv A outer s H vs Q E hr h => ?_)
  · obtain ⟨a, L, rfl, _⟩ := h
    rfl
  · skip
    refine ⟨_, PSs.nox ((pss_cons (ps_lock (ps_setLc (i := 1) (own := [("to", 4), ("knot", 2), ("name", 3)]) (g := (gTup K 2 (gCons (gTup K 2 (gCons (gName 2) (gCons (gName 3) gNil))) (gCons (gName 4) gNil)))) (tt := tYes) rfl sc_wb_pairs.nd rfl rfl (sw_true rfl rfl rfl (by decide +kernel)) (pi_itemsT (pe_fldK (pv 0))) (blkOk_by (own := [("to", 4), ("knot", 2), ("name", 3)]) (N := ["self", "told", "knot", "name", "to", "term", "least"]) (sc := defScope s_wb_pairs) (by decide +kernel)) (fun _ _ _ _ _ => pg_tupK (K := K) (n := 2) rfl (pgs_cons (pg_tupK (K := K) (n := 2) rfl (pgs_cons (pg_name (i := 2) sc_wb_pairs.nd rfl (by first | exact Or.inl rfl | exact Or.inr rfl)) (pgs_cons (pg_name (i := 3) sc_wb_pairs.nd rfl (by first | exact Or.inl rfl | exact Or.inr rfl)) pgs_nil))) (pgs_cons (pg_name (i := 4) sc_wb_pairs.nd rfl (by first | exact Or.inl rfl | exact Or.inr rfl)) pgs_nil))) (fun _ _ _ _ _ => pts_nil) (fun _ _ _ _ _ => (pe_tup (pa_cons (pe_op (op_catAK (K := K)) (pe_ix (ix_listK (K := K)) (pe_fldK (pv 0)) (pv 2) (fun _ _ => rfl)) (pe_tup (pa_cons (pv 3) pa_nil))) (pa_cons (pe_ix (ix_listK (K := K)) (pe_fldK (pv 0)) (pv 4) (fun _ _ => rfl)) pa_nil))))))
      (pss_one (ps_ret (pe_lc (own := [("term", 5), ("least", 6)]) (g := gTup K 2 (gCons (gName 5) (gCons (gName 6) gNil))) rfl sc_wb_pairs.nd (pi_listK (K := K) (pv 1)) (blkOk_by (own := [("term", 5), ("least", 6)]) (N := ["self", "told", "knot", "name", "to", "term", "least"]) (sc := defScope s_wb_pairs) (by decide +kernel)) (fun _ _ _ _ _ => pg_tupK (K := K) (n := 2) rfl (pgs_cons (pg_name (i := 5) sc_wb_pairs.nd rfl (by first | exact Or.inl rfl | exact Or.inr rfl)) (pgs_cons (pg_name (i := 6) sc_wb_pairs.nd rfl (by first | exact Or.inl rfl | exact Or.inr rfl)) pgs_nil))) (fun _ _ _ _ _ => (pts_one (pt_cmpR (op_neDK (K := K) hr.units) (pv 5) (pv 6) (nomark _)))) (fun _ _ _ _ _ => (pe_tup (pa_cons (pv 5) (pa_cons (pv 6) pa_nil))))))))), ?_⟩
    obtain ⟨a, L, rfl, ⟨dx, d, l, h1, h2, h3⟩, wo, lt, ln, q⟩ := h
    have ad : a ≠ d := fun z => by rw [z, h2] at h1; cases h1
    refine ⟨d, _, h2, trivial, fun od => ?_⟩
    have ha1 : (upd H d (.frz od (.dT (kvL L)))) a = some (.ins CW dx [("_leads", .ref d), ("_least", .ref l)]) := by
      rw [upd_ne ad]
      exact h1
    have hl1 : LW K (upd H d (.frz od (.dT (kvL L)))) l (Wp.least L) := by
      obtain ⟨us, u1, u2⟩ := h3
      refine ⟨us, ?_, paired_mono (fun u t ⟨b, b1, b2⟩ => ⟨b, b1, ?_⟩) u2⟩
      · rw [upd_ne fun z => by rw [z, h2] at u1; cases u1]
        exact u1
      · rw [upd_ne fun z => by rw [z, h2] at b2; cases b2]
        exact b2
    refine ⟨_, rfl, a, CW, dx, _, .ref d, rfl, ha1, OWb.cl, nL, rfl, d, od, _, rfl, upd_same, fun D hD => ?_⟩
    have nD : H D = none := by
      have Dd : D ≠ d := fun z => by
        rw [z, upd_same] at hD
        cases hD
      rw [upd_ne Dd] at hD
      exact hD
    have hz : (kvL L).length = L.length := List.length_map ..
    have wl := wo.len
    have wt := wo.lst
    have tl : ∀ t ∈ Wp.least L, t.length ≤ 2550 := fun t ht => by
      have := (leastF_len (L := L) (acc := [[]]) (n := 0) fun w hw => by rw [List.mem_singleton.mp hw]; exact Nat.le_refl _).1 t ht
      omega
    refine lc_bld (walk_itemsT (kvs := kvL L)) (PairT K) pairT_mono (fun h r => pairT_upd h r) (ys := L.map fun e => ((Wp.least L).getD e.1.1 [] ++ [e.1.2], (Wp.least L).getD e.2 [])) (by rw [List.length_map, hz]) (by omega) hD (fun H2 e2 => e2 _ _ upd_same) (fun i x y H1 H2 Q hy e1 yl kk => ?_) fun us2 H2 e2 u2 p2 => ?_
    · obtain ⟨t, kq, k, v, hk, rfl, hkq, ht, rfl⟩ := yl
      obtain ⟨e, he, rfl, rfl⟩ := kvL_at hk
      rw [List.getElem?_map, he] at hy
      cases hy
      have en := Ex.new (o := .tup [.ref kq, .int (e.2 : Int)]) ht
      have em := List.mem_of_getElem? he
      have g1 : (Wp.least L)[e.1.1]? = some ((Wp.least L).getD e.1.1 []) := by
        rw [List.getD_eq_getElem?_getD, List.getElem?_eq_getElem (wo.src em)]
        rfl
      have g2 : (Wp.least L)[e.2]? = some ((Wp.least L).getD e.2 []) := by
        rw [List.getD_eq_getElem?_getD, List.getElem?_eq_getElem (wo.tgt em)]
        rfl
      have le3 : ((Wp.least L).getD e.1.1 []).length ≤ 2550 := tl _ (List.mem_of_getElem? g1)
      have e12 := e1.trans en
      refine ⟨t, _, rfl, SqT.of upd_same, rfl, _, _, rfl, kq, _, rfl, SqT.of (en _ _ hkq), rfl, _, _, rfl, _, _, rfl, rfl, _, _, rfl, rfl, rfl, ?_⟩
      refine ew_cat (ew_ixLW (i := e.1.1) (ev_least (ev_var rfl) (e12 _ _ ha1) OWb nT) (ev_var rfl) (lw_mono e12 hl1) g1) (ew_tup (ys := [e.1.2]) (ea_cons (ev_var rfl) ea_nil) (by show 1 ≤ 100000; decide)) (by show _ + 1 ≤ _; omega) _ (Ex.refl _) _ fun v1 H3 e3 hv1 => ?_
      refine ew_ixLW (i := e.2) (ev_least (ev_var rfl) ((e12.trans e3) _ _ ha1) OWb nT) (ev_var rfl) (lw_mono (e12.trans e3) hl1) g2 H3 (Ex.refl H3) _ fun v2 H4 e4 hv2 => ?_
      exact ⟨two_le, fun p hp => kk _ _ ((en.trans e3).trans (e4.trans (Ex.new hp))) ⟨p, v1, v2, rfl, upd_same, wd_mono (e4.trans (Ex.new hp)) hv1, wd_mono (Ex.new hp) hv2⟩⟩
    · refine ⟨e2 _ _ upd_same, ?_⟩
      have e2b := back_frz h2 e2
      have Dd : D ≠ d := fun z => by
        rw [z, h2] at nD
        cases nD
      have u3 : (upd H2 d (.dT (kvL L))) D = some (.lst us2) := by
        rw [upd_ne Dd]
        exact u2
      have fz := e2 _ _ upd_same
      have p3 : Paired (PairT K (upd H2 d (.dT (kvL L)))) us2 (L.map fun e => ((Wp.least L).getD e.1.1 [] ++ [e.1.2], (Wp.least L).getD e.2 [])) := paired_mono (fun u p r => by
        obtain ⟨b, x, y, b1, b2, ⟨c1, c2, c3⟩, c4, c5, c6⟩ := r
        have up : ∀ {q : Addr} {xs : List V}, H2 q = some (.tup xs) → (upd H2 d (.dT (kvL L))) q = some (.tup xs) := fun {q xs} hq => by
          rw [upd_ne fun z => by rw [z, fz] at hq; cases hq]
          exact hq
        exact ⟨b, x, y, b1, up b2, ⟨c1, c2, up c3⟩, c4, c5, up c6⟩) p2
      generalize upd H2 d (.dT (kvL L)) = H3 at e2b u3 p3
      refine ⟨_, rfl, D, rfl, ⟨_, SqL.of u3⟩, fun D2 hD2 => ?_⟩
      have e3 := e2b.trans (Ex.new (o := .lst []) hD2)
      have pl : us2.length = L.length := by
        have := Paired.length p3
        rw [List.length_map] at this
        exact this
      refine w_it walk_list (fun i H' => Ex H3 H' ∧ ∃ us, H' D2 = some (.lst us) ∧ Paired (PairT K H') us (((L.take i).map (pairL L)).filter fun p => !decide (p.1 = p.2))) ⟨Ex.new hD2, [], upd_same, .nil⟩ (fun i H' _ p => SqL.of (p.1 _ _ u3)) (fun i x H4 H5 hi p y => ?_) fun H' p => ?_
      rotate_left
      · obtain ⟨e4, us, hu, pu⟩ := p
        rw [pl, List.take_length] at pu
        exact q D2 us H' (fresh_back e2b hD2) (e2b.trans e4) hu pu
      obtain ⟨rfl, hx⟩ := y
      obtain ⟨e4, us, hu, pu⟩ := p
      obtain ⟨pr, hpr, b, x1, y1, rfl, b2, w1, w2⟩ := paired_at p3 hx
      rw [List.getElem?_map] at hpr
      obtain ⟨e, he, rfl⟩ := Option.map_eq_some_iff.mp hpr
      have em := List.mem_of_getElem? he
      refine ⟨b, _, rfl, SqT.of (e4 _ _ b2), rfl, _, _, rfl, _, _, rfl, rfl, rfl, ?_⟩
      have g1 : (Wp.least L)[e.1.1]? = some ((Wp.least L).getD e.1.1 []) := by
        rw [List.getD_eq_getElem?_getD, List.getElem?_eq_getElem (wo.src em)]
        rfl
      have g2 : (Wp.least L)[e.2]? = some ((Wp.least L).getD e.2 []) := by
        rw [List.getD_eq_getElem?_getD, List.getElem?_eq_getElem (wo.tgt em)]
        rfl
      have l1 : LL ((Wp.least L).getD e.1.1 [] ++ [e.1.2]) := LL_snoc (lt_LL (lt _ (List.mem_of_getElem? g1))) (ln e em)
      have l2 : LL ((Wp.least L).getD e.2 []) := lt_LL (lt _ (List.mem_of_getElem? g2))
      have lus := Paired.length pu
      have lf := List.length_filter_le (fun p : List Str × List Str => !decide (p.1 = p.2)) ((L.take i).map (pairL L))
      rw [List.length_map, List.length_take] at lf
      refine (et_test (ev_neT (K := K) (ew_of (ev_var rfl) (wd_mono e4 w1)) (ew_of (ev_var rfl) (wd_mono e4 w2)) l1 l2) : EvT _ _ _ _) _ (Ex.refl _) _ fun H6 e6 => ?_
      rw [take_get he, List.map_append, List.filter_append]
      by_cases c : (Wp.least L).getD e.1.1 [] ++ [e.1.2] = (Wp.least L).getD e.2 []
      · rw [if_neg (by rw [decide_eq_true c]; exact Bool.false_ne_true)]
        have z : ([e].map (pairL L)).filter (fun p => !decide (p.1 = p.2)) = [] := by
          rw [List.map_cons, List.map_nil, List.filter_cons, if_neg (by
            show ¬ (!decide ((Wp.least L).getD e.1.1 [] ++ [e.1.2] = (Wp.least L).getD e.2 [])) = true
            rw [decide_eq_true c]
            exact Bool.false_ne_true)]
          rfl
        rw [z, List.append_nil]
        exact ⟨e4.trans e6, us, e6 _ _ hu, paired_mono (fun _ _ r => pairT_mono e6 r) pu⟩
      · rw [if_pos (by rw [decide_eq_false c]; rfl)]
        have z : ([e].map (pairL L)).filter (fun p => !decide (p.1 = p.2)) = [pairL L e] := by
          rw [List.map_cons, List.map_nil, List.filter_cons, if_pos (by
            show (!decide ((Wp.least L).getD e.1.1 [] ++ [e.1.2] = (Wp.least L).getD e.2 [])) = true
            rw [decide_eq_false c]
            rfl)]
          rfl
        rw [z]
        refine ⟨_, rfl, _, rfl, two_le, fun t ht => ⟨us, (Ex.new ht) _ _ (e6 _ _ hu), sz_lt (by omega), (e4.trans (e6.trans (Ex.new ht))).mut hD2, us ++ [.ref t], upd_same, ?_⟩⟩
        have nt := (Ex.new (o := .tup [x1, y1]) ht) _ _ (e6 _ _ hu)
        have e46 := (e4.trans e6).trans (Ex.new (o := .tup [x1, y1]) ht)
        exact paired_app (paired_mono (fun _ _ r => pairT_upd nt (pairT_mono (e6.trans (Ex.new ht)) r)) pu) (.cons (pairT_upd nt ⟨t, x1, y1, rfl, upd_same, wd_mono e46 w1, wd_mono e46 w2⟩) .nil)
abbrev s_wb_tree : Stmt := inClass (topS 48) 15
theorem sc_wb_tree : FnScope ["self"] ["self"] (defScope s_wb_tree) := ⟨rfl, rfl, rfl, by decide +kernel, rfl, by decide +kernel, by decide +kernel⟩
theorem ok_wb_tree {f : Addr} {fd : FuncData} (F : FunD K "is_tree" "Web.is_tree" (defArgs s_wb_tree) (defBody s_wb_tree) (defScope s_wb_tree) [] [] f fd) (T : Tx P w K mg base) (OWb : OwnC K mg "Web" CW) (MPa : MeO P w K mg base CX0 1 CW "pairs" [] (spWbPairs2 K CW)) : FnOk P w K mg base CX0 2 f fd ["self"] (spWbTree K CW) := by
  refine fnO F sc_wb_tree (fun vs H Q E h => ?_) (fun cdv A outer s H vs Q E hr h => ?_)
  · obtain ⟨a, L, rfl, _⟩ := h
    rfl
  · skip
    refine ⟨_, PSs.nox ((pss_one (ps_ret (pe_notTK (K := K) (pe_meO0 OWb.cl MPa (pv 0) hr pass0))))), ?_⟩
    obtain ⟨a, L, rfl, hW, wo, hl, hn, q⟩ := h
    obtain ⟨dx, d, l, h1, h2, h3⟩ := id hW
    refine ⟨_, rfl, a, dx, _, rfl, h1, rfl, a, L, rfl, hW, wo, hl, hn, fun r us H' nr e hr pr => ?_⟩
    refine ⟨!us.isEmpty, .inl ⟨us, SqL.of hr, by cases us <;> rfl⟩, ?_⟩
    have lu := Paired.length pr
    have z : (!(!us.isEmpty)) = (pairsL L).isEmpty := by
      rw [Bool.not_not]
      cases us <;> cases h : pairsL L <;> first | rfl | (rw [h] at lu; simp at lu)
    rw [z]
    exact q H' e
abbrev s_wb_add : Stmt := inClass (topS 48) 16
theorem sc_wb_add : FnScope ["self", "term"] ["self", "term"] (defScope s_wb_add) := ⟨rfl, rfl, rfl, by decide +kernel, rfl, by decide +kernel, by decide +kernel⟩
theorem ok_wb_add {f : Addr} {fd : FuncData} (F : FunD K "__add__" "Web.__add__" (defArgs s_wb_add) (defBody s_wb_add) (defScope s_wb_add) [] [] f fd) (T : Tx P w K mg base) (OWb : OwnC K mg "Web" CW) (nL : NoAttr K CW "_leads") (dneed_term : CalO P w K mg base CX0 3 "need_term" ["value"] (spNeedT2 K)) (dtold_leads : CalO P w K mg base CX0 3 "told_leads" ["leads", "terms", "pairs"] (spToldL2 K)) (dweb_of_leads : CalO P w K mg base CX0 7 "web_of_leads" ["leads"] (spWebOf K CW)) : FnOk P w K mg base CX0 8 f fd ["self", "term"] (spWbAdd2 K CW) := by
  refine fnO F sc_wb_add (fun vs H Q E h => ?_) (fun cdv A outer s H vs Q E hr h => ?_)
  · obtain ⟨a, v, L, t, rfl, _⟩ := h
    rfl
  · skip
    refine ⟨_, PSs.nox ((pss_cons (ps_expr (pe_calO dneed_term hr pass0 (pa_cons (pv 1) pa_nil)))
      (pss_one (ps_ret (pe_calO dweb_of_leads hr pass0 (pa_cons (pe_calO dtold_leads hr pass0 (pa_cons (pe_fldK (pv 0)) (pa_cons (pe_lst (pa_cons (pv 1) pa_nil)) (pa_cons (pe_lst pa_nil) pa_nil)))) pa_nil)))))), ?_⟩
    obtain ⟨a, v, L, t, rfl, hW, wo, hv, ht, htl, fit, q⟩ := h
    obtain ⟨dx, d, l, h1, h2, h3⟩ := id hW
    refine ⟨_, rfl, v, rfl, tb_term hv (by omega) ht, fun H1 e1 => ?_⟩
    refine ⟨_, rfl, a, CW, dx, _, .ref d, rfl, e1 _ _ h1, OWb.cl, nL, rfl, _, rfl, (by show 1 ≤ sizeLine; decide), fun l1 hl1 => ⟨(by show 0 ≤ sizeLine; decide), fun l2 hl2 => ?_⟩⟩
    have e3 := (Ex.new (o := .lst [v]) hl1).trans (Ex.new (o := .lst []) hl2)
    have e13 := e1.trans e3
    refine ⟨d, l1, l2, L, [v], [], [t], [], rfl, e13 _ _ h2, (Ex.new hl2) _ _ upd_same, .cons (wd_mono e13 hv) .nil, .inl (.inl upd_same), .nil, wo.num.wf, fit.ne, fit.sz, (by show 1 ≤ 1000; decide), (by show 0 ≤ 1000; decide), fun f H5 g5 => ?_⟩
    exact ⟨f, _, rfl, g5.at_, fit.wf, fit.len, fit.nm, fit.cnt, fun b H6 nb e6 hW6 => q b H6 (fresh_back (e13.trans g5.ex) nb) ((e13.trans g5.ex).trans e6) hW6⟩
abbrev s_wb_pair : Stmt := inClass (topS 48) 17
theorem sc_wb_pair : FnScope ["self", "one", "another"] ["self", "one", "another"] (defScope s_wb_pair) := ⟨rfl, rfl, rfl, by decide +kernel, rfl, by decide +kernel, by decide +kernel⟩
theorem ok_wb_pair {f : Addr} {fd : FuncData} (F : FunD K "with_pair" "Web.with_pair" (defArgs s_wb_pair) (defBody s_wb_pair) (defScope s_wb_pair) [] [] f fd) (T : Tx P w K mg base) (OWb : OwnC K mg "Web" CW) (nL : NoAttr K CW "_leads") (dneed_term : CalO P w K mg base CX0 3 "need_term" ["value"] (spNeedT2 K)) (dtold_leads : CalO P w K mg base CX0 3 "told_leads" ["leads", "terms", "pairs"] (spToldL2 K)) (dweb_of_leads : CalO P w K mg base CX0 7 "web_of_leads" ["leads"] (spWebOf K CW)) : FnOk P w K mg base CX0 8 f fd ["self", "one", "another"] (spWbPair2 K CW) := by
  refine fnO F sc_wb_pair (fun vs H Q E h => ?_) (fun cdv A outer s H vs Q E hr h => ?_)
  · obtain ⟨a, v, u, L, t, s, rfl, _⟩ := h
    rfl
  · skip
    refine ⟨_, PSs.nox ((pss_cons (ps_expr (pe_calO dneed_term hr pass0 (pa_cons (pv 1) pa_nil)))
      (pss_cons (ps_expr (pe_calO dneed_term hr pass0 (pa_cons (pv 2) pa_nil)))
      (pss_one (ps_ret (pe_calO dweb_of_leads hr pass0 (pa_cons (pe_calO dtold_leads hr pass0 (pa_cons (pe_fldK (pv 0)) (pa_cons (pe_lst pa_nil) (pa_cons (pe_lst (pa_cons (pe_tup (pa_cons (pv 1) (pa_cons (pv 2) pa_nil))) pa_nil)) pa_nil)))) pa_nil))))))), ?_⟩
    obtain ⟨a, v, u, L, t, s, rfl, hW, wo, hv, hu, ⟨ht, htl⟩, ⟨hs, hsl⟩, fit, q⟩ := h
    obtain ⟨dx, d, l, h1, h2, h3⟩ := id hW
    refine ⟨_, rfl, v, rfl, tb_term hv (by omega) ht, fun H1 e1 => ?_⟩
    refine ⟨_, rfl, u, rfl, tb_term (wd_mono e1 hu) (by omega) hs, fun H2 e2 => ?_⟩
    have e02 := e1.trans e2
    refine ⟨_, rfl, a, CW, dx, _, .ref d, rfl, e02 _ _ h1, OWb.cl, nL, rfl, (by show 0 ≤ sizeLine; decide), fun l1 hl1 => ⟨_, rfl, _, rfl, two_le, fun p hp => ⟨(by show 1 ≤ sizeLine; decide), fun l2 hl2 => ?_⟩⟩⟩
    have ep := Ex.new (o := .tup [v, u]) hp
    have e3 := ((Ex.new (o := .lst []) hl1).trans ep).trans (Ex.new (o := .lst [.ref p]) hl2)
    have e13 := e02.trans e3
    refine ⟨d, l1, l2, L, [], [.ref p], [], [(t, s)], rfl, e13 _ _ h2, (ep.trans (Ex.new hl2)) _ _ upd_same, .nil, .inl (.inl upd_same), .cons ⟨p, v, u, rfl, (Ex.new hl2) _ _ upd_same, wd_mono e13 hv, wd_mono e13 hu⟩ .nil, wo.num.wf, fit.ne, fit.sz, (by show 0 ≤ 1000; decide), (by show 1 ≤ 1000; decide), fun f H5 g5 => ?_⟩
    exact ⟨f, _, rfl, g5.at_, fit.wf, fit.len, fit.nm, fit.cnt, fun b H6 nb e6 hW6 => q b H6 (fresh_back (e13.trans g5.ex) nb) ((e13.trans g5.ex).trans e6) hW6⟩
end
end K35
namespace K35
open PySem PySem.Spec PyProof.Rows L2 Lw Evl LamX Tk
open Rm (R Ok Z0 Zp Fr fr_none)
open LwX (XC XF)
open Wp (Leads walkL WfL)
section
variable {P : Program} {w : World} {K : PySem.W.Frag} {mg : Str → Option Value} {base : Heap} {CW CX CY CZ CF CE CT CU CA dA dB dC : Addr}
abbrev s_wb_in : Stmt := inClass (topS 48) 6
theorem sc_wb_in : FnScope ["self", "value"] ["self", "value"] (defScope s_wb_in) := ⟨rfl, rfl, rfl, by decide +kernel, rfl, by decide +kernel, by decide +kernel⟩
theorem ok_wb_in {f : Addr} {fd : FuncData} (F : FunD K "__contains__" "Web.__contains__" (defArgs s_wb_in) (defBody s_wb_in) (defScope s_wb_in) [] [] f fd) (T : Tx P w K mg base) (OWb : OwnC K mg "Web" CW) (nL : NoAttr K CW "_leads") (dis_term : CalO P w K mg base CX0 2 "is_term" ["value"] (spTermX K)) (dwalk : CalO P w K mg base CX0 1 "walk" ["leads", "knot", "names"] (spWalk K)) : FnOk P w K mg base CX0 3 f fd ["self", "value"] (spWbIn K CW) := by
  refine fnO F sc_wb_in (fun vs H Q E h => ?_) (fun cdv A outer s H vs Q E hr h => ?_)
  · obtain ⟨a, v, L, rfl, _⟩ := h
    rfl
  · skip
    refine ⟨_, PSs.nox ((pss_one (ps_ret (pe_and (pe_calO dis_term hr pass0 (pa_cons (pv 1) pa_nil)) (pe_one (pe_cmpR op_notN (pe_calO dwalk hr pass0 (pa_cons (pe_fldK (pv 0)) (pa_cons pe_int (pa_cons (pv 1) pa_nil)))) pe_non (nomark _))))))), ?_⟩
    obtain ⟨a, v, L, rfl, ⟨dx, d, l, h1, h2, h3⟩, h⟩ := h
    rcases h with ⟨hb, q⟩ | ⟨xs, hx, ht, hz, q⟩
    · exact s_ret (v := .bl (false && false)) (ev_andV (ev_termX (ev_var rfl) hb) fun z => by cases z) fun H1 e => q H1 e
    · refine s_ret (v := .bl (true && !decide (oV (walkL L 0 xs) = .non))) (ev_andV (ev_termX (ev_var rfl) (tb_term hx (by omega) ht)) fun _ => ev_op (r := fun x y H Q => y = .non ∧ Q (.bl (!decide (x = .non))) H) (ev_walkL (k := 0) (ev_leads (L := L) (ev_var rfl) h1 OWb nL) h2 ev_c (ev_var rfl) hx) ev_c fun G e Q k => ⟨rfl, k G (Ex.refl G)⟩) fun H1 e => ?_
      have z := q H1 e
      cases c : walkL L 0 xs with
      | none => rw [c] at z; exact z
      | some n => rw [c] at z; exact z
abbrev s_wb_knots : Stmt := inClass (topS 48) 4
theorem sc_wb_knots : FnScope ["self"] ["self"] (defScope s_wb_knots) := ⟨rfl, rfl, rfl, by decide +kernel, rfl, by decide +kernel, by decide +kernel⟩
theorem ok_wb_knots {f : Addr} {fd : FuncData} (F : FunD K "knots" "Web.knots" (defArgs s_wb_knots) (defBody s_wb_knots) (defScope s_wb_knots) [] [] f fd) (T : Tx P w K mg base) (OWb : OwnC K mg "Web" CW) (nT : NoAttr K CW "_least") : FnOk P w K mg base CX0 1 f fd ["self"] (spWbKnots K CW) := by
  refine fnO F sc_wb_knots (fun vs H Q E h => ?_) (fun cdv A outer s H vs Q E hr h => ?_)
  · obtain ⟨a, L, rfl, _⟩ := h
    rfl
  · skip
    refine ⟨_, PSs.nox ((pss_one (ps_ret (pe_slice (sl_listK (K := K)) (pe_fldK (pv 0)) (po_some pe_int) po_none)))), ?_⟩
    obtain ⟨a, L, rfl, ⟨dx, d, l, h1, h2, h3⟩, wo, q⟩ := h
    refine elw_drop (K := K) (n := 1) (ta := tFld K (tVar 0) "_least") (ev_least (ev_var rfl) h1 OWb nT) h3 (eo_some ev_c) eo_none wo.pos H (Ex.refl H) _ fun r H3 nr e3 hr => q r H3 nr e3 hr
abbrev s_wb_eq : Stmt := inClass (topS 48) 19
theorem sc_wb_eq : FnScope ["self", "other"] ["self", "other"] (defScope s_wb_eq) := ⟨rfl, rfl, rfl, by decide +kernel, rfl, by decide +kernel, by decide +kernel⟩
theorem ok_wb_eq {f : Addr} {fd : FuncData} (F : FunD K "__eq__" "Web.__eq__" (defArgs s_wb_eq) (defBody s_wb_eq) (defScope s_wb_eq) [] [] f fd) (T : Tx P w K mg base) (OWb : OwnC K mg "Web" CW) (nL : NoAttr K CW "_leads") : FnOk P w K mg base CX0 1 f fd ["self", "other"] (spWbEq K CW) := by
  refine fnO F sc_wb_eq (fun vs H Q E h => ?_) (fun cdv A outer s H vs Q E hr h => ?_)
  · obtain ⟨a, b, L, rfl, _⟩ := h
    rfl
  · skip
    refine ⟨_, PSs.nox ((pss_one (ps_ret (pe_and (pe_callB (call_isiK1 (K := K)) (by rfl) T.m_isinstance (by decide +kernel) (pa_cons (pv 1) (pa_cons (pe_glob (v := .ref CW) (by rfl) OWb.g rfl) pa_nil))) (pe_one (pe_cmpR (op_eqS hr.units) (pe_fldK (pv 0)) (pe_fldK (pv 1)) (nomark _))))))), ?_⟩
    obtain ⟨a, b, L, rfl, ⟨dx, d, l, h1, h2, h3⟩, ⟨dy, e, m, k1, k2, k3⟩, wo, q⟩ := h
    refine ⟨_, rfl, _, .ref CW, _, .ref CW, true, rfl, .own CW, OWb.ty k1, OWb.self_, _, rfl, _, rfl, a, CW, dx, _, .ref d, rfl, h1, OWb.cl, nL, rfl, _, rfl, b, CW, dy, _, .ref e, rfl, k1, OWb.cl, nL, rfl, d, e, kvL L, rfl, rfl, h2, k2, key_nd wo.num.wf.nd, fun p hp => ?_, q H (Ex.refl H)⟩
    unfold kvL at hp
    obtain ⟨x, _, rfl⟩ := List.mem_map.mp hp
    exact ⟨_, rfl⟩
end
end K35
namespace K35
open PySem PySem.Spec PyProof.Rows L2 Lw Evl LamX Tk TL
open Rm (R Ok Z0 Zp Fr fr_none fr_ne nt_lst nt_tup)
open LwX (XC XF)
open Wp (Leads walkL rwC spotN rhoL RhoN RhoT)
section
variable {P : Program} {w : World} {K : PySem.W.Frag} {mg : Str → Option Value} {base : Heap} {TT : List (Addr × Str)} {CW dA dB dC : Addr}
def spDiv : Sp := fun vs H Q _ => ∃ a b : Nat, vs = [.int (a : Int), .int (b : Int)] ∧ b ≤ 1000 ∧ ∀ H', Ex H H' → Q (.int (Nat.gcd b a : Nat)) H'
abbrev s_divisor : Stmt := topS 53
theorem sc_divisor : FnScope ["_law_near", "_law_far"] ["_law_near", "_law_far"] (defScope s_divisor) := ⟨rfl, rfl, rfl, by decide +kernel, rfl, by decide +kernel, by decide +kernel⟩
theorem ok_divisor {f : Addr} {fd : FuncData} (F : FunD K "_law_divisor" "_law_divisor" (defArgs s_divisor) (defBody s_divisor) (defScope s_divisor) [] [] f fd) (T : Tx P w K mg base)  : FnG P w K mg base CX0 1 f fd ["_law_near", "_law_far"] spDiv := by
  refine fnG F sc_divisor (fun vs H Q E h => ?_) (fun cdv A outer s H vs Q E gd hr h => ?_)
  · obtain ⟨a, b, rfl, _⟩ := h
    rfl
  · skip
    refine ⟨_, PSs.nox ((pss_cons (ps_while PassesOwn.never (pt_cmpR op_gt (pv 1) pe_int (nomark _)) (pss_one (ps_par (i := 0) (j := 1) (by rfl) sc_divisor.nd rfl rfl (by decide) rfl rfl (pa_cons (pv 1) (pa_cons (pe_op op_mod (pv 0) (pv 1)) pa_nil)) (by rfl))))
      (pss_one (ps_ret (pv 0))))), ?_⟩
    obtain ⟨a, b, rfl, hb, q⟩ := h
    refine q_while (fun m σ H' => ∃ x y : Nat, σ = [some (.int (x : Int)), some (.int (y : Int))] ∧ Ex H H' ∧ y ≤ m ∧ Nat.gcd y x = Nat.gcd b a) b ⟨a, b, rfl, Ex.refl H, Nat.le_refl b, rfl⟩ fun m σ' H' hP => ?_
    obtain ⟨x, y, rfl, e, hy, hg⟩ := hP
    refine ⟨decide ((y : Int) > 0), et_test (ev_op (ev_var rfl) ev_c rv_I0), fun c H2 e2 => ?_, fun c H2 e2 => ?_⟩
    · have y0 : 0 < y := by have := of_decide_eq_true c; omega
      refine ⟨fun σ2 H2 => ∃ m', m' < m ∧ ∃ x y : Nat, σ2 = [some (.int (x : Int)), some (.int (y : Int))] ∧ Ex H H2 ∧ y ≤ m' ∧ Nat.gcd y x = Nat.gcd b a, fun _ _ z => z, ?_⟩
      refine (ea_cons (ev_var rfl) (ea_cons (ev_op (ev_var rfl) (ev_var rfl) (rv_I (by omega))) ea_nil)) H2 (Ex.refl H2) _ fun H3 e3 => ⟨_, _, rfl, y - 1, by omega, y, x % y, ?_, (e.trans e2).trans e3, ?_, ?_⟩
      · rw [Int.natCast_emod]
        rfl
      · have := Nat.mod_lt x y0
        omega
      · rw [← hg, Nat.gcd_rec y x]
    · have y0 : y = 0 := by have := of_decide_eq_false c; omega
      subst y0
      rw [Nat.gcd_zero_left] at hg
      rw [← hg] at q
      exact s_ret (ev_var rfl) fun H3 e3 => q _ ((e.trans e2).trans e3)
def spSpotL : Sp := fun vs H Q _ => ∃ n b g : Nat, vs = [.int (n : Int), .int (b : Int), .int (g : Int)] ∧ ∀ H', Ex H H' → Q (.int (spotN b g n : Nat)) H'
abbrev s_spot : Stmt := topS 54
theorem sc_spot : FnScope ["_law_number", "_law_begin", "_law_long"] ["_law_number", "_law_begin", "_law_long"] (defScope s_spot) := ⟨rfl, rfl, rfl, by decide +kernel, rfl, by decide +kernel, by decide +kernel⟩
theorem ok_spot {f : Addr} {fd : FuncData} (F : FunD K "_law_spot" "_law_spot" (defArgs s_spot) (defBody s_spot) (defScope s_spot) [] [] f fd) (T : Tx P w K mg base)  : FnG P w K mg base CX0 1 f fd ["_law_number", "_law_begin", "_law_long"] spSpotL := by
  refine fnG F sc_spot (fun vs H Q E h => ?_) (fun cdv A outer s H vs Q E gd hr h => ?_)
  · obtain ⟨n, b, g, rfl, _⟩ := h
    rfl
  · skip
    refine ⟨_, PSs.nox ((pss_one (ps_ret (pe_ifExp (PW.pt (pw_or (pt_cmpR op_eq (pv 2) pe_int (nomark _)) (pw_or1 (pt_cmpR op_lt (pv 0) (pe_op op_add (pv 1) (pv 2)) (nomark _))))) (pv 0) (pe_op op_add (pv 1) (pe_op op_mod (pe_op op_sub (pv 0) (pv 1)) (pv 2))))))), ?_⟩
    obtain ⟨n, b, g, rfl, q⟩ := h
    refine s_ret (v := .int (spotN b g n : Nat)) (ev_if (b := decide (V.int (g : Int) = V.int 0) || decide ((n : Int) < (b : Int) + (g : Int))) (et_or (et_test (ev_op (ev_var rfl) ev_c (rv_eq rfl))) fun _ => et_test (ev_op (ev_var rfl) (ev_op (ev_var rfl) (ev_var rfl) rv_I0) rv_I0)) (fun c => ?_) (fun c => ?_)) fun H1 e => q H1 e
    · have z : spotN b g n = n := by
        unfold spotN
        rcases Bool.or_eq_true_iff.mp c with c | c
        · have := of_decide_eq_true c
          injection this with this
          rw [if_pos (.inl (by omega))]
        · have := of_decide_eq_true c
          rw [if_pos (.inr (by omega))]
      rw [z]
      exact ev_var rfl
    · obtain ⟨c1, c2⟩ := Bool.or_eq_false_iff.mp c
      have c1 : g ≠ 0 := fun z => of_decide_eq_false c1 (by rw [z]; rfl)
      have c2 := of_decide_eq_false c2
      have z : (spotN b g n : Int) = (b : Int) + ((n : Int) - (b : Int)) % (g : Int) := by
        unfold spotN
        rw [if_neg (by omega)]
        have e : ((n : Int) - (b : Int)) = ((n - b : Nat) : Int) := by omega
        rw [e]
        exact (Int.natCast_add ..).trans (by rw [Int.natCast_emod])
      rw [z]
      exact ev_op (ev_var rfl) (ev_op (ev_op (ev_var rfl) (ev_var rfl) rv_I0) (ev_var rfl) (rv_I (by omega))) rv_I0
def spRowL (K : PySem.W.Frag) : Sp := fun vs H Q _ => ∃ (lb lt : Str) (n : Nat), vs = [.str lb, .str lt, .int (n : Int)] ∧ n ≤ 500 ∧ ∀ v H', Ex H H' → Wd K H' v (rwC lb lt n) → Q v H'
abbrev s_row : Stmt := topS 55
theorem sc_row : FnScope ["_law_label", "_law_letter", "_law_number"] ["_law_label", "_law_letter", "_law_number"] (defScope s_row) := ⟨rfl, rfl, rfl, by decide +kernel, rfl, by decide +kernel, by decide +kernel⟩
theorem ok_row {f : Addr} {fd : FuncData} (F : FunD K "_law_row" "_law_row" (defArgs s_row) (defBody s_row) (defScope s_row) [] [] f fd) (T : Tx P w K mg base)  : FnG P w K mg base CX0 1 f fd ["_law_label", "_law_letter", "_law_number"] (spRowL K) := by
  refine fnG F sc_row (fun vs H Q E h => ?_) (fun cdv A outer s H vs Q E gd hr h => ?_)
  · obtain ⟨lb, lt, n, rfl, _⟩ := h
    rfl
  · skip
    refine ⟨_, PSs.nox ((pss_one (ps_ret (pe_op (op_catAK (K := K)) (pe_tup (pa_cons (pv 0) pa_nil)) (pe_op (op_repAK (K := K)) (pe_tup (pa_cons (pv 1) pa_nil)) (pv 2)))))), ?_⟩
    obtain ⟨lb, lt, n, rfl, hn, q⟩ := h
    exact s_retW (ew_cat (xs := [lb]) (ys := List.replicate n lt) (ew_tup (ea_cons (ev_var rfl) ea_nil) (by show 1 ≤ 100000; decide)) (ew_repN (n := n) (ew_tup (ea_cons (ev_var rfl) ea_nil) (by show 1 ≤ 100000; decide)) (ev_var rfl) (by omega)) (by rw [List.length_replicate]; show 1 + n ≤ 100000; omega)) fun v H1 e hv => q v H1 e hv
theorem ew_row {σ : L2.St} {H : Hp} {ta tb tn : TE} {lb lt : Str} {n : Nat} (ha : Ev ta σ H (.str lb)) (hb : Ev tb σ H (.str lt)) (hn : Ev tn σ H (.int (n : Int))) (hz : n ≤ 500) : EvW K (tCall (spRowL K) [] E0 (tCons ta (tCons tb (tCons tn tNil)))) σ H (rwC lb lt n) := fun H1 e Q q =>
  ha H1 e _ fun H2 e2 => hb H2 (e.trans e2) _ fun H3 e3 => hn H3 ((e.trans e2).trans e3) _ fun H4 e4 => ⟨lb, lt, n, rfl, hz, fun v H5 e5 hv => q v H5 (((e2.trans e3).trans e4).trans e5) hv⟩
theorem ev_spotL {σ : L2.St} {H : Hp} {ta tb tc : TE} {n b g : Nat} (ha : Ev ta σ H (.int (n : Int))) (hb : Ev tb σ H (.int (b : Int))) (hc : Ev tc σ H (.int (g : Int))) : Ev (tCall spSpotL [] E0 (tCons ta (tCons tb (tCons tc tNil)))) σ H (.int (spotN b g n : Nat)) := ev_call (ea_cons ha (ea_cons hb (ea_cons hc ea_nil))) fun H1 e Q q E => ⟨n, b, g, rfl, q⟩
theorem ev_divL {σ : L2.St} {H : Hp} {ta tb : TE} {a b : Nat} (ha : Ev ta σ H (.int (a : Int))) (hb : Ev tb σ H (.int (b : Int))) (hz : b ≤ 1000) : Ev (tCall spDiv [] E0 (tCons ta (tCons tb tNil))) σ H (.int (Nat.gcd b a : Nat)) := ev_call (ea_cons ha (ea_cons hb ea_nil)) fun H1 e Q q E => ⟨a, b, rfl, hz, q⟩
end
end K35
namespace Wp
open PySem Lw
def rhoS (st : Nat × Nat) (q : Nat × Nat) : Nat × Nat := if q.1 = q.2 then st else (if st.2 = 0 then min q.1 q.2 else min (min st.1 q.1) q.2, Nat.gcd st.2 (dif q))
def rhoF (ps : List (Nat × Nat)) : Nat × Nat := ps.foldl rhoS (0, 0)
def RhoI (ps : List (Nat × Nat)) (st : Nat × Nat) : Prop := (st.2 = 0 ∧ st.1 = 0 ∧ ∀ p ∈ ps, p.1 = p.2) ∨
  (0 < st.2 ∧ (∀ d, d ∣ st.2 ↔ ∀ p ∈ ps, d ∣ dif p) ∧ (∀ p ∈ ps, p.1 ≠ p.2 → st.1 ≤ p.1 ∧ st.1 ≤ p.2) ∧ ∃ p ∈ ps, p.1 ≠ p.2 ∧ (p.1 = st.1 ∨ p.2 = st.1))
theorem dif_zero {p : Nat × Nat} (h : p.1 = p.2) : dif p = 0 := by
  unfold dif
  rw [if_pos (by omega)]
  omega
theorem dif_pos {p : Nat × Nat} (h : p.1 ≠ p.2) : 0 < dif p := by
  unfold dif
  split <;> omega
theorem rhoI_step {ps : List (Nat × Nat)} {st q : Nat × Nat} (h : RhoI ps st) : RhoI (ps ++ [q]) (rhoS st q) := by
  unfold rhoS
  have mem : ∀ {p}, p ∈ ps ++ [q] ↔ p ∈ ps ∨ p = q := fun {p} => by rw [List.mem_append, List.mem_singleton]
  by_cases c : q.1 = q.2
  · rw [if_pos c]
    rcases h with ⟨h1, h2, h3⟩ | ⟨h1, h2, h3, p, hp, h4⟩
    · refine .inl ⟨h1, h2, fun p hp => ?_⟩
      rcases mem.mp hp with z | z
      · exact h3 p z
      · rw [z]; exact c
    · refine .inr ⟨h1, fun d => ?_, fun p hp n => ?_, p, mem.mpr (.inl hp), h4⟩
      · rw [h2 d]
        constructor
        · intro k p hp
          rcases mem.mp hp with z | z
          · exact k p z
          · rw [z, dif_zero c]; exact Nat.dvd_zero d
        · exact fun k p hp => k p (mem.mpr (.inl hp))
      · rcases mem.mp hp with z | z
        · exact h3 p z n
        · rw [z] at n; exact absurd c n
  · rw [if_neg c]
    have dq := dif_pos c
    rcases h with ⟨h1, h2, h3⟩ | ⟨h1, h2, h3, p, hp, h4, h5⟩
    · rw [h1, if_pos rfl]
      refine .inr ⟨?_, fun d => ?_, fun p hp n => ?_, q, mem.mpr (.inr rfl), c, ?_⟩
      · show 0 < Nat.gcd 0 (dif q)
        rw [Nat.gcd_zero_left]; exact dq
      · show d ∣ Nat.gcd 0 (dif q) ↔ _
        rw [Nat.gcd_zero_left]
        constructor
        · intro k p hp
          rcases mem.mp hp with z | z
          · rw [dif_zero (h3 p z)]; exact Nat.dvd_zero d
          · rw [z]; exact k
        · exact fun k => k q (mem.mpr (.inr rfl))
      · rcases mem.mp hp with z | z
        · exact absurd (h3 p z) n
        · rw [z]
          exact ⟨Nat.min_le_left .., Nat.min_le_right ..⟩
      · show q.1 = min q.1 q.2 ∨ q.2 = min q.1 q.2
        omega
    · rw [if_neg (by omega)]
      refine .inr ⟨Nat.gcd_pos_of_pos_left _ h1, fun d => ?_, fun p hp n => ?_, ?_⟩
      · show d ∣ Nat.gcd st.2 (dif q) ↔ _
        rw [Nat.dvd_gcd_iff, h2]
        constructor
        · rintro ⟨k1, k2⟩ p hp
          rcases mem.mp hp with z | z
          · exact k1 p z
          · rw [z]; exact k2
        · exact fun k => ⟨fun p hp => k p (mem.mpr (.inl hp)), k q (mem.mpr (.inr rfl))⟩
      · show min (min st.1 q.1) q.2 ≤ p.1 ∧ min (min st.1 q.1) q.2 ≤ p.2
        rcases mem.mp hp with z | z
        · have := h3 p z n
          omega
        · rw [z]
          omega
      · by_cases c2 : st.1 ≤ q.1 ∧ st.1 ≤ q.2
        · refine ⟨p, mem.mpr (.inl hp), h4, ?_⟩
          show p.1 = min (min st.1 q.1) q.2 ∨ p.2 = min (min st.1 q.1) q.2
          omega
        · refine ⟨q, mem.mpr (.inr rfl), c, ?_⟩
          show q.1 = min (min st.1 q.1) q.2 ∨ q.2 = min (min st.1 q.1) q.2
          omega
theorem rhoF_snoc {ps : List (Nat × Nat)} {q : Nat × Nat} : rhoF (ps ++ [q]) = rhoS (rhoF ps) q := by
  unfold rhoF
  rw [List.foldl_append]
  rfl
theorem rhoF_inv (ps : List (Nat × Nat)) : RhoI ps (rhoF ps) := by
  induction ps using revInd with
  | h0 => exact .inl ⟨rfl, rfl, fun p h => absurd h List.not_mem_nil⟩
  | hs u n ih =>
    rw [rhoF_snoc]
    exact rhoI_step ih
/-- the knots: by the greatest number, without a loop -/
theorem rho_n {ts : List Nat} {ps : List (Nat × Nat)} {m : Nat} (h0 : (rhoF ps).2 ≠ 0 → m = (rhoF ps).1 + (rhoF ps).2) (h1 : (rhoF ps).2 = 0 → ∃ k, m = 1 + k ∧ k ∈ [0] ++ ts ++ ps.map (·.1) ∧ ∀ y ∈ [0] ++ ts ++ ps.map (·.1), y ≤ k) : RhoN ts ps (rhoF ps).1 (rhoF ps).2 m := by
  rcases rhoF_inv ps with ⟨a1, a2, a3⟩ | ⟨a1, a2, a3, a4⟩
  · obtain ⟨k, rfl, hk, hl⟩ := h1 a1
    refine .inl ⟨a1, a2, a3, fun n hn => ?_, fun p hp => ?_, ?_⟩
    · have := hl n (List.mem_append_left _ (List.mem_append_right _ hn))
      omega
    · have := hl p.1 (List.mem_append_right _ (List.mem_map.mpr ⟨p, hp, rfl⟩))
      omega
    · rw [show 1 + k - 1 = k from by omega]
      rcases List.mem_append.mp hk with hk | hk
      · rcases List.mem_append.mp hk with hk | hk
        · have := List.mem_singleton.mp hk
          exact .inl (by omega)
        · exact .inr (.inl hk)
      · obtain ⟨p, hp, e⟩ := List.mem_map.mp hk
        exact .inr (.inr ⟨p, hp, e.symm⟩)
  · exact .inr ⟨a1, h0 (by omega), a2, a3, a4⟩
theorem max_ex : ∀ (xs : List Nat), xs ≠ [] → ∃ k ∈ xs, ∀ y ∈ xs, y ≤ k
  | [], h => absurd rfl h
  | [x], _ => ⟨x, List.mem_cons_self, fun y hy => by rw [List.mem_singleton.mp hy]; exact Nat.le_refl _⟩
  | x :: y :: xs, _ => by
    obtain ⟨k, h1, h2⟩ := max_ex (y :: xs) (by simp)
    by_cases c : x ≤ k
    · exact ⟨k, List.mem_cons_of_mem _ h1, fun z hz => (List.mem_cons.mp hz).elim (fun e => e ▸ c) (h2 z)⟩
    · exact ⟨x, List.mem_cons_self, fun z hz => (List.mem_cons.mp hz).elim (fun e => e ▸ Nat.le_refl _) fun e => by have := h2 z e; omega⟩
theorem rho_ex (ts : List Nat) (ps : List (Nat × Nat)) : ∃ b g m, RhoN ts ps b g m := by
  by_cases c : (rhoF ps).2 = 0
  · obtain ⟨k, h1, h2⟩ := max_ex ([0] ++ ts ++ ps.map (·.1)) (by simp)
    exact ⟨_, _, 1 + k, rho_n (fun z => absurd c z) fun _ => ⟨k, rfl, h1, h2⟩⟩
  · exact ⟨_, _, _, rho_n (m := (rhoF ps).1 + (rhoF ps).2) (fun _ => rfl) fun z => absurd z c⟩
section
variable {ts ns : List Nat} {ps qs : List (Nat × Nat)} {b g m b2 g2 m2 : Nat} {lb lt : Str}
theorem rho_pos (N : RhoN ts ps b g m) : 0 < m := by
  rcases N with ⟨_, _, _, h1, h2, h3⟩ | ⟨h1, h2, _⟩
  · rcases h3 with h | h | ⟨p, h, _⟩
    · omega
    · have := h1 _ h; omega
    · have := h2 _ h; omega
  · omega
theorem rho_lt (N : RhoN ts ps b g m) : g ≠ 0 → b < m := fun h => by
  rcases N with ⟨z, _⟩ | ⟨h1, h2, _⟩
  · exact absurd z h
  · omega
/-- the knots are few -/
theorem rho_few (N : RhoN ts ps b g m) (h1 : ∀ n ∈ ts, n ≤ 28) (h2 : ∀ p ∈ ps, p.1 ≤ 28 ∧ p.2 ≤ 28) : m ≤ 57 ∧ b ≤ 28 ∧ g ≤ 28 := by
  rcases N with ⟨z1, z2, _, _, _, h3⟩ | ⟨k1, k2, k3, _, p, hp, n, e⟩
  · rcases h3 with h | h | ⟨p, h, e⟩
    · omega
    · have := h1 _ h; omega
    · have := h2 _ h; omega
  · have l := h2 p hp
    have d := Nat.le_of_dvd (dif_pos n) ((k3 g).mp (Nat.dvd_refl g) p hp)
    have dl : dif p ≤ 28 := by unfold dif; split <;> omega
    omega
theorem rho_len : (rhoL lb lt b g m).length ≤ m + 1 := by
  unfold rhoL
  split
  · rw [chL_len]; omega
  · rw [List.length_append, chL_len]; exact Nat.le_refl _
abbrev tsT (lb lt : Str) (ts : List Nat) : List Tm := [[lb]] ++ ts.map (rwC lb lt)
abbrev psT (lb lt : Str) (ps : List (Nat × Nat)) : List (Tm × Tm) := ps.map fun q => (rwC lb lt q.1, rwC lb lt q.2)
abbrev psS (lb lt : Str) (ps : List (Nat × Nat)) : List (Tm × Tm) := ps.map fun q => (rwC lb lt q.2, rwC lb lt q.1)
theorem rhoT_of {P : List (Tm × Tm)} (h1 : ∀ p ∈ P, ∃ q ∈ ps, p = (rwC lb lt q.1, rwC lb lt q.2) ∨ p = (rwC lb lt q.2, rwC lb lt q.1)) (h2 : ∀ q ∈ ps, (rwC lb lt q.1, rwC lb lt q.2) ∈ P ∨ (rwC lb lt q.2, rwC lb lt q.1) ∈ P) : RhoT lb lt ts ps (tsT lb lt ts) P :=
  ⟨fun t ht => (List.mem_append.mp ht).imp List.mem_singleton.mp fun z => by
    obtain ⟨n, hn, e⟩ := List.mem_map.mp z
    exact ⟨n, hn, e.symm⟩, ⟨List.mem_append_left _ (List.mem_singleton.mpr rfl), fun n hn => List.mem_append_right _ (List.mem_map.mpr ⟨n, hn, rfl⟩)⟩, h1, h2⟩
theorem rhoT_1 : RhoT lb lt ts ps (tsT lb lt ts) (psT lb lt ps) := rhoT_of (fun p hp => by
  obtain ⟨q, hq, e⟩ := List.mem_map.mp hp
  exact ⟨q, hq, .inl e.symm⟩) fun q hq => .inl (List.mem_map.mpr ⟨q, hq, rfl⟩)
/-- more is told -/
theorem rho_told (N : RhoN ts ps b g m) (N2 : RhoN (ts ++ ns) (ps ++ qs) b2 g2 m2) : numb (toldL (rhoL lb lt b g m) (ns.map (rwC lb lt)) (psS lb lt qs)) = rhoL lb lt b2 g2 m2 := by
  have w1 : Web (tsT lb lt ts) (psT lb lt ps) (rhoL lb lt b g m) := rho_web rhoT_1 N
  have w2 := web_told w1 (ts := ns.map (rwC lb lt)) (ps := psS lb lt qs) (fun t ht => by
    obtain ⟨n, _, rfl⟩ := List.mem_map.mp ht
    exact rwC_ne) fun p hp => by
    obtain ⟨q, _, rfl⟩ := List.mem_map.mp hp
    exact ⟨rwC_ne, rwC_ne⟩
  have w3 : Web (tsT lb lt (ts ++ ns)) (psT lb lt ps ++ psS lb lt qs) (rhoL lb lt b2 g2 m2) := rho_web (rhoT_of (fun p hp => by
    rcases List.mem_append.mp hp with hp | hp
    · obtain ⟨q, hq, e⟩ := List.mem_map.mp hp
      exact ⟨q, List.mem_append_left _ hq, .inl e.symm⟩
    · obtain ⟨q, hq, e⟩ := List.mem_map.mp hp
      exact ⟨q, List.mem_append_right _ hq, .inr e.symm⟩) fun q hq => by
    rcases List.mem_append.mp hq with hq | hq
    · exact .inl (List.mem_append_left _ (List.mem_map.mpr ⟨q, hq, rfl⟩))
    · exact .inr (List.mem_append_right _ (List.mem_map.mpr ⟨q, hq, rfl⟩))) N2
  refine web_uniq w2 w3 fun t u => ?_
  rw [List.append_assoc, ← List.map_append]
/-- all at once -/
theorem rho_once (N : RhoN ts ps b g m) : numb (toldL [] (tsT lb lt ts) (psT lb lt ps)) = rhoL lb lt b g m := by
  have w1 : Web (tsT lb lt ts) (psT lb lt ps) (rhoL lb lt b g m) := rho_web rhoT_1 N
  have w2 := web_told web_nil (ts := tsT lb lt ts) (ps := psT lb lt ps) (fun t ht => by
    rcases List.mem_append.mp ht with ht | ht
    · rw [List.mem_singleton.mp ht]; simp
    · obtain ⟨n, _, rfl⟩ := List.mem_map.mp ht
      exact rwC_ne) fun p hp => by
    obtain ⟨q, _, rfl⟩ := List.mem_map.mp hp
    exact ⟨rwC_ne, rwC_ne⟩
  exact web_uniq w2 w1 fun t u => Iff.rfl
/-- told again by what it tells -/
theorem rho_again (N : RhoN ts ps b g m) : RhoN (List.range m) (if g = 0 then [] else [(m, b)]) b g m := by
  have m0 := rho_pos N
  rcases N with ⟨rfl, rfl, _⟩ | ⟨h1, h2, _⟩
  · rw [if_pos rfl]
    exact .inl ⟨rfl, rfl, fun p h => absurd h List.not_mem_nil, fun n hn => List.mem_range.mp hn, fun p h => absurd h List.not_mem_nil, .inr (.inl (List.mem_range.mpr (by omega)))⟩
  · rw [if_neg (by omega)]
    have d : dif (m, b) = g := by
      unfold dif
      dsimp only
      rw [if_neg (by omega)]
      omega
    refine .inr ⟨h1, h2, fun k => ⟨fun z p hp => ?_, fun z => ?_⟩, fun p hp n => ?_, _, List.mem_singleton.mpr rfl, (by show m ≠ b; omega), .inr rfl⟩
    · rw [List.mem_singleton.mp hp, d]; exact z
    · have := z _ (List.mem_singleton.mpr rfl)
      rw [d] at this
      exact this
    · rw [List.mem_singleton.mp hp]
      show b ≤ m ∧ b ≤ b
      omega
end
end Wp
namespace Wp
open PySem Lw
/-- the knots of what is told, by the program's reckoning -/
theorem rho_exF (ts : List Nat) (ps : List (Nat × Nat)) : ∃ m, RhoN ts ps (rhoF ps).1 (rhoF ps).2 m ∧ ((rhoF ps).2 ≠ 0 → m = (rhoF ps).1 + (rhoF ps).2) ∧ ((rhoF ps).2 = 0 → ∃ k, m = 1 + k ∧ k ∈ [0] ++ ts ++ ps.map (·.1) ∧ ∀ y ∈ [0] ++ ts ++ ps.map (·.1), y ≤ k) := by
  by_cases c : (rhoF ps).2 = 0
  · obtain ⟨k, h1, h2⟩ := max_ex ([0] ++ ts ++ ps.map (·.1)) (by simp)
    exact ⟨1 + k, rho_n (fun z => absurd c z) fun _ => ⟨k, rfl, h1, h2⟩, fun z => absurd c z, fun _ => ⟨k, rfl, h1, h2⟩⟩
  · exact ⟨_, rho_n (m := (rhoF ps).1 + (rhoF ps).2) (fun _ => rfl) fun z => absurd z c, fun _ => rfl, fun z => absurd z c⟩
theorem rhoS_small {st q : Nat × Nat} (h : st.1 ≤ 28 ∧ st.2 ≤ 28) (hq : q.1 ≤ 28 ∧ q.2 ≤ 28) : (rhoS st q).1 ≤ 28 ∧ (rhoS st q).2 ≤ 28 := by
  unfold rhoS
  split
  · exact h
  · rename_i c
    have d := dif_pos c
    have dl : dif q ≤ 28 := by unfold dif; split <;> omega
    have := Nat.le_of_dvd d (Nat.gcd_dvd_right st.2 (dif q))
    refine ⟨?_, by show Nat.gcd st.2 (dif q) ≤ 28; omega⟩
    dsimp only
    split <;> omega
theorem rhoF_small {ps : List (Nat × Nat)} (h : ∀ q ∈ ps, q.1 ≤ 28 ∧ q.2 ≤ 28) : (rhoF ps).1 ≤ 28 ∧ (rhoF ps).2 ≤ 28 := by
  induction ps using revInd with
  | h0 => exact ⟨Nat.zero_le _, Nat.zero_le _⟩
  | hs u n ih =>
    rw [rhoF_snoc]
    exact rhoS_small (ih fun q hq => h q (List.mem_append_left _ hq)) (h n (List.mem_append_right _ (List.mem_singleton.mpr rfl)))
end Wp
namespace Tk
open PySem PySem.Spec PyProof.Rows L2 Lw Evl LamX TL
open Rm (R Ok Z0 Zp Fr fr_none fr_ne nt_lst nt_tup NT Zn)
open Wp (Leads Lead getL walkL WfL Web rhoL rwC spotN RhoN chL tmC nmC tsT psT psS rho_web rhoT_1 rho_lt rho_pos)
section
variable {ts ns : List Nat} {ps qs : List (Nat × Nat)} {b g m n : Nat} {lb lt : Str}
theorem row_mem {s : Str} (h : s ∈ rwC lb lt n) : s ∈ [lb, lt] := by
  rcases List.mem_cons.mp h with e | e
  · rw [e]; exact List.mem_cons_self
  · rw [List.eq_of_mem_replicate e]; exact List.mem_cons_of_mem _ List.mem_cons_self
theorem row_LL (h1 : isL lb = true) (h2 : isL lt = true) : LL (rwC lb lt n) := fun s h => by
  rcases List.mem_cons.mp (row_mem h) with e | e
  · rw [e]; exact h1
  · rw [List.mem_singleton.mp e]; exact h2
theorem row_T (h1 : isL lb = true) (h2 : isL lt = true) : isT (rwC lb lt n) = true := isT_LLn (row_LL h1 h2) Wp.rwC_ne
theorem row_len : (rwC lb lt n).length = n + 1 := by
  unfold rwC
  rw [List.length_cons, List.length_replicate]
theorem tsT_mem : ∀ t ∈ tsT lb lt ts, ∀ s ∈ t, s ∈ [lb, lt] := fun t ht s hs => by
  rcases List.mem_append.mp ht with ht | ht
  · rw [List.mem_singleton.mp ht] at hs
    rw [List.mem_singleton.mp hs]
    exact List.mem_cons_self
  · obtain ⟨n, _, rfl⟩ := List.mem_map.mp ht
    exact row_mem hs
theorem psT_mem : ∀ p ∈ psT lb lt ps, (∀ s ∈ p.1, s ∈ [lb, lt]) ∧ ∀ s ∈ p.2, s ∈ [lb, lt] := fun p hp => by
  obtain ⟨q, _, rfl⟩ := List.mem_map.mp hp
  exact ⟨fun s => row_mem, fun s => row_mem⟩
theorem psS_mem : ∀ p ∈ psS lb lt ps, (∀ s ∈ p.1, s ∈ [lb, lt]) ∧ ∀ s ∈ p.2, s ∈ [lb, lt] := fun p hp => by
  obtain ⟨q, _, rfl⟩ := List.mem_map.mp hp
  exact ⟨fun s => row_mem, fun s => row_mem⟩
theorem rho_fit {b2 g2 m2 : Nat} (N : RhoN ts ps b g m) (N2 : RhoN (ts ++ ns) (ps ++ qs) b2 g2 m2) (hm : m2 ≤ 400) (hz : (rhoL lb lt b g m).length + sizeT (ns.map (rwC lb lt)) (psS lb lt qs) ≤ 2500) : FitL (rhoL lb lt b g m) (ns.map (rwC lb lt)) (psS lb lt qs) := by
  refine fit_of (A := [lb, lt]) (rho_web rhoT_1 N) (fun t ht => ?_) (fun p hp => ?_) (fun t ht => ?_) (fun p hp => ?_) (by show 2 ≤ 6; decide) hz (by rw [Wp.rho_told N N2, Wp.rho_least (rho_lt N2), List.length_map, List.length_range]; omega)
  · obtain ⟨n, _, rfl⟩ := List.mem_map.mp ht
    exact Wp.rwC_ne
  · obtain ⟨q, _, rfl⟩ := List.mem_map.mp hp
    exact ⟨Wp.rwC_ne, Wp.rwC_ne⟩
  · rcases List.mem_append.mp ht with ht | ht
    · exact tsT_mem t ht
    · obtain ⟨n, _, rfl⟩ := List.mem_map.mp ht
      exact fun s => row_mem
  · rcases List.mem_append.mp hp with hp | hp
    · exact psT_mem p hp
    · exact psS_mem p hp
theorem once_fit (N : RhoN ts ps b g m) (hm : m ≤ 400) (hz : sizeT (tsT lb lt ts) (psT lb lt ps) ≤ 2500) : FitL [] (tsT lb lt ts) (psT lb lt ps) := by
  refine fit_of (A := [lb, lt]) Wp.web_nil (fun t ht => ?_) (fun p hp => ?_) (fun t ht => tsT_mem t ht) (fun p hp => psT_mem p hp) (by show 2 ≤ 6; decide) (by rw [List.length_nil, Nat.zero_add]; exact hz) (by rw [Wp.rho_once N, Wp.rho_least (rho_lt N), List.length_map, List.length_range]; omega)
  · rcases List.mem_append.mp ht with ht | ht
    · rw [List.mem_singleton.mp ht]; simp
    · obtain ⟨n, _, rfl⟩ := List.mem_map.mp ht
      exact Wp.rwC_ne
  · obtain ⟨q, _, rfl⟩ := List.mem_map.mp hp
    exact ⟨Wp.rwC_ne, Wp.rwC_ne⟩
theorem size_rows : ∀ {ts : List Nat} {c : Nat}, (∀ n ∈ ts, n ≤ c) → ((ts.map (rwC lb lt)).map List.length).sum ≤ ts.length * (c + 1)
  | [], c, _ => Nat.zero_le _
  | n :: ts, c, h => by
    rw [List.map_cons, List.map_cons, List.sum_cons, row_len, List.length_cons, Nat.succ_mul]
    have := size_rows fun x hx => h x (List.mem_cons_of_mem _ hx)
    have := h n List.mem_cons_self
    omega
theorem size_pairs : ∀ {ps : List (Nat × Nat)} {c : Nat}, (∀ p ∈ ps, p.1 + p.2 ≤ c) → ((psT lb lt ps).map fun p => p.1.length + p.2.length).sum ≤ ps.length * (c + 2)
  | [], c, _ => Nat.zero_le _
  | p :: ps, c, h => by
    have ih : ((psT lb lt ps).map fun p => p.1.length + p.2.length).sum ≤ ps.length * (c + 2) := size_pairs fun x hx => h x (List.mem_cons_of_mem _ hx)
    have := h p List.mem_cons_self
    have e : ((psT lb lt (p :: ps)).map fun p => p.1.length + p.2.length).sum = ((rwC lb lt p.1).length + (rwC lb lt p.2).length) + ((psT lb lt ps).map fun p => p.1.length + p.2.length).sum := rfl
    rw [e, row_len, row_len, List.length_cons, Nat.succ_mul]
    omega
theorem rho_least (N : RhoN ts ps b g m) : Wp.least (rhoL lb lt b g m) = [] :: (List.range m).map (rwC lb lt) := by
  rw [Wp.rho_least (rho_lt N), List.range_succ_eq_map, List.map_cons, List.map_map]
  rfl
theorem rho_at (N : RhoN ts ps b g m) (h : n < m) : (Wp.least (rhoL lb lt b g m))[n + 1]? = some (rwC lb lt n) := by
  rw [rho_least N, List.getElem?_cons_succ, List.getElem?_map, List.getElem?_range h]
  rfl
theorem rho_wbl (N : RhoN ts ps b g m) (hm : m ≤ 2000) : WbL (rhoL lb lt b g m) := web_wbl (rho_web rhoT_1 N) (by have := Wp.rho_len (lb := lb) (lt := lt) (b := b) (g := g) (m := m); omega) (by rw [rho_least N, List.length_cons, List.length_map, List.length_range]; omega)
theorem rho_isT (N : RhoN ts ps b g m) (h1 : isL lb = true) (h2 : isL lt = true) : ∀ t ∈ Wp.least (rhoL lb lt b g m), isT t = true ∨ t = [] := fun t ht => by
  rw [rho_least N] at ht
  rcases List.mem_cons.mp ht with e | ht
  · exact .inr e
  · obtain ⟨n, _, rfl⟩ := List.mem_map.mp ht
    exact .inl (row_T h1 h2)
theorem rho_isL (h1 : isL lb = true) (h2 : isL lt = true) : ∀ e ∈ rhoL lb lt b g m, isL e.1.2 = true := fun e he => by
  rcases Wp.mem_rho.mp he with h | ⟨_, rfl⟩
  · rw [(Wp.mem_chL.mp h).2.1]
    unfold nmC
    split
    · exact h1
    · exact h2
  · exact h2
theorem rho_small (h1 : ∀ n ∈ ts, n ≤ 28) (h2 : ∀ q ∈ ps, q.1 ≤ 28 ∧ q.2 ≤ 28) (N : RhoN ts ps b g m) : (rhoL lb lt b g m).length ≤ 58 ∧ WbL (rhoL lb lt b g m) := by
  have := Wp.rho_few N h1 h2
  have l := Wp.rho_len (lb := lb) (lt := lt) (b := b) (g := g) (m := m)
  exact ⟨by omega, rho_wbl N (by omega)⟩
/-- where a row leads -/
theorem rho_walk (N : RhoN ts ps b g m) (n : Nat) : walkL (rhoL lb lt b g m) 0 (rwC lb lt n) = if spotN b g n < m then some (spotN b g n + 1) else none := by
  have m0 := rho_pos N
  rcases N with ⟨rfl, rfl, _⟩ | ⟨h1, rfl, _⟩
  · have e : spotN 0 0 n = n := by unfold spotN; rw [if_pos (.inl rfl)]
    rw [e]
    split
    · rename_i c; exact Wp.walk_chain m0 c
    · rename_i c; exact Wp.walk_far m0 rfl (by omega)
  · rw [if_pos (Wp.spot_lt (by omega)), Wp.walk_rho m0 (by omega) rfl]
theorem pairL_chain (N : RhoN ts ps b g m) {e : Lead} (he : e ∈ chL lb lt m) : (pairL (rhoL lb lt b g m) e).1 = (pairL (rhoL lb lt b g m) e).2 := by
  obtain ⟨h1, h2, h3⟩ := Wp.mem_chL.mp he
  unfold pairL
  dsimp only
  rw [h2, h3, List.getD_eq_getElem?_getD, List.getD_eq_getElem?_getD, rho_at N h1]
  unfold nmC
  by_cases c : e.1.1 = 0
  · rw [if_pos c, c, rho_least N]
    rfl
  · rw [if_neg c]
    obtain ⟨k, hk⟩ : ∃ k, e.1.1 = k + 1 := ⟨e.1.1 - 1, by omega⟩
    rw [hk, rho_at N (by omega)]
    show rwC lb lt k ++ [lt] = rwC lb lt (k + 1)
    rw [Wp.rwC_succ]
theorem rho_pairs (N : RhoN ts ps b g m) : pairsL (rhoL lb lt b g m) = if g = 0 then [] else [(rwC lb lt m, rwC lb lt b)] := by
  have ch : ((chL lb lt m).map (pairL (rhoL lb lt b g m))).filter (fun p => !decide (p.1 = p.2)) = [] := by
    refine List.filter_eq_nil_iff.mpr fun p hp => ?_
    obtain ⟨e, he, rfl⟩ := List.mem_map.mp hp
    rw [decide_eq_true (pairL_chain N he)]
    exact Bool.false_ne_true
  unfold pairsL
  by_cases c : g = 0
  · rw [if_pos c]
    have e : rhoL lb lt b g m = chL lb lt m := by unfold rhoL; rw [if_pos c]
    rw [e] at ch ⊢
    exact ch
  · rw [if_neg c]
    have e : rhoL lb lt b g m = chL lb lt m ++ [((m, lt), b + 1)] := by unfold rhoL; rw [if_neg c]
    have bm := rho_lt N c
    have back : pairL (rhoL lb lt b g m) ((m, lt), b + 1) = (rwC lb lt m, rwC lb lt b) := by
      unfold pairL
      dsimp only
      obtain ⟨k, rfl⟩ : ∃ k, m = k + 1 := ⟨m - 1, by have := rho_pos N; omega⟩
      rw [List.getD_eq_getElem?_getD, List.getD_eq_getElem?_getD, rho_at N bm, rho_at N (Nat.lt_succ_self k)]
      show (rwC lb lt k ++ [lt], rwC lb lt b) = _
      rw [Wp.rwC_succ]
    have z : (rhoL lb lt b g m).map (pairL (rhoL lb lt b g m)) = (chL lb lt m).map (pairL (rhoL lb lt b g m)) ++ [(rwC lb lt m, rwC lb lt b)] := by
      rw [← back]
      generalize pairL (rhoL lb lt b g m) = f
      rw [e, List.map_append]
      rfl
    rw [z, List.filter_append, ch, List.nil_append, List.filter_cons, if_pos (by
      rw [decide_eq_false fun k => by have := Wp.rwC_inj k; omega]
      rfl)]
    rfl
theorem chL_nm1 : ∀ {m : Nat}, Wp.names (chL lb lt m) 1 = if 1 < m then [lt] else []
  | 0 => rfl
  | 1 => rfl
  | m + 2 => by
    have ih := chL_nm1 (m := m + 1)
    rw [Wp.chL_succ, nm_snoc, ih]
    dsimp only
    unfold nmC
    by_cases c : m = 0
    · subst c
      rfl
    · rw [if_neg (by omega), if_pos (by omega), if_pos (by omega)]
theorem rho_nm1 (N : RhoN ts ps b g m) : Wp.names (rhoL lb lt b g m) 1 = if 1 < m ∨ g ≠ 0 then [lt] else [] := by
  unfold rhoL
  have m0 := rho_pos N
  by_cases c : g = 0
  · rw [if_pos c, chL_nm1]
    by_cases d : 1 < m
    · rw [if_pos d, if_pos (.inl d)]
    · rw [if_neg d, if_neg (by omega)]
  · rw [if_neg c, nm_snoc, chL_nm1, if_pos (show 1 < m ∨ g ≠ 0 from .inr c)]
    dsimp only
    by_cases d : 1 < m
    · rw [if_neg (show ¬ m = 1 by omega), if_pos d]
    · rw [if_pos (show m = 1 by omega), if_neg d]
      rfl
end
section
variable {K : PySem.W.Frag} {Z : Rm.Zn} {H H0 H1 : Hp} {CW a : Addr} {σ : L2.St} {tA : TA} {ta tb tc : TE} {L : Leads} {v u : V} {t s : List Str} {Q : VK} {E : XK}
/-- Web(..), of what is let -/
theorem wb_make2 {ds : List V} {xs : List Str} {ts : List (List Str)} {ps : List (List Str × List Str)} (o : Ok Z H) (fit : FitL [] (xs.map (fun x => [x]) ++ ts) ps) (h0 : xs.length ≤ 100) (h1 : ts.length ≤ 900) (h2 : ps.length ≤ 900)
    (h : ∀ Q : List V → Hp → Prop, (∀ vs x y z H2, R Z H H2 → vs ++ ds = [x, y, z] → GoodX K H2 x xs → GoodY K H2 y ts → GoodZ K H2 z ps → Q vs H2) → tA σ H Q) (q : ∀ a H2, Fr H a → R Z H H2 → WbAt K CW H2 a (webL xs ts ps) → Q (.ref a) H2) :
    tMake CW (spWbI2 K CW) ds E tA σ H Q := h _ fun vs x y z H2 r e gx gy gz b dx nb nd ne => ⟨b, dx, x, y, z, H2, by rw [e], rfl, nb, nd, ne, xs, ts, ps, gx, gy, gz, fit, h0, h1, h2, fun H3 e3 hW => ⟨rfl, q b H3 (r.fr (fr_none nb)) (r.ex e3) hW⟩⟩
/-- web.with_pair(one, another) -/
theorem wb_pair2 (o : Ok Z H) (ha : ∀ H1, R Z H H1 → Ev ta σ H1 (.ref a)) (hb : ∀ H1, R Z H H1 → Ev tb σ H1 v) (hc : ∀ H1, R Z H H1 → Ev tc σ H1 u) (hW : WbAt K CW H a L) (wo : WbL L) (hv : Wd K H v t) (hu : Wd K H u s) (ht : isT t = true ∧ t.length ≤ 1000) (hs : isT s = true ∧ s.length ≤ 1000) (fit : FitL L [] [(t, s)])
    (q : ∀ b H2, Fr H b → R Z H H2 → WbAt K CW H2 b (Wp.numb (toldL L [] [(t, s)])) → Q (.ref b) H2) : tMeth CW "with_pair" (spWbPair2 K CW) [] E ta (tCons tb (tCons tc tNil)) σ H Q :=
  wm_2 o ha hb hc hW (by decide) fun H3 r3 hW3 => ⟨a, v, u, L, t, s, rfl, hW3, wo, Rm.wd_R r3 hv, Rm.wd_R r3 hu, ht, hs, fit, fun b H4 nb e4 hW4 => q b H4 (r3.fr (fr_none nb)) (r3.ex e4) hW4⟩
/-- web + term -/
theorem wb_add2 (o : Ok Z H) (ha : ∀ H1, R Z H H1 → Ev ta σ H1 (.ref a)) (hb : ∀ H1, R Z H H1 → Ev tb σ H1 v) (hW : WbAt K CW H a L) (wo : WbL L) (hv : Wd K H v t) (ht : isT t = true ∧ t.length ≤ 1000) (fit : FitL L [t] [])
    (q : ∀ b H2, Fr H b → R Z H H2 → WbAt K CW H2 b (Wp.numb (toldL L [t] [])) → Q (.ref b) H2) : tOp (rBinB K CW (spWbAdd2 K CW) E) ta tb σ H Q :=
  ha H (.refl o) H (Ex.refl H) _ fun H2 e2 => hb H2 (.of o e2) H2 (Ex.refl H2) _ fun H3 e3 => by
    have r3 : R Z H H3 := (R.of o e2).ex e3
    obtain ⟨dx, d, l, h1, _⟩ := wb_R r3 hW
    have hv3 := Rm.wd_R r3 hv
    obtain ⟨b, rfl, hb3⟩ := id hv3
    obtain ⟨T, t1, t2⟩ := odd_tup (K := K) hb3
    exact ⟨a, dx, _, T, rfl, h1, t1, t2, a, _, L, t, rfl, wb_R r3 hW, wo, hv3, ht.1, ht.2, fit, fun b H4 nb e4 hW4 => ⟨b, rfl, q b H4 (r3.fr (fr_none nb)) (r3.ex e4) hW4⟩⟩
end
theorem q_gN {i : Nat} {v : V} {σ : L2.St} {H : Hp} {k : L2.St → Hp → Prop} (h : k (σ.set i (some v)) H) : gName i v σ H k := h
theorem q_par3 {i j l : Nat} {ta tb tc : TE} {tz : TS} {D : Ends} {σ : L2.St} {H : Hp} (h : ta σ H fun u H1 => tb σ H1 fun v H2 => tc σ H2 fun w H3 => tz D (((σ.set i (some u)).set j (some v)).set l (some w)) H3) : tSeq (tPar3 i j l (tCons ta (tCons tb (tCons tc tNil)))) tz D σ H := by
  unfold tSeq tPar3
  refine (congrArg (fun z => ta σ H z) (funext fun u => funext fun H1 => ?_)).mp h
  refine congrArg (fun z => tb σ H1 z) (funext fun v => funext fun H2 => ?_)
  refine congrArg (fun z => tc σ H2 z) (funext fun w => funext fun H3 => propext ⟨fun q => ⟨u, v, w, rfl, q⟩, fun q => ?_⟩)
  obtain ⟨u2, v2, w2, e, q⟩ := q
  cases e
  exact q
section
variable {K : PySem.W.Frag} {H : Hp} {CW a : Addr} {σ : L2.St} {ta tb tc : TE} {L : Leads} {v u : V} {t xs ys : List Str} {n m : Nat}
/-- t in web -/
theorem ev_win (ha : Ev ta σ H v) (hb : Ev tb σ H (.ref a)) (hW : WbAt K CW H a L) (hv : Wd K H v xs) (ht : isT xs = true) (hz : xs.length ≤ 1000) : Ev (tOp (rInO CW (spWbIn K CW) E0) ta tb) σ H (.bl (walkL L 0 xs).isSome) := fun H1 e Q q =>
  ha H1 e _ fun H2 e2 => hb H2 (e.trans e2) _ fun H3 e3 => by
    have e13 := e.trans (e2.trans e3)
    obtain ⟨dx, d, l, h1, _⟩ := wb_ex e13 hW
    exact ⟨a, dx, _, rfl, h1, a, v, L, rfl, wb_ex e13 hW, .inr ⟨xs, wd_mono e13 hv, ht, hz, fun H4 e4 => ⟨_, rfl, q H4 ((e2.trans e3).trans e4)⟩⟩⟩
/-- web[t] -/
theorem ew_wget (ha : Ev ta σ H (.ref a)) (hb : Ev tb σ H v) (hW : WbAt K CW H a L) (ht : TmAt K L H v n) (hl : (Wp.least L)[n]? = some t) : EvW K (tOp (rIxO CW (spWbGet K CW) E0) ta tb) σ H t := fun H1 e Q q =>
  ha H1 e _ fun H2 e2 => hb H2 (e.trans e2) _ fun H3 e3 => by
    have e13 := e.trans (e2.trans e3)
    obtain ⟨dx, d, l, h1, _⟩ := wb_ex e13 hW
    exact ⟨a, dx, _, rfl, h1, a, v, L, n, t, rfl, wb_ex e13 hW, tmAt_ex e13 ht, hl, fun x H4 e4 hx => q x H4 ((e2.trans e3).trans e4) hx⟩
/-- web.same(t, u) -/
theorem ev_wsame (ha : Ev ta σ H (.ref a)) (hb : Ev tb σ H v) (hc : Ev tc σ H u) (hW : WbAt K CW H a L) (ht : TmAt K L H v n) (hu : TmAt K L H u m) : Ev (tMeth CW "same" (spWbSame2 K CW) [] E0 ta (tCons tb (tCons tc tNil))) σ H (.bl (decide (n = m))) := fun H1 e Q q =>
  ha H1 e _ fun H2 e2 => by
    obtain ⟨dx, d, l, h1, _⟩ := wb_ex (e.trans e2) hW
    exact ⟨a, dx, _, rfl, h1, rfl, hb H2 (e.trans e2) _ fun H3 e3 => hc H3 ((e.trans e2).trans e3) _ fun H4 e4 => ⟨a, v, u, L, n, m, rfl, wb_ex (((e.trans e2).trans e3).trans e4) hW, tmAt_ex (((e.trans e2).trans e3).trans e4) ht, tmAt_ex (((e.trans e2).trans e3).trans e4) hu, fun H5 e5 => q H5 (((e2.trans e3).trans e4).trans e5)⟩⟩
/-- web.letters_at(t) -/
theorem el_wletters (ha : Ev ta σ H (.ref a)) (hb : Ev tb σ H v) (hW : WbAt K CW H a L) (wo : WbL L) (ht : TmAt K L H v n) : EvL (tMeth CW "letters_at" (spWbLetters K CW) [] E0 ta (tCons tb tNil)) σ H ((Wp.names L n).map V.str) := fun H1 e Q q =>
  ha H1 e _ fun H2 e2 => by
    obtain ⟨dx, d, l, h1, _⟩ := wb_ex (e.trans e2) hW
    exact ⟨a, dx, _, rfl, h1, rfl, hb H2 (e.trans e2) _ fun H3 e3 => ⟨a, v, L, n, rfl, wb_ex ((e.trans e2).trans e3) hW, wo, tmAt_ex ((e.trans e2).trans e3) ht, fun l H5 nl e5 hl => q l H5 (fresh_back (e2.trans e3) nl) ((e2.trans e3).trans e5) hl⟩⟩
end
end Tk
namespace K35
open PySem PySem.Spec PyProof.Rows L2 Lw Evl LamX Tk TL
open Rm (R Ok Z0 Zp Fr fr_none fr_ne nt_lst nt_tup)
open LwX (XC XF)
open Wp (Leads walkL rwC spotN rhoL RhoN RhoT tsT psT psS)
section
variable {P : Program} {w : World} {K : PySem.W.Frag} {mg : Str → Option Value} {base : Heap} {TT : List (Addr × Str)} {CW dA dB dC : Addr}
def spWebL (K : PySem.W.Frag) (TT : List (Addr × Str)) (CW : Addr) : Sp := fun vs H Q _ => ∃ (p l1 l2 : Addr) (lb lt : Str) (us1 us2 : List V) (ts : List Nat) (ps : List (Nat × Nat)) (b g m : Nat), vs = [.ref p, .str lb, .ref l1, .ref l2] ∧ Ok (Zp TT p) H ∧ isL lb = true ∧ isL lt = true ∧
  H l1 = some (.lst us1) ∧ Paired (Wd K H) us1 (ts.map (rwC lb lt)) ∧ H l2 = some (.lst us2) ∧ Paired (PairT K H) us2 (psT lb lt ps) ∧ ¬ (Zp TT p).M l1 ∧ ¬ (Zp TT p).M l2 ∧ ts.length ≤ 2 ∧ ps.length ≤ 4 ∧ (∀ n ∈ ts, n ≤ 28) ∧ (∀ q ∈ ps, q.1 ≤ 28 ∧ q.2 ≤ 28) ∧ RhoN ts ps b g m ∧
  ∀ a H', Fr H a → R (Zp TT p) H H' → WbAt K CW H' a (rhoL lb lt b g m) → Q (.ref a) H'
abbrev s_web : Stmt := topS 56
theorem sc_web : FnScope ["_law_pot_here", "_law_label", "_law_rows", "_law_ties", "_law_web_here", "_law_row_here", "_law_mate"] ["_law_pot_here", "_law_label", "_law_rows", "_law_ties"] (defScope s_web) := ⟨rfl, rfl, rfl, by decide +kernel, rfl, by decide +kernel, by decide +kernel⟩
theorem ok_web {f : Addr} {fd : FuncData} (F : FunD K "_law_web" "_law_web" (defArgs s_web) (defBody s_web) (defScope s_web) [] [] f fd) (T : Tx P w K mg base) (OWb : OwnC K mg "Web" CW) (hB : ∀ H, SqT K H dB []) (hC3 : ∀ H, SqT K H dC []) (BOa : BuiltOp K CW "add") (MWb : MkW P w K mg base (L2.CX P w) 5 "Web" CW ["things", "terms", "pairs"] dA dB dC (spWbI2 K CW)) (MWb1 : MkW1 P w K mg base (L2.CX P w) 5 "Web" CW ["things", "terms", "pairs"] dB dC (spWbI2 K CW)) (AWb : SpX P w K mg base CX0 8 CW "__add__" ["self", "term"] (spWbAdd2 K CW)) (MWp : MeO P w K mg base CX0 8 CW "with_pair" ["one", "another"] (spWbPair2 K CW)) (d_law_draw : Cal P w K mg base CX0 1 "_law_draw" ["_law_pot_here", "_law_many"] spDraw) : FnG P w K mg base CX0 10 f fd ["_law_pot_here", "_law_label", "_law_rows", "_law_ties"] (spWebL K TT CW) := by
  refine fnG F sc_web (fun vs H Q E h => ?_) (fun cdv A outer s H vs Q E gd hr h => ?_)
  · obtain ⟨p, l1, l2, lb, lt, us1, us2, ts, ps, b, g, m, rfl, _⟩ := h
    rfl
  · skip
    refine ⟨_, PSs.nox ((pss_cons (ps_if (pt_cmpR op_eq (pe_cal d_law_draw gd hr (pa_cons (pv 0) (pa_cons pe_int pa_nil))) pe_int (nomark _)) (pss_one (ps_ret (pe_mkW3 MWb hr passE0 (pa_cons (pe_lst (pa_cons (pv 1) pa_nil)) (pa_cons (pv 2) (pa_cons (pv 3) pa_nil)))))) pss_nil)
      (pss_cons (ps_set (i := 4) sc_web.nd rfl (by first | exact Or.inl rfl | exact Or.inr rfl) (pe_mkW1 MWb1 hr passE0 (pa_cons (pe_lst (pa_cons (pv 1) pa_nil)) pa_nil)))
      (pss_cons (ps_for PassesOwn.never rfl (pi_listK (K := K) (pe_revLK (K := K) (pv 3))) (pg_tup (n := 2) rfl (pgs_cons (pg_name (i := 5) sc_web.nd rfl (by first | exact Or.inl rfl | exact Or.inr rfl)) (pgs_cons (pg_name (i := 6) sc_web.nd rfl (by first | exact Or.inl rfl | exact Or.inr rfl)) pgs_nil))) (pss_one (ps_set (i := 4) sc_web.nd rfl (by first | exact Or.inl rfl | exact Or.inr rfl) (pe_meO OWb.cl MWp (pv 4) hr pass0 (pa_cons (pv 6) (pa_cons (pv 5) pa_nil))))))
      (pss_cons (ps_for PassesOwn.never rfl (pi_listK (K := K) (pv 2)) (pg_name (i := 5) sc_web.nd rfl (by first | exact Or.inl rfl | exact Or.inr rfl)) (pss_one (ps_set (i := 4) sc_web.nd rfl (by first | exact Or.inl rfl | exact Or.inr rfl) (pe_op (op_addBB (K := K) AWb BOa hr pass0) (pv 4) (pv 5)))))
      (pss_one (ps_ret (pv 4)))))))), ?_⟩
    obtain ⟨p, l1, l2, lb, lt, us1, us2, ts, ps, b, g, m, rfl, o, hb, ht, h1, p1, h2, p2, n1, n2, z1, z2, c1, c2, N, q⟩ := h
    have ne : ∀ x ∈ psT lb lt ps, (isT x.1 = true ∧ x.1.length ≤ 1000) ∧ isT x.2 = true ∧ x.2.length ≤ 1000 := fun x hx => by
      obtain ⟨r, hr, rfl⟩ := List.mem_map.mp hx
      have := c2 r hr
      exact ⟨⟨row_T hb ht, by rw [row_len]; omega⟩, row_T hb ht, by rw [row_len]; omega⟩
    refine q_ifDr o rfl (by decide) (by decide) (fun H1 r1 => ?_) (fun H1 r1 => ?_)
    · -- all at once
      refine wb_make2 (xs := [lb]) (ts := ts.map (rwC lb lt)) (ps := psT lb lt ps) r1.b (once_fit N (by have := Wp.rho_few N c1 c2; omega) ?_) (by show 1 ≤ 100; decide) (by rw [List.length_map]; omega) (by rw [List.length_map]; omega) (fun Q k => ?_) fun a H3 fa r3 hW => ?_
      · have s1 := size_rows (lb := lb) (lt := lt) c1
        have s2 := size_pairs (lb := lb) (lt := lt) (c := 56) fun q hq => by have := c2 q hq; omega
        have e : sizeT (tsT lb lt ts) (psT lb lt ps) = 1 + ((ts.map (rwC lb lt)).map List.length).sum + ((psT lb lt ps).map fun p => p.1.length + p.2.length).sum := by
          unfold sizeT tsT
          rw [List.map_append, List.sum_append]
          rfl
        rw [e]
        have := Nat.mul_le_mul_right (28 + 1) z1
        have := Nat.mul_le_mul_right (56 + 2) z2
        omega
      · refine (el_lst (ea_cons (ev_var (by rfl)) ea_nil) (by show 1 ≤ 100000; decide) : EvL _ _ H1 [V.str lb]) H1 (Ex.refl H1) _ fun l3 H2 nl e2 h3 => ?_
        refine ⟨_, rfl, _, rfl, k [.ref l3, .ref l1, .ref l2] _ _ _ H2 (.of r1.b e2) rfl ⟨l3, rfl, .inl (.inl h3), fun s hs => (List.mem_singleton.mp hs) ▸ hb⟩ ⟨l1, us1, rfl, .inl (.inl (e2 _ _ (r1.lst h1 n1))), paired_mono (fun _ _ r => Rm.wd_R (r1.ex e2) r) p1, fun t hh => ?_⟩ ⟨l2, us2, rfl, .inl (.inl (e2 _ _ (r1.lst h2 n2))), paired_mono (fun _ _ r => pairT_R (r1.ex e2) r) p2, ne⟩⟩
        obtain ⟨n, hn, rfl⟩ := List.mem_map.mp hh
        have := c1 n hn
        exact ⟨row_T hb ht, by rw [row_len]; omega⟩
      · have e : webL [lb] (ts.map (rwC lb lt)) (psT lb lt ps) = rhoL lb lt b g m := Wp.rho_once N
        rw [e] at hW
        exact q a H3 (r1.fr fa) (r1.trans r3) hW
    · -- one by one
      obtain ⟨b0, g0, m0, N0⟩ := Wp.rho_ex [] []
      have few0 := Wp.rho_few N0 (fun n h => absurd h List.not_mem_nil) (fun q h => absurd h List.not_mem_nil)
      refine q_asgX (wb_make2 (xs := [lb]) (ts := []) (ps := []) r1.b (once_fit (lt := lt) (ts := []) (ps := []) N0 (by omega) (by show 1 ≤ 2500; decide)) (by show 1 ≤ 100; decide) (by show 0 ≤ 900; decide) (by show 0 ≤ 900; decide) (fun Q k => ?_) fun a H3 fa r3 hW => ?_)
      · refine (el_lst (ea_cons (ev_var (by rfl)) ea_nil) (by show 1 ≤ 100000; decide) : EvL _ _ H1 [V.str lb]) H1 (Ex.refl H1) _ fun l3 H2 nl e2 h3 => ?_
        exact k [.ref l3] _ _ _ H2 (.of r1.b e2) rfl ⟨l3, rfl, .inl (.inl h3), fun s hs => (List.mem_singleton.mp hs) ▸ hb⟩ ⟨dB, [], rfl, .inr (hB H2), .nil, fun _ z => absurd z List.not_mem_nil⟩ ⟨dC, [], rfl, .inr (hC3 H2), .nil, fun _ z => absurd z List.not_mem_nil⟩
      have e0 : webL [lb] [] [] = rhoL lb lt b0 g0 m0 := Wp.rho_once (lt := lt) (ts := []) (ps := []) N0
      rw [e0] at hW
      have r03 := r1.trans r3
      have fa0 := r1.fr fa
      refine q_forNL (el_revV (ev_var rfl) (r03.lst h2 n2)) (fun D i σ H' => ∃ (a : Addr) (c5 c6 : Option V) (b' g' m' : Nat), σ = [some (.ref p), some (.str lb), some (.ref l1), some (.ref l2), some (.ref a), c5, c6] ∧ R (Zp TT p) H H' ∧ Fr H a ∧ Fr H D ∧ H' D = some (.lst us2.reverse) ∧ WbAt K CW H' a (rhoL lb lt b' g' m') ∧ RhoN [] (ps.reverse.take i) b' g' m') (fun D H4 nD e4 hD => ⟨a, none, none, b0, g0, m0, rfl, r03.ex e4, fa0, r03.fr (fr_none nD), hD, wb_ex e4 hW, N0⟩) (fun D i σ H' hi hP => ?_) (fun D i x σ H' hx hP => ?_) (fun D σ H' hP => ?_)
      · obtain ⟨a, c5, c6, b', g', m', rfl, _, _, _, hD, _⟩ := hP
        exact SqL.of hD
      · obtain ⟨a, c5, c6, b', g', m', rfl, r, fa, fD, hD, hW, N'⟩ := hP
        obtain ⟨y, hy, t, v, u, rfl, ht2, hv, hu⟩ := paired_at (paired_rev p2) hx
        rw [← List.map_reverse, List.getElem?_map] at hy
        obtain ⟨x, hx2, rfl⟩ := Option.map_eq_some_iff.mp hy
        have xm : x ∈ ps := List.mem_reverse.mp (List.mem_of_getElem? hx2)
        have cx := c2 x xm
        have lps : ∀ q ∈ ps.reverse.take i, q.1 ≤ 28 ∧ q.2 ≤ 28 := fun q hq => c2 q (List.mem_reverse.mp (List.mem_of_mem_take hq))
        obtain ⟨len, wo⟩ := rho_small (lb := lb) (lt := lt) (ts := []) (fun n h => absurd h List.not_mem_nil) lps N'
        obtain ⟨b2, g2, m2, N2⟩ := Wp.rho_ex [] (ps.reverse.take (i + 1))
        have few2 := Wp.rho_few N2 (fun n h => absurd h List.not_mem_nil) (fun q hq => c2 q (List.mem_reverse.mp (List.mem_of_mem_take hq)))
        have N3 : RhoN ([] ++ []) (ps.reverse.take i ++ [x]) b2 g2 m2 := by rw [List.nil_append, ← take_get hx2]; exact N2
        have e2 : Wp.numb (toldL (rhoL lb lt b' g' m') [] [(rwC lb lt x.2, rwC lb lt x.1)]) = rhoL lb lt b2 g2 m2 := Wp.rho_told (ns := []) (qs := [x]) N' N3
        have rr := r.tup ht2
        refine ⟨t, _, rfl, SqT.of rr, rfl, _, _, rfl, _, _, rfl, rfl, ?_⟩
        refine wb_pair2 (a := a) (v := u) (u := v) (t := rwC lb lt x.2) (s := rwC lb lt x.1) r.b (fun _ _ => ev_var rfl) (fun _ _ => ev_var rfl) (fun _ _ => ev_var rfl) hW wo (Rm.wd_R r hu) (Rm.wd_R r hv) ⟨row_T hb ht, by rw [row_len]; omega⟩ ⟨row_T hb ht, by rw [row_len]; omega⟩ (rho_fit (ns := []) (qs := [x]) N' N3 (by omega) ?_) fun a2 H5 f5 r5 hW5 => ?_
        · have s2 := size_pairs (ps := [(x.2, x.1)]) (lb := lb) (lt := lt) (c := 56) fun q hq => by rw [List.mem_singleton.mp hq]; omega
          have z : sizeT ([].map (rwC lb lt)) (psS lb lt [x]) = 0 + ((psT lb lt [(x.2, x.1)]).map fun p => p.1.length + p.2.length).sum := rfl
          rw [z]
          have : [(x.2, x.1)].length * (56 + 2) = 58 := rfl
          omega
        · rw [e2] at hW5
          exact ⟨a2, _, _, b2, g2, m2, rfl, r.trans r5, r.fr f5, fD, r5.lst hD (o.fresh fD), hW5, N2⟩
      · obtain ⟨a, c5, c6, b', g', m', rfl, r, fa, fD, hD, hW, N'⟩ := hP
        have lr : us2.reverse.length = ps.reverse.length := by
          have := Paired.length p2
          rw [List.length_map] at this
          rw [List.length_reverse, List.length_reverse, this]
        rw [lr, List.take_length] at N'
        refine q_forL (ev_var rfl) (SqL.of (r.lst h1 n1)) (fun i σ H' => ∃ (a : Addr) (c5 c6 : Option V) (b' g' m' : Nat), σ = [some (.ref p), some (.str lb), some (.ref l1), some (.ref l2), some (.ref a), c5, c6] ∧ R (Zp TT p) H H' ∧ Fr H a ∧ WbAt K CW H' a (rhoL lb lt b' g' m') ∧ RhoN (ts.take i) ps.reverse b' g' m') (fun H4 e4 => ⟨a, c5, c6, b', g', m', rfl, r.ex e4, fa, wb_ex e4 hW, N'⟩) (fun i σ H' hi hP => ?_) (fun i x σ H' hx hP => ?_) (fun σ H' hP => ?_)
        · obtain ⟨a, c5, c6, b', g', m', rfl, r, _⟩ := hP
          exact SqL.of (r.lst h1 n1)
        · obtain ⟨a, c5, c6, b', g', m', rfl, r, fa, hW, N'⟩ := hP
          obtain ⟨y, hy, hv⟩ := paired_at p1 hx
          rw [List.getElem?_map] at hy
          obtain ⟨n, hn, rfl⟩ := Option.map_eq_some_iff.mp hy
          have cn := c1 n (List.mem_of_getElem? hn)
          obtain ⟨len, wo⟩ := rho_small (lb := lb) (lt := lt) (ts := ts.take i) (fun n h => c1 n (List.mem_of_mem_take h)) (fun q hq => c2 q (List.mem_reverse.mp hq)) N'
          obtain ⟨b2, g2, m2, N2⟩ := Wp.rho_ex (ts.take (i + 1)) ps.reverse
          have few2 := Wp.rho_few N2 (fun n h => c1 n (List.mem_of_mem_take h)) (fun q hq => c2 q (List.mem_reverse.mp hq))
          have N3 : RhoN (ts.take i ++ [n]) (ps.reverse ++ []) b2 g2 m2 := by rw [List.append_nil, ← take_get hn]; exact N2
          have e2 : Wp.numb (toldL (rhoL lb lt b' g' m') [rwC lb lt n] []) = rhoL lb lt b2 g2 m2 := Wp.rho_told (ns := [n]) (qs := []) N' N3
          refine q_gN ?_
          refine wb_add2 (a := a) (v := x) (t := rwC lb lt n) r.b (fun _ _ => ev_var rfl) (fun _ _ => ev_var rfl) hW wo (Rm.wd_R r hv) ⟨row_T hb ht, by rw [row_len]; omega⟩ (rho_fit (ns := [n]) (qs := []) N' N3 (by omega) ?_) fun a2 H5 f5 r5 hW5 => ?_
          · have z : sizeT ([n].map (rwC lb lt)) (psS lb lt []) = (rwC lb lt n).length + 0 + 0 := rfl
            rw [z, row_len]
            omega
          · rw [e2] at hW5
            exact ⟨a2, _, _, b2, g2, m2, rfl, r.trans r5, r.fr f5, hW5, N2⟩
        · obtain ⟨a, c5, c6, b', g', m', rfl, r, fa, hW, N'⟩ := hP
          have l1 : us1.length = ts.length := by
            have := Paired.length p1
            rw [List.length_map] at this
            exact this
          rw [l1, List.take_length] at N'
          -- the same loop, whatever the sequence
          have same : rhoL lb lt b' g' m' = rhoL lb lt b g m := Wp.web_uniq (Wp.rho_web Wp.rhoT_1 N') (Wp.rho_web Wp.rhoT_1 N) fun t u => ⟨fun z => z.mono (fun _ h => h) fun x hx => ?_, fun z => z.mono (fun _ h => h) fun x hx => ?_⟩
          · rw [same] at hW
            exact ⟨_, rfl, q a H' fa r hW⟩
          · obtain ⟨y, hy, rfl⟩ := List.mem_map.mp hx
            exact List.mem_map.mpr ⟨y, List.mem_reverse.mp hy, rfl⟩
          · obtain ⟨y, hy, rfl⟩ := List.mem_map.mp hx
            exact List.mem_map.mpr ⟨y, List.mem_reverse.mpr hy, rfl⟩
end
end K35
namespace K35
open PySem PySem.Spec PyProof.Rows L2 Lw Evl LamX Tk TL
open Rm (R Ok Z0 Zp Fr fr_none fr_ne nt_lst nt_tup)
open LwX (XC XF)
open Wp (Leads walkL rwC spotN rhoL RhoN RhoT tsT psT psS)
section
variable {P : Program} {w : World} {K : PySem.W.Frag} {mg : Str → Option Value} {base : Heap} {TT : List (Addr × Str)} {CW dA dB dC : Addr}
def spSpotsR (K : PySem.W.Frag) (TT : List (Addr × Str)) (CW : Addr) : Sp := fun vs H Q _ => ∃ (p a l : Addr) (lb lt : Str) (us : List V) (ts : List Nat) (ps : List (Nat × Nat)) (b g m : Nat), vs = [.ref p, .ref a, .ref l, .int (b : Int), .int (g : Int)] ∧ Ok (Zp TT p) H ∧ isL lb = true ∧ isL lt = true ∧ WbAt K CW H a (rhoL lb lt b g m) ∧ RhoN ts ps b g m ∧ m ≤ 57 ∧
  H l = some (.lst us) ∧ Paired (Wd K H) us ((List.range m).map (rwC lb lt)) ∧ ¬ (Zp TT p).M l ∧ ∀ H', R (Zp TT p) H H' → Q (.bl true) H'
abbrev s_spots_right : Stmt := topS 57
theorem sc_spots_right : FnScope ["_law_pot_here", "_law_web_here", "_law_rows", "_law_begin", "_law_long", "_law_many", "_law_label", "_law_letter", "_law_number", "_law_spot_here", "_law_far", "_law_row_here", "_law_mate", "_law_is_one"] ["_law_pot_here", "_law_web_here", "_law_rows", "_law_begin", "_law_long"] (defScope s_spots_right) := ⟨rfl, rfl, rfl, by decide +kernel, rfl, by decide +kernel, by decide +kernel⟩
theorem ok_spots_right {f : Addr} {fd : FuncData} (F : FunD K "_law_spots_right" "_law_spots_right" (defArgs s_spots_right) (defBody s_spots_right) (defScope s_spots_right) [] [] f fd) (T : Tx P w K mg base) (OWb : OwnC K mg "Web" CW) (IWb : SpO P w K mg base 3 CW "__contains__" ["self", "value"] (spWbIn K CW)) (GWb : SpI P w K mg base CX0 6 CW "__getitem__" ["self", "term"] (spWbGet K CW)) (MLa : MeO P w K mg base CX0 6 CW "letters_at" ["term"] (spWbLetters K CW)) (MSa : MeO P w K mg base CX0 6 CW "same" ["one", "another"] (spWbSame2 K CW)) (d_law_draw : Cal P w K mg base CX0 1 "_law_draw" ["_law_pot_here", "_law_many"] spDraw) (d_law_spot : Cal P w K mg base CX0 1 "_law_spot" ["_law_number", "_law_begin", "_law_long"] spSpotL) (d_law_row : Cal P w K mg base CX0 1 "_law_row" ["_law_label", "_law_letter", "_law_number"] (spRowL K)) : FnG P w K mg base CX0 10 f fd ["_law_pot_here", "_law_web_here", "_law_rows", "_law_begin", "_law_long"] (spSpotsR K TT CW) := by
  refine fnG F sc_spots_right (fun vs H Q E h => ?_) (fun cdv A outer s H vs Q E gd hr h => ?_)
  · obtain ⟨p, a, l, lb, lt, us, ts, ps, b, g, m, rfl, _⟩ := h
    rfl
  · skip
    refine ⟨_, PSs.nox ((pss_cons (ps_par3 (i := 5) (j := 6) (l := 7) (by rfl) sc_spots_right.nd rfl rfl rfl (by decide) (by decide) (by decide) rfl rfl rfl (pa_cons (pe_callB (call_lenK (K := K)) (by rfl) T.m_len (by decide +kernel) (pa_cons (pv 2) pa_nil)) (pa_cons (pe_ix (ix_tupK2 (K := K)) (pe_ix (ix_listK (K := K)) (pv 2) pe_int (fun _ _ => rfl)) pe_int (fun _ _ => rfl)) (pa_cons (pe_meO OWb.cl MLa (pv 1) hr pass0 (pa_cons (pe_ix (ix_listK (K := K)) (pv 2) pe_int (fun _ _ => rfl)) pa_nil)) pa_nil))) (by rfl))
      (pss_cons (ps_for PassesOwn.never rfl (pi_range1 (by rfl) T.m_range (pa_cons pe_int pa_nil)) (pg_name (i := 8) sc_spots_right.nd rfl (by first | exact Or.inl rfl | exact Or.inr rfl)) (pss_cons (ps_par (i := 9) (j := 10) (by rfl) sc_spots_right.nd rfl rfl (by decide) rfl rfl (pa_cons (pe_cal d_law_spot gd hr (pa_cons (pv 8) (pa_cons (pv 3) (pa_cons (pv 4) pa_nil)))) (pa_cons (pe_cal d_law_draw gd hr (pa_cons (pv 0) (pa_cons pe_int pa_nil))) pa_nil)) (by rfl))
      (pss_cons (ps_if (pt_cmpR (op_eqNil hr.units) (pv 7) (pe_lst pa_nil) (nomark _)) (pss_one (ps_ret (pe_and (pe_cmpR op_eq (pv 9) pe_int (nomark _)) (pe_one (pe_cmpR op_eq (pv 5) pe_int (nomark _)))))) pss_nil)
      (pss_cons (ps_par (i := 11) (j := 12) (by rfl) sc_spots_right.nd rfl rfl (by decide) rfl rfl (pa_cons (pe_cal d_law_row gd hr (pa_cons (pv 6) (pa_cons (pe_ix (ix_listK (K := K)) (pv 7) pe_int (fun _ _ => rfl)) (pa_cons (pv 8) pa_nil)))) (pa_cons (pe_cal d_law_row gd hr (pa_cons (pv 6) (pa_cons (pe_ix (ix_listK (K := K)) (pv 7) pe_int (fun _ _ => rfl)) (pa_cons (pv 10) pa_nil)))) pa_nil)) (by rfl))
      (pss_cons (ps_if (pt_cmpR op_ne (pe_cmpR (op_inSp IWb hr) (pv 11) (pv 1) (by rfl)) (pe_cmpR op_lt (pv 9) (pv 5) (nomark _)) (nomark _)) (pss_one (ps_ret pe_bl)) pss_nil)
      (pss_cons (ps_if (PW.pt (pw_and (pt_cmpR op_lt (pv 9) (pv 5) (nomark _)) (pw_and1 (pt_cmpR (op_neDK (K := K) hr.units) (pe_ixO (E := E0) GWb hr pass0 (pv 1) (pv 11) (fun _ _ => rfl)) (pe_ix (ix_listK (K := K)) (pv 2) (pv 9) (fun _ _ => rfl)) (nomark _))))) (pss_one (ps_ret pe_bl)) pss_nil)
      (pss_cons (ps_set (i := 13) sc_spots_right.nd rfl (by first | exact Or.inl rfl | exact Or.inr rfl) (pe_cmpR op_eq (pv 9) (pe_cal d_law_spot gd hr (pa_cons (pv 10) (pa_cons (pv 3) (pa_cons (pv 4) pa_nil)))) (nomark _)))
      (pss_one (ps_if (PW.pt (pw_and (pt_cmpR op_lt (pv 9) (pv 5) (nomark _)) (pw_and (pt_cmpR (op_inSp IWb hr) (pv 12) (pv 1) (by rfl)) (pw_and1 (pt_cmpR op_ne (pe_meO OWb.cl MSa (pv 1) hr pass0 (pa_cons (pv 12) (pa_cons (pv 11) pa_nil))) (pv 13) (nomark _)))))) (pss_one (ps_ret pe_bl)) pss_nil)))))))))
      (pss_one (ps_ret pe_bl))))), ?_⟩
    obtain ⟨p, a, l, lb, lt, us, ts, ps, b, g, m, rfl, o, hb, ht, hW, N, hm, hl, hp, nl, q⟩ := h
    have m0 := Wp.rho_pos N
    have wo : WbL (rhoL lb lt b g m) := rho_wbl N (by omega)
    have tm : ∀ {n : Nat} {G : Hp} {v : V}, Wd K G v (rwC lb lt n) → n ≤ 500 → spotN b g n < m → TmAt K (rhoL lb lt b g m) G v (spotN b g n + 1) := fun {n G v} hv hn hs => ⟨_, hv, row_T hb ht, by rw [row_len]; omega, by rw [rho_walk N, if_pos hs]⟩
    have s0 : spotN b g 0 = 0 := by
      by_cases c : g = 0
      · unfold spotN; rw [if_pos (.inl c)]
      · exact Wp.spot_small (by omega)
    have lu : us.length = m := by
      have := Paired.length hp
      rw [List.length_map, List.length_range] at this
      exact this
    obtain ⟨v0, hv0⟩ : ∃ v0, us[0]? = some v0 := ⟨us[0]'(by omega), List.getElem?_eq_getElem (by omega)⟩
    obtain ⟨y0, hy0, w0⟩ := paired_at hp hv0
    rw [List.getElem?_map, List.getElem?_range m0] at hy0
    obtain rfl := Option.some.inj hy0
    have tm0 := tm (n := 0) w0 (by omega) (by rw [s0]; exact m0)
    rw [s0] at tm0
    obtain ⟨t0, rfl, ht0⟩ := id w0
    have row0 : ∀ {σ : L2.St} {G : Hp}, σ[2]? = some (some (.ref l)) → Ex H G → Ev (tOp (rIxL K) (tVar 2) (tC (.int 0))) σ G (.ref t0) := fun h e => ev_op (ev_var h) ev_c (rv_ixL (SqL.of (e _ _ hl)) (show atI us ((0 : Nat) : Int) = some (.ref t0) from atI_nat hv0))
    refine q_par3 (ev_lenLW (K := K) (ws := (List.range m).map (rwC lb lt)) (ev_var rfl) ⟨us, hl, hp⟩ H (Ex.refl H) _ fun H1 e1 => ?_)
    have ho : ∀ {G : Hp}, Ex H G → G t0 = some (.tup ((rwC lb lt 0).map V.str)) := fun e => e _ _ ht0
    refine (ev_op (row0 rfl e1) ev_c (rv_ixT (SqT.of (ho e1)) (show atI ((rwC lb lt 0).map V.str) ((0 : Nat) : Int) = some (.str lb) from atI_nat rfl)) : Ev _ _ H1 (.str lb)) H1 (Ex.refl H1) _ fun H2 e2 => ?_
    have e02 := e1.trans e2
    refine (el_wletters (ev_var (by rfl)) (row0 (by rfl) e02) (wb_ex e02 hW) wo (tmAt_ex e02 tm0) : EvL _ _ H2 _) H2 (Ex.refl H2) _ fun ll H3 nll e3 hll => ?_
    have r3 : R (Zp TT p) H H3 := .of o (e02.trans e3)
    have nml : ¬ (Zp TT p).M ll := o.fresh (fr_none (fresh_back e02 nll))
    have lm : ((List.range m).map (rwC lb lt)).length = m := by rw [List.length_map, List.length_range]
    rw [lm]
    rw [show (0 : Nat) + 1 = 1 from rfl, rho_nm1 N] at hll
    show tSeq _ _ _ [some (.ref p), some (.ref a), some (.ref l), some (.int (b : Int)), some (.int (g : Int)), some (.int (m : Int)), some (.str lb), some (.ref ll), none, none, none, none, none, none] H3
    refine q_forR1 (n := 29) (ea_cons ev_c ea_nil) (by decide) (fun i σ H' => ∃ c1 c2 c3 c4 c5 c6 : Option V, σ = [some (.ref p), some (.ref a), some (.ref l), some (.int (b : Int)), some (.int (g : Int)), some (.int (m : Int)), some (.str lb), some (.ref ll), c1, c2, c3, c4, c5, c6] ∧ R (Zp TT p) H3 H' ∧ (i = 0 ∨ (1 < m ∨ g ≠ 0))) (fun G e => ⟨_, _, _, _, _, _, rfl, .of r3.b e, .inl rfl⟩) (fun i σ H4 hi hP => ?_) (fun σ H4 hP => ?_)
    rotate_left
    · obtain ⟨c1, c2, c3, c4, c5, c6, rfl, r, _⟩ := hP
      exact s_ret ev_c fun H5 e5 => q H5 (r3.trans (r.ex e5))
    obtain ⟨c1, c2, c3, c4, c5, c6, rfl, r34, hfst⟩ := hP
    have hi : i < 29 := by have := hi; omega
    refine q_gN ?_
    refine q_par (ev_spotL (n := i) (b := b) (g := g) (ev_var rfl) (ev_var rfl) (ev_var rfl) H4 (Ex.refl H4) _ fun H5 e5 => ?_)
    have r35 := r34.ex e5
    refine ⟨_, rfl, p, 29, rfl, r35.b.2 p rfl, by decide, by decide, fun d H6 d0 d1 x6 => ?_⟩
    have r6 := r3.trans (r35.trans (Rm.R.xp r35.b.1 (r35.b.2 p rfl) x6))
    have r36 := r35.trans (Rm.R.xp r35.b.1 (r35.b.2 p rfl) x6)
    obtain ⟨far, rfl⟩ := Int.eq_ofNat_of_zero_le d0
    have hfar : far < 29 := by omega
    show tSeq _ _ _ [some (.ref p), some (.ref a), some (.ref l), some (.int (b : Int)), some (.int (g : Int)), some (.int (m : Int)), some (.str lb), some (.ref ll), some (.int (i : Int)), some (.int (spotN b g i : Nat)), some (.int (far : Int)), c4, c5, c6] H6
    have hW6 := wb_R r6 hW
    have hll6 := r36.lst hll nml
    have hl6 := r6.lst hl nl
    have hp6 := paired_mono (fun _ _ r => Rm.wd_R r6 r) hp
    by_cases big : 1 < m ∨ g ≠ 0
    rotate_left
    · -- a thing without a letter
      rw [if_neg big] at hll6
      have i0 : i = 0 := hfst.resolve_right big
      have m1 : m = 1 := by omega
      refine q_when (b := true) (et_eqNil (ev_var rfl) hll6) (fun _ H7 e7 => ?_) (fun z => by cases z)
      refine s_ret (v := .bl (decide (V.int (spotN b g i : Nat) = V.int 0) && decide (V.int (m : Int) = V.int 1))) (ev_andV (ev_op (ev_var rfl) ev_c (rv_eq rfl)) fun _ => ev_op (ev_var rfl) ev_c (rv_eq rfl)) fun H8 e8 => ?_
      rw [i0, s0, m1]
      exact q H8 (r6.ex (e7.trans e8))
    rw [if_pos big] at hll6
    refine q_when (b := false) (et_eqNil (ev_var rfl) hll6) (fun z => by cases z) (fun _ H7 e7 => ?_)
    have lt0 : ∀ {σ : L2.St} {G : Hp}, σ[7]? = some (some (.ref ll)) → Ex H7 G → Ev (tOp (rIxL K) (tVar 7) (tC (.int 0))) σ G (.str lt) := fun h e => ev_op (ev_var h) ev_c (rv_ixL (SqL.of (e _ _ (e7 _ _ hll6))) (show atI [V.str lt] ((0 : Nat) : Int) = some (.str lt) from atI_nat rfl))
    refine q_par (ew_row (ev_var rfl) (lt0 rfl (Ex.refl H7)) (ev_var rfl) (by omega : i ≤ 500) H7 (Ex.refl H7) _ fun v1 H8 e8 hv1 => ew_row (ev_var (by rfl)) (lt0 (by rfl) e8) (ev_var (by rfl)) (by omega : far ≤ 500) H8 (Ex.refl H8) _ fun v2 H9 e9 hv2 => ?_)
    have e69 := (e7.trans e8).trans e9
    have hW9 := wb_ex e69 hW6
    have hv1 := wd_mono e9 hv1
    have wk : ∀ n : Nat, (walkL (rhoL lb lt b g m) 0 (rwC lb lt n)).isSome = decide (spotN b g n < m) := fun n => by
      rw [rho_walk N]
      by_cases c : spotN b g n < m
      · rw [if_pos c, decide_eq_true c]; rfl
      · rw [if_neg c, decide_eq_false c]; rfl
    have lt1 : ∀ {n k : Nat}, decide ((n : Int) < (k : Int)) = decide (n < k) := fun {n k} => decide_eq_decide.mpr (by omega)
    show tSeq _ _ _ [some (.ref p), some (.ref a), some (.ref l), some (.int (b : Int)), some (.int (g : Int)), some (.int (m : Int)), some (.str lb), some (.ref ll), some (.int (i : Int)), some (.int (spotN b g i : Nat)), some (.int (far : Int)), some v1, some v2, c6] H9
    refine q_when (b := !decide (V.bl (decide (spotN b g i < m)) = V.bl (decide ((spotN b g i : Int) < (m : Int))))) (et_test (ev_op (by rw [← wk i]; exact ev_win (ev_var rfl) (ev_var rfl) hW9 hv1 (row_T hb ht) (by rw [row_len]; omega)) (ev_op (ev_var rfl) (ev_var rfl) rv_I0) (rv_ne rfl))) (fun z => by rw [lt1, decide_eq_true rfl] at z; cases z) (fun _ H10 e10 => ?_)
    have e610 := e69.trans e10
    have hv1 := wd_mono e10 hv1
    have hv2 := wd_mono e10 hv2
    have hW10 := wb_ex e610 hW6
    refine q_when (b := decide ((spotN b g i : Int) < (m : Int)) && false) (et_and (et_test (ev_op (ev_var rfl) (ev_var rfl) rv_I0)) fun c => ?_) (fun z => by rw [Bool.and_false] at z; cases z) (fun _ H11 e11 => ?_)
    · have c : spotN b g i < m := by have := of_decide_eq_true c; omega
      have e0 : false = !decide (rwC lb lt (spotN b g i) = rwC lb lt (spotN b g i)) := by rw [decide_eq_true rfl]; rfl
      rw [e0]
      exact et_test (ev_neT (K := K) (ew_wget (K := K) (ev_var rfl) (ev_var rfl) hW10 (tm hv1 (by omega) c) (rho_at N c)) (ew_ixLW (K := K) (l := l) (ws := (List.range m).map (rwC lb lt)) (i := spotN b g i) (x := rwC lb lt (spotN b g i)) (ev_var rfl) (ev_var rfl) ⟨us, e610 _ _ hl6, paired_mono (fun _ _ r => wd_mono e610 r) hp6⟩ (by rw [List.getElem?_map, List.getElem?_range c]; rfl)) (row_LL hb ht) (row_LL hb ht))
    refine q_asg (ev_op (ev_var rfl) (ev_spotL (n := far) (b := b) (g := g) (ev_var rfl) (ev_var rfl) (ev_var rfl)) (rv_eq rfl)) fun H12 e12 => ?_
    have e612 := (e610.trans e11).trans e12
    have hv1 := wd_mono (e11.trans e12) hv1
    have hv2 := wd_mono (e11.trans e12) hv2
    have hW12 := wb_ex e612 hW6
    show tIfS _ _ _ _ [some (.ref p), some (.ref a), some (.ref l), some (.int (b : Int)), some (.int (g : Int)), some (.int (m : Int)), some (.str lb), some (.ref ll), some (.int (i : Int)), some (.int (spotN b g i : Nat)), some (.int (far : Int)), some v1, some v2, some (.bl (decide (V.int (spotN b g i : Nat) = V.int (spotN b g far : Nat))))] H12
    refine s_when (b := decide ((spotN b g i : Int) < (m : Int)) && (decide (spotN b g far < m) && false)) (et_and (et_test (ev_op (ev_var rfl) (ev_var rfl) rv_I0)) fun c => et_and (et_test (by rw [← wk far]; exact ev_win (ev_var rfl) (ev_var rfl) hW12 hv2 (row_T hb ht) (by rw [row_len]; omega))) fun c2 => ?_) (fun z => by rw [Bool.and_false, Bool.and_false] at z; cases z) (fun _ H13 e13 => ⟨_, _, _, _, _, _, rfl, r36.ex (e612.trans e13), .inr big⟩)
    have c : spotN b g i < m := by have := of_decide_eq_true c; omega
    have c2 : spotN b g far < m := of_decide_eq_true c2
    have e1 : decide (spotN b g far + 1 = spotN b g i + 1) = decide (V.int (spotN b g i : Nat) = V.int (spotN b g far : Nat)) := decide_eq_decide.mpr ⟨fun z => by rw [show spotN b g i = spotN b g far from by omega], fun z => by injection z with z; omega⟩
    have e0 : false = !decide (V.bl (decide (spotN b g far + 1 = spotN b g i + 1)) = V.bl (decide (V.int (spotN b g i : Nat) = V.int (spotN b g far : Nat)))) := by rw [e1, decide_eq_true rfl]; rfl
    rw [e0]
    exact et_test (ev_op (ev_wsame (K := K) (ev_var rfl) (ev_var rfl) (ev_var rfl) hW12 (tm hv2 (by omega) c2) (tm hv1 (by omega) c)) (ev_var rfl) (rv_ne rfl))
end
end K35
namespace Tk
open PySem PySem.Spec PyProof.Rows L2 Lw Evl LamX TL
open Rm (R Ok Z0 Zp Fr fr_none fr_ne nt_lst nt_tup NT Zn)
open Wp (Leads)
section
variable {K : PySem.W.Frag} {H H0 H1 : Hp} {σ : L2.St} {ta tl : TE} {p : Addr} {TT : List (Addr × Str)}
/-- one of a list that is told here -/
theorem pick_l {xs : List V} (o : Ok (Zp TT p) H) (hp : Ev ta σ H (.ref p)) (hl : EvL tl σ H xs) (h0 : 0 < xs.length) (h1 : xs.length ≤ 1000) {Q : VK} (k : ∀ v H2, v ∈ xs → R (Zp TT p) H H2 → Q v H2) : tCall (spPick K) [] E0 (tCons ta (tCons tl tNil)) σ H Q :=
  hp H (Ex.refl H) _ fun H1 e1 => hl H1 e1 _ fun l H2 nl e2 hl2 => by
    have r2 : R (Zp TT p) H H2 := .of o (e1.trans e2)
    have ne : l ≠ p := fun z => (Rm.Ok.fresh o (fr_none (fresh_back e1 nl))) (by rw [z])
    exact ⟨p, l, xs, rfl, r2.b.2 p rfl, hl2, ne, h0, by omega, fun v H3 hv x => k v H3 hv (r2.trans (Rm.R.xp r2.b.1 (r2.b.2 p rfl) x))⟩
/-- a number drawn -/
theorem draw_n {m : Nat} {tm : TE} (o : Ok (Zp TT p) H) (hp : Ev ta σ H (.ref p)) (hm : Ev tm σ H (.int (m : Int))) (h0 : 0 < m) (h1 : m ≤ 1000) {Q : VK} (k : ∀ (d : Nat) H2, d < m → R (Zp TT p) H H2 → Q (.int (d : Int)) H2) : tCall spDraw [] E0 (tCons ta (tCons tm tNil)) σ H Q :=
  hp H (Ex.refl H) _ fun H1 e1 => hm H1 e1 _ fun H2 e2 => by
    have r2 : R (Zp TT p) H H2 := .of o (e1.trans e2)
    refine ⟨p, (m : Int), rfl, r2.b.2 p rfl, by omega, by omega, fun d H3 d0 d1 x => ?_⟩
    obtain ⟨n, rfl⟩ := Int.eq_ofNat_of_zero_le d0
    exact k n H3 (by omega) (r2.trans (Rm.R.xp r2.b.1 (r2.b.2 p rfl) x))
end
theorem paired_ex {α β : Type} {B : α → β → Prop} {C : β → Prop} : ∀ {us : List α}, (∀ v ∈ us, ∃ q, C q ∧ B v q) → ∃ qs, Paired B us qs ∧ ∀ q ∈ qs, C q
  | [], _ => ⟨[], .nil, fun _ h => absurd h List.not_mem_nil⟩
  | u :: us, h => by
    obtain ⟨q, h1, h2⟩ := h u List.mem_cons_self
    obtain ⟨qs, k1, k2⟩ := paired_ex fun v hv => h v (List.mem_cons_of_mem _ hv)
    exact ⟨q :: qs, .cons h2 k1, fun x hx => (List.mem_cons.mp hx).elim (fun e => e ▸ h1) (k2 x)⟩
theorem st_pairV {C : Nat × Nat → Prop} : St fun H v => ∃ q, C q ∧ PairV H v q := fun H H1 v s ⟨q, hq, a, e, h⟩ => ⟨q, hq, a, e, s a _ nt_tup (fun _ z => nomatch z) h⟩
theorem pairV_R {Z : Zn} {H H1 : Hp} {v : V} {q : Nat × Nat} (r : R Z H H1) (h : PairV H v q) : PairV H1 v q := by
  obtain ⟨a, e, h⟩ := h
  exact ⟨a, e, r.tup h⟩
theorem q_asg1 {te : TE} {i : Nat} {D : Ends} {σ : L2.St} {H : Hp} (h : te σ H fun v H1 => D.nx (σ.set i (some v)) H1) : tAsg te (gName i) D σ H := h
section
variable {K : PySem.W.Frag} {H : Hp} {CW a : Addr} {σ : L2.St} {ta tb tc : TE} {L : Leads} {x y : List Str} {D : Ends} {l : Addr} {us : List V}
/-- l.append((x, y)), two words -/
theorem s_appP (hl : H l = some (.lst us)) (ha : Ev ta σ H (.ref l)) (hb : EvW K tb σ H x) (hc : EvW K tc σ H y) (hz : us.length < sizeLine) (k : ∀ v H1, Ex H H1 → PairT K H1 v (x, y) → D.nx σ (upd H1 l (.lst (us ++ [v])))) :
    tDrop (tBM K "list" rAppend ta (tCons (tTup (tCons tb (tCons tc tNil))) tNil)) D σ H :=
  ha H (Ex.refl H) _ fun H1 e1 => ⟨.inl ⟨rfl, us, SqL.of (e1 _ _ hl)⟩, hb H1 e1 _ fun v H2 e2 hv => hc H2 (e1.trans e2) _ fun u H3 e3 hu => ⟨two_le, fun t ht => by
    have e13 := ((e1.trans e2).trans e3).trans (Ex.new (o := .tup [v, u]) ht)
    exact ⟨l, us, .ref t, rfl, rfl, e13 _ _ hl, hz, k _ _ e13 ⟨t, v, u, rfl, upd_same, wd_mono (e3.trans (Ex.new ht)) hv, wd_mono (Ex.new ht) hu⟩⟩⟩⟩
theorem ev_min3 {a b c : Nat} (ha : Ev ta σ H (.int (a : Int))) (hb : Ev tb σ H (.int (b : Int))) (hc : Ev tc σ H (.int (c : Int))) : Ev (tCB (rNuC3 nuMin3) (tCons ta (tCons tb (tCons tc tNil)))) σ H (.int (min (min a b) c : Nat)) := fun H1 e Q q =>
  ha H1 e _ fun H2 e2 => hb H2 (e.trans e2) _ fun H3 e3 => hc H3 ((e.trans e2).trans e3) _ fun H4 e4 => by
    refine ⟨_, _, _, .int (min (min a b) c : Nat), rfl, ?_, q H4 ((e2.trans e3).trans e4)⟩
    have two : ∀ x y : Nat, nuMin2 (.int (x : Int)) (.int (y : Int)) = some (.int (min x y : Nat)) := fun x y => by
      show some (if decide ((y : Int) < (x : Int)) = true then V.int (y : Int) else V.int (x : Int)) = _
      by_cases h : y < x
      · rw [if_pos (decide_eq_true (by omega)), Nat.min_eq_right (by omega)]
      · rw [if_neg (by rw [decide_eq_false (by omega)]; exact Bool.false_ne_true), Nat.min_eq_left (by omega)]
    show ((nuMin2 (.int (a : Int)) (.int (b : Int))).bind fun m => nuMin2 m (.int (c : Int))) = _
    rw [two]
    exact two _ _
theorem ev_min2 {a b : Nat} (ha : Ev ta σ H (.int (a : Int))) (hb : Ev tb σ H (.int (b : Int))) : Ev (tCB (fun xs H Q => ∃ i j, xs = [V.int i, V.int j] ∧ Q (V.int (if j < i then j else i)) H) (tCons ta (tCons tb tNil))) σ H (.int (min a b : Nat)) := fun H1 e Q q =>
  ha H1 e _ fun H2 e2 => hb H2 (e.trans e2) _ fun H3 e3 => ⟨_, _, rfl, by
    have z : (if (b : Int) < (a : Int) then (b : Int) else (a : Int)) = ((min a b : Nat) : Int) := by split <;> omega
    rw [z]
    exact q H3 (e2.trans e3)⟩
theorem ev_absD {a b : Nat} (ha : Ev ta σ H (.int ((a : Int) - (b : Int)))) : Ev (tCB (fun xs H Q => ∃ i, xs = [V.int i] ∧ Q (V.int (if i < 0 then -i else i)) H) (tCons ta tNil)) σ H (.int (Wp.dif (a, b) : Nat)) := fun H1 e Q q =>
  ha H1 e _ fun H2 e2 => ⟨_, rfl, by
    have z : (if (a : Int) - (b : Int) < 0 then -((a : Int) - (b : Int)) else (a : Int) - (b : Int)) = ((Wp.dif (a, b) : Nat) : Int) := by
      unfold Wp.dif
      dsimp only
      split <;> split <;> omega
    rw [z]
    exact q H2 e2⟩
theorem ev_wlen (h : Ev ta σ H (.ref a)) (hW : WbAt K CW H a L) (wo : WbL L) : Ev (tCB (rLenO CW (spWbLen K CW) E0) (tCons ta tNil)) σ H (.int (((Wp.least L).drop 1).length : Int)) := fun H1 e Q q => h H1 e _ fun H2 e2 => by
  have h2 := wb_ex (e.trans e2) hW
  obtain ⟨dx, d, l, k1, _⟩ := id h2
  have := wo.lst
  exact ⟨a, dx, _, rfl, k1, a, L, rfl, h2, wo, fun H3 e3 => ⟨_, rfl, by omega, by rw [List.length_drop]; omega, q H3 (e2.trans e3)⟩⟩
theorem elw_wknots (h : Ev ta σ H (.ref a)) (hW : WbAt K CW H a L) (wo : WbL L) : EvLW K (tMeth CW "knots" (spWbKnots K CW) [] E0 ta tNil) σ H ((Wp.least L).drop 1) := fun H1 e Q q => h H1 e _ fun H2 e2 => by
  have h2 := wb_ex (e.trans e2) hW
  obtain ⟨dx, d, l, k1, _⟩ := id h2
  exact ⟨a, dx, _, rfl, k1, rfl, a, L, rfl, h2, wo, fun l H3 nl e3 hl => q l H3 (fresh_back e2 nl) (e2.trans e3) hl⟩
theorem ev_wtree (h : Ev ta σ H (.ref a)) (hW : WbAt K CW H a L) (wo : WbL L) (h1 : ∀ t ∈ Wp.least L, isT t = true ∨ t = []) (h2 : ∀ e ∈ L, isL e.1.2 = true) : Ev (tProp CW (spWbTree K CW) [] E0 ta) σ H (.bl (pairsL L).isEmpty) := fun H1 e Q q => h H1 e _ fun H2 e2 => by
  have h3 := wb_ex (e.trans e2) hW
  obtain ⟨dx, d, l, k1, _⟩ := id h3
  exact ⟨a, dx, _, rfl, k1, a, L, rfl, h3, wo, h1, h2, fun H3 e3 => q H3 (e2.trans e3)⟩
theorem eb_wpairs (h : Ev ta σ H (.ref a)) (hW : WbAt K CW H a L) (wo : WbL L) (h1 : ∀ t ∈ Wp.least L, isT t = true ∨ t = []) (h2 : ∀ e ∈ L, isL e.1.2 = true) : EvB (PairT K) (tMeth CW "pairs" (spWbPairs2 K CW) [] E0 ta tNil) σ H (pairsL L) := fun H1 e Q q => h H1 e _ fun H2 e2 => by
  have h3 := wb_ex (e.trans e2) hW
  obtain ⟨dx, d, l, k1, _⟩ := id h3
  exact ⟨a, dx, _, rfl, k1, rfl, a, L, rfl, h3, wo, h1, h2, fun l us H3 nl e3 hl hp => q l H3 us (fresh_back e2 nl) (e2.trans e3) hl hp⟩
end
theorem ev_maxN {K : PySem.W.Frag} {σ : L2.St} {H : Hp} {te : TE} {ks : List Nat} {k : Nat} (h : EvL te σ H (ks.map fun n : Nat => V.int (n : Int))) (hk : k ∈ ks) (hm : ∀ y ∈ ks, y ≤ k) : Ev (tCB (rMax K) (tCons te tNil)) σ H (.int (k : Int)) := fun H1 e Q q => h H1 e _ fun l H2 nl e2 hl => by
  have z : (ks.map fun n : Nat => (n : Int)).map V.int = ks.map fun n : Nat => V.int (n : Int) := by rw [List.map_map]; rfl
  refine ⟨l, ks.map fun n : Nat => (n : Int), rfl, SqL.of (by rw [z]; exact hl), ?_, fun m hm1 hm2 => ?_⟩
  · rw [List.length_map]
    exact List.length_pos_of_mem hk
  · obtain ⟨n, hn, rfl⟩ := List.mem_map.mp hm1
    have a := hm2 (k : Int) (List.mem_map.mpr ⟨k, hk, rfl⟩)
    have b := hm n hn
    obtain rfl : n = k := by omega
    exact q H2 e2
theorem ints_eq {us : List V} {ks : List Nat} (h : Paired (fun (v : V) (n : Nat) => v = V.int (n : Int)) us ks) : us = ks.map fun n : Nat => V.int (n : Int) := by
  induction h with
  | nil => rfl
  | cons r t ih => rw [List.map_cons, ih, r]
/-- [x for x, y in pairs] -/
theorem el_firsts {K : PySem.W.Frag} {σ : L2.St} {H : Hp} {i j k : Nat} {l : Addr} {us : List V} {ps : List (Nat × Nat)} (h0 : σ[i]? = some (some (.ref l))) (hl : H l = some (.lst us)) (hp : Paired (PairV H) us ps) (hz : ps.length ≤ 1000)
    (hw : ∀ x y, wipe (((wipe σ [j, k]).set j (some x)).set k (some y)) [j, k] = wipe σ [j, k]) (hj : ∀ x y, (((wipe σ [j, k]).set j (some x)).set k (some y))[j]? = some (some x)) :
    EvL (tLc (iList K (tVar i)) (gTup K 2 (gCons (gName j) (gCons (gName k) gNil))) tYes (tVar j) [j, k]) σ H ((ps.map (·.1)).map fun n : Nat => V.int (n : Int)) := fun H1 e Q q => by
  have lu := Paired.length hp
  refine ⟨_, h0, l, rfl, ⟨us, SqL.of (e _ _ hl)⟩, fun D hD => ?_⟩
  refine lc_bld walk_list (fun _ (v : V) (n : Nat) => v = V.int (n : Int)) (fun _ r => r) (fun _ r => r) (ys := ps.map (·.1)) (by rw [List.length_map, lu]) (by omega) hD (fun H2 e2 => SqL.of ((e.trans e2) _ _ hl)) (fun n x y H2 H3 Q hy e2 yl kk => ?_) fun us2 H2 e2 h2 p2 => q D H2 hD e2 (by rw [← ints_eq p2]; exact h2)
  obtain ⟨rfl, hx⟩ := yl
  rw [List.getElem?_map] at hy
  obtain ⟨q0, hq0, rfl⟩ := Option.map_eq_some_iff.mp hy
  obtain ⟨q1, hq1, tt, rfl, ht⟩ := paired_at hp hx
  rw [hq0] at hq1
  cases hq1
  refine ⟨tt, _, rfl, SqT.of ((e.trans e2) _ _ ht), rfl, _, _, rfl, _, _, rfl, rfl, hw _ _, ?_⟩
  exact ⟨_, hj _ _, kk _ _ (Ex.refl _) rfl⟩
theorem ev_neTv {K : PySem.W.Frag} {σ : L2.St} {H : Hp} {ta tb : TE} {l : Addr} {xs ys : List (List Str)} (ha : EvLW K ta σ H xs) (hb : Ev tb σ H (.ref l)) (hl : LW K H l ys) (hx : ∀ t ∈ xs, LL t) (hy : ∀ t ∈ ys, LL t) : Ev (tOp (rNeD K) ta tb) σ H (.bl (!decide (xs = ys))) := fun H1 e Q q => ha H1 e _ fun v H2 n2 e2 hv => hb H2 (e.trans e2) _ fun H3 e3 => by
  obtain ⟨us, h1, h2⟩ := lw_mono e3 hv
  obtain ⟨vs, k1, k2⟩ := lw_mono ((e.trans e2).trans e3) hl
  exact ⟨.list (xs.map wD), .list (ys.map wD), .lst (SqL.of h1) (dpa_words h2), .lst (SqL.of k1) (dpa_words k2), shaped_ds fun w hw => ⟨(lay_t (hx w hw)).1, Nat.le_succ_of_le (lay_t (hx w hw)).2⟩, shaped_ds fun w hw => ⟨(lay_t (hy w hw)).1, Nat.le_succ_of_le (lay_t (hy w hw)).2⟩, by rw [eqv_wDs]; exact q H3 (e2.trans e3)⟩
theorem size_range {lb lt : Str} : ∀ m : Nat, 2 * (((List.range m).map (Wp.rwC lb lt)).map List.length).sum = m * (m + 1)
  | 0 => rfl
  | m + 1 => by
    have ih := size_range (lb := lb) (lt := lt) m
    rw [List.range_succ, List.map_append, List.map_append, List.sum_append]
    have e : ((([m] : List Nat).map (Wp.rwC lb lt)).map List.length).sum = m + 1 := by
      show (Wp.rwC lb lt m).length + 0 = _
      rw [row_len]
    rw [e, Nat.mul_add, ih, ← Nat.add_mul, Nat.mul_comm]
end Tk
namespace K35
open PySem PySem.Spec PyProof.Rows L2 Lw Evl LamX Tk TL
open Rm (R Ok Z0 Zp Fr fr_none fr_ne nt_lst nt_tup)
open LwX (XC XF)
open Wp (Leads walkL rwC spotN rhoL RhoN RhoT tsT psT psS)
section
variable {P : Program} {w : World} {K : PySem.W.Frag} {mg : Str → Option Value} {base : Heap} {TT : List (Addr × Str)} {CW dA dB dC : Addr}
def spRightR (TT : List (Addr × Str)) : Sp := fun vs H Q _ => ∃ p, vs = [.ref p] ∧ Po p H ∧ Tabs TT H ∧ ∀ H', R (Zp TT p) H H' → Q (.bl true) H'
abbrev s_right : Stmt := topS 58
theorem sc_right : FnScope ["_law_pot_here", "_law_label", "_law_letter", "_law_step", "_law_numbers", "_law_k", "_law_near", "_law_far", "_law_last", "_law_ties", "_law_web_here", "_law_number", "_law_begin", "_law_long", "_law_many", "_law_rows"] ["_law_pot_here"] (defScope s_right) := ⟨rfl, rfl, rfl, by decide +kernel, rfl, by decide +kernel, by decide +kernel⟩
theorem ok_right {f : Addr} {fd : FuncData} (F : FunD K "_law_right" "_law_right" (defArgs s_right) (defBody s_right) (defScope s_right) [] [] f fd) (T : Tx P w K mg base) (OWb : OwnC K mg "Web" CW) (MWb : MkW P w K mg base (L2.CX P w) 5 "Web" CW ["things", "terms", "pairs"] dA dB dC (spWbI2 K CW)) (LWb : SpO P w K mg base 1 CW "__len__" ["self"] (spWbLen K CW)) (EWb : SpO P w K mg base 1 CW "__eq__" ["self", "other"] (spWbEq K CW)) (PTr : PrO P w K mg base 2 CW "is_tree" (spWbTree K CW)) (MKn : MeO P w K mg base CX0 1 CW "knots" [] (spWbKnots K CW)) (MPa : MeO P w K mg base CX0 1 CW "pairs" [] (spWbPairs2 K CW)) (d_law_draw : Cal P w K mg base CX0 1 "_law_draw" ["_law_pot_here", "_law_many"] spDraw) (d_law_pick : Cal P w K mg base CX0 2 "_law_pick" ["_law_pot_here", "_law_some"] (spPick K)) (d_law_divisor : Cal P w K mg base CX0 1 "_law_divisor" ["_law_near", "_law_far"] spDiv) (d_law_row : Cal P w K mg base CX0 1 "_law_row" ["_law_label", "_law_letter", "_law_number"] (spRowL K)) (d_law_web : Cal P w K mg base CX0 10 "_law_web" ["_law_pot_here", "_law_label", "_law_rows", "_law_ties"] (spWebL K TT CW)) (d_law_spots_right : Cal P w K mg base CX0 10 "_law_spots_right" ["_law_pot_here", "_law_web_here", "_law_rows", "_law_begin", "_law_long"] (spSpotsR K TT CW)) : FnG P w K mg base CX0 11 f fd ["_law_pot_here"] (spRightR TT) := by
  refine fnG F sc_right (fun vs H Q E h => ?_) (fun cdv A outer s H vs Q E gd hr h => ?_)
  · obtain ⟨p, rfl, _⟩ := h
    rfl
  · skip
    refine ⟨_, PSs.nox ((pss_cons (ps_asg (pe_tup (pa_cons (pe_cal d_law_pick gd hr (pa_cons (pv 0) (pa_cons (pe_lst (pa_cons pe_str (pa_cons pe_str (pa_cons pe_str (pa_cons pe_str pa_nil))))) pa_nil))) (pa_cons (pe_cal d_law_pick gd hr (pa_cons (pv 0) (pa_cons (pe_lst (pa_cons pe_str (pa_cons pe_str (pa_cons pe_str pa_nil)))) pa_nil))) pa_nil))) (pg_tup (n := 2) rfl (pgs_cons (pg_name (i := 1) sc_right.nd rfl (by first | exact Or.inl rfl | exact Or.inr rfl)) (pgs_cons (pg_name (i := 2) sc_right.nd rfl (by first | exact Or.inl rfl | exact Or.inr rfl)) pgs_nil))))
      (pss_cons (ps_set (i := 3) sc_right.nd rfl (by first | exact Or.inl rfl | exact Or.inr rfl) (pe_cal d_law_pick gd hr (pa_cons (pv 0) (pa_cons (pe_lst (pa_cons pe_int (pa_cons pe_int (pa_cons pe_int (pa_cons pe_int (pa_cons pe_int (pa_cons pe_int pa_nil))))))) pa_nil))))
      (pss_cons (ps_setLc (i := 4) (own := [("_law_k", 5)]) (g := gName 5) (tt := tYes) rfl sc_right.nd rfl rfl (sw_true rfl rfl rfl (by decide +kernel)) (pi_range1 (by rfl) T.m_range (pa_cons (pe_cal d_law_draw gd hr (pa_cons (pv 0) (pa_cons pe_int pa_nil))) pa_nil)) (blkOk_by (own := [("_law_k", 5)]) (N := ["_law_pot_here", "_law_label", "_law_letter", "_law_step", "_law_numbers", "_law_k", "_law_near", "_law_far", "_law_last", "_law_ties", "_law_web_here", "_law_number", "_law_begin", "_law_long", "_law_many", "_law_rows"]) (sc := defScope s_right) (by decide +kernel)) (fun _ _ _ _ _ => pg_name (i := 5) sc_right.nd rfl (by first | exact Or.inl rfl | exact Or.inr rfl)) (fun _ _ _ _ _ => pts_nil) (fun _ _ _ _ _ => (pe_tup (pa_cons (pe_cal d_law_draw gd hr (pa_cons (pv 0) (pa_cons pe_int pa_nil))) (pa_cons (pe_cal d_law_draw gd hr (pa_cons (pv 0) (pa_cons pe_int pa_nil))) pa_nil)))))
      (pss_cons (ps_if (pt_cmpR op_eq (pe_cal d_law_draw gd hr (pa_cons (pv 0) (pa_cons pe_int pa_nil))) pe_int (nomark _)) (pss_one (ps_setLc (i := 4) (own := [("_law_near", 6), ("_law_far", 7)]) (g := gTup K 2 (gCons (gName 6) (gCons (gName 7) gNil))) (tt := tYes) rfl sc_right.nd rfl rfl (sw_true rfl rfl rfl (by decide +kernel)) (pi_listK (K := K) (pv 4)) (blkOk_by (own := [("_law_near", 6), ("_law_far", 7)]) (N := ["_law_pot_here", "_law_label", "_law_letter", "_law_step", "_law_numbers", "_law_k", "_law_near", "_law_far", "_law_last", "_law_ties", "_law_web_here", "_law_number", "_law_begin", "_law_long", "_law_many", "_law_rows"]) (sc := defScope s_right) (by decide +kernel)) (fun _ _ _ _ _ => pg_tupK (K := K) (n := 2) rfl (pgs_cons (pg_name (i := 6) sc_right.nd rfl (by first | exact Or.inl rfl | exact Or.inr rfl)) (pgs_cons (pg_name (i := 7) sc_right.nd rfl (by first | exact Or.inl rfl | exact Or.inr rfl)) pgs_nil))) (fun _ _ _ _ _ => pts_nil) (fun _ _ _ _ _ => (pe_tup (pa_cons (pv 6) (pa_cons (pe_op op_add (pv 6) (pe_op op_mul (pv 3) (pe_op op_mod (pv 7) pe_int))) pa_nil)))))) pss_nil)
      (pss_cons (ps_setLc (i := 8) (own := [("_law_k", 5)]) (g := gName 5) (tt := tYes) rfl sc_right.nd rfl rfl (sw_true rfl rfl rfl (by decide +kernel)) (pi_range1 (by rfl) T.m_range (pa_cons (pe_cal d_law_draw gd hr (pa_cons (pv 0) (pa_cons pe_int pa_nil))) pa_nil)) (blkOk_by (own := [("_law_k", 5)]) (N := ["_law_pot_here", "_law_label", "_law_letter", "_law_step", "_law_numbers", "_law_k", "_law_near", "_law_far", "_law_last", "_law_ties", "_law_web_here", "_law_number", "_law_begin", "_law_long", "_law_many", "_law_rows"]) (sc := defScope s_right) (by decide +kernel)) (fun _ _ _ _ _ => pg_name (i := 5) sc_right.nd rfl (by first | exact Or.inl rfl | exact Or.inr rfl)) (fun _ _ _ _ _ => pts_nil) (fun _ _ _ _ _ => (pe_cal d_law_draw gd hr (pa_cons (pv 0) (pa_cons pe_int pa_nil)))))
      (pss_cons (ps_set (i := 9) sc_right.nd rfl (by first | exact Or.inl rfl | exact Or.inr rfl) (pe_lst pa_nil))
      (pss_cons (ps_for PassesOwn.never rfl (pi_listK (K := K) (pv 4)) (pg_tup (n := 2) rfl (pgs_cons (pg_name (i := 6) sc_right.nd rfl (by first | exact Or.inl rfl | exact Or.inr rfl)) (pgs_cons (pg_name (i := 7) sc_right.nd rfl (by first | exact Or.inl rfl | exact Or.inr rfl)) pgs_nil))) (pss_one (ps_expr (pe_bm PySem.F.plainAttrs_list PySem.F.slot_list_append PySem.F.type_list_append mt_append (pv 9) (pa_cons (pe_tup (pa_cons (pe_cal d_law_row gd hr (pa_cons (pv 1) (pa_cons (pv 2) (pa_cons (pv 6) pa_nil)))) (pa_cons (pe_cal d_law_row gd hr (pa_cons (pv 1) (pa_cons (pv 2) (pa_cons (pv 7) pa_nil)))) pa_nil))) pa_nil)))))
      (pss_cons (ps_set (i := 10) sc_right.nd rfl (by first | exact Or.inl rfl | exact Or.inr rfl) (pe_cal d_law_web gd hr (pa_cons (pv 0) (pa_cons (pv 1) (pa_cons (pe_lc (own := [("_law_number", 11)]) (g := gName 11) (tt := tYes) rfl sc_right.nd (pi_listK (K := K) (pv 8)) (blkOk_by (own := [("_law_number", 11)]) (N := ["_law_pot_here", "_law_label", "_law_letter", "_law_step", "_law_numbers", "_law_k", "_law_near", "_law_far", "_law_last", "_law_ties", "_law_web_here", "_law_number", "_law_begin", "_law_long", "_law_many", "_law_rows"]) (sc := defScope s_right) (by decide +kernel)) (fun _ _ _ _ _ => pg_name (i := 11) sc_right.nd rfl (by first | exact Or.inl rfl | exact Or.inr rfl)) (fun _ _ _ _ _ => pts_nil) (fun _ _ _ _ _ => (pe_cal d_law_row gd hr (pa_cons (pv 1) (pa_cons (pv 2) (pa_cons (pv 11) pa_nil)))))) (pa_cons (pv 9) pa_nil))))))
      (pss_cons (ps_asg (pe_tup (pa_cons pe_int (pa_cons pe_int pa_nil))) (pg_tup (n := 2) rfl (pgs_cons (pg_name (i := 12) sc_right.nd rfl (by first | exact Or.inl rfl | exact Or.inr rfl)) (pgs_cons (pg_name (i := 13) sc_right.nd rfl (by first | exact Or.inl rfl | exact Or.inr rfl)) pgs_nil))))
      (pss_cons (ps_for PassesOwn.never rfl (pi_listK (K := K) (pv 4)) (pg_tup (n := 2) rfl (pgs_cons (pg_name (i := 6) sc_right.nd rfl (by first | exact Or.inl rfl | exact Or.inr rfl)) (pgs_cons (pg_name (i := 7) sc_right.nd rfl (by first | exact Or.inl rfl | exact Or.inr rfl)) pgs_nil))) (pss_one (ps_if (pt_cmpR op_ne (pv 6) (pv 7) (nomark _)) (pss_cons (ps_set (i := 12) sc_right.nd rfl (by first | exact Or.inl rfl | exact Or.inr rfl) (pe_ifExp (pt_cmpR op_eq (pv 13) pe_int (nomark _)) (pe_callB (call_min2 rfl) (by rfl) T.m_min (by decide +kernel) (pa_cons (pv 6) (pa_cons (pv 7) pa_nil))) (pe_callB (call_min3Nu rfl) (by rfl) T.m_min (by decide +kernel) (pa_cons (pv 12) (pa_cons (pv 6) (pa_cons (pv 7) pa_nil))))))
      (pss_one (ps_set (i := 13) sc_right.nd rfl (by first | exact Or.inl rfl | exact Or.inr rfl) (pe_cal d_law_divisor gd hr (pa_cons (pe_callB call_abs (by rfl) T.m_abs (by decide +kernel) (pa_cons (pe_op op_sub (pv 6) (pv 7)) pa_nil)) (pa_cons (pv 13) pa_nil)))))) pss_nil)))
      (pss_cons (ps_set (i := 14) sc_right.nd rfl (by first | exact Or.inl rfl | exact Or.inr rfl) (pe_op op_add (pv 12) (pv 13)))
      (pss_cons (ps_if (pt_cmpR op_eq (pv 13) pe_int (nomark _)) (pss_one (ps_set (i := 14) sc_right.nd rfl (by first | exact Or.inl rfl | exact Or.inr rfl) (pe_op op_add pe_int (pe_callB (cr_maxK (K := K) rfl) (by rfl) T.m_max (by decide +kernel) (pa_cons (pe_op op_cat (pe_op op_cat (pe_lst (pa_cons pe_int pa_nil)) (pv 8)) (pe_lc (own := [("_law_near", 6), ("_law_far", 7)]) (g := gTup K 2 (gCons (gName 6) (gCons (gName 7) gNil))) (tt := tYes) rfl sc_right.nd (pi_listK (K := K) (pv 4)) (blkOk_by (own := [("_law_near", 6), ("_law_far", 7)]) (N := ["_law_pot_here", "_law_label", "_law_letter", "_law_step", "_law_numbers", "_law_k", "_law_near", "_law_far", "_law_last", "_law_ties", "_law_web_here", "_law_number", "_law_begin", "_law_long", "_law_many", "_law_rows"]) (sc := defScope s_right) (by decide +kernel)) (fun _ _ _ _ _ => pg_tupK (K := K) (n := 2) rfl (pgs_cons (pg_name (i := 6) sc_right.nd rfl (by first | exact Or.inl rfl | exact Or.inr rfl)) (pgs_cons (pg_name (i := 7) sc_right.nd rfl (by first | exact Or.inl rfl | exact Or.inr rfl)) pgs_nil))) (fun _ _ _ _ _ => pts_nil) (fun _ _ _ _ _ => (pv 6)))) pa_nil))))) pss_nil)
      (pss_cons (ps_setLc (i := 15) (own := [("_law_number", 11)]) (g := gName 11) (tt := tYes) rfl sc_right.nd rfl rfl (sw_true rfl rfl rfl (by decide +kernel)) (pi_range1 (by rfl) T.m_range (pa_cons (pv 14) pa_nil)) (blkOk_by (own := [("_law_number", 11)]) (N := ["_law_pot_here", "_law_label", "_law_letter", "_law_step", "_law_numbers", "_law_k", "_law_near", "_law_far", "_law_last", "_law_ties", "_law_web_here", "_law_number", "_law_begin", "_law_long", "_law_many", "_law_rows"]) (sc := defScope s_right) (by decide +kernel)) (fun _ _ _ _ _ => pg_name (i := 11) sc_right.nd rfl (by first | exact Or.inl rfl | exact Or.inr rfl)) (fun _ _ _ _ _ => pts_nil) (fun _ _ _ _ _ => (pe_cal d_law_row gd hr (pa_cons (pv 1) (pa_cons (pv 2) (pa_cons (pv 11) pa_nil))))))
      (pss_cons (ps_if (PW.pt (pw_or (pt_cmpR op_ne (pe_callB (call_lenSp LWb hr) (by rfl) T.m_len (by decide +kernel) (pa_cons (pv 10) pa_nil)) (pv 14) (nomark _)) (pw_or (pt_cmpR (op_neDK (K := K) hr.units) (pe_meO0 OWb.cl MKn (pv 10) hr pass0) (pv 15) (nomark _)) (pw_or1 (pt_cmpR op_ne (pe_propO PTr (pv 10) hr) (pe_cmpR op_eq (pv 13) pe_int (nomark _)) (nomark _)))))) (pss_one (ps_ret pe_bl)) pss_nil)
      (pss_cons (ps_if (pt_cmpR (op_neDK (K := K) hr.units) (pe_meO0 OWb.cl MPa (pv 10) hr pass0) (pe_ifExp (pt_cmpR op_gt (pv 13) pe_int (nomark _)) (pe_lst (pa_cons (pe_tup (pa_cons (pe_cal d_law_row gd hr (pa_cons (pv 1) (pa_cons (pv 2) (pa_cons (pv 14) pa_nil)))) (pa_cons (pe_ix (ix_listK (K := K)) (pv 15) (pv 12) (fun _ _ => rfl)) pa_nil))) pa_nil)) (pe_lst pa_nil)) (nomark _)) (pss_one (ps_ret pe_bl)) pss_nil)
      (pss_one (ps_ret (pe_and (pe_cal d_law_spots_right gd hr (pa_cons (pv 0) (pa_cons (pv 10) (pa_cons (pv 15) (pa_cons (pv 12) (pa_cons (pv 13) pa_nil)))))) (pe_one (pe_cmpR (op_eqSp EWb hr) (pe_mkW3 MWb hr passE0 (pa_cons (pe_lst (pa_cons (pv 1) pa_nil)) (pa_cons (pe_meO0 OWb.cl MKn (pv 10) hr pass0) (pa_cons (pe_meO0 OWb.cl MPa (pv 10) hr pass0) pa_nil)))) (pv 10) (nomark _)))))))))))))))))))))), ?_⟩
    obtain ⟨p, rfl, hpo, htt, q⟩ := h
    have o : Ok (Zp TT p) H := ⟨htt, fun x m => by rw [show x = p from m]; exact hpo⟩
    -- the thing and the letter
    refine q_asgG (pick_l (xs := [V.str "a", V.str "f", V.str "thing", V.str "x"]) o (ev_var rfl) (el_lst (ea_cons ev_c (ea_cons ev_c (ea_cons ev_c (ea_cons ev_c ea_nil)))) (by show 4 ≤ 100000; decide)) (by decide) (by decide) fun v1 H1 m1 r1 => ?_)
    refine pick_l (xs := [V.str "f", V.str "a", V.str "letter"]) r1.b (ev_var (by rfl)) (el_lst (ea_cons ev_c (ea_cons ev_c (ea_cons ev_c ea_nil))) (by show 3 ≤ 100000; decide)) (by decide) (by decide) fun v2 H2 m2 r2 => ⟨two_le, fun tt ht => ?_⟩
    obtain ⟨lb, rfl, hb⟩ : ∃ s, v1 = .str s ∧ isL s = true := by
      simp only [List.mem_cons, List.not_mem_nil, or_false] at m1
      rcases m1 with rfl | rfl | rfl | rfl <;> exact ⟨_, rfl, by decide +kernel⟩
    obtain ⟨lt, rfl, hlt⟩ : ∃ s, v2 = .str s ∧ isL s = true := by
      simp only [List.mem_cons, List.not_mem_nil, or_false] at m2
      rcases m2 with rfl | rfl | rfl <;> exact ⟨_, rfl, by decide +kernel⟩
    have r3 := (r1.trans r2).ex (Ex.new (o := .tup [.str lb, .str lt]) ht)
    refine ⟨tt, _, rfl, SqT.of upd_same, rfl, _, _, rfl, _, _, rfl, rfl, ?_⟩
    generalize upd H2 tt (.tup [.str lb, .str lt]) = H3 at r3
    show tSeq _ _ _ [some (.ref p), some (.str lb), some (.str lt), none, none, none, none, none, none, none, none, none, none, none, none, none] H3
    -- the step
    refine q_asgX (pick_l (xs := [V.int 1, V.int 1, V.int 2, V.int 3, V.int 4, V.int 6]) r3.b (ev_var rfl) (el_lst (ea_cons ev_c (ea_cons ev_c (ea_cons ev_c (ea_cons ev_c (ea_cons ev_c (ea_cons ev_c ea_nil)))))) (by show 6 ≤ 100000; decide)) (by decide) (by decide) fun v3 H4 m3 r34 => ?_)
    have r4 := r3.trans r34
    obtain ⟨st, rfl, hst⟩ : ∃ s : Nat, v3 = .int (s : Int) ∧ s ≤ 6 := by
      simp only [List.mem_cons, List.not_mem_nil, or_false] at m3
      rcases m3 with rfl | rfl | rfl | rfl | rfl | rfl
      · exact ⟨1, rfl, by decide⟩
      · exact ⟨1, rfl, by decide⟩
      · exact ⟨2, rfl, by decide⟩
      · exact ⟨3, rfl, by decide⟩
      · exact ⟨4, rfl, by decide⟩
      · exact ⟨6, rfl, by decide⟩
    show tSeq _ _ _ [some (.ref p), some (.str lb), some (.str lt), some (.int (st : Int)), none, none, none, none, none, none, none, none, none, none, none, none] H4
    -- the numbers
    refine q_asgX (draw_n (m := 5) r4.b (ev_var rfl) ev_c (by decide) (by decide) fun d H5 hd r45 => ⟨_, rfl, by omega, by omega, fun D hD => ?_⟩)
    have r5 := r4.trans r45
    refine lcD_R1 (Z := Zp TT p) (n := d) (B := fun H v => ∃ q : Nat × Nat, (q.1 ≤ 11 ∧ q.2 ≤ 28) ∧ PairV H v q) r5.b hD (by omega) st_pairV (fun _ => rfl) (fun i H6 hi r6 Q k => ?_) (fun us H6 r6 hu hlen hb2 => ?_)
    · refine draw_n (m := 12) r6.b (ev_var (by rfl)) ev_c (by decide) (by decide) fun d1 H7 hd1 r7 => draw_n (m := 28) r7.b (ev_var (by rfl)) ev_c (by decide) (by decide) fun d2 H8 hd2 r8 => ⟨two_le, fun t ht => k _ _ ((r7.trans r8).ex (Ex.new ht)) ⟨(d1, d2), ⟨by show d1 ≤ 11; omega, by show d2 ≤ 28; omega⟩, t, rfl, upd_same⟩⟩
    obtain ⟨ps, hps, cps⟩ := paired_ex hb2
    have nD : ¬ (Zp TT p).M D := r5.b.fresh (fr_none hD)
    have r06 := r5.trans r6
    have lps : ps.length ≤ 4 := by have := Paired.length hps; omega
    refine q_rest (fun σ' H' => ∃ (l : Addr) (us : List V) (ps : List (Nat × Nat)) (c5 c6 c7 : Option V), σ' = [some (.ref p), some (.str lb), some (.str lt), some (.int (st : Int)), some (.ref l), c5, c6, c7, none, none, none, none, none, none, none, none] ∧ R (Zp TT p) H H' ∧ H' l = some (.lst us) ∧ Paired (PairV H') us ps ∧ ps.length ≤ 4 ∧ (∀ q ∈ ps, q.1 ≤ 28 ∧ q.2 ≤ 28) ∧ ¬ (Zp TT p).M l) (fun σ' H' hJ => ?_) (fun tz' hz => ?_)
    rotate_left
    · refine q_ifDr r06.b rfl (by decide) (by decide) (fun H7 r7 => ?_) (fun H7 r7 => hz _ _ ⟨D, us, ps, none, none, none, rfl, r06.trans r7, r7.lst hu nD, paired_mono (fun _ _ r => pairV_R r7 r) hps, lps, fun q hq => ⟨by have := cps q hq; omega, (cps q hq).2⟩, nD⟩)
      have hu7 := r7.lst hu nD
      have hp7 := paired_mono (fun _ _ r => pairV_R r7 r) hps
      refine q_asg1 ⟨_, rfl, D, rfl, ⟨us, SqL.of hu7⟩, fun D2 hD2 => ?_⟩
      have lu := Paired.length hps
      refine lc_bld walk_list (fun H u q => PairV H u q) (fun e r => pairV_ex e r) (fun h1 r => pairV_upd h1 (fun _ z => by cases z) r) (ys := ps.map fun q => (q.1, q.1 + st * (q.2 % 3))) (by rw [List.length_map, lu]) (by omega) hD2 (fun H2 e2 => SqL.of (e2 _ _ hu7)) (fun n x y H8 H9 Q hy e2 yl kk => ?_) fun us2 H8 e8 h8 p8 => ?_
      · obtain ⟨rfl, hx⟩ := yl
        rw [List.getElem?_map] at hy
        obtain ⟨q0, hq0, rfl⟩ := Option.map_eq_some_iff.mp hy
        obtain ⟨q1, hq1, tt, rfl, ht⟩ := paired_at hp7 hx
        rw [hq0] at hq1
        cases hq1
        refine ⟨tt, _, rfl, SqT.of (e2 _ _ ht), rfl, _, _, rfl, _, _, rfl, rfl, rfl, ?_⟩
        have z : ((q0.1 + st * (q0.2 % 3) : Nat) : Int) = (q0.1 : Int) + (st : Int) * ((q0.2 : Int) % (3 : Int)) := by
          rw [Int.natCast_add, Int.natCast_mul, Int.natCast_emod]
          rfl
        refine ev_pair (ev_var rfl) (ev_op (ev_var rfl) (ev_op (ev_var rfl) (ev_op (ev_var rfl) ev_c (rv_I (by decide))) (rv_I (.inl ⟨by omega, by omega⟩))) rv_I0) fun t H10 ht2 e10 h10 => kk _ _ e10 ⟨t, rfl, ?_⟩
        rw [z]
        exact h10
      · refine hz _ _ ⟨D2, us2, _, none, none, none, rfl, (r06.trans r7).ex e8, h8, p8, by rw [List.length_map]; exact lps, fun q hq => ?_, r7.b.fresh (fr_none hD2)⟩
        obtain ⟨q0, hq0, rfl⟩ := List.mem_map.mp hq
        have c := cps q0 hq0
        have m := Nat.mul_le_mul hst (show q0.2 % 3 ≤ 2 by omega)
        dsimp only
        omega
    clear hb2 hps cps lps hu
    obtain ⟨l4, us4, ps, c5, c6, c7, rfl, r7, h4, p4, lps, cps, n4⟩ := hJ
    -- the last ones
    refine q_asgX (draw_n (m := 3) r7.b (ev_var rfl) ev_c (by decide) (by decide) fun d2 H8 hd2 r78 => ⟨_, rfl, by omega, by omega, fun D8 hD8 => ?_⟩)
    have r8 := r7.trans r78
    refine lcD_R1 (Z := Zp TT p) (n := d2) (B := fun _ v => ∃ n : Nat, n ≤ 28 ∧ v = .int (n : Int)) r8.b hD8 (by omega) st_pure (fun _ => rfl) (fun i H9 hi r9 Q k => ?_) (fun us8 H9 r89 hu8 hlen8 hb8 => ?_)
    · exact draw_n (m := 29) r9.b (ev_var (by rfl)) ev_c (by decide) (by decide) fun d1 H10 hd1 r10 => k _ _ r10 ⟨d1, by omega, rfl⟩
    obtain ⟨ts, pts, cts⟩ := paired_ex (B := fun (v : V) (n : Nat) => v = V.int (n : Int)) (C := fun n => n ≤ 28) hb8
    have r9 := r8.trans r89
    have n8 : ¬ (Zp TT p).M D8 := r8.b.fresh (fr_none hD8)
    have lts : ts.length ≤ 2 := by have := Paired.length pts; omega
    have h49 := (r78.trans r89).lst h4 n4
    have p49 := paired_mono (fun _ _ r => pairV_R (r78.trans r89) r) p4
    -- the ties
    refine q_asgT ⟨(by show 0 ≤ sizeLine; decide), fun D9 hD9 => ?_⟩
    have f9 := r9.fr (fr_none hD9)
    have n9 : ¬ (Zp TT p).M D9 := r9.b.fresh (fr_none hD9)
    have l4l : us4.length = ps.length := Paired.length p4
    refine q_forL (ev_var rfl) (SqL.of ((Ex.new hD9) _ _ h49)) (fun i σ H' => ∃ (us : List V) (c6 c7 : Option V), σ = [some (.ref p), some (.str lb), some (.str lt), some (.int (st : Int)), some (.ref l4), c5, c6, c7, some (.ref D8), some (.ref D9), none, none, none, none, none, none] ∧ R (Zp TT p) H9 H' ∧ H' D9 = some (.lst us) ∧ Paired (PairT K H') us (psT lb lt (ps.take i))) (fun G e => ⟨[], _, _, rfl, (Rm.R.new (.refl r9.b) hD9).ex e, e _ _ upd_same, .nil⟩) (fun i σ G hi hP => ?_) (fun i x σ G hx hP => ?_) (fun σ G hP => ?_)
    · obtain ⟨us, c6, c7, rfl, rG, _⟩ := hP
      exact SqL.of (rG.lst h49 n4)
    · obtain ⟨us, c6, c7, rfl, rG, hG, pG⟩ := hP
      obtain ⟨q0, hq0, tt, rfl, ht⟩ := paired_at p49 hx
      have c := cps q0 (List.mem_of_getElem? hq0)
      refine ⟨tt, _, rfl, SqT.of (rG.tup ht), rfl, _, _, rfl, _, _, rfl, rfl, ?_⟩
      have lus := Paired.length pG
      rw [List.length_map, List.length_take] at lus
      refine s_appP (x := rwC lb lt q0.1) (y := rwC lb lt q0.2) hG (ev_var rfl) (ew_row (ev_var rfl) (ev_var rfl) (ev_var rfl) (by omega)) (ew_row (ev_var rfl) (ev_var rfl) (ev_var rfl) (by omega)) (sz_lt (by omega)) fun v H10 e10 hv => ⟨_, _, _, rfl, ?_, upd_same, ?_⟩
      · exact Rm.R.mut (rG.ex e10) (fr_none hD9) (e10 _ _ hG) trivial
      · rw [take_get hq0, show psT lb lt (ps.take i ++ [q0]) = psT lb lt (ps.take i) ++ [(rwC lb lt q0.1, rwC lb lt q0.2)] from List.map_append ..]
        exact paired_app (paired_mono (fun _ _ r => pairT_upd (e10 _ _ hG) (pairT_mono e10 r)) pG) (.cons (pairT_upd (e10 _ _ hG) hv) .nil)
    obtain ⟨us9, c6, c7, rfl, rG, hG, pG⟩ := hP
    rw [l4l, List.take_length] at pG
    -- the web
    obtain ⟨m, N, hm1, hm2⟩ := Wp.rho_exF ts ps
    have sm := Wp.rhoF_small cps
    have few := Wp.rho_few N cts cps
    have m0 := Wp.rho_pos N
    have wo : WbL (rhoL lb lt (Wp.rhoF ps).1 (Wp.rhoF ps).2 m) := rho_wbl N (by omega)
    have r0G := r9.trans rG
    have hu8G := rG.lst hu8 n8
    refine q_asgX ⟨_, rfl, _, rfl, _, rfl, D8, rfl, ⟨us8, SqL.of hu8G⟩, fun D1 hD1 => ?_⟩
    refine lc_bld walk_list (Wd K) wd_mono (fun h r => wd_upd h r) (ys := ts.map (rwC lb lt)) (by rw [List.length_map, Paired.length pts]) (by have := Paired.length pts; omega) hD1 (fun H2 e2 => SqL.of (e2 _ _ hu8G)) (fun n x y H2 H3 Q hy e2 yl kk => ?_) fun us1 H10 e10 h10 p10 => ?_
    · obtain ⟨rfl, hx⟩ := yl
      rw [List.getElem?_map] at hy
      obtain ⟨k, hk, rfl⟩ := Option.map_eq_some_iff.mp hy
      obtain ⟨k2, hk2, rfl⟩ := paired_at pts hx
      rw [hk] at hk2
      cases hk2
      have ck := cts k (List.mem_of_getElem? hk)
      refine ⟨rfl, ?_⟩
      exact ew_row (n := k) (ev_var (by rfl)) (ev_var (by rfl)) (ev_var (by rfl)) (by omega) _ (Ex.refl _) _ fun v H4 e4 hv => kk v H4 e4 hv
    have r10 := r0G.ex e10
    have nD1 : ¬ (Zp TT p).M D1 := r0G.b.fresh (fr_none hD1)
    refine ⟨_, rfl, p, D1, D9, lb, lt, us1, us9, ts, ps, _, _, m, rfl, r10.b, hb, hlt, h10, p10, e10 _ _ hG, paired_mono (fun _ _ r => pairT_mono e10 r) pG, nD1, n9, lts, lps, cts, cps, N, fun a H11 fa r11 hW => ?_⟩
    have r011 := r10.trans r11
    have h411 := ((rG.ex e10).trans r11).lst h49 n4
    have p411 := paired_mono (fun _ _ r => pairV_R ((rG.ex e10).trans r11) r) p49
    have hu811 := r11.lst (e10 _ _ hu8G) n8
    clear pG hG p10 h10 hD1 nD1
    -- begin and length
    refine q_asgG ⟨two_le, fun tt htt => ?_⟩
    have e12 := Ex.new (o := .tup [V.int 0, V.int 0]) htt
    refine ⟨tt, _, rfl, SqT.of upd_same, rfl, _, _, rfl, _, _, rfl, rfl, ?_⟩
    generalize upd H11 tt (.tup [V.int 0, V.int 0]) = H12 at e12
    have r012 := r011.ex e12
    refine q_forL (ev_var rfl) (SqL.of (e12 _ _ h411)) (fun i σ H' => ∃ (c6 c7 : Option V), σ = [some (.ref p), some (.str lb), some (.str lt), some (.int (st : Int)), some (.ref l4), c5, c6, c7, some (.ref D8), some (.ref D9), some (.ref a), none, some (.int ((Wp.rhoF (ps.take i)).1 : Nat)), some (.int ((Wp.rhoF (ps.take i)).2 : Nat)), none, none] ∧ R (Zp TT p) H11 H') (fun G e => ⟨_, _, rfl, (Rm.R.of r011.b e12).ex e⟩) (fun i σ G hi hP => ?_) (fun i x σ G hx hP => ?_) (fun σ G hP => ?_)
    · obtain ⟨c6, c7, rfl, rG⟩ := hP
      exact SqL.of (rG.lst h411 n4)
    · obtain ⟨c6, c7, rfl, rG⟩ := hP
      obtain ⟨q0, hq0, tt, rfl, ht⟩ := paired_at p411 hx
      have c := cps q0 (List.mem_of_getElem? hq0)
      have sm := Wp.rhoF_small (ps := ps.take i) fun q hq => cps q (List.mem_of_mem_take hq)
      rw [take_get hq0, Wp.rhoF_snoc]
      generalize Wp.rhoF (ps.take i) = sti at sm
      obtain ⟨b, g⟩ := sti
      refine ⟨tt, _, rfl, SqT.of (rG.tup ht), rfl, _, _, rfl, _, _, rfl, rfl, ?_⟩
      refine s_when (b := !decide (V.int (q0.1 : Int) = V.int (q0.2 : Int))) (et_test (ev_op (ev_var rfl) (ev_var rfl) (rv_ne rfl))) (fun z G1 eG => ?_) (fun z G1 eG => ?_)
      · have ne : ¬ q0.1 = q0.2 := fun e => by rw [e, decide_eq_true rfl] at z; cases z
        have e1 : Wp.rhoS (b, g) q0 = (if g = 0 then min q0.1 q0.2 else min (min b q0.1) q0.2, Nat.gcd g (Wp.dif q0)) := by
          unfold Wp.rhoS
          rw [if_neg ne]
        rw [e1]
        refine q_asg (v := .int ((if g = 0 then min q0.1 q0.2 else min (min b q0.1) q0.2 : Nat) : Int)) (ev_if (b := decide (V.int (g : Int) = V.int 0)) (et_test (ev_op (ev_var rfl) ev_c (rv_eq rfl))) (fun c => ?_) (fun c => ?_)) fun G2 e2 => ?_
        · have g0 : g = 0 := by have := of_decide_eq_true c; injection this with this; omega
          rw [if_pos g0]
          exact ev_min2 (ev_var rfl) (ev_var rfl)
        · have g0 : ¬ g = 0 := fun e => of_decide_eq_false c (by rw [e]; rfl)
          rw [if_neg g0]
          exact ev_min3 (ev_var rfl) (ev_var rfl) (ev_var rfl)
        · refine s_asg (ev_divL (a := Wp.dif (q0.1, q0.2)) (b := g) (ev_absD (ev_op (ev_var rfl) (ev_var rfl) rv_I0)) (ev_var rfl) (by have := sm.2; omega)) fun G3 e3 => ⟨_, _, rfl, rG.ex ((eG.trans e2).trans e3)⟩
      · have eq : q0.1 = q0.2 := by
          have z2 : decide (V.int (q0.1 : Int) = V.int (q0.2 : Int)) = true := by
            cases h : decide (V.int (q0.1 : Int) = V.int (q0.2 : Int)) with
            | true => rfl
            | false => rw [h] at z; cases z
          have := of_decide_eq_true z2
          injection this with this
          omega
        have e1 : Wp.rhoS (b, g) q0 = (b, g) := by
          unfold Wp.rhoS
          rw [if_pos eq]
        rw [e1]
        exact ⟨_, _, rfl, rG.ex eG⟩
    obtain ⟨c6, c7, rfl, r13⟩ := hP
    rw [l4l, List.take_length]
    generalize hst2 : Wp.rhoF ps = sg at hm1 hm2 sm few N wo hW
    obtain ⟨b, g⟩ := sg
    dsimp only at hm1 hm2 sm few N wo hW
    dsimp only
    clear hst2
    have r013 := r011.trans r13
    have hW := wb_R r13 hW
    have h4 := r13.lst h411 n4
    have p4 := paired_mono (fun _ _ r => pairV_R r13 r) p411
    have hu8 := r13.lst hu811 n8
    -- how many
    refine q_asg (v := .int ((b + g : Nat) : Int)) (by rw [Int.natCast_add]; exact ev_op (ev_var rfl) (ev_var rfl) rv_I0) fun H14 e14 => ?_
    refine q_rest (fun σ' H' => ∃ (c11 : Option V), σ' = [some (.ref p), some (.str lb), some (.str lt), some (.int (st : Int)), some (.ref l4), c5, c6, c7, some (.ref D8), some (.ref D9), some (.ref a), c11, some (.int (b : Int)), some (.int (g : Int)), some (.int (m : Int)), none] ∧ Ex H14 H') (fun σ' H' hJ => ?_) (fun tz' hz => ?_)
    rotate_left
    · refine q_when (b := decide (V.int (g : Int) = V.int 0)) (et_test (ev_op (ev_var rfl) ev_c (rv_eq rfl))) (fun z G eG => ?_) (fun z G eG => ?_)
      · have g0 : g = 0 := by have := of_decide_eq_true z; injection this with this; omega
        obtain ⟨k, hk1, hk2, hk3⟩ := hm2 g0
        have eus : us8 = ts.map fun n : Nat => V.int (n : Int) := ints_eq pts
        have lz : ts.length + ps.length ≤ 6 := by omega
        have e1G := e14.trans eG
        have mx := ev_maxN (K := K) (σ := [some (.ref p), some (.str lb), some (.str lt), some (.int (st : Int)), some (.ref l4), c5, c6, c7, some (.ref D8), some (.ref D9), some (.ref a), none, some (.int (b : Int)), some (.int (g : Int)), some (.int ((b + g : Nat) : Int)), none]) (H := G) (ks := [0] ++ ts ++ ps.map (·.1)) (k := k)
          (te := tOp rCat (tOp rCat (tLst (tCons (tC (.int 0)) tNil)) (tVar 8)) (tLc (iList K (tVar 4)) (gTup K 2 (gCons (gName 6) (gCons (gName 7) gNil))) tYes (tVar 6) [6, 7])) (by
            rw [List.map_append, List.map_append]
            exact el_cat (el_catLV (el_lst (ea_cons ev_c ea_nil) (by show 1 ≤ 100000; decide)) (ev_var rfl) (e1G _ _ (eus ▸ hu8)) (by simp only [List.length_map, List.length_cons, List.length_nil]; omega)) (el_firsts rfl (e1G _ _ h4) (paired_mono (fun _ _ r => pairV_ex e1G r) p4) (by omega) (fun _ _ => rfl) (fun _ _ => rfl)) (by simp only [List.length_append, List.length_map, List.length_cons, List.length_nil]; omega)) hk2 hk3
        refine q_asg1 ((ev_op (x := .int 1) (y := .int (k : Int)) (z := .int ((m : Nat) : Int)) ev_c mx (by rw [hk1, Int.natCast_add]; exact rv_I0)) G (Ex.refl G) _ fun G2 e2 => ?_)
        exact hz _ _ ⟨_, rfl, eG.trans e2⟩
      · have g0 : g ≠ 0 := fun e => of_decide_eq_false z (by rw [e]; rfl)
        rw [← hm1 g0]
        exact hz _ _ ⟨_, rfl, eG⟩
    obtain ⟨c11, rfl, eJ⟩ := hJ
    have e15 := e14.trans eJ
    have r015 := r013.ex e15
    have hW := wb_ex e15 hW
    clear eJ e14 hm1 hm2 p4 h4 hu8
    -- the rows
    refine q_asgX ⟨_, rfl, _, rfl, by omega, by omega, fun D15 hD15 => ?_⟩
    refine lc_bld (walk_range (lo := 0) (n := m)) (Wd K) wd_mono (fun h r => wd_upd h r) (ys := (List.range m).map (rwC lb lt)) (by rw [List.length_map, List.length_range]) (by omega) hD15 (fun H2 e2 => trivial) (fun n x y H2 H3 Q hy e2 yl kk => ?_) fun us15 H16 e16 h16 p16 => ?_
    · obtain ⟨rfl, rfl⟩ := yl
      have hn : n < m := by
        have := (List.getElem?_eq_some_iff.mp hy).1
        rw [List.length_map, List.length_range] at this
        exact this
      rw [List.getElem?_map, List.getElem?_range hn] at hy
      obtain rfl := Option.some.inj hy
      dsimp only
      rw [Int.zero_add]
      refine ⟨rfl, ?_⟩
      exact ew_row (n := n) (ev_var (by rfl)) (ev_var (by rfl)) (ev_var (by rfl)) (by omega) _ (Ex.refl _) _ fun v H4 e4 hv => kk v H4 e4 hv
    have n15 : ¬ (Zp TT p).M D15 := r015.b.fresh (fr_none hD15)
    have r016 := r015.ex e16
    have hW := wb_ex e16 hW
    have ll := Wp.rho_len (lb := lb) (lt := lt) (b := b) (g := g) (m := m)
    have dr : (Wp.least (rhoL lb lt b g m)).drop 1 = (List.range m).map (rwC lb lt) := by rw [rho_least N]; rfl
    have kn : ∀ t ∈ (List.range m).map (rwC lb lt), LL t := fun t ht => by
      obtain ⟨n, _, rfl⟩ := List.mem_map.mp ht
      exact row_LL hb hlt
    have emp : (pairsL (rhoL lb lt b g m)).isEmpty = decide (V.int (g : Int) = V.int 0) := by
      rw [rho_pairs N]
      by_cases c : g = 0
      · rw [if_pos c, c]; rfl
      · rw [if_neg c, decide_eq_false fun z => c (by injection z with z; omega)]
        rfl
    show tSeq _ _ _ [some (.ref p), some (.str lb), some (.str lt), some (.int (st : Int)), some (.ref l4), c5, c6, c7, some (.ref D8), some (.ref D9), some (.ref a), c11, some (.int (b : Int)), some (.int (g : Int)), some (.int (m : Int)), some (.ref D15)] H16
    refine q_when (b := !decide (V.int ((((Wp.least (rhoL lb lt b g m)).drop 1).length : Nat) : Int) = V.int (m : Int)) || (!decide ((Wp.least (rhoL lb lt b g m)).drop 1 = (List.range m).map (rwC lb lt)) || !decide (V.bl (pairsL (rhoL lb lt b g m)).isEmpty = V.bl (decide (V.int (g : Int) = V.int 0))))) (et_or (et_test (ev_op (ev_wlen (K := K) (ev_var rfl) hW wo) (ev_var rfl) (rv_ne rfl))) fun _ => et_or (et_test (ev_neTv (K := K) (elw_wknots (ev_var rfl) hW wo) (ev_var rfl) ⟨us15, h16, p16⟩ (by rw [dr]; exact kn) kn)) fun _ => et_test (ev_op (ev_wtree (K := K) (ev_var rfl) hW wo (rho_isT N hb hlt) (rho_isL hb hlt)) (ev_op (ev_var rfl) ev_c (rv_eq rfl)) (rv_ne rfl))) (fun z => ?_) (fun _ H17 e17 => ?_)
    · rw [dr, emp, List.length_map, List.length_range, decide_eq_true rfl, decide_eq_true rfl, decide_eq_true rfl] at z
      cases z
    have e17' := e17
    have h17 := e17 _ _ h16
    have p17 := paired_mono (fun _ _ r => wd_mono e17 r) p16
    have r017 := r016.ex e17
    have hW := wb_ex e17 hW
    have pr : pairsL (rhoL lb lt b g m) = if g = 0 then [] else [(rwC lb lt m, rwC lb lt b)] := rho_pairs N
    have LLp : ∀ q ∈ pairsL (rhoL lb lt b g m), LL q.1 ∧ LL q.2 := fun q hq => by
      rw [pr] at hq
      split at hq
      · exact absurd hq List.not_mem_nil
      · rw [List.mem_singleton.mp hq]
        exact ⟨row_LL hb hlt, row_LL hb hlt⟩
    refine q_when (b := !decide (pairsL (rhoL lb lt b g m) = pairsL (rhoL lb lt b g m))) (et_test (ev_nePs (K := K) (eb_wpairs (ev_var rfl) hW wo (rho_isT N hb hlt) (rho_isL hb hlt)) ?_ LLp LLp)) (fun z => by rw [decide_eq_true rfl] at z; cases z) (fun _ H18 e18 => ?_)
    · intro H1 e Q q
      refine (et_test (ev_op (ev_var (by rfl)) ev_c rv_I0) : EvT _ _ _ (decide ((g : Int) > 0))) H1 e _ fun H2 e2 => ?_
      by_cases c : g = 0
      · rw [if_neg (by rw [decide_eq_false (by omega)]; exact Bool.false_ne_true)]
        refine ⟨Nat.zero_le _, fun r nr => q r _ [] (fresh_back e2 nr) (e2.trans (Ex.new nr)) upd_same ?_⟩
        rw [pr, if_pos c]
        exact .nil
      · have bm := Wp.rho_lt N c
        obtain ⟨vb, hvb⟩ : ∃ v, us15[b]? = some v := ⟨us15[b]'(by have := Paired.length p17; rw [List.length_map, List.length_range] at this; omega), List.getElem?_eq_getElem _⟩
        obtain ⟨yb, hyb, wb⟩ := paired_at p17 hvb
        rw [List.getElem?_map, List.getElem?_range bm] at hyb
        obtain rfl := Option.some.inj hyb
        rw [if_pos (by rw [decide_eq_true (by omega)])]
        have e12 := e.trans e2
        refine ew_row (n := m) (ev_var (by rfl)) (ev_var (by rfl)) (ev_var (by rfl)) (by omega) H2 (Ex.refl H2) _ fun v H3 e3 hv => ?_
        refine (ev_op (ev_var (by rfl)) (ev_var (by rfl)) (rv_ixL (SqL.of ((e12.trans e3) _ _ h17)) (atI_nat hvb)) : Ev _ _ H3 vb) H3 (Ex.refl H3) _ fun H4 e4 => ⟨two_le, fun t ht => ⟨(by show 1 ≤ sizeLine; decide), fun r nr => ?_⟩⟩
        have e5 := (Ex.new (o := .tup [v, vb]) ht)
        have e6 := (Ex.new (o := .lst [.ref t]) nr)
        refine q r _ [.ref t] (fresh_back (((e2.trans e3).trans e4).trans e5) nr) ((((e2.trans e3).trans e4).trans e5).trans e6) upd_same ?_
        rw [pr, if_neg c]
        exact .cons ⟨t, v, vb, rfl, e6 _ _ upd_same, wd_mono ((e4.trans e5).trans e6) hv, wd_mono ((((e12.trans e3).trans e4).trans e5).trans e6) wb⟩ .nil
    have h18 := e18 _ _ h17
    have p18 := paired_mono (fun _ _ r => wd_mono e18 r) p17
    have r018 := r017.ex e18
    have hW := wb_ex e18 hW
    have pT : psT lb lt (if g = 0 then [] else [(m, b)]) = pairsL (rhoL lb lt b g m) := by
      rw [pr]
      split <;> rfl
    have fitA : FitL [] (([lb].map fun x => [x]) ++ (List.range m).map (rwC lb lt)) (pairsL (rhoL lb lt b g m)) := by
      rw [← pT]
      refine once_fit (Wp.rho_again N) (by omega) ?_
      have s1 := size_range (lb := lb) (lt := lt) m
      have s2 := size_pairs (ps := if g = 0 then [] else [(m, b)]) (lb := lb) (lt := lt) (c := 100) fun q hq => by
        split at hq
        · exact absurd hq List.not_mem_nil
        · rw [List.mem_singleton.mp hq]
          show m + b ≤ 100
          omega
      have s3 : (if g = 0 then [] else [(m, b)]).length ≤ 1 := by split <;> simp
      have e : sizeT (tsT lb lt (List.range m)) (psT lb lt (if g = 0 then [] else [(m, b)])) = 1 + (((List.range m).map (rwC lb lt)).map List.length).sum + ((psT lb lt (if g = 0 then [] else [(m, b)])).map fun p => p.1.length + p.2.length).sum := by
        unfold sizeT tsT
        rw [List.map_append, List.sum_append]
        rfl
      rw [e]
      have := Nat.mul_le_mul (show m ≤ 57 by omega) (show m + 1 ≤ 58 by omega)
      have := Nat.mul_le_mul_right (100 + 2) s3
      omega
    have again : webL [lb] ((List.range m).map (rwC lb lt)) (pairsL (rhoL lb lt b g m)) = rhoL lb lt b g m := by
      rw [← pT]
      exact Wp.rho_once (Wp.rho_again N)
    refine Rm.s_ret (Z := Zp TT p) (v := .bl (true && true)) r018.b (Rm.ew_andV (fun G r Q k => ⟨_, rfl, _, rfl, _, rfl, _, rfl, _, rfl, p, a, D15, lb, lt, us15, ts, ps, b, g, m, rfl, r.b, hb, hlt, wb_R r hW, N, (by omega), r.lst h18 n15, paired_mono (fun _ _ z => Rm.wd_R r z) p18, n15, fun G2 r2 => k G2 r2⟩) fun _ G r Q k => ?_) fun G r => q G (r018.trans r)
    refine wb_make2 (Z := Zp TT p) (xs := [lb]) (ts := (List.range m).map (rwC lb lt)) (ps := pairsL (rhoL lb lt b g m)) r.b fitA (by show 1 ≤ 100; decide) (by rw [List.length_map, List.length_range]; omega) (by rw [pr]; split <;> simp) (fun Q k => ?_) fun a2 G2 fa2 r2 hW2 => ?_
    · have hWG := wb_R r hW
      refine (el_lst (ea_cons (ev_var (by rfl)) ea_nil) (by show 1 ≤ 100000; decide) : EvL _ _ G [V.str lb]) G (Ex.refl G) _ fun l1 G1 n1 e1 h1 => ?_
      refine elw_wknots (K := K) (ev_var (by rfl)) (wb_ex e1 hWG) wo G1 (Ex.refl G1) _ fun l2 G2 n2 e2 h2 => ?_
      refine eb_wpairs (K := K) (ev_var (by rfl)) (wb_ex (e1.trans e2) hWG) wo (rho_isT N hb hlt) (rho_isL hb hlt) G2 (Ex.refl G2) _ fun l3 G3 us3 n3 e3 h3 p3 => ?_
      rw [dr] at h2
      obtain ⟨us2, k1, k2⟩ := h2
      refine k [.ref l1, .ref l2, .ref l3] _ _ _ G3 (.of r.b ((e1.trans e2).trans e3)) rfl ⟨l1, rfl, .inl (.inl (e3 _ _ (e2 _ _ h1))), fun s hs => (List.mem_singleton.mp hs) ▸ hb⟩ ⟨l2, us2, rfl, .inl (.inl (e3 _ _ k1)), paired_mono (fun _ _ r => wd_mono e3 r) k2, fun t ht => ?_⟩ ⟨l3, us3, rfl, .inl (.inl h3), p3, fun q hq => ?_⟩
      · obtain ⟨n, hn, rfl⟩ := List.mem_map.mp ht
        have := List.mem_range.mp hn
        exact ⟨row_T hb hlt, by rw [row_len]; omega⟩
      · rw [pr] at hq
        split at hq
        · exact absurd hq List.not_mem_nil
        · rw [List.mem_singleton.mp hq]
          exact ⟨⟨row_T hb hlt, by rw [row_len]; omega⟩, row_T hb hlt, by rw [row_len]; omega⟩
    · rw [again] at hW2
      have hWa := wb_R (r.trans r2) hW
      obtain ⟨dx, _, _, w1, _⟩ := id hW2
      obtain ⟨dy, _, _, w2, _⟩ := id hWa
      exact ⟨_, rfl, a2, dx, _, rfl, w1, .inr ⟨a, dy, _, rfl, w2⟩, a2, a, _, rfl, hW2, hWa, wo, fun G3 e3 => ⟨true, rfl, k G3 (r2.ex e3)⟩⟩
end
end K35
namespace K35
open PySem PySem.Spec PyProof.Rows L2 Lw Evl LamX Tk TL
open Rm (R Ok Z0 Zp Fr fr_none fr_ne nt_lst nt_tup)
open LwX (XC XF)
section
variable {P : Program} {w : World} {K : PySem.W.Frag} {mg : Str → Option Value} {base : Heap} {TT : List (Addr × Str)}
def spLawT (K : PySem.W.Frag) (T : List (Addr × Str)) : Sp := fun vs H Q _ => ∃ (a : Addr) (ns : List Int), vs = [.ref a] ∧ Tabs T H ∧ SqL K H a (ns.map V.int) ∧ ns.length ≤ 63 ∧ ∀ H', Q (.bl true) H'
abbrev s_law : Stmt := topS 59
theorem sc_law : FnScope ["_law_script", "_law_k"] ["_law_script"] (defScope s_law) := ⟨rfl, rfl, rfl, by decide +kernel, rfl, by decide +kernel, by decide +kernel⟩
theorem ok_law {f : Addr} {fd : FuncData} (F : FunD K "law" "law" (defArgs s_law) (defBody s_law) (defScope s_law) [] [] f fd) (T : Tx P w K mg base) (d_law_pot : Cal P w K mg base CX0 1 "_law_pot" ["_law_script", "_law_k"] (spPot K)) (d_law_right : Cal P w K mg base CX0 11 "_law_right" ["_law_pot_here"] (spRightR TT)) : FnG P w K mg base CX0 12 f fd ["_law_script"] (spLawT K TT) := by
  refine fnG F sc_law (fun vs H Q E h => ?_) (fun cdv A outer s H vs Q E gd hr h => ?_)
  · obtain ⟨a, ns, rfl, _⟩ := h
    rfl
  · skip
    refine ⟨_, PSs.nox ((pss_one (ps_ret (pe_callB (cr_allK (K := K)) (by rfl) T.m_all (by decide +kernel) (pa_cons (pe_lc (own := [("_law_k", 1)]) (g := gName 1) (tt := tYes) rfl sc_law.nd (pi_range1 (by rfl) T.m_range (pa_cons (pe_callB (call_max2 rfl) (by rfl) T.m_max (by decide +kernel) (pa_cons pe_int (pa_cons (pe_callB (call_min2 rfl) (by rfl) T.m_min (by decide +kernel) (pa_cons pe_int (pa_cons (pe_callB (call_lenK (K := K)) (by rfl) T.m_len (by decide +kernel) (pa_cons (pv 0) pa_nil)) pa_nil))) pa_nil))) pa_nil)) (blkOk_by (own := [("_law_k", 1)]) (N := ["_law_script", "_law_k"]) (sc := defScope s_law) (by decide +kernel)) (fun _ _ _ _ _ => pg_name (i := 1) sc_law.nd rfl (by first | exact Or.inl rfl | exact Or.inr rfl)) (fun _ _ _ _ _ => pts_nil) (fun _ _ _ _ _ => (pe_cal d_law_right gd hr (pa_cons (pe_cal d_law_pot gd hr (pa_cons (pv 0) (pa_cons (pv 1) pa_nil))) pa_nil)))) pa_nil))))), ?_⟩
    obtain ⟨a, ns, rfl, htab, hS, hlen, q⟩ := h
    refine ⟨_, rfl, a, _, rfl, .inl hS, _, _, rfl, _, _, rfl, _, rfl, ?_, ?_, fun D hD => ?_⟩
    · split <;> split <;> omega
    · split <;> split <;> omega
    · have hn : ∀ n : Nat, n ≤ 63 → (if (if (n : Int) < (3 : Int) then (n : Int) else 3) > 1 then (if (n : Int) < (3 : Int) then (n : Int) else 3) else 1).toNat ≤ 3 := fun n _ => by split <;> split <;> omega
      have hn3 := hn _ (show (ns.map V.int).length ≤ 63 by rw [List.length_map]; exact hlen)
      refine lc_range (lo := 0) (n := (if (if ((ns.map V.int).length : Int) < (3 : Int) then ((ns.map V.int).length : Int) else 3) > 1 then (if ((ns.map V.int).length : Int) < (3 : Int) then ((ns.map V.int).length : Int) else 3) else 1).toNat) (fun i H' => R (Z0 TT) H H' ∧ H' D = some (.lst (List.replicate i (.bl true)))) ⟨(R.refl (Z := Z0 TT) ⟨htab, fun _ z => z.elim⟩).new hD, upd_same⟩ (fun i H' hi hP => ?_) (fun H' hP => ?_)
      · obtain ⟨e, hl⟩ := hP
        refine ⟨rfl, ?_⟩
        unfold tYes
        dsimp only
        try rw [if_pos rfl]
        refine ⟨_, rfl, _, rfl, a, ns, _, rfl, Rm.sql_R e hS, hlen, by omega, by omega, fun p H2 np s2 po => ?_⟩
        have e2 : R (Z0 TT) H H2 := e.ex s2
        refine ⟨p, rfl, po, e2.b.1, fun H3 x3 => ⟨List.replicate i (.bl true), x3.st _ _ (s2 _ _ hl) nt_lst (ne_of_none hl np), ?_, ?_, ?_⟩⟩
        · rw [List.length_replicate]
          exact sz_lt (by omega)
        · exact Rm.R.mut (Rm.R.drop e2 x3 (e.fr (fr_none np))) (fr_none hD) (x3.st _ _ (s2 _ _ hl) nt_lst (ne_of_none hl np)) trivial
        · rw [upd_same, List.replicate_succ']
      · obtain ⟨e, hl⟩ := hP
        refine ⟨D, List.replicate _ true, rfl, SqL.of (by rw [List.map_replicate]; exact hl), ?_⟩
        have z : ∀ n, (List.replicate n true).all id = true := fun n => by
          rw [List.all_replicate]
          cases n <;> rfl
        rw [z]
        exact q H'
end
end K35
namespace K35
open PySem PySem.Spec PyProof.Rows L2 Lw Evl
open K35H
section
variable {P : Program} {w : World} {K : PySem.W.Frag} {mg : Str → Option Value} {base h : Heap}
theorem mkCal {k : Nat} {x : Str} {ps : List Str} {sp : Sp} {f : Addr} {fd : FuncData} (g : mg x = some (.ref f)) (kp : PySem.W.keepIn K (.ref f) = true) (b : Binds K fd ps []) (H : FnG P w K mg base CX0 k f fd ps sp) : Cal P w K mg base CX0 k x ps sp := ⟨f, fd, g, kp, b, H⟩
theorem bindsR {qual x : Str} {params : Arguments} {scope : Scope} {f : Addr} {fd : FuncData} {body : List Stmt} {ps : List Str} (F : FunD K x qual params body scope [] [] f fd)
    (z : ∀ (kV doc pm : Value) (an : Option Addr) (cdv ct : Value) (ws : List Value), ws.length = ps.length → bindArgs (PySem.W.fnOf x qual params body scope .none kV doc pm an cdv ct) ⟨[], ps.reverse.zip ws⟩ = pure (ps.zip ws.reverse)) (ws : List Value) (s : Shared) (e : ws.length = ps.length) :
    BindsTo s fd ⟨[], ps.reverse.zip ws⟩ (ps.zip ws.reverse) := by
  obtain ⟨oc, od, dV, kV, doc, pm, an, cdv, ct, osl, rfl, _, _, hD, _⟩ := F.ex
  rcases hD with ⟨_, rfl⟩ | ⟨n, _⟩
  · exact .of_eq (z kV doc pm an cdv ct ws e)
  · exact absurd rfl n
theorem tx (X : K.In h) (G : h.Ns mainGlobals mg) (c : He.SaysD fa fn K) : Tx P w K mg base := ⟨He.free_ok X G (c.fact 30 (f := .free "len") rfl), He.free_ok X G (c.fact 31 (f := .free "range") rfl), He.free_ok X G (c.fact 32 (f := .free "abs") rfl), He.free_ok X G (c.fact 33 (f := .free "max") rfl), He.free_ok X G (c.fact 34 (f := .free "min") rfl), He.free_ok X G (c.fact 35 (f := .free "int") rfl), He.free_ok X G (c.fact 36 (f := .free "divmod") rfl), He.free_ok X G (c.fact 37 (f := .free "all") rfl), He.free_ok X G (c.fact 38 (f := .free "isinstance") rfl), He.free_ok X G (c.fact 39 (f := .free "enumerate") rfl), He.free_ok X G (c.fact 40 (f := .free "repr") rfl), He.free_ok X G (c.fact 41 (f := .free "list") rfl), He.free_ok X G (c.fact 42 (f := .free "tuple") rfl), He.free_ok X G (c.fact 43 (f := .free "sorted") rfl), He.free_ok X G (c.fact 44 (f := .free "str") rfl), He.free_ok X G (c.fact 45 (f := .free "any") rfl), He.free_ok X G (c.fact 46 (f := .free "set") rfl), He.int_ok X G (c.fact 47 (f := .int "MOST_SIGNS" (8)) rfl), He.int_ok X G (c.fact 48 (f := .int "MOST_IN_WORD" (3)) rfl)⟩
/-- the tables of code objects, by the names of what they hold -/
def TTs (K : PySem.W.Frag) : List (Addr × Str) := LL.map fun e => ((He.cT K e.1).2, e.2)
theorem facts {f : Addr} (X : K.In h) (G : h.Ns mainGlobals mg) (hfa : mg ("law" : Str) = some (.ref f)) (c : He.SaysD fa fn K) (e : ex K = true) (zx : Tk.FxS fx K) :
    ∃ fd : FuncData, (∀ (s : Shared) (v : Value), BindsTo s fd ⟨[v], []⟩ [("_law_script", v)]) ∧ ∀ base : Heap, (∀ z ∈ tf.map (He.cT K), LamX.TabB base mg z.1 z.2) → FnG P w K mg base CX0 12 f fd ["_law_script"] (spLawT K (TTs K)) := by
  obtain ⟨fd0, F0⟩ := c.def_ 0 (d := dF0) rfl
  have g0 : mg "_law_draw" = some (.ref (He.ga K "_law_draw")) := He.glo_ok X G (c.fact 0 (f := .glo "_law_draw") rfl)
  have b0 : Binds K fd0 ["_law_pot_here", "_law_many"] [] := F0.bindsN fun _ _ _ _ _ _ us hl => match us, hl with | [_, _], _ => rfl
  obtain ⟨fd1, F1⟩ := c.def_ 1 (d := dF1) rfl
  have g1 : mg "_law_pick" = some (.ref (He.ga K "_law_pick")) := He.glo_ok X G (c.fact 1 (f := .glo "_law_pick") rfl)
  have b1 : Binds K fd1 ["_law_pot_here", "_law_some"] [] := F1.bindsN fun _ _ _ _ _ _ us hl => match us, hl with | [_, _], _ => rfl
  obtain ⟨fd2, F2⟩ := c.def_ 2 (d := dF2) rfl
  have g2 : mg "_law_pot" = some (.ref (He.ga K "_law_pot")) := He.glo_ok X G (c.fact 2 (f := .glo "_law_pot") rfl)
  have b2 : Binds K fd2 ["_law_script", "_law_k"] [] := F2.bindsN fun _ _ _ _ _ _ us hl => match us, hl with | [_, _], _ => rfl
  obtain ⟨fd3, F3⟩ := c.def_ 3 (d := dF3) rfl
  have g3 : mg "is_letter" = some (.ref (He.ga K "is_letter")) := He.glo_ok X G (c.fact 3 (f := .glo "is_letter") rfl)
  have b3 : Binds K fd3 ["value"] [] := F3.bindsN fun _ _ _ _ _ _ us hl => match us, hl with | [_], _ => rfl
  have r3 := bindsR (ps := ["value"]) F3 fun _ _ _ _ _ _ us hl => match us, hl with | [_], _ => rfl
  obtain ⟨fd4, F4⟩ := c.def_ 4 (d := dF4) rfl
  have g4 : mg "is_list" = some (.ref (He.ga K "is_list")) := He.glo_ok X G (c.fact 4 (f := .glo "is_list") rfl)
  have b4 : Binds K fd4 ["value"] [] := F4.bindsN fun _ _ _ _ _ _ us hl => match us, hl with | [_], _ => rfl
  have r4 := bindsR (ps := ["value"]) F4 fun _ _ _ _ _ _ us hl => match us, hl with | [_], _ => rfl
  obtain ⟨fd5, F5⟩ := c.def_ 5 (d := dF5) rfl
  have g5 : mg "walk" = some (.ref (He.ga K "walk")) := He.glo_ok X G (c.fact 5 (f := .glo "walk") rfl)
  have b5 : Binds K fd5 ["leads", "knot", "names"] [] := F5.bindsN fun _ _ _ _ _ _ us hl => match us, hl with | [_, _, _], _ => rfl
  have r5 := bindsR (ps := ["leads", "knot", "names"]) F5 fun _ _ _ _ _ _ us hl => match us, hl with | [_, _, _], _ => rfl
  obtain ⟨fd6, F6⟩ := c.def_ 6 (d := dF6) rfl
  have g6 : mg "count_knots" = some (.ref (He.ga K "count_knots")) := He.glo_ok X G (c.fact 6 (f := .glo "count_knots") rfl)
  have b6 : Binds K fd6 ["leads"] [] := F6.bindsN fun _ _ _ _ _ _ us hl => match us, hl with | [_], _ => rfl
  have r6 := bindsR (ps := ["leads"]) F6 fun _ _ _ _ _ _ us hl => match us, hl with | [_], _ => rfl
  obtain ⟨fd7, F7⟩ := c.def_ 7 (d := dF7) rfl
  have g7 : mg "grown" = some (.ref (He.ga K "grown")) := He.glo_ok X G (c.fact 7 (f := .glo "grown") rfl)
  have b7 : Binds K fd7 ["leads", "told"] [] := F7.bindsN fun _ _ _ _ _ _ us hl => match us, hl with | [_, _], _ => rfl
  have r7 := bindsR (ps := ["leads", "told"]) F7 fun _ _ _ _ _ _ us hl => match us, hl with | [_, _], _ => rfl
  obtain ⟨fd8, F8⟩ := c.def_ 8 (d := dF8) rfl
  have g8 : mg "top_of" = some (.ref (He.ga K "top_of")) := He.glo_ok X G (c.fact 8 (f := .glo "top_of") rfl)
  have b8 : Binds K fd8 ["above", "knot"] [] := F8.bindsN fun _ _ _ _ _ _ us hl => match us, hl with | [_, _], _ => rfl
  have r8 := bindsR (ps := ["above", "knot"]) F8 fun _ _ _ _ _ _ us hl => match us, hl with | [_, _], _ => rfl
  obtain ⟨fd9, F9⟩ := c.def_ 9 (d := dF9) rfl
  have g9 : mg "merged" = some (.ref (He.ga K "merged")) := He.glo_ok X G (c.fact 9 (f := .glo "merged") rfl)
  have b9 : Binds K fd9 ["leads", "pairs"] [] := F9.bindsN fun _ _ _ _ _ _ us hl => match us, hl with | [_, _], _ => rfl
  have r9 := bindsR (ps := ["leads", "pairs"]) F9 fun _ _ _ _ _ _ us hl => match us, hl with | [_, _], _ => rfl
  obtain ⟨fd10, F10⟩ := c.def_ 10 (d := dF10) rfl
  have g10 : mg "numbered" = some (.ref (He.ga K "numbered")) := He.glo_ok X G (c.fact 10 (f := .glo "numbered") rfl)
  have b10 : Binds K fd10 ["leads"] [] := F10.bindsN fun _ _ _ _ _ _ us hl => match us, hl with | [_], _ => rfl
  have r10 := bindsR (ps := ["leads"]) F10 fun _ _ _ _ _ _ us hl => match us, hl with | [_], _ => rfl
  obtain ⟨fd11, F11⟩ := c.def_ 11 (d := dF11) rfl
  have g11 : mg "least_terms" = some (.ref (He.ga K "least_terms")) := He.glo_ok X G (c.fact 11 (f := .glo "least_terms") rfl)
  have b11 : Binds K fd11 ["leads"] [] := F11.bindsN fun _ _ _ _ _ _ us hl => match us, hl with | [_], _ => rfl
  have r11 := bindsR (ps := ["leads"]) F11 fun _ _ _ _ _ _ us hl => match us, hl with | [_], _ => rfl
  obtain ⟨fd12, F12⟩ := c.def_ 12 (d := dF12) rfl
  have g12 : mg "is_term" = some (.ref (He.ga K "is_term")) := He.glo_ok X G (c.fact 12 (f := .glo "is_term") rfl)
  have b12 : Binds K fd12 ["value"] [] := F12.bindsN fun _ _ _ _ _ _ us hl => match us, hl with | [_], _ => rfl
  have r12 := bindsR (ps := ["value"]) F12 fun _ _ _ _ _ _ us hl => match us, hl with | [_], _ => rfl
  obtain ⟨fd13, F13⟩ := c.def_ 13 (d := dF13) rfl
  have g13 : mg "is_pair" = some (.ref (He.ga K "is_pair")) := He.glo_ok X G (c.fact 13 (f := .glo "is_pair") rfl)
  have b13 : Binds K fd13 ["value"] [] := F13.bindsN fun _ _ _ _ _ _ us hl => match us, hl with | [_], _ => rfl
  have r13 := bindsR (ps := ["value"]) F13 fun _ _ _ _ _ _ us hl => match us, hl with | [_], _ => rfl
  obtain ⟨fd14, F14⟩ := c.def_ 14 (d := dF14) rfl
  have g14 : mg "need_term" = some (.ref (He.ga K "need_term")) := He.glo_ok X G (c.fact 14 (f := .glo "need_term") rfl)
  have b14 : Binds K fd14 ["value"] [] := F14.bindsN fun _ _ _ _ _ _ us hl => match us, hl with | [_], _ => rfl
  have r14 := bindsR (ps := ["value"]) F14 fun _ _ _ _ _ _ us hl => match us, hl with | [_], _ => rfl
  obtain ⟨fd15, F15⟩ := c.def_ 15 (d := dF15) rfl
  have g15 : mg "need_things" = some (.ref (He.ga K "need_things")) := He.glo_ok X G (c.fact 15 (f := .glo "need_things") rfl)
  have b15 : Binds K fd15 ["things"] [] := F15.bindsN fun _ _ _ _ _ _ us hl => match us, hl with | [_], _ => rfl
  have r15 := bindsR (ps := ["things"]) F15 fun _ _ _ _ _ _ us hl => match us, hl with | [_], _ => rfl
  obtain ⟨fd16, F16⟩ := c.def_ 16 (d := dF16) rfl
  have g16 : mg "need_terms" = some (.ref (He.ga K "need_terms")) := He.glo_ok X G (c.fact 16 (f := .glo "need_terms") rfl)
  have b16 : Binds K fd16 ["terms"] [] := F16.bindsN fun _ _ _ _ _ _ us hl => match us, hl with | [_], _ => rfl
  have r16 := bindsR (ps := ["terms"]) F16 fun _ _ _ _ _ _ us hl => match us, hl with | [_], _ => rfl
  obtain ⟨fd17, F17⟩ := c.def_ 17 (d := dF17) rfl
  have g17 : mg "need_pairs" = some (.ref (He.ga K "need_pairs")) := He.glo_ok X G (c.fact 17 (f := .glo "need_pairs") rfl)
  have b17 : Binds K fd17 ["pairs"] [] := F17.bindsN fun _ _ _ _ _ _ us hl => match us, hl with | [_], _ => rfl
  have r17 := bindsR (ps := ["pairs"]) F17 fun _ _ _ _ _ _ us hl => match us, hl with | [_], _ => rfl
  obtain ⟨fd18, F18⟩ := c.def_ 18 (d := dF18) rfl
  have g18 : mg "need_few_knots" = some (.ref (He.ga K "need_few_knots")) := He.glo_ok X G (c.fact 18 (f := .glo "need_few_knots") rfl)
  have b18 : Binds K fd18 ["leads", "limit"] [] := F18.bindsN fun _ _ _ _ _ _ us hl => match us, hl with | [_, _], _ => rfl
  have r18 := bindsR (ps := ["leads", "limit"]) F18 fun _ _ _ _ _ _ us hl => match us, hl with | [_, _], _ => rfl
  obtain ⟨fd19, F19⟩ := c.def_ 19 (d := dF19) rfl
  have g19 : mg "told_leads" = some (.ref (He.ga K "told_leads")) := He.glo_ok X G (c.fact 19 (f := .glo "told_leads") rfl)
  have b19 : Binds K fd19 ["leads", "terms", "pairs"] [] := F19.bindsN fun _ _ _ _ _ _ us hl => match us, hl with | [_, _, _], _ => rfl
  have r19 := bindsR (ps := ["leads", "terms", "pairs"]) F19 fun _ _ _ _ _ _ us hl => match us, hl with | [_, _, _], _ => rfl
  obtain ⟨fd20, F20⟩ := c.def_ 20 (d := dF20) rfl
  have g20 : mg "leads_of_web" = some (.ref (He.ga K "leads_of_web")) := He.glo_ok X G (c.fact 20 (f := .glo "leads_of_web") rfl)
  have b20 : Binds K fd20 ["web"] [] := F20.bindsN fun _ _ _ _ _ _ us hl => match us, hl with | [_], _ => rfl
  have r20 := bindsR (ps := ["web"]) F20 fun _ _ _ _ _ _ us hl => match us, hl with | [_], _ => rfl
  obtain ⟨fd21, F21⟩ := c.def_ 21 (d := dF21) rfl
  have g21 : mg "knot_of_term" = some (.ref (He.ga K "knot_of_term")) := He.glo_ok X G (c.fact 21 (f := .glo "knot_of_term") rfl)
  have b21 : Binds K fd21 ["web", "term"] [] := F21.bindsN fun _ _ _ _ _ _ us hl => match us, hl with | [_, _], _ => rfl
  have r21 := bindsR (ps := ["web", "term"]) F21 fun _ _ _ _ _ _ us hl => match us, hl with | [_, _], _ => rfl
  obtain ⟨fd22, F22⟩ := c.def_ 22 (d := dF22) rfl
  obtain ⟨fd23, F23⟩ := c.def_ 23 (d := dF23) rfl
  have b23 : Binds K fd23 ["self", "value"] [] := F23.bindsN fun _ _ _ _ _ _ us hl => match us, hl with | [_, _], _ => rfl
  have r23 := Tk.bindsS (ps := ["value"]) F23 fun _ _ _ _ _ _ _ us hl => match us, hl with | [_], _ => rfl
  obtain ⟨fd24, F24⟩ := c.def_ 24 (d := dF24) rfl
  have b24 : Binds K fd24 ["self"] [] := F24.bindsN fun _ _ _ _ _ _ us hl => match us, hl with | [_], _ => rfl
  have r24 := Tk.bindsS (ps := []) F24 fun _ _ _ _ _ _ _ us hl => match us, hl with | [], _ => rfl
  obtain ⟨fd25, F25⟩ := c.def_ 25 (d := dF25) rfl
  have b25 : Binds K fd25 ["self", "other"] [] := F25.bindsN fun _ _ _ _ _ _ us hl => match us, hl with | [_, _], _ => rfl
  have r25 := Tk.bindsS (ps := ["other"]) F25 fun _ _ _ _ _ _ _ us hl => match us, hl with | [_], _ => rfl
  obtain ⟨fd26, F26⟩ := c.def_ 26 (d := dF26) rfl
  have g26 : mg "web_of_leads" = some (.ref (He.ga K "web_of_leads")) := He.glo_ok X G (c.fact 22 (f := .glo "web_of_leads") rfl)
  have b26 : Binds K fd26 ["leads"] [] := F26.bindsN fun _ _ _ _ _ _ us hl => match us, hl with | [_], _ => rfl
  have r26 := bindsR (ps := ["leads"]) F26 fun _ _ _ _ _ _ us hl => match us, hl with | [_], _ => rfl
  obtain ⟨fd27, F27⟩ := c.def_ 27 (d := dF27) rfl
  have b27 : Binds K fd27 ["self"] [] := F27.bindsN fun _ _ _ _ _ _ us hl => match us, hl with | [_], _ => rfl
  have r27 := Tk.bindsS (ps := []) F27 fun _ _ _ _ _ _ _ us hl => match us, hl with | [], _ => rfl
  obtain ⟨fd28, F28⟩ := c.def_ 28 (d := dF28) rfl
  have b28 : Binds K fd28 ["self", "term"] [] := F28.bindsN fun _ _ _ _ _ _ us hl => match us, hl with | [_, _], _ => rfl
  have r28 := Tk.bindsS (ps := ["term"]) F28 fun _ _ _ _ _ _ _ us hl => match us, hl with | [_], _ => rfl
  obtain ⟨fd29, F29⟩ := c.def_ 29 (d := dF29) rfl
  have b29 : Binds K fd29 ["self", "one", "another"] [] := F29.bindsN fun _ _ _ _ _ _ us hl => match us, hl with | [_, _, _], _ => rfl
  have r29 := Tk.bindsS (ps := ["one", "another"]) F29 fun _ _ _ _ _ _ _ us hl => match us, hl with | [_, _], _ => rfl
  obtain ⟨fd30, F30⟩ := c.def_ 30 (d := dF30) rfl
  have b30 : Binds K fd30 ["self", "term"] [] := F30.bindsN fun _ _ _ _ _ _ us hl => match us, hl with | [_, _], _ => rfl
  have r30 := Tk.bindsS (ps := ["term"]) F30 fun _ _ _ _ _ _ _ us hl => match us, hl with | [_], _ => rfl
  obtain ⟨fd31, F31⟩ := c.def_ 31 (d := dF31) rfl
  have b31 : Binds K fd31 ["self"] [] := F31.bindsN fun _ _ _ _ _ _ us hl => match us, hl with | [_], _ => rfl
  have r31 := Tk.bindsS (ps := []) F31 fun _ _ _ _ _ _ _ us hl => match us, hl with | [], _ => rfl
  obtain ⟨fd32, F32⟩ := zx.def_ 0 (q := (fun K => Tk.prA K "Web" "is_tree", dF32)) rfl
  have b32 : Binds K fd32 ["self"] [] := F32.bindsN fun _ _ _ _ _ _ us hl => match us, hl with | [_], _ => rfl
  have r32 := Tk.bindsS (ps := []) F32 fun _ _ _ _ _ _ _ us hl => match us, hl with | [], _ => rfl
  obtain ⟨fd33, F33⟩ := c.def_ 32 (d := dF33) rfl
  have b33 : Binds K fd33 ["self", "term"] [] := F33.bindsN fun _ _ _ _ _ _ us hl => match us, hl with | [_, _], _ => rfl
  have r33 := Tk.bindsS (ps := ["term"]) F33 fun _ _ _ _ _ _ _ us hl => match us, hl with | [_], _ => rfl
  obtain ⟨fd34, F34⟩ := c.def_ 33 (d := dF34) rfl
  have b34 : Binds K fd34 ["self", "one", "another"] [] := F34.bindsN fun _ _ _ _ _ _ us hl => match us, hl with | [_, _, _], _ => rfl
  have r34 := Tk.bindsS (ps := ["one", "another"]) F34 fun _ _ _ _ _ _ _ us hl => match us, hl with | [_, _], _ => rfl
  obtain ⟨fd35, F35⟩ := c.def_ 34 (d := dF35) rfl
  have g35 : mg "_law_divisor" = some (.ref (He.ga K "_law_divisor")) := He.glo_ok X G (c.fact 23 (f := .glo "_law_divisor") rfl)
  have b35 : Binds K fd35 ["_law_near", "_law_far"] [] := F35.bindsN fun _ _ _ _ _ _ us hl => match us, hl with | [_, _], _ => rfl
  obtain ⟨fd36, F36⟩ := c.def_ 35 (d := dF36) rfl
  have g36 : mg "_law_spot" = some (.ref (He.ga K "_law_spot")) := He.glo_ok X G (c.fact 24 (f := .glo "_law_spot") rfl)
  have b36 : Binds K fd36 ["_law_number", "_law_begin", "_law_long"] [] := F36.bindsN fun _ _ _ _ _ _ us hl => match us, hl with | [_, _, _], _ => rfl
  obtain ⟨fd37, F37⟩ := c.def_ 36 (d := dF37) rfl
  have g37 : mg "_law_row" = some (.ref (He.ga K "_law_row")) := He.glo_ok X G (c.fact 25 (f := .glo "_law_row") rfl)
  have b37 : Binds K fd37 ["_law_label", "_law_letter", "_law_number"] [] := F37.bindsN fun _ _ _ _ _ _ us hl => match us, hl with | [_, _, _], _ => rfl
  obtain ⟨fd38, F38⟩ := c.def_ 37 (d := dF38) rfl
  have g38 : mg "_law_web" = some (.ref (He.ga K "_law_web")) := He.glo_ok X G (c.fact 26 (f := .glo "_law_web") rfl)
  have b38 : Binds K fd38 ["_law_pot_here", "_law_label", "_law_rows", "_law_ties"] [] := F38.bindsN fun _ _ _ _ _ _ us hl => match us, hl with | [_, _, _, _], _ => rfl
  obtain ⟨fd39, F39⟩ := c.def_ 38 (d := dF39) rfl
  have g39 : mg "_law_spots_right" = some (.ref (He.ga K "_law_spots_right")) := He.glo_ok X G (c.fact 27 (f := .glo "_law_spots_right") rfl)
  have b39 : Binds K fd39 ["_law_pot_here", "_law_web_here", "_law_rows", "_law_begin", "_law_long"] [] := F39.bindsN fun _ _ _ _ _ _ us hl => match us, hl with | [_, _, _, _, _], _ => rfl
  obtain ⟨fd40, F40⟩ := c.def_ 39 (d := dF40) rfl
  have g40 : mg "_law_right" = some (.ref (He.ga K "_law_right")) := He.glo_ok X G (c.fact 28 (f := .glo "_law_right") rfl)
  have b40 : Binds K fd40 ["_law_pot_here"] [] := F40.bindsN fun _ _ _ _ _ _ us hl => match us, hl with | [_], _ => rfl
  obtain ⟨fd41, F41⟩ := c.def_ 40 (d := dF41) rfl
  have g41 : mg "law" = some (.ref (He.ga K "law")) := He.glo_ok X G (c.fact 29 (f := .glo "law") rfl)
  have ee := hfa.symm.trans g41
  cases ee
  have bl := FunD.bindsA (ps := ["_law_script"]) F41 fun _ _ _ _ _ _ us hl => match us, hl with | [_], _ => rfl
  refine ⟨fd41, fun s v => bl s [v] rfl, fun base tb => ?_⟩
  have T : Tx P w K mg base := tx X G c
  obtain ⟨fd42, F42⟩ := c.def_ 41 (d := dF42) rfl
  obtain ⟨fd43, F43⟩ := c.def_ 42 (d := dF43) rfl
  obtain ⟨fd44, F44⟩ := c.def_ 43 (d := dF44) rfl
  obtain ⟨fd45, F45⟩ := c.def_ 44 (d := dF45) rfl
  obtain ⟨fd46, F46⟩ := c.def_ 45 (d := dF46) rfl
  have e1 := He.ba e
  have e2 := He.ba e1.2
  have e3 := He.ba e2.2
  have e4 := He.ba e3.2
  have e5 := He.ba e4.2
  have e6 := He.ba e5.2
  have oX := Tk.one_ok (mg := mg) X G e1.1
  have oY := Tk.one_ok (mg := mg) X G e2.1
  have oZ := Tk.one_ok (mg := mg) X G e3.1
  have oT := Tk.one_ok (mg := mg) X G e4.1
  have oU := Tk.on1_ok (mg := mg) X G e5.1
  have RF := rel_ok e6.1
  have WF := wb_ok (mg := mg) X G e6.2
  have zX := Tk.xrz (P := P) (w := w) (base := base) F42 ⟨rfl, rfl, rfl, by decide +kernel, rfl, by decide +kernel, by decide +kernel⟩ rfl rfl (by decide) (by decide) (fun _ _ _ _ _ _ us hl => match us, hl with | [_, _], _ => rfl) oX
  have zY := Tk.xrz (P := P) (w := w) (base := base) F43 ⟨rfl, rfl, rfl, by decide +kernel, rfl, by decide +kernel, by decide +kernel⟩ rfl rfl (by decide) (by decide) (fun _ _ _ _ _ _ us hl => match us, hl with | [_, _], _ => rfl) oY
  have zZ := Tk.xrz (P := P) (w := w) (base := base) F44 ⟨rfl, rfl, rfl, by decide +kernel, rfl, by decide +kernel, by decide +kernel⟩ rfl rfl (by decide) (by decide) (fun _ _ _ _ _ _ us hl => match us, hl with | [_, _], _ => rfl) oZ
  have zT := Tk.xrz (P := P) (w := w) (base := base) F45 ⟨rfl, rfl, rfl, by decide +kernel, rfl, by decide +kernel, by decide +kernel⟩ rfl rfl (by decide) (by decide) (fun _ _ _ _ _ _ us hl => match us, hl with | [_, _], _ => rfl) oT
  have zU := Tk.xr1 (P := P) (w := w) (base := base) F46 ⟨rfl, rfl, rfl, by decide +kernel, rfl, by decide +kernel, by decide +kernel⟩ rfl rfl (by decide) (by decide) (fun _ _ _ _ _ _ us hl => match us, hl with | [_, _], _ => rfl) oU
  have f3 := Tk.bW3 (p1 := "things") (p2 := "terms") (p3 := "pairs") F22 fun T kV doc pm an cdv ct u v1 v2 v3 z1 z2 z3 => ⟨_, rfl, rfl⟩
  have f2 := Tk.bW2 (p1 := "things") (p2 := "terms") (p3 := "pairs") F22 fun T kV doc pm an cdv ct u v1 v2 z1 z2 z3 => ⟨_, rfl, rfl⟩
  have f0 := Tk.bW0 (p1 := "things") (p2 := "terms") (p3 := "pairs") F22 fun T kV doc pm an cdv ct u z1 z2 z3 => ⟨_, rfl, rfl⟩
  have f1 := Tk.bW1 (p1 := "things") (p2 := "terms") (p3 := "pairs") F22 fun T kV doc pm an cdv ct u v1 z1 z2 z3 => ⟨_, rfl, rfl⟩
  have fR := Tk.bWR (p1 := "things") (p2 := "terms") (p3 := "pairs") F22 fun T kV doc pm an cdv ct u v1 v2 v3 z1 z2 z3 => ⟨_, rfl, rfl⟩
  have H0 := ok_draw F0 T 
  have H1 := ok_pick F1 T (mkCal g0 F0.kp b0 (H0.up (by decide)))
  have H2 := ok_pot F2 T 
  have H3 := ok_is_letter F3 T 
  have H4 := ok_is_list F4 T 
  have H5 := ok_walk F5 T 
  have H6 := ok_count F6 T 
  have H7 := ok_grown F7 T ⟨_, _, g6, F6.kp, b6, r6, H6.mono (by decide)⟩
  have H8 := ok_top_of F8 T 
  have H9 := ok_merged F9 T ⟨_, _, g8, F8.kp, b8, r8, H8.mono (by decide)⟩
  have H10 := ok_numbered F10 T 
  have H11 := ok_least_terms F11 T 
  have H12 := ok_is_term F12 T ⟨_, _, g3, F3.kp, b3, r3, H3.mono (by decide)⟩
  have H13 := ok_is_pair F13 T ⟨_, _, g12, F12.kp, b12, r12, H12.mono (by decide)⟩
  have H14 := ok_need_term F14 T zT ⟨_, _, g12, F12.kp, b12, r12, H12.mono (by decide)⟩
  have H15 := ok_need_things F15 T zX ⟨_, _, g4, F4.kp, b4, r4, H4.mono (by decide)⟩ ⟨_, _, g3, F3.kp, b3, r3, H3.mono (by decide)⟩
  have H16 := ok_need_terms F16 T zY ⟨_, _, g4, F4.kp, b4, r4, H4.mono (by decide)⟩ ⟨_, _, g12, F12.kp, b12, r12, H12.mono (by decide)⟩
  have H17 := ok_need_pairs F17 T zZ ⟨_, _, g4, F4.kp, b4, r4, H4.mono (by decide)⟩ ⟨_, _, g13, F13.kp, b13, r13, H13.mono (by decide)⟩
  have H18 := ok_need_few F18 T ⟨_, _, g6, F6.kp, b6, r6, H6.mono (by decide)⟩
  have H19 := ok_told_leads F19 T ⟨_, _, g7, F7.kp, b7, r7, H7.mono (by decide)⟩ ⟨_, _, g5, F5.kp, b5, r5, H5.mono (by decide)⟩ ⟨_, _, g9, F9.kp, b9, r9, H9.mono (by decide)⟩
  have H20 := ok_leads_of_web (CW := (He.ga K "Web")) F20 T WF.o WF.nL
  have H21 := ok_knot_of_term (CW := (He.ga K "Web")) F21 T ⟨_, _, g14, F14.kp, b14, r14, H14.mono (by decide)⟩ ⟨_, _, g20, F20.kp, b20, r20, H20.mono (by decide)⟩ ⟨_, _, g5, F5.kp, b5, r5, H5.mono (by decide)⟩ zU
  have H22 := ok_wb_init (CW := (He.ga K "Web")) F22 T WF.o WF.nL WF.nT WF.ci ⟨_, _, g15, F15.kp, b15, r15, H15.mono (by decide)⟩ ⟨_, _, g16, F16.kp, b16, r16, H16.mono (by decide)⟩ ⟨_, _, g17, F17.kp, b17, r17, H17.mono (by decide)⟩ ⟨_, _, g19, F19.kp, b19, r19, H19.mono (by decide)⟩ ⟨_, _, g18, F18.kp, b18, r18, H18.mono (by decide)⟩ ⟨_, _, g10, F10.kp, b10, r10, H10.mono (by decide)⟩ ⟨_, _, g11, F11.kp, b11, r11, H11.mono (by decide)⟩
  have H23 := ok_wb_in (CW := (He.ga K "Web")) F23 T WF.o WF.nL ⟨_, _, g12, F12.kp, b12, r12, H12.mono (by decide)⟩ ⟨_, _, g5, F5.kp, b5, r5, H5.mono (by decide)⟩
  have H24 := ok_wb_knots (CW := (He.ga K "Web")) F24 T WF.o WF.nT
  have H25 := ok_wb_eq (CW := (He.ga K "Web")) F25 T WF.o WF.nL
  have H26 := ok_web_of (CW := (He.ga K "Web")) F26 T WF.o WF.nL WF.nT WF.ci RF.d0 RF.d1 RF.d2 ⟨_, _, WF.o.g, WF.make, f3, f0, f2, fR, H22⟩ ⟨_, _, g18, F18.kp, b18, r18, H18.mono (by decide)⟩ ⟨_, _, g10, F10.kp, b10, r10, H10.mono (by decide)⟩ ⟨_, _, g11, F11.kp, b11, r11, H11.mono (by decide)⟩
  have H27 := ok_wb_len (CW := (He.ga K "Web")) F27 T WF.o WF.nT
  have H28 := ok_wb_get (CW := (He.ga K "Web")) F28 T WF.o WF.nT (⟨_, _, g21, F21.kp, b21, r21, Tk.fnOk_noErr H21 fun _ _ _ _ z => by
      obtain ⟨a, v, L, n, h1, h2, h3⟩ := z
      exact ⟨a, v, L, h1, h2, .inr ⟨n, h3⟩⟩⟩)
  have H29 := ok_wb_same (CW := (He.ga K "Web")) F29 T (⟨_, _, g21, F21.kp, b21, r21, Tk.fnOk_noErr H21 fun _ _ _ _ z => by
      obtain ⟨a, v, L, n, h1, h2, h3⟩ := z
      exact ⟨a, v, L, h1, h2, .inr ⟨n, h3⟩⟩⟩)
  have H30 := ok_wb_letters (CW := (He.ga K "Web")) F30 T WF.o WF.nL (⟨_, _, g21, F21.kp, b21, r21, Tk.fnOk_noErr H21 fun _ _ _ _ z => by
      obtain ⟨a, v, L, n, h1, h2, h3⟩ := z
      exact ⟨a, v, L, h1, h2, .inr ⟨n, h3⟩⟩⟩)
  have H31 := ok_wb_pairs (CW := (He.ga K "Web")) F31 T WF.o WF.nL WF.nT
  have H32 := ok_wb_tree (CW := (He.ga K "Web")) F32 T WF.o ⟨_, _, WF.pa, b31, r31, H31⟩
  have H33 := ok_wb_add (CW := (He.ga K "Web")) F33 T WF.o WF.nL (⟨_, _, g14, F14.kp, b14, r14, Tk.fnOk_noErr H14 fun _ _ _ _ z => by
      obtain ⟨v, h1, h2⟩ := z
      exact ⟨v, h1, .inl h2⟩⟩) ⟨_, _, g19, F19.kp, b19, r19, H19.mono (by decide)⟩ ⟨_, _, g26, F26.kp, b26, r26, H26.mono (by decide)⟩
  have H34 := ok_wb_pair (CW := (He.ga K "Web")) F34 T WF.o WF.nL (⟨_, _, g14, F14.kp, b14, r14, Tk.fnOk_noErr H14 fun _ _ _ _ z => by
      obtain ⟨v, h1, h2⟩ := z
      exact ⟨v, h1, .inl h2⟩⟩) ⟨_, _, g19, F19.kp, b19, r19, H19.mono (by decide)⟩ ⟨_, _, g26, F26.kp, b26, r26, H26.mono (by decide)⟩
  have H35 := ok_divisor F35 T 
  have H36 := ok_spot F36 T 
  have H37 := ok_row F37 T 
  have H38 := ok_web (TT := TTs K) (CW := (He.ga K "Web")) F38 T WF.o RF.d1 RF.d2 RF.ba ⟨_, _, WF.o.g, WF.make, f3, f0, f2, fR, H22⟩ ⟨_, _, WF.o.g, WF.make, f1, H22⟩ ⟨WF.sf, _, _, WF.add.at_, isFn_of (eq_of_beq WF.add.fn), b33, H33⟩ ⟨_, _, WF.wp, b34, r34, H34⟩ (mkCal g0 F0.kp b0 (H0.up (by decide)))
  have H39 := ok_spots_right (TT := TTs K) (CW := (He.ga K "Web")) F39 T WF.o ⟨_, _, WF.in_.at_, eq_of_beq WF.in_.fn, b23, H23⟩ ⟨_, _, WF.ix.at_, fnIn_of F28, isFn_of (eq_of_beq WF.ix.fn), b28, H28⟩ ⟨_, _, WF.la, b30, r30, H30⟩ ⟨_, _, WF.sa, b29, r29, H29⟩ (mkCal g0 F0.kp b0 (H0.up (by decide))) (mkCal g36 F36.kp b36 (H36.up (by decide))) (mkCal g37 F37.kp b37 (H37.up (by decide)))
  have H40 := ok_right (TT := TTs K) (CW := (He.ga K "Web")) F40 T WF.o ⟨_, _, WF.o.g, WF.make, f3, f0, f2, fR, H22⟩ ⟨_, _, WF.len.at_, eq_of_beq WF.len.fn, b27, H27⟩ ⟨_, _, WF.eq.at_, eq_of_beq WF.eq.fn, b25, H25⟩ ⟨WF.o.cl, _, _, _, WF.tr, b32, H32⟩ ⟨_, _, WF.kn, b24, r24, H24⟩ ⟨_, _, WF.pa, b31, r31, H31⟩ (mkCal g0 F0.kp b0 (H0.up (by decide))) (mkCal g1 F1.kp b1 (H1.up (by decide))) (mkCal g35 F35.kp b35 (H35.up (by decide))) (mkCal g37 F37.kp b37 (H37.up (by decide))) (mkCal g38 F38.kp b38 (H38.up (by decide))) (mkCal g39 F39.kp b39 (H39.up (by decide)))
  exact ok_law (TT := TTs K) F41 T (mkCal g2 F2.kp b2 (H2.up (by decide))) (mkCal g40 F40.kp b40 (H40.up (by decide)))
end
end K35
open PySem PySem.W PySem.Calls PyProof.Rows
set_option maxHeartbeats 0 in
theorem PySem.Challenge.cw_wakesayings_k35_loops_by_divisors_holds : PySem.Challenge.rw_wakesayings_k35_loops_by_divisors.Holds := by
  w_on; o_law
  refine HandSHeadRun.head_any (r := OpenLaw.row PySem.Challenge.rw_wakesayings_k35_loops_by_divisors) (q := view (OpenLaw.row PySem.Challenge.rw_wakesayings_k35_loops_by_divisors).prog [59]) (H := K35H.hk) (ob := K35H.ob) (M := 12000) (loose := K35H.loose) (d := HandSHeadRun.topDef (OpenLaw.row PySem.Challenge.rw_wakesayings_k35_loops_by_divisors).prog 59) (kwd := []) K35H.ob_eq
    (by kernel_rfl) (fun s => by kernel_rfl) K35H.run (by kernel_rfl) (by kernel_rfl) (by kernel_rfl) (by rfl) (by first | assumption | decide +kernel) (by decide +kernel) ⟨rfl, rfl, rfl, rfl, rfl, by decide +kernel⟩ ?hw ?hc
  case hw => w_witness2
  case hc =>
    refine Lw.walkGT (l := PySem.Challenge.rw_wakesayings_k35_loops_by_divisors) (n := 63) (k := 12) (x := "_law_script") rfl (by decide) (by kernel_rfl) ⟨rfl, by decide, by decide⟩ ?F
    intro w mg fa h Y G hmg0
    obtain ⟨K, KX, c, zx⟩ := Y
    have hmg : mg ("law" : PySem.Str) = some (.ref fa) := by
      have e : (HandSHeadRun.topDef (OpenLaw.row PySem.Challenge.rw_wakesayings_k35_loops_by_divisors).prog 59).name = ("law" : PySem.Str) := by kernel_rfl
      rw [← e]
      exact hmg0
    obtain ⟨fd, hb, hF⟩ := K35.facts (P := (PySem.Challenge.rw_wakesayings_k35_loops_by_divisors).prog) (w := w) KX G hmg c.t.d c.more zx
    refine ⟨K, fd, _, K35H.tf.map (He.cT K), KX, fun z hz => ?_, fun z hz => ?_, fun z hz => ?_, hb, fun H a ns hl hT hS => ⟨a, ns, rfl, fun z hz => by
      obtain ⟨e, he, rfl⟩ := List.mem_map.mp hz
      exact LamX.TabS.nil (hT _ (List.mem_map.mpr ⟨e.1, List.mem_map.mpr ⟨e, he, rfl⟩, rfl⟩)), hS, hl, fun _ => rfl⟩, fun base _ _ tb => hF base tb⟩
    · obtain ⟨p, hp, rfl⟩ := List.mem_map.mp hz
      exact c.empty p hp
    · obtain ⟨p, hp, rfl⟩ := List.mem_map.mp hz
      exact c.out p hp
    · obtain ⟨p, hp, rfl⟩ := List.mem_map.mp hz
      exact PySem.W.codeHd_of_K KX (c.hd p hp)
