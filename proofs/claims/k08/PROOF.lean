import PyProof.Rows.All
import Wide.All
import OpenK.AllK
import Wide.FinOn
import HandS.ForMost
import HandS.ForExc
import HandS.ExcInit
import HandS.ExcField
import HandS.TryMany
import KE.KExcInit
import HandS.Codes
import HandS.IsInst
import HandS.Style
import HandS.Text
import KE.DataEq
import HandS.WordsDict
import HandS.More
import HandS.CallSlots
import PyProof.FactsAll.list_0
import PyProof.FactsAll.list_3
import HandS.Rev
import PyProof.FactsLen
import PyProof.PvWalk
import PyProof.Rows.SeqRange
import PyProof.Rows.FactsN_isinstance
import PyProof.Rows.SeqCalls
import PyProof.Rows.FactsT2
import PyProof.Rows.EnumRows
import PyProof.Rows.SeqGen
import HandS.HeadHook3
import PySem.Str
import HandS.ExcIs
import PySem.Challenge.RW_finallycopies_k08_invalid_answers
set_option Elab.async false
set_option linter.all false
set_option maxRecDepth 100000
set_option maxHeartbeats 4000000
/-! Exceptions of the program: direct or indirect subclasses of ArithmeticError, with an own __init__ that stores one field. -/
namespace L2
namespace Fc
open PySem PySem.Spec PyProof.Rows Builtin Builtin.ObjectAttr
open PySem.W (Frag findIn subIn typeIn keepIn hasDictIn clsIn)

/-! ### classes over ArithmeticError -/
abbrev arTail : List Value := [.type "ArithmeticError", .type "Exception", .type "BaseException", .type "object"]
def arOver : List Value → Bool
  | .ref _ :: more => arOver more
  | rest => rest == arTail
theorem arOver_split : ∀ l : List Value, arOver l = true → (∃ (c : Addr) (r : List Value), l = Value.ref c :: r ∧ arOver r = true) ∨ l = arTail := by
  intro l e
  match l, e with
  | [], e => exact Or.inr (beq_iff_eq.mp e)
  | x :: r, e =>
    cases x
    case ref c => exact Or.inl ⟨c, r, rfl, e⟩
    all_goals exact Or.inr (beq_iff_eq.mp e)
theorem arOver_pass (v : Value) : ∀ l : List Value, arOver l = true → PySem.refuseLoop v "__setattr__" l = pure () := by
  intro l
  induction l with
  | nil => intro e; exact absurd e (by decide)
  | cons a r ih =>
    intro e
    rcases arOver_split (a :: r) e with ⟨c, r', q, h'⟩ | q
    · obtain ⟨q1, q2⟩ := List.cons.inj q
      rw [q1, refuseLoop_ref]
      exact ih (q2 ▸ h')
    · rw [q]
      exact F.store_ArithmeticError.passes v
theorem arOver_has (T : String) : ∀ l : List Value, arOver l = true → l.contains (.type T) = arTail.contains (.type T) := by
  intro l
  induction l with
  | nil => intro e; exact absurd e (by decide)
  | cons a r ih =>
    intro e
    rcases arOver_split (a :: r) e with ⟨c, r', q, h'⟩ | q
    · obtain ⟨q1, q2⟩ := List.cons.inj q
      rw [q1, List.contains_cons, ih (q2 ▸ h')]
      rfl
    · rw [q]
theorem arOver_some {l : List Value} (e : arOver l = true) : l.isEmpty = false := by
  match l, e with
  | [], e => exact absurd e (by decide)
  | _ :: _, _ => rfl

open PySem.HandSPX in
/-- the first field of an exception that has no dict -/
theorem ar_store {prog : Program} {w : World} {A : Around} {R : Result → Shared → Prop} {hp : Heap} {g : Array GenState} {d : Drawn} {t : Nat} {os : OsState} {K : Frag} {name : Str} {tk : Tok} {v : Value} {x C : Addr} {fv : Array Value} {cd : ClassData}
    (KI : K.In hp) (hx : hp.get? x = some { cls := .ref C, data := .fields fv }) (hcd : clsIn K C = some cd) (hm : arOver cd.mro = true) (hh : cd.hasDict = true) (ha : findIn K (.ref C) name = some none)
    (hq : ∀ (h' : Heap) (tk' : Nat) (dx : Addr), (∀ b o, b ≠ x → hp.get? b = some o → h'.get? b = some o) → hp.objs.size ≤ dx → dx ≠ x → h'.get? x = some { cls := .ref C, dict := some dx, data := .fields fv } →
      h'.Ns1 dx (fun y => if y = name then some v else none) → R (.ok (.ret .none)) ⟨h', g, d, tk', os⟩) :
    codeAny (model prog w) A (.call (.builtin "object.__setattr__") ⟨[.ref x, .str name tk, v], []⟩) R ⟨hp, g, d, t, os⟩ := by
  have inst : W.InstAt hp x { cls := .ref C, data := .fields fv } C none := ⟨hx, rfl, rfl, trivial⟩
  have SF := F.store_object
  have nem := arOver_some hm
  have hasO : cd.mro.contains (.type "object") = true := (arOver_has "object" _ hm).trans (by decide +kernel)
  have far : x ≠ hp.objs.size := Nat.ne_of_lt (Heap.lt_size hx)
  have isO : W.Looks (model prog w) hp (isInstance (.ref x) (.type "object")) true := by
    refine inst.type.andThen (W.looks_mroIn KI ?_)
    unfold W.mroIn
    rw [hcd, Option.bind_some, if_neg (by rw [nem]; decide), hasO]
  refine codeAny_call_builtin SF.slot.plain SF.entry ?_
  refine @W.check_slot (model prog w) _ _ ⟨hp, g, d, t, os⟩ "object.__setattr__" "object" "__setattr__" (.ref x) [.str name tk, v] [] _ SF.kind SF.split isO (SF.args (.ref x) (.str name tk) v) ?_
  have lm : W.Looks (model prog w) hp (mroOf (.ref C)) cd.mro := (W.looks_clsIn KI hcd).andThen .now
  have lt : W.Looks (model prog w) hp (storeTaker? none) none := .now
  have lc : W.Looks (model prog w) hp (classData C) cd := W.looks_clsIn KI hcd
  rw [W.osa_eq, refuse_eq]
  refine wpAny_bind (wpAny_bind (inst.type.at (wpAny_bind (lm.at ?_))))
  rw [arOver_pass _ _ hm]
  refine wpAny_pure (wpAny_bind (inst.type.at (wpAny_bind ((W.looks_findIn KI ha).at (wpAny_bind (lt.at ?_))))))
  show wpAny _ _ (storeInOwnDict (.ref x) (.ref C) (.str name tk) name v false) _ _ _
  obtain ⟨nm, bs, mro, ns, qn, hd, sn, sb, ab, col, del⟩ := cd
  dsimp only at hh
  subst hh
  unfold storeInOwnDict ownDictForStores
  repeat (first | with_reducible refine store_in_new ?_ ?_ | with_reducible refine wpAny_loadPart_at hx ?_ | with_reducible refine lc.at ?_ | wp_step)
  · refine ⟨_, #[], _, (Heap.get?_update_ne _ _ _ _ far.symm).trans (Heap.get?_push_at rfl rfl), rfl, ?_, fun _ => rfl⟩
    intro e he
    exact absurd he (by simp)
  · intro h' tk' hn' hs
    have hx1 : (hp.push { cls := .type "dict", data := .dict #[] }).get? x = some { cls := .ref C, data := .fields fv } := Heap.get?_push_of_some _ hx
    refine hq h' tk' hp.objs.size ?_ (Nat.le_refl _) far.symm ?_ hn'
    · intro b o hb ho
      refine (hs.2 b (Nat.ne_of_lt (Heap.lt_size ho))).trans ?_
      exact (Heap.get?_update_ne _ _ _ _ hb).trans (Heap.get?_push_of_some _ ho)
    · exact (hs.2 x far).trans (Heap.get?_update_self _ hx1 rfl)

/-- what the written part says of an exception class C whose one field is f and whose __init__ is at fI -/
structure ArC (K : Frag) (C fI : Addr) (f : Str) : Prop where
  cls : ∃ nm q N bs bm sn sub ab col dd k0 k1 k2 k3 k5, K.lookup C = some (excClassObj nm q C N bs bm true sn sub ab col dd k0 k1 k2 k3 k5 "ArithmeticError.__new__") ∧ arOver bm = true
  sa : findIn K (.ref C) "__setattr__" = some (some (.builtin "object.__setattr__"))
  ga : findIn K (.ref C) "__getattribute__" = some (some (.builtin "BaseException.__getattribute__"))
  gg : findIn K (.ref C) "__getattr__" = some none
  hd : hasDictIn K C = true
  nf : findIn K (.ref C) f = some none
  exC : subIn K (.ref C) (.type "BaseException") = some true
  tyC : typeIn K (.ref C) = some (.type "type")
  kC : keepIn K (.ref C) = true
  iC : findIn K (.ref C) "__init__" = some (some (.ref fI))
  tI : typeIn K (.ref fI) = some (.type "function")
theorem ArC.xf {K : Frag} {C fI : Addr} {f : Str} (T : ArC K C fI f) : XfC K C := ⟨T.ga, T.gg, T.exC, T.hd⟩

section
variable {X : Cx} {pins : List (Addr × Obj)} {σ : St} {H : Hp} {s : Shared} {a C fI : Addr} {f : Str} {y : V} {u : Value}
theorem ar_put {Q : Unit → Shared → Prop} {E : Value → Shared → Prop} {A : Around} (T : ArC X.K C fI f) (I : Inv X pins σ H s) (e : H a = some (exo a C none)) (ry : RelV y u)
    (h : ∀ dx s', H dx = none → dx ≠ a → Inv X pins σ (upd (upd H dx (exd dx [(f, y)])) a (exo a C (some dx))) s' → Q () s') : wpAny (model X.prog X.w) A (setAttr (.ref a) f u) Q E s := by
  obtain ⟨nm, q, N, bs, bm, sn, sub, ab, col, dd, k0, k1, k2, k3, k5, hC, hbm⟩ := T.cls
  have hcl : clsIn X.K C = some { name := nm, bases := bs, mro := .ref C :: bm, ns := N, qualname := q, hasDict := true, slotNames := sn, subclasses := sub, abstract := ab, collection := col, hasDel := false } := by
    unfold PySem.W.clsIn
    rw [hC] <;> rfl
  obtain ⟨t1, ho⟩ := exo_at I.hok e
  obtain ⟨hp, g, d, t, os⟩ := s
  refine PySem.W.set_plain I.kIn (ox := { cls := .ref C, dict := none, data := .fields #[.ref t1, .none, .none, .none, .bool false, .none] }) (od := none) ⟨ho, rfl, rfl, trivial⟩ T.sa ?_
  refine ar_store I.kIn ho hcl (show arOver (.ref C :: bm) = true from hbm) rfl T.nf ?_
  intro h' tk' dx k dn dne hx hn
  have free : H dx = none := I.hok.fresh dn
  have nd : ∀ {b : Addr} {o : Obj}, hp.get? b = some o → b ≠ dx := fun {b o} q => Nat.ne_of_lt (Nat.lt_of_lt_of_le (Heap.lt_size q) dn)
  have na : ∀ {b : Addr}, H b = none → b ≠ a := fun {b} n z => by
    rw [z, e] at n
    cases n
  have U : Un X.fs [] H (upd (upd H dx (exd dx [(f, y)])) a (exo a C (some dx))) hp h' := by
    constructor
    · intro b o q n _ _
      exact k b o (na n) q
    · intro b o q n _ _
      exact ⟨o.slots, k b o (na n) q⟩
    · intro b o q n _
      rw [upd_ne (na n), upd_ne (nd q)]
      exact n
    · intro b o q _
      by_cases hb : b = a
      · exact ⟨_, by rw [hb]; exact hx⟩
      · exact ⟨o, k b o hb q⟩
    · intro b xs q
      rw [upd_ne (at_ne e q exo_tup), upd_ne (ne_of_none q free)]
      exact q
    · intro b o v q
      rw [upd_ne (at_ne e q exo_frz), upd_ne (ne_of_none q free)]
      exact q
    · intro b ps q
      refine ⟨#[], ?_⟩
      rw [upd_ne (at_ne e q exo_tbl), upd_ne (ne_of_none q free), q]
      simp
  refine h dx _ free dne (I.un (t' := tk') U ?_)
  intro b o q
  by_cases hb : b = a
  · subst hb
    rw [upd_same] at q
    cases q
    exact exo_ok hx
  · rw [upd_ne hb] at q
    by_cases hd : b = dx
    · subst hd
      rw [upd_same] at q
      cases q
      exact exd_ok hn (relO_put (fs := []) ry fun g => True.intro)
    · rw [upd_ne hd] at q
      refine (I.hok b o q).stay ?_ ?_ ?_
      · intro c v hc z
        refine k c v ?_ z
        rcases hc with hc | hc
        · rw [hc]
          exact hb
        · exact at_ne e hc exo_own
      · intro c hc
        rw [upd_ne (at_ne e hc exo_own), upd_ne (ne_of_none hc free)]
        exact hc
      · intro c xs hc
        rw [upd_ne (at_ne e hc exo_tup), upd_ne (ne_of_none hc free)]
        exact hc
end

/-! ### __init__: self.f = v -/
def spExc (C : Addr) (f : Str) : Sp := fun vs H Q _ => ∃ (a : Addr) (y : V), vs = [.ref a, y] ∧ H a = some (exo a C none) ∧
  ∀ dx, H dx = none → dx ≠ a → Q .non (upd (upd H dx (exd dx [(f, y)])) a (exo a C (some dx)))
/-- self.f = e, the first field -/
def tArSet (K : Frag) (f : Str) (to te : TE) : TS := fun D σ H => te σ H fun y H1 => to σ H1 fun x H2 => ∃ a C fI : Addr, x = .ref a ∧ ArC K C fI f ∧
  H2 a = some (exo a C none) ∧ ∀ dx, H2 dx = none → dx ≠ a → D.nx σ (upd (upd H2 dx (exd dx [(f, y)])) a (exo a C (some dx)))
theorem ps_arset {X : Cx} {o e : Expr} {to te : TE} {f : Str} {p' pos : Pos} (ho : PE X o to) (he : PE X e te) (hs : swapsWith e (some (.Attribute o f p')) pos.line X.env = pure false := by rfl) :
    PS X (.Assign [.Attribute o f p'] e pos) (tArSet X.K f to te) := by
  refine ⟨fun pins s σ H D I h => ?_⟩
  refine plainObj_wpAny_Assign_Attribute (thn (he.run pins s σ H _ I h) fun v s1 hv => ?_) hs
  obtain ⟨y, H1, I1, r1, q1⟩ := hv
  refine thn (ho.run pins s1 σ H1 _ I1 q1) fun u s2 hu => ?_
  obtain ⟨x, H2, I2, r2, a, C, fI, ex, T, ea, q⟩ := hu
  subst ex
  obtain rfl : u = Value.ref a := r2
  exact ar_put T I2 ea r1 fun dx s' n ne J => ⟨σ, _, J, q dx n ne⟩

/-! ### C(e), to be raised -/
def tArMk (C : Addr) (f : Str) (ta : TA) : St → Hp → XK → Prop := fun σ H Q => ta σ H fun vs H1 => ∃ y, vs = [y] ∧ ∀ d, H1 d = none → Q (.ref C) (some d) (upd H1 d (.xd [(f, y)]))
theorem ar_end {H1 : Hp} {a d C : Addr} {f : Str} {y : V} (n : H1 a = none) (dn : d ≠ a) :
    upd (del (upd (upd (upd H1 a (exo a C none)) d (exd d [(f, y)])) a (exo a C (some d))) a) d (.xd [(f, y)]) = upd H1 d (.xd [(f, y)]) := by
  funext b
  by_cases hb : b = d
  · rw [hb, upd_same, upd_same]
  · rw [upd_ne hb, upd_ne hb]
    by_cases ha : b = a
    · rw [ha, del_same, n]
    · rw [del_ne ha, upd_ne ha, upd_ne hb, upd_ne ha]
section
variable {X : Cx} {CX : CXT} {C fI : Addr} {f x : Str} {k : Nat} {fd : FuncData} {ta : TA} {e : Expr} {es : List Expr} {p pos : Pos}
theorem pmk_ar {ps : List Str} (T : ArC X.K C fI f) (F1 : FnOk X.prog X.w X.K X.mg X.base CX k fI fd ps (spExc C f)) (hr : Room (k + 1) X.A) (hb : Binds X.K fd ps [])
    (hx : Passes CX X (fun _ _ _ => False)) (hg : Gl X x) (hm : X.mg x = some (.ref C)) (ha : PA X (e :: es) ta)
    (hdb : (x == ("__debug__" : Str)) = false := by decide) (he : starEach (e :: es) X.env = (false, eval e X.env) :: starEach es X.env := by rfl) (hpl : (backTo pos (starEach es X.env)).any (·.1) = false := by rfl) :
    PMk X (.Call (.Name x p) (e :: es) [] pos) (tArMk C f ta) := by
  intro pins s σ H Q I h
  obtain ⟨nm, q, N, bs, bm, sn, sub, ab, col, dd, k0, k1, k2, k3, k5, hC, hbm⟩ := T.cls
  refine wpAny_Call_Name_kw (ld_glob I hg hm ?_ hdb)
  refine PySem.W.callWith_K (h₀ := X.base) I.ok.mod.kin T.kC (thn (ha.run pos pins s σ H _ I h) fun us s1 hh => ?_) he hpl
  obtain ⟨vs, H1, I1, r1, y, ey, q1⟩ := hh
  subst ey
  refine ⟨I1.kIn, ?_⟩
  show wpAny _ _ (call (.ref C) us) _ _ _
  obtain ⟨hp, g, dr, tk, os⟩ := s1
  have hsz : hp.objs.size ≤ hp.objs.size + 1 := Nat.le_succ _
  have hn : H1 (hp.objs.size + 1) = none := I1.hok.fresh hsz
  have keep2 : ∀ b o, hp.get? b = some o → ((hp.push (PySem.W.kdv_tup us)).push (PySem.HandSPX.excO C hp.objs.size)).get? b = some o := fun b o z => Heap.get?_push_of_some _ (Heap.get?_push_of_some _ z)
  have hget : ((hp.push (PySem.W.kdv_tup us)).push (PySem.HandSPX.excO C hp.objs.size)).get? (hp.objs.size + 1) = some (PySem.HandSPX.excO C hp.objs.size) := by heap_get
  have I2 : Inv X pins σ (upd H1 (hp.objs.size + 1) (exo (hp.objs.size + 1) C none)) ⟨(hp.push (PySem.W.kdv_tup us)).push (PySem.HandSPX.excO C hp.objs.size), g, dr, tk, os⟩ :=
    I1.laid (t' := tk) (a := hp.objs.size + 1) (o := exo (hp.objs.size + 1) C none) keep2 hsz (exo_ok hget)
  have r2 : Vals [V.ref (hp.objs.size + 1), y] (Value.ref (hp.objs.size + 1) :: (us ++ [])) := .cons rfl (by rw [List.append_nil]; exact r1)
  have call1 : spExc C f [V.ref (hp.objs.size + 1), y] (upd H1 (hp.objs.size + 1) (exo (hp.objs.size + 1) C none))
      (fun v H2 => v = .non ∧ ∃ d : Addr, H2 (hp.objs.size + 1) = some (exo (hp.objs.size + 1) C (some d)) ∧ H2 d = some (exd d [(f, y)]) ∧ H1 d = none ∧ Q (.ref C) (some d) (upd (del H2 (hp.objs.size + 1)) d (.xd [(f, y)]))) (fun _ _ _ => False) := by
    refine ⟨_, y, rfl, upd_same, fun dx n ne => ⟨rfl, dx, upd_same, by rw [upd_ne ne]; exact upd_same, by rw [upd_ne ne] at n; exact n, ?_⟩⟩
    rw [ar_end hn ne]
    exact q1 dx (by rw [upd_ne ne] at n; exact n)
  have hl : (Value.ref (hp.objs.size + 1) :: us ++ []).length = ps.length := by
    have z := r2.length
    rw [F1.len _ _ _ _ call1] at z
    exact z.symm
  have hus : us.length ≤ sizeLine := by
    rw [← Paired.length r1, sizeLine_eq]
    exact (by decide : 1 ≤ 16777216)
  have hbb := hb _ (Value.ref (hp.objs.size + 1) :: us) I2.kIn hl
  rw [List.cons_append] at hbb
  refine wpAny_call (PySem.HandSPX.call_own F.excBase_ArithmeticError (fun Y => arOver_has Y bm hbm) (I1.kIn _ _ hC) (PySem.W.looks_findIn I1.kIn T.iC) (fun self => PySem.W.bind_fn I1.kIn self T.tI) hus ?_)
  refine codeAny_mono (F1.run _ X.stack _ _ ⟨Value.ref (hp.objs.size + 1) :: us, []⟩ (Value.ref (hp.objs.size + 1) :: (us ++ [])) _ _ (fun _ _ _ => False) (hr.make C us []) (I2.env0.make C us []) hbb r2 call1) fun r s' hq' => ?_
  cases r with
  | error er => exact hx pins σ _ _ er s' I2 hq'
  | ok fl =>
    cases fl with
    | ret u =>
      obtain ⟨v, H2, os2, bare2, un2, hok2, rv, ev, d, ea, ed, hd1, q2⟩ := hq'
      subst ev
      obtain ⟨h2, g2, d2, t2, os'⟩ := s'
      exact ⟨rv, mk_end (raises_own T.exC T.tyC) I1 hsz keep2 un2 hok2 os2 bare2 ea ed hd1 q2⟩
    | next => exact False.elim hq'
    | brk => exact False.elim hq'
    | cont => exact False.elim hq'
end
end Fc
end L2
set_option Elab.async false
set_option linter.all false
set_option maxRecDepth 100000
set_option maxHeartbeats 4000000
/-! Objects as they are passed to Code, and the numbering of statements as a machine over a stack. -/
namespace L2
namespace Fc
open PySem PySem.Spec PyProof.Rows

/-- an object, as far as Code looks at it -/
inductive O where
  | non | bl (b : Bool) | int (i : Int) | str (x : Str) | tup (os : List O) | lst | dct
/-- the name of an object's type -/
def O.ty : O → String
  | .non => "NoneType" | .bl _ => "bool" | .int _ => "int" | .str _ => "str" | .tup _ => "tuple" | .lst => "list" | .dct => "dict"

mutual
/-- the value v is the object o -/
inductive Ob (K : PySem.W.Frag) (H : Hp) : V → O → Prop
  | non : Ob K H .non .non
  | bl (b : Bool) : Ob K H (.bl b) (.bl b)
  | int (i : Int) : Ob K H (.int i) (.int i)
  | str (x : Str) : x.length ≤ sizeLine → Ob K H (.str x) (.str x)
  | tup {a : Addr} {xs : List V} {os : List O} : SqT K H a xs → Obs K H xs os → os.length < 20000 → Ob K H (.ref a) (.tup os)
  | lst {a : Addr} {xs : List V} : H a = some (.lst xs) → Ob K H (.ref a) .lst
  | dct {a : Addr} {kvs : List (Key × V)} : H a = some (.dK kvs) → Ob K H (.ref a) .dct
inductive Obs (K : PySem.W.Frag) (H : Hp) : List V → List O → Prop
  | nil : Obs K H [] []
  | cons {v : V} {vs : List V} {o : O} {os : List O} : Ob K H v o → Obs K H vs os → Obs K H (v :: vs) (o :: os)
end
theorem Same.sqt {K : PySem.W.Frag} {H H' : Hp} {a : Addr} {xs : List V} (e : Same H H') (h : SqT K H a xs) : SqT K H' a xs := by
  rcases h with (h | ⟨o, h⟩) | h
  · exact .inl (.inl (e _ _ h))
  · exact .inl (.inr ⟨o, e _ _ h⟩)
  · exact .inr h
mutual
theorem Ob.mono {K : PySem.W.Frag} {H H' : Hp} (e : Same H H') : ∀ {v : V} {o : O}, Ob K H v o → Ob K H' v o
  | _, _, .non => .non
  | _, _, .bl b => .bl b
  | _, _, .int i => .int i
  | _, _, .str x h => .str x h
  | _, _, .tup h r b => .tup (Same.sqt e h) (Obs.mono e r) b
  | _, _, .lst h => .lst (e _ _ h)
  | _, _, .dct h => .dct (e _ _ h)
theorem Obs.mono {K : PySem.W.Frag} {H H' : Hp} (e : Same H H') : ∀ {vs : List V} {os : List O}, Obs K H vs os → Obs K H' vs os
  | _, _, .nil => .nil
  | _, _, .cons h r => .cons (Ob.mono e h) (Obs.mono e r)
end
theorem Obs.len {K : PySem.W.Frag} {H : Hp} : ∀ {vs : List V} {os : List O}, Obs K H vs os → vs.length = os.length
  | _, _, .nil => rfl
  | _, _, .cons _ r => by rw [List.length_cons, List.length_cons, Obs.len r]
theorem Obs.get {K : PySem.W.Frag} {H : Hp} : ∀ {vs : List V} {os : List O} {i : Nat} {o : O}, Obs K H vs os → os[i]? = some o → ∃ v, vs[i]? = some v ∧ Ob K H v o
  | _, _, 0, _, .cons h _, e => ⟨_, rfl, by cases e; exact h⟩
  | _, _, i + 1, _, .cons _ r, e => by
    obtain ⟨v, h1, h2⟩ := Obs.get (i := i) r e
    exact ⟨v, h1, h2⟩
theorem Obs.snoc {K : PySem.W.Frag} {H : Hp} {v : V} {o : O} : ∀ {vs : List V} {os : List O}, Obs K H vs os → Ob K H v o → Obs K H (vs ++ [v]) (os ++ [o])
  | _, _, .nil, h => .cons h .nil
  | _, _, .cons g r, h => .cons g (Obs.snoc r h)
theorem Obs.drop {K : PySem.W.Frag} {H : Hp} : ∀ {vs : List V} {os : List O} (n : Nat), Obs K H vs os → Obs K H (vs.drop n) (os.drop n)
  | _, _, 0, r => r
  | _, _, _ + 1, .nil => .nil
  | _, _, n + 1, .cons _ r => Obs.drop n r
/-- its type, as isinstance asks -/
theorem Ob.tyx {K : PySem.W.Frag} {H : Hp} {v : V} {o : O} (h : Ob K H v o) : TyX K H v (.type o.ty) := by
  cases h with
  | non => exact .base .non
  | bl b => exact .base (.bl b)
  | int i => exact .base (.int i)
  | str x _ => exact .base (.str x)
  | tup h r _ =>
    rcases h with (h | ⟨ob, h⟩) | ⟨ob, its, n, h1, h2, _⟩
    · exact .base (.tup h)
    · exact .fTuple h
    · exact .kTuple h1 h2
  | lst h => exact .base (.lst h)
  | dct h => exact .base (.dK h)
def O.is (o : O) (n : String) : Bool := (kitB o.ty n).getD false
theorem isi_of {K : PySem.W.Frag} {H : Hp} {v : V} {o : O} {n : String} {Q : VK} (h : Ob K H v o) (hn : (kitB o.ty n).isSome = true) (q : Q (.bl (o.is n)) H) : rIsi K [v, .ty n] H Q := by
  obtain ⟨b, hb⟩ := Option.isSome_iff_exists.mp hn
  have e : o.is n = b := by
    unfold O.is
    rw [hb]
    rfl
  rw [e] at q
  exact ⟨v, .ty n, .type o.ty, .type n, b, rfl, .ty n, h.tyx, kit_ty hb, q⟩
def tyNames : List String := ["NoneType", "bool", "int", "str", "tuple", "list", "dict"]
theorem ty_mem (o : O) : o.ty ∈ tyNames := by cases o <;> simp [O.ty, tyNames]
theorem kit_str (o : O) : (kitB o.ty "str").isSome = true := (show ∀ t ∈ tyNames, (kitB t "str").isSome = true by decide +kernel) _ (ty_mem o)
theorem kit_tuple (o : O) : (kitB o.ty "tuple").isSome = true := (show ∀ t ∈ tyNames, (kitB t "tuple").isSome = true by decide +kernel) _ (ty_mem o)
theorem kit_int (o : O) : (kitB o.ty "int").isSome = true := (show ∀ t ∈ tyNames, (kitB t "int").isSome = true by decide +kernel) _ (ty_mem o)
theorem kit_bool (o : O) : (kitB o.ty "bool").isSome = true := (show ∀ t ∈ tyNames, (kitB t "bool").isSome = true by decide +kernel) _ (ty_mem o)
theorem kb_of {o : O} {n : String} (h : (kitB o.ty n).isSome = true) : kitB o.ty n = some (o.is n) := by
  obtain ⟨b, hb⟩ := Option.isSome_iff_exists.mp h
  unfold O.is
  rw [hb]
  rfl
theorem kb_str (o : O) : kitB o.ty "str" = some (o.is "str") := kb_of (kit_str o)
theorem kb_tuple (o : O) : kitB o.ty "tuple" = some (o.is "tuple") := kb_of (kit_tuple o)
theorem kb_int (o : O) : kitB o.ty "int" = some (o.is "int") := kb_of (kit_int o)
theorem kb_bool (o : O) : kitB o.ty "bool" = some (o.is "bool") := kb_of (kit_bool o)
def O.isStr : O → Bool | .str _ => true | _ => false
def O.isTup : O → Bool | .tup _ => true | _ => false
def O.isInt : O → Bool | .int _ => true | _ => false
theorem is_str (o : O) : o.is "str" = o.isStr := by
  refine ((show ∀ t ∈ tyNames, (kitB t "str").getD false = (t == "str") by decide +kernel) _ (ty_mem o)).trans ?_
  cases o <;> simp [O.ty, O.isStr]
theorem is_tuple (o : O) : o.is "tuple" = o.isTup := by
  refine ((show ∀ t ∈ tyNames, (kitB t "tuple").getD false = (t == "tuple") by decide +kernel) _ (ty_mem o)).trans ?_
  cases o <;> simp [O.ty, O.isTup]
theorem is_int (o : O) : (o.is "int" && !o.is "bool") = o.isInt := by
  refine ((show ∀ t ∈ tyNames, ((kitB t "int").getD false && !(kitB t "bool").getD false) = (t == "int") by decide +kernel) _ (ty_mem o)).trans ?_
  cases o <;> simp [O.ty, O.isInt]

theorem Ob.lenv {K : PySem.W.Frag} {H : Hp} {v : V} {x : Str} (h : Ob K H v (.str x)) : LenV K v H x.length := by
  cases h with
  | str _ h => exact ⟨h, rfl⟩
theorem Ob.str_eq {K : PySem.W.Frag} {H : Hp} {v : V} {x : Str} (h : Ob K H v (.str x)) : v = .str x := by
  cases h with
  | str _ h => rfl
theorem Ob.int_eq {K : PySem.W.Frag} {H : Hp} {v : V} {i : Int} (h : Ob K H v (.int i)) : v = .int i := by
  cases h with
  | int _ => rfl
theorem Ob.tup_eq {K : PySem.W.Frag} {H : Hp} {v : V} {os : List O} (h : Ob K H v (.tup os)) : ∃ (a : Addr) (xs : List V), v = .ref a ∧ SqT K H a xs ∧ Obs K H xs os := by
  cases h with
  | tup h r _ => exact ⟨_, _, rfl, h, r⟩
theorem Ob.tup_lt {K : PySem.W.Frag} {H : Hp} {v : V} {os : List O} (h : Ob K H v (.tup os)) : os.length < 20000 := by
  cases h with
  | tup _ _ b => exact b
theorem Ob.lent {K : PySem.W.Frag} {H : Hp} {v : V} {os : List O} (h : Ob K H v (.tup os)) : LenV K v H os.length := by
  cases h with
  | tup h r _ => exact Or.inr ⟨_, h, (Obs.len r).symm⟩

/-! ### walks by their turns -/
theorem lc_it {J : It} {n : Nat} {g : TG} {tt : TT} {te : TE} {vs : List Nat} {σ : St} {H1 : Hp} {D : Addr} {Qd : Hp → Prop} (Pv : Nat → Hp → Prop) (h0 : Pv 0 (upd H1 D (.lst [])))
    (hgo : ∀ i H, i < n → Pv i H → J.go i H) (hst : ∀ H, Pv n H → J.stop n H)
    (hs : ∀ i x H H', i < n → Pv i H → J.yld i H x H' → g x (wipe σ vs) H' fun σ2 H2 => wipe σ2 vs = wipe σ vs ∧ tt σ2 H2 fun b H3 =>
      if b = true then te σ2 H3 fun y H4 => ∃ acc, H4 D = some (.lst acc) ∧ acc.length < sizeLine ∧ Pv (i + 1) (upd H4 D (.lst (acc ++ [y]))) else Pv (i + 1) H3) (hd : ∀ H, Pv n H → Qd H) :
    ∃ W : Nat → Nat → Hp → Prop, (∃ m, W 0 m (upd H1 D (.lst []))) ∧ ∀ i m H, W i m H →
      (J.stop i H ∧ Qd H) ∨ (J.go i H ∧ ∃ Nx : Hp → Prop, (∀ H', Nx H' → ∃ m', m' < m ∧ W (i + 1) m' H') ∧ ∀ x H', J.yld i H x H' → g x (wipe σ vs) H' fun σ2 H2 => wipe σ2 vs = wipe σ vs ∧ tt σ2 H2 fun b H3 =>
        if b = true then te σ2 H3 fun y H4 => ∃ acc, H4 D = some (.lst acc) ∧ acc.length < sizeLine ∧ Nx (upd H4 D (.lst (acc ++ [y]))) else Nx H3) := by
  refine ⟨fun i m H => m = n - i ∧ i ≤ n ∧ Pv i H, ⟨n, by simp, Nat.zero_le _, h0⟩, ?_⟩
  rintro i m H ⟨rfl, hi, p⟩
  rcases Nat.lt_or_ge i n with hlt | hge
  · exact Or.inr ⟨hgo i H hlt p, Pv (i + 1), fun H' p' => ⟨n - (i + 1), by omega, rfl, hlt, p'⟩, fun x H' y => hs i x H H' hlt p y⟩
  · obtain rfl : i = n := Nat.le_antisymm hi hge
    exact Or.inl ⟨hst H p, hd H p⟩
theorem for_it {J : It} {n : Nat} {g : TG} {tb : TS} {D : Ends} {σ : St} {H : Hp} (Pv : Nat → St → Hp → Prop) (h0 : Pv 0 σ H)
    (hgo : ∀ i σ H, i < n → Pv i σ H → J.go i H) (hst : ∀ σ H, Pv n σ H → J.stop n H)
    (hs : ∀ i x σ H H', i < n → Pv i σ H → J.yld i H x H' → g x σ H' fun σ2 H2 => tb { D with nx := Pv (i + 1), ct := Pv (i + 1), bk := D.nx } σ2 H2) (hd : ∀ σ H, Pv n σ H → D.nx σ H) :
    ∃ W : Nat → Nat → St → Hp → Prop, (∃ m, W 0 m σ H) ∧ ∀ i m σ H, W i m σ H →
      (J.stop i H ∧ D.nx σ H) ∨ (J.go i H ∧ ∃ N : St → Hp → Prop, (∀ σ' H', N σ' H' → ∃ m', m' < m ∧ W (i + 1) m' σ' H') ∧ ∀ x H', J.yld i H x H' → g x σ H' fun σ2 H2 => tb { D with nx := N, ct := N, bk := D.nx } σ2 H2) := by
  refine ⟨fun i m σ H => m = n - i ∧ i ≤ n ∧ Pv i σ H, ⟨n, by simp, Nat.zero_le _, h0⟩, ?_⟩
  rintro i m σ H ⟨rfl, hi, p⟩
  rcases Nat.lt_or_ge i n with hlt | hge
  · exact Or.inr ⟨hgo i σ H hlt p, Pv (i + 1), fun σ' H' p' => ⟨n - (i + 1), by omega, rfl, hlt, p'⟩, fun x H' y => hs i x σ H H' hlt p y⟩
  · obtain rfl : i = n := Nat.le_antisymm hi hge
    exact Or.inl ⟨hst σ H p, hd σ H p⟩
theorem upd_none {H : Hp} {a b : Addr} {o : HO} (h : upd H a o b = none) : b ≠ a ∧ H b = none := by
  by_cases e : b = a
  · rw [e, upd_same] at h
    cases h
  · exact ⟨e, by rw [upd_ne e] at h; exact h⟩
/-- a new object beside what was tracked -/
theorem Same.new {H H' : Hp} {p : Addr} {o : HO} (e : Same H H') (n : H' p = none) : Same H (upd H' p o) := fun b u q => by
  rw [upd_ne (ne_of_none (e b u q) n)]
  exact e b u q
/-- a change of an object that was not tracked then -/
theorem Same.chg {H H' : Hp} {p : Addr} {o : HO} (e : Same H H') (n : H p = none) : Same H (upd H' p o) := fun b u q => by
  rw [upd_ne (ne_of_none q n)]
  exact e b u q
theorem Same.put {H : Hp} {p : Addr} {o : HO} (n : H p = none) : Same H (upd H p o) := Same.chg (Same.refl H) n

/-! ### what a statement is -/
def nameOk (x : Str) : Bool := decide (1 ≤ x.length) && (decide (x.length ≤ 8) && x.cps.toList.all fun ch => decide (97 ≤ ch) && decide (ch ≤ 122))
def O.isName : O → Bool | .str x => nameOk x | _ => false
/-- how many items the tuple of a kind has -/
def szOf (k : Str) : Option Nat :=
  if k = "do" then some 2 else if k = "call" then some 2 else if k = "if" then some 4 else if k = "while" then some 3 else if k = "seq" then some 2 else if k = "break" then some 2 else
  if k = "continue" then some 2 else if k = "return" then some 1 else if k = "raise" then some 1 else if k = "try" then some 3 else if k = "final" then some 3 else none
def O.hasKind : O → Bool
  | .tup (.str k :: r) => szOf k == some (r.length + 1)
  | _ => false
def named (k : Str) : Bool := decide (k = "do") || (decide (k = "call") || (decide (k = "if") || decide (k = "while")))
def jumps (k : Str) : Bool := decide (k = "break") || decide (k = "continue")
def pairs (k : Str) : Bool := decide (k = "try") || decide (k = "final")
def O.jumpOk (wh : Nat) : O → Bool
  | .int i => decide (1 ≤ i) && decide (i ≤ wh)
  | _ => false
def O.seqOk : O → Bool
  | .tup os => !os.isEmpty
  | _ => false
def O.items : O → List O
  | .tup os => os
  | _ => []
def tailOk (wh : Nat) (k : Str) (r : List O) : Bool := if named k then (r.headD .non).isName else if jumps k then (r.headD .non).jumpOk wh else if k = "seq" then (r.headD .non).seqOk else true
def O.isStmt (o : O) (wh : Nat) : Bool := o.hasKind && (match o with
  | .tup (.str k :: r) => tailOk wh k r
  | _ => false)
def O.parts : O → List O
  | .tup (.str k :: r) => if k = "seq" then (r.headD .non).items else if pairs k then r else r.drop 1
  | _ => []
/-- a flat tuple that tells all but what its parts are -/
def O.head : O → List O
  | .tup (.str k :: r) => if k = "seq" then [.str k, .int (r.headD .non).items.length] else if (named k || jumps k) = true then [.str k, r.headD .non] else [.str k]
  | _ => []
def O.kind : O → Str
  | .tup (.str k :: _) => k
  | _ => ""

theorem named_cases {z : Str} (h : named z = true) : z = "do" ∨ z = "call" ∨ z = "if" ∨ z = "while" := by
  unfold named at h
  simp only [Bool.or_eq_true, decide_eq_true_eq] at h
  exact h
theorem jumps_cases {z : Str} (h : jumps z = true) : z = "break" ∨ z = "continue" := by
  unfold jumps at h
  simp only [Bool.or_eq_true, decide_eq_true_eq] at h
  exact h
theorem sz_named {z : Str} (h : named z = true) : szOf z ≠ some 1 := by
  rcases named_cases h with rfl | rfl | rfl | rfl <;> decide +kernel
theorem sz_jumps {z : Str} (h : jumps z = true) : szOf z ≠ some 1 := by
  rcases jumps_cases h with rfl | rfl <;> decide +kernel
theorem beq_dec (a b : Str) : (a == b) = decide (b = a) := by
  by_cases h : a = b
  · subst h
    simp
  · rw [decide_eq_false (fun q => h q.symm)]
    simpa using h
theorem inV_named (z : Str) : (if false = true then !inV (.str z) [.str "do", .str "call", .str "if", .str "while"] else inV (.str z) [.str "do", .str "call", .str "if", .str "while"]) = named z := by
  rw [if_neg Bool.false_ne_true]
  show ((("do" : Str) == z) || ((("call" : Str) == z) || ((("if" : Str) == z) || ((("while" : Str) == z) || false)))) = named z
  rw [beq_dec, beq_dec, beq_dec, beq_dec, Bool.or_false]
  rfl
theorem inV_jumps (z : Str) : (if false = true then !inV (.str z) [.str "break", .str "continue"] else inV (.str z) [.str "break", .str "continue"]) = jumps z := by
  rw [if_neg Bool.false_ne_true]
  show ((("break" : Str) == z) || ((("continue" : Str) == z) || false)) = jumps z
  rw [beq_dec, beq_dec, Bool.or_false]
  rfl
theorem inV_pairs (z : Str) : (if false = true then !inV (.str z) [.str "try", .str "final"] else inV (.str z) [.str "try", .str "final"]) = pairs z := by
  rw [if_neg Bool.false_ne_true]
  show ((("try" : Str) == z) || ((("final" : Str) == z) || false)) = pairs z
  rw [beq_dec, beq_dec, Bool.or_false]
  rfl
theorem hasKind_of {o : O} (h : o.hasKind = true) : ∃ (z : Str) (r : List O), o = .tup (.str z :: r) ∧ szOf z = some (r.length + 1) := by
  match o, h with
  | .tup (.str z :: r), h => exact ⟨z, r, rfl, beq_iff_eq.mp h⟩

/-! ### the numbering -/
inductive Err where
  | bad (n : Nat) | lim (n : Nat)
structure Spot where
  (o : O) (par : Option Nat) (lev wh : Nat) (lay : List Nat)
def judge (n : Nat) (s : Spot) : Option Err :=
  if 400 ≤ n then some (.lim 400) else if 100 < s.lev then some (.lim 100) else if 25 < s.lay.length then some (.lim 25) else if s.o.isStmt s.wh then none else some (.bad n)
def inner (n : Nat) (s : Spot) (o : O) : Spot := { o := o, par := some n, lev := s.lev + 1, wh := if s.o.kind = "while" then s.wh + 1 else s.wh, lay := s.lay }
def inBlock (n : Nat) (s : Spot) (o : O) : Spot := { inner n s o with lay := s.lay ++ [n] }
def inside (n : Nat) (s : Spot) : List Spot := if s.o.kind = "final" then (match s.o.parts with | [o1, o2] => [inner n s o1, inBlock n s o2] | _ => []) else s.o.parts.map (inner n s)
/-- the machine: what stands on the stack (the next one first), what is numbered, how it ends -/
inductive Runs : List Spot → List Spot → Except Err (List Spot) → Prop
  | nil {rows : List Spot} : Runs [] rows (.ok rows)
  | bad {s : Spot} {rest rows : List Spot} {e : Err} : judge rows.length s = some e → Runs (s :: rest) rows (.error e)
  | step {s : Spot} {rest rows : List Spot} {r : Except Err (List Spot)} : judge rows.length s = none → Runs (inside rows.length s ++ rest) (rows ++ [s]) r → Runs (s :: rest) rows r
/-- what is wished of an error -/
def ErrE (cBad cLim : Addr) (H : Hp) (E : XK) : Err → Prop
  | .bad n => ∀ H' d, Same H H' → H d = none → H' d = some (.xd [(("number" : Str), V.int (n : Nat))]) → E (.ref cBad) (some d) H'
  | .lim n => ∀ H' d, Same H H' → H d = none → H' d = some (.xd [(("limit" : Str), V.int (n : Nat))]) → E (.ref cLim) (some d) H'
def optV : Option Nat → V
  | none => .non
  | some n => .int (n : Nat)
def intsV (l : List Nat) : List V := l.map fun n => V.int (n : Nat)
/-- the tuple of a spot stands at p -/
def SpotAt (K : PySem.W.Frag) (H : Hp) (p : Addr) (s : Spot) : Prop := ∃ (v : V) (la : Addr), SqT K H p [v, optV s.par, .int (s.lev : Nat), .int (s.wh : Nat), .ref la] ∧ Ob K H v s.o ∧ H la = some (.lst (intsV s.lay))
theorem SpotAt.mono {K : PySem.W.Frag} {H H' : Hp} {p : Addr} {s : Spot} (e : Same H H') (h : SpotAt K H p s) : SpotAt K H' p s := by
  obtain ⟨v, la, h1, h2, h3⟩ := h
  exact ⟨v, la, Same.sqt e h1, h2.mono e, e _ _ h3⟩
def root (o : O) : Spot := ⟨o, none, 1, 0, []⟩
/-- what Code makes of an object -/
def Codes (o : O) (r : Except Err (List Spot)) : Prop := Runs [root o] [] r

/-! ### a frozen part F of a heap H: what is never changed; both grow -/
structure Grow (F H F' H' : Hp) : Prop where
  hh : Same H H'
  ff : Same F F'
  fh : Same F' H'
  out : ∀ b, F b = none → H b ≠ none → F' b = none
theorem Grow.refl {F H : Hp} (e : Same F H) : Grow F H F H := ⟨Same.refl H, Same.refl F, e, fun _ n _ => n⟩
theorem Grow.trans {F H F1 H1 F2 H2 : Hp} (a : Grow F H F1 H1) (b : Grow F1 H1 F2 H2) : Grow F H F2 H2 :=
  ⟨a.hh.trans b.hh, a.ff.trans b.ff, b.fh, fun x n m => b.out x (a.out x n m) fun z => m (a.hh.free z)⟩
/-- a new object that is never changed -/
theorem Grow.add {F H : Hp} {p : Addr} {o : HO} (e : Same F H) (n : H p = none) : Grow F H (upd F p o) (upd H p o) := by
  refine ⟨Same.put n, Same.put (e.free n), ?_, fun b h m => ?_⟩
  · intro b u q
    by_cases hb : b = p
    · subst hb
      rw [upd_same] at q ⊢
      exact q
    · rw [upd_ne hb] at q ⊢
      exact e b u q
  · rw [upd_ne (fun z => m (by rw [z]; exact n))]
    exact h
/-- a new object that may be changed -/
theorem Grow.mut {F H : Hp} {p : Addr} {o : HO} (e : Same F H) (n : H p = none) : Grow F H F (upd H p o) := ⟨Same.put n, Same.refl F, e.trans (Same.put n), fun _ h _ => h⟩
theorem Grow.chg {F H F' H' : Hp} {p : Addr} {o : HO} (g : Grow F H F' H') (n : H p = none) (m : F' p = none) : Grow F H F' (upd H' p o) := ⟨Same.chg g.hh n, g.ff, Same.chg g.fh m, g.out⟩
theorem Ob.parts_lt {K : PySem.W.Frag} {H : Hp} {v : V} {o : O} (h : Ob K H v o) : o.parts.length < 20000 := by
  match o, h with
  | .tup (.str k :: r), h =>
    have b := h.tup_lt
    show (if k = "seq" then (r.headD .non).items else if pairs k then r else r.drop 1).length < 20000
    by_cases e : k = "seq"
    · rw [if_pos e]
      match r, h with
      | [], _ => exact (by decide : 0 < 20000)
      | .tup os :: r, h =>
        obtain ⟨a, xs, _, _, hs⟩ := h.tup_eq
        obtain ⟨y, _, hy⟩ := hs.get (i := 1) (o := .tup os) rfl
        exact hy.tup_lt
      | .non :: _, _ => exact (by decide : 0 < 20000)
      | .bl _ :: _, _ => exact (by decide : 0 < 20000)
      | .int _ :: _, _ => exact (by decide : 0 < 20000)
      | .str _ :: _, _ => exact (by decide : 0 < 20000)
      | .lst :: _, _ => exact (by decide : 0 < 20000)
      | .dct :: _, _ => exact (by decide : 0 < 20000)
    · rw [if_neg e]
      rw [List.length_cons] at b
      split
      · omega
      · rw [List.length_drop]
        omega
  | .non, _ => exact (by decide : 0 < 20000)
  | .bl _, _ => exact (by decide : 0 < 20000)
  | .int _, _ => exact (by decide : 0 < 20000)
  | .str _, _ => exact (by decide : 0 < 20000)
  | .lst, _ => exact (by decide : 0 < 20000)
  | .dct, _ => exact (by decide : 0 < 20000)
  | .tup [], _ => exact (by decide : 0 < 20000)
  | .tup (.non :: _), _ => exact (by decide : 0 < 20000)
  | .tup (.bl _ :: _), _ => exact (by decide : 0 < 20000)
  | .tup (.int _ :: _), _ => exact (by decide : 0 < 20000)
  | .tup (.tup _ :: _), _ => exact (by decide : 0 < 20000)
  | .tup (.lst :: _), _ => exact (by decide : 0 < 20000)
  | .tup (.dct :: _), _ => exact (by decide : 0 < 20000)
theorem Paired.map2 {α β : Type} {R S : α → β → Prop} (f : ∀ a b, R a b → S a b) : ∀ {l : List α} {m : List β}, Paired R l m → Paired S l m
  | _, _, .nil => .nil
  | _, _, .cons r t => .cons (f _ _ r) (Paired.map2 f t)
theorem Paired.snoc {α β : Type} {R : α → β → Prop} {a : α} {b : β} (r : R a b) : ∀ {l : List α} {m : List β}, Paired R l m → Paired R (l ++ [a]) (m ++ [b])
  | _, _, .nil => .cons r .nil
  | _, _, .cons q t => .cons q (Paired.snoc r t)

/-! ### bundles of defs that may raise, of exception classes -/
structure ExcOk (P : Program) (w : World) (K : PySem.W.Frag) (mg : Str → Option Value) (base : Heap) (k : Nat) (x : Str) (C : Addr) (f : Str) : Prop where
  ex : ∃ (fI : Addr) (fd : FuncData) (ps : List Str), ArC K C fI f ∧ FnOk P w K mg base CX0 k fI fd ps (spExc C f) ∧ Binds K fd ps [] ∧ mg x = some (.ref C)
structure CalX (P : Program) (w : World) (K : PySem.W.Frag) (mg : Str → Option Value) (base : Heap) (k : Nat) (x : Str) (sp : Sp) : Prop where
  ex : ∃ (f : Addr) (fd : FuncData) (ps : List Str), FnOk P w K mg base (L2.CX P w) k f fd ps sp ∧ mg x = some (.ref f) ∧ PySem.W.keepIn K (.ref f) = true ∧ Binds K fd ps []
section
variable {X : Cx} {C : Addr} {f x : Str} {k j : Nat} {ta : TA} {e : Expr} {es : List Expr} {p pos : Pos} {sp : Sp}
theorem pmk_x (c : ExcOk X.prog X.w X.K X.mg X.base k x C f) (hr : Room j X.A) (hk : k + 1 ≤ j) (hg : Gl X x) (ha : PA X (e :: es) ta)
    (hdb : (x == ("__debug__" : Str)) = false := by decide) (he : starEach (e :: es) X.env = (false, eval e X.env) :: starEach es X.env := by rfl) (hpl : (backTo pos (starEach es X.env)).any (·.1) = false := by rfl) :
    PMk X (.Call (.Name x p) (e :: es) [] pos) (tArMk C f ta) := by
  obtain ⟨fI, fd, ps, T, F, b, hm⟩ := c.ex
  exact pmk_ar T F (hr.mono hk) b pass0 hg hm ha hdb he hpl
/-- a def that may raise, called where its errors are let out -/
theorem pe_cx {E : XK} {W : WX} (c : CalX X.prog X.w X.K X.mg X.base k x sp) (hr : Room j X.A) (hk : k ≤ j) (tk : Takes X W) (hW : ∀ cls d σ H, E cls d H → W cls d σ H) (hg : Gl X x) (ha : PA X (e :: es) ta)
    (hdb : (x == ("__debug__" : Str)) = false := by decide) (he : starEach (e :: es) X.env = (false, eval e X.env) :: starEach es X.env := by rfl) (hpl : (backTo pos (starEach es X.env)).any (·.1) = false := by rfl) :
    PE X (.Call (.Name x p) (e :: es) [] pos) (tCall sp [] E ta) := by
  obtain ⟨g, fd, ps, F, hm, kp, b⟩ := c.ex
  exact pe_call F (hr.mono hk) hg hm kp b .nil (passes_call tk hW) ha hdb he hpl
end
end Fc
end L2
set_option Elab.async false
set_option linter.all false
set_option maxRecDepth 100000
set_option maxHeartbeats 4000000
/-! What a Code object is, by what is numbered in it. -/
namespace L2
namespace Fc
open PySem PySem.Spec PyProof.Rows

/-- the fields of a Code -/
def cf (S D A B L : Addr) : List (Str × V) := putF "_layers" (.ref L) (putF "_parts" (.ref B) (putF "_parents" (.ref A) (putF "_heads" (.ref D) (putF "_statements" (.ref S) []))))
section
variable {S D A B L : Addr}
theorem cf_S : (cf S D A B L).lookup ("_statements" : Str) = some (V.ref S) := by
  unfold cf
  rw [lookup_putF, if_neg (by decide +kernel), lookup_putF, if_neg (by decide +kernel), lookup_putF, if_neg (by decide +kernel), lookup_putF, if_neg (by decide +kernel), lookup_putF, if_pos rfl]
theorem cf_D : (cf S D A B L).lookup ("_heads" : Str) = some (V.ref D) := by
  unfold cf
  rw [lookup_putF, if_neg (by decide +kernel), lookup_putF, if_neg (by decide +kernel), lookup_putF, if_neg (by decide +kernel), lookup_putF, if_pos rfl]
theorem cf_A : (cf S D A B L).lookup ("_parents" : Str) = some (V.ref A) := by
  unfold cf
  rw [lookup_putF, if_neg (by decide +kernel), lookup_putF, if_neg (by decide +kernel), lookup_putF, if_pos rfl]
theorem cf_B : (cf S D A B L).lookup ("_parts" : Str) = some (V.ref B) := by
  unfold cf
  rw [lookup_putF, if_neg (by decide +kernel), lookup_putF, if_pos rfl]
theorem cf_L : (cf S D A B L).lookup ("_layers" : Str) = some (V.ref L) := by
  unfold cf
  rw [lookup_putF, if_pos rfl]
theorem cf_no {m : Str} (h1 : ¬ m = "_statements") (h2 : ¬ m = "_heads") (h3 : ¬ m = "_parents") (h4 : ¬ m = "_parts") (h5 : ¬ m = "_layers") : (cf S D A B L).lookup m = none := by
  unfold cf
  rw [lookup_putF, if_neg h5, lookup_putF, if_neg h4, lookup_putF, if_neg h3, lookup_putF, if_neg h2, lookup_putF, if_neg h1]
  rfl
end
/-- the numbers of the parts of the statement i -/
def kids (rows : List Spot) (i : Nat) : List Nat := rows.zipIdx.filterMap fun p => if p.1.par = some i then some p.2 else none
theorem kids_snoc (rows : List Spot) (s : Spot) (i : Nat) : kids (rows ++ [s]) i = kids rows i ++ (if s.par = some i then [rows.length] else []) := by
  unfold kids
  rw [List.zipIdx_append, List.filterMap_append]
  congr 1
  by_cases h : s.par = some i
  · rw [if_pos h]
    simp [List.zipIdx_cons, h]
  · rw [if_neg h]
    simp [List.zipIdx_cons, h]
theorem kids_len (rows : List Spot) (i : Nat) : (kids rows i).length ≤ rows.length := by
  unfold kids
  exact Nat.le_trans (List.length_filterMap_le _ _) (by rw [List.length_zipIdx]; exact Nat.le_refl _)
theorem kids_none {rows : List Spot} {i : Nat} (h : ∀ s ∈ rows, ∀ m, s.par = some m → m < i) : kids rows i = [] := by
  unfold kids
  rw [List.filterMap_eq_nil_iff]
  rintro ⟨s, j⟩ hm
  have hs : s ∈ rows := (List.mem_zipIdx hm).2.2 ▸ List.getElem_mem _
  show (if s.par = some i then some j else none) = none
  rw [if_neg]
  intro q
  exact absurd (h s hs i q) (Nat.lt_irrefl _)
/-- the Code at p -/
structure CodeSt (K : PySem.W.Frag) (C : Addr) (F H : Hp) (p dx S D A B L : Addr) (ts : List Addr) (rows : List Spot) : Prop where
  ins : H p = some (.ins C dx (cf S D A B L))
  ow : H dx = some (.own p)
  st : ∃ vs, H S = some (.lst vs) ∧ Obs K F vs (rows.map (·.o))
  hd : ∃ hs : List Addr, H D = some (.lst (hs.map V.ref)) ∧ Paired (fun h (s : Spot) => ∃ ys, F h = some (.tup ys) ∧ Obs K F ys s.o.head) hs rows
  pa : H A = some (.lst (rows.map fun s => optV s.par))
  pt : H B = some (.lst (ts.map V.ref))
  cl : ts.length = rows.length
  ch : ∀ i t, ts[i]? = some t → H t = some (.lst (intsV (kids rows i)))
  la : ∃ ls : List Addr, H L = some (.lst (ls.map V.ref)) ∧ Paired (fun l (s : Spot) => F l = some (.lst (intsV s.lay))) ls rows
  nd : (S :: D :: A :: B :: L :: ts).Nodup
/-- the addresses of a Code -/
def own (p dx S D A B L : Addr) (ts : List Addr) : List Addr := p :: dx :: S :: D :: A :: B :: L :: ts
/-- nothing of it is tracked in R -/
def Off (R : Hp) (l : List Addr) : Prop := ∀ b ∈ l, R b = none
theorem Off.of {R R' : Hp} {l : List Addr} (h : Off R' l) (e : Same R R') : Off R l := fun b m => Same.free e (h b m)
theorem CodeSt.keep {K : PySem.W.Frag} {C : Addr} {F H F' H' : Hp} {p dx S D A B L : Addr} {ts : List Addr} {rows : List Spot} (c : CodeSt K C F H p dx S D A B L ts rows) (f : Same F F') (h : Same H H') : CodeSt K C F' H' p dx S D A B L ts rows where
  ins := h _ _ c.ins
  ow := h _ _ c.ow
  st := by
    obtain ⟨vs, e, o⟩ := c.st
    exact ⟨vs, h _ _ e, o.mono f⟩
  hd := by
    obtain ⟨hs, e, q⟩ := c.hd
    exact ⟨hs, h _ _ e, Paired.map2 (fun a b ⟨ys, e, o⟩ => ⟨ys, f _ _ e, o.mono f⟩) q⟩
  pa := h _ _ c.pa
  pt := h _ _ c.pt
  cl := c.cl
  ch := fun i t e => h _ _ (c.ch i t e)
  la := by
    obtain ⟨ls, e, q⟩ := c.la
    exact ⟨ls, h _ _ e, Paired.map2 (fun a b e => f _ _ e) q⟩
  nd := c.nd
theorem CodeSt.there {K : PySem.W.Frag} {C : Addr} {F H : Hp} {p dx S D A B L : Addr} {ts : List Addr} {rows : List Spot} (c : CodeSt K C F H p dx S D A B L ts rows) : ∀ b ∈ own p dx S D A B L ts, H b ≠ none := by
  have go : ∀ {b : Addr} {o : HO}, H b = some o → H b ≠ none := fun e z => by
    rw [z] at e
    cases e
  intro b m
  unfold own at m
  simp only [List.mem_cons] at m
  rcases m with rfl | rfl | rfl | rfl | rfl | rfl | rfl | m
  · exact go c.ins
  · exact go c.ow
  · obtain ⟨_, e, _⟩ := c.st
    exact go e
  · obtain ⟨_, e, _⟩ := c.hd
    exact go e
  · exact go c.pa
  · exact go c.pt
  · obtain ⟨_, e, _⟩ := c.la
    exact go e
  · obtain ⟨i, hi, e⟩ := List.mem_iff_getElem.mp m
    exact go (c.ch i b (by rw [List.getElem?_eq_getElem hi, e]))
theorem CodeSt.loc {K : PySem.W.Frag} {C : Addr} {F H H' : Hp} {p dx S D A B L : Addr} {ts : List Addr} {rows : List Spot} (c : CodeSt K C F H p dx S D A B L ts rows) (h : ∀ b ∈ own p dx S D A B L ts, H' b = H b) : CodeSt K C F H' p dx S D A B L ts rows where
  ins := by rw [h p (by simp [own])]; exact c.ins
  ow := by rw [h dx (by simp [own])]; exact c.ow
  st := by rw [h S (by simp [own])]; exact c.st
  hd := by rw [h D (by simp [own])]; exact c.hd
  pa := by rw [h A (by simp [own])]; exact c.pa
  pt := by rw [h B (by simp [own])]; exact c.pt
  cl := c.cl
  ch := fun i t e => by rw [h t (by unfold own; simp [List.mem_of_getElem? e])]; exact c.ch i t e
  la := by rw [h L (by simp [own])]; exact c.la
  nd := c.nd
theorem upd_id {H : Hp} {a : Addr} {o : HO} (e : H a = some o) : upd H a o = H := by
  funext b
  by_cases hb : b = a
  · rw [hb, upd_same, e]
  · rw [upd_ne hb]
theorem ErrE.mono {cB cL : Addr} {R H : Hp} {E : XK} {e : Err} (s : Same R H) (h : ErrE cB cL R E e) : ErrE cB cL H E e := by
  cases e with
  | bad n => exact fun H' d s2 n2 e2 => h H' d (s.trans s2) (Same.free s n2) e2
  | lim n => exact fun H' d s2 n2 e2 => h H' d (s.trans s2) (Same.free s n2) e2
theorem Paired.app {α β : Type} {R : α → β → Prop} : ∀ {l l' : List α} {m m' : List β}, Paired R l m → Paired R l' m' → Paired R (l ++ l') (m ++ m')
  | _, _, _, _, .nil, q => q
  | _, _, _, _, .cons r t, q => .cons r (Paired.app t q)
theorem own_snoc {p dx S D A B L t b : Addr} {ts : List Addr} (h : b ∈ own p dx S D A B L (ts ++ [t])) : b ∈ own p dx S D A B L ts ∨ b = t := by
  unfold own at h ⊢
  simp only [List.mem_cons, List.mem_append, List.mem_nil_iff, or_false] at h ⊢
  rcases h with z | z | z | z | z | z | z | z | z <;> simp [z]
/-- a heap without some addresses -/
def hide (l : List Addr) (H : Hp) : Hp := fun b => if b ∈ l then none else H b
theorem hide_in {l : List Addr} {H : Hp} {b : Addr} (h : b ∈ l) : hide l H b = none := if_pos h
theorem hide_out {l : List Addr} {H : Hp} {b : Addr} (h : b ∉ l) : hide l H b = H b := if_neg h
theorem hide_same (l : List Addr) (H : Hp) : Same (hide l H) H := fun b o e => by
  by_cases h : b ∈ l
  · rw [hide_in h] at e
    cases e
  · rwa [hide_out h] at e
theorem Same.hide {l : List Addr} {R H : Hp} (e : Same R H) (off : Off R l) : Same R (hide l H) := fun b o q => by
  rw [hide_out (fun m => by rw [off b m] at q; cases q)]
  exact e b o q
theorem off_hide (l : List Addr) (H : Hp) : Off (hide l H) l := fun _ m => hide_in m
theorem Same.plus {F H : Hp} {p : Addr} {o : HO} (e : Same F H) (h : H p = some o) : Same (upd F p o) H := by
  intro b u q
  by_cases hb : b = p
  · subst hb
    rw [upd_same] at q
    rw [h]
    exact q
  · rw [upd_ne hb] at q
    exact e b u q
end Fc
end L2
set_option Elab.async false
set_option linter.all false
set_option maxRecDepth 100000
set_option maxHeartbeats 4000000
/-! len of an own object; an own class made where its __init__ may raise; try with clauses with and without names. -/
namespace L2
namespace Fc
open PySem PySem.Spec PyProof.Rows

section
variable {X : Cx} {C f : Addr} {k : Nat} {fd : FuncData} {sp : Sp}
/-- len(x), x an instance of C, by its own __len__ -/
def rLenI (C : Addr) (sp : Sp) : List V → Hp → VK → Prop := fun xs H Q => ∃ (a dx : Addr) (fs : List (Str × V)), xs = [.ref a] ∧ H a = some (.ins C dx fs) ∧
  sp [.ref a] H (fun v H' => ∃ n : Int, v = .int n ∧ (0 ≤ n ∧ n < 2 ^ 63) ∧ Q (.int n) H') E0
theorem call_lenI (hs : PySem.W.findIn X.K (.ref C) "__len__" = some (some (.ref f))) (hf : PySem.W.isFn X.K (.ref f) = true) (F : FnOk X.prog X.w X.K X.mg X.base CX0 k f fd ["self"] sp)
    (hb : Binds X.K fd ["self"] []) (hr : Room (k + 1) X.A) : CallR X (.builtin "len") (rLenI C sp) := by
  intro pins s σ H xs us Q I r h
  obtain ⟨a, dx, fs, rfl, ea, q⟩ := h
  obtain ⟨u, rfl, rx⟩ := vals1 r
  cases rx
  obtain ⟨m, fr⟩ := I.fr
  obtain ⟨mA, O, _⟩ := ins_get I.hok ea
  obtain ⟨od, J, _⟩ := O.look
  refine PySem.W.len_K fr I.ok.mod.kin J hs hf ?_
  have hv : Vals [V.ref a] [Value.ref a] := .cons rfl .nil
  have hbb := hb s [Value.ref a] I.kIn rfl
  rw [List.append_nil] at hbb
  refine wpAny_call (codeAny_mono (F.run X.A.in1 X.stack s H ⟨[Value.ref a], []⟩ [Value.ref a] [V.ref a] _ E0 hr.in1 I.env0.in1 hbb hv q) fun r s' hq => ?_)
  cases r with
  | error e => exact False.elim hq
  | ok fl =>
    cases fl with
    | ret u =>
      obtain ⟨v, H', I', rv, n, rfl, hn, q2⟩ := I.after hq
      obtain ⟨t, rfl⟩ := rv
      exact ⟨hn, ⟨.int n, H', I'.tok _, ⟨_, rfl⟩, q2⟩⟩
    | next => exact False.elim hq
    | brk => exact False.elim hq
    | cont => exact False.elim hq
end

/-! ### C(e, ..), C's own __init__ may raise -/
structure MakX (P : Program) (w : World) (K : PySem.W.Frag) (mg : Str → Option Value) (base : Heap) (k : Nat) (x : Str) (C : Addr) (sp : Sp) : Prop where
  ex : ∃ (f : Addr) (fd : FuncData) (ps : List Str), Mk K C f ∧ FnOk P w K mg base (L2.CX P w) k f fd ps sp ∧ mg x = some (.ref C) ∧ Binds K fd ps []
def tMakeS (C : Addr) (sp : Sp) (W : WX) (t : TA) : TE := fun σ H Q => t σ H fun vs H1 => ∀ x dx, H1 x = none → H1 dx = none → dx ≠ x →
  sp (.ref x :: vs) (upd (upd H1 dx (.own x)) x (.ins C dx [])) (fun v H2 => v = .non ∧ Q (.ref x) H2) (WE W σ)
theorem pe_mkx {X : Cx} {C : Addr} {x : Str} {k j : Nat} {sp : Sp} {W : WX} {t : TA} {e : Expr} {es : List Expr} {p pos : Pos} (c : MakX X.prog X.w X.K X.mg X.base k x C sp) (hr : Room j X.A) (hk : k + 1 ≤ j) (tk : Takes X W) (hg : Gl X x) (ha : PA X (e :: es) t)
    (hdb : (x == ("__debug__" : Str)) = false := by decide) (he : starEach (e :: es) X.env = (false, eval e X.env) :: starEach es X.env := by rfl) (hpl : (backTo pos (starEach es X.env)).any (·.1) = false := by rfl) :
    PE X (.Call (.Name x p) (e :: es) [] pos) (tMakeS C sp W t) := by
  obtain ⟨f, fd, ps, M, F, hm, hb⟩ := c.ex
  have hr2 : Room (k + 1) X.A := hr.mono hk
  refine ⟨fun pins s σ H Q I h => ?_⟩
  refine wpAny_Call_Name_kw (ld_glob I hg hm ?_ hdb)
  refine PySem.W.callWith_K (h₀ := X.base) I.ok.mod.kin M.kp (thn (ha.run pos pins s σ H _ I h) fun us s1 hh => ?_) he hpl
  obtain ⟨vs, H1, I1, r, h1⟩ := hh
  refine ⟨I1.kIn, ?_⟩
  have hq := h1 (s1.heap.objs.size + 1) s1.heap.objs.size (I1.hok.fresh (Nat.le_succ _)) (I1.hok.fresh (Nat.le_refl _)) (Nat.ne_of_lt (Nat.lt_succ_self _))
  have I2 := Inv.made (C := C) I1
  have r2 : Vals (V.ref (s1.heap.objs.size + 1) :: vs) (Value.ref (s1.heap.objs.size + 1) :: us) := .cons rfl r
  have hl : (Value.ref (s1.heap.objs.size + 1) :: us ++ []).length = ps.length := by
    have z := r2.length
    rw [F.len _ _ _ _ hq] at z
    rw [List.append_nil]
    exact z.symm
  have hbb := hb _ (Value.ref (s1.heap.objs.size + 1) :: us) I2.kIn hl
  rw [List.append_nil] at hbb
  refine wpAny_call (make_map (f := f) I1.kIn M.makes M.init (beq_iff_eq.mp M.fn) ?_)
  refine codeAny_mono (F.run _ X.stack _ _ ⟨Value.ref (s1.heap.objs.size + 1) :: us, []⟩ (Value.ref (s1.heap.objs.size + 1) :: us) _ _ (WE W σ) (hr2.make C us []) (I2.env0.make C us []) hbb r2 hq) fun r s' hq' => ?_
  cases r with
  | error e => exact passAt tk σ pins _ _ e s' I2 hq'
  | ok fl =>
    cases fl with
    | ret u =>
      obtain ⟨v, H', I3, rv, ev, q3⟩ := I2.after hq'
      subst ev
      exact ⟨rv, ⟨V.ref (s1.heap.objs.size + 1), H', I3, rfl, q3⟩⟩
    | next => exact False.elim hq'
    | brk => exact False.elim hq'
    | cont => exact False.elim hq'

/-! ### try .. except A as n: .. except B: .. -/
abbrev Clause := Value × Option Nat × (Addr → Value → Option Addr → TS)
def wCl (K : PySem.W.Frag) (Wout : WX) (D : Ends) : List Clause → WX
  | [] => Wout
  | (c, none, ts) :: more => fun cls d σ H => ∃ b, PySem.W.exmOne K cls c = some b ∧ (b = true → ∀ a, H a = none → ts a cls d D σ H) ∧ (b = false → wCl K Wout D more cls d σ H)
  | (c, some i, ts) :: more => fun cls d σ H => ∃ b, PySem.W.exmOne K cls c = some b ∧
      (b = true → ∀ a, H a = none → ts a cls d { nx := fun τ G => D.nx (τ.set i none) G, rt := D.rt, bk := fun τ G => D.bk (τ.set i none) G, ct := fun τ G => D.ct (τ.set i none) G } (σ.set i (some (.ref a))) H) ∧ (b = false → wCl K Wout D more cls d σ H)
inductive Cls2 (X : Cx) : List ExceptHandler → List Clause → Prop
  | nil : Cls2 X [] []
  | bare {x : Str} {c : Value} {ts : Addr → Value → Option Addr → TS} {b0 : Stmt} {su : List Stmt} {p1 p2 : Pos} {hs : List ExceptHandler} {l : List Clause} : Names X x c →
      (∀ (a : Addr) (oe : Obj) (cls : Value) (d : Option Addr) (pn : List (Addr × Obj)), Zc cls d oe → (∃ vs, oe.data = .fields vs) → PSs (X.suite a ((a, oe) :: pn)) (b0 :: su) (ts a cls d)) → Cls2 X hs l →
      Cls2 X (.ExceptHandler (some (.Name x p1)) none (b0 :: su) p2 :: hs) ((c, none, ts) :: l)
  | named {x n : Str} {i : Nat} {c : Value} {ts : Addr → Value → Option Addr → TS} {b0 : Stmt} {su : List Stmt} {p1 p2 : Pos} {hs : List ExceptHandler} {l : List Clause} : Names X x c → X.N[i]? = some n → X.env.kindOf n = some .local →
      (∀ (a : Addr) (oe : Obj) (cls : Value) (d : Option Addr) (pn : List (Addr × Obj)), Zc cls d oe → (∃ vs, oe.data = .fields vs) → PSs (X.suite a ((a, oe) :: pn)) (b0 :: su) (ts a cls d)) → Cls2 X hs l →
      Cls2 X (.ExceptHandler (some (.Name x p1)) (some n) (b0 :: su) p2 :: hs) ((c, some i, ts) :: l)
section
variable {X : Cx} {body : List Stmt} {h1 : ExceptHandler} {hs : List ExceptHandler} {l : List Clause} {pos : Pos} {tb : WX → TS} {Wout : WX}
theorem ps_try2 (hstk : X.stack = X.env :: X.outer) (hfr : X.env.frame = some X.env.locals) (hN : X.N.Nodup) (tk : Takes X Wout)
    (hb : ∀ (W : WX) (pn : List (Addr × Obj)) (xe : Value → Shared → Prop), Takes (X.tr pn xe) W → PassesOwn (model X.prog X.w) X.A X.env xe → PSs (X.tr pn xe) body (tb W))
    (hh : Cls2 X (h1 :: hs) l) : PS X (.Try body (h1 :: hs) [] [] pos) (fun D σ H => tb (wCl X.K Wout D l) D σ H) := by
  refine ⟨fun pins s σ H D I h => ?_⟩
  have ok := I.ok
  have frames : X.A.frames = some (X.env :: X.outer) := by rw [ok.frames, hstk]
  refine wpAny_Try_except ?_
  refine wpAny_mono ((hb (wCl X.K Wout D l) (X.pn ++ pins) (fun e s1 => wpAny (model X.prog X.w) X.A (noteFrame e X.env) (fun _ s2 => wpAny (model X.prog X.w) X.A (setFlight e none) (fun _ s3 =>
    wpAny (model X.prog X.w) X.A (handleBy e X.env (h1 :: hs)) (SP X pins D) X.xe s3) X.xe s2) X.xe s1) (fun u s' xx => ?_) PassesOwn.looking).run [] s σ H D (I.toTry _) h) (fun f s1 hsp => ?_) (fun e s1 he => he)
  · obtain ⟨a, B, sI, pins', σ', H', cls, d, rfl, J0, nb, up, sky, na, os, ag, wish⟩ := xx
    have J : Inv X pins σ' H' sI := J0.ofTry ok
    have sky2 : Sky B (X.env :: X.outer) a (Zc cls d) X.env.locals s'.heap := by rw [← hstk]; exact sky
    show wpAny (model X.prog X.w) X.A (noteFrame (.ref a) X.env) _ _ _
    refine Sky.land Zc.steady frames hfr sky2 fun g3 fl3 up3 => ?_
    have J3 : Inv X pins σ' H' { s' with heap := g3 } := J.landed nb fl3.1 (up.trans up3) os ag
    obtain ⟨oe3, vs3, at3, hz3, hd3⟩ := fl3.there
    have far : a ∉ frs (X.env :: X.outer) := by
      intro hm
      obtain ⟨_, o', e', hnf⟩ := Heap.FunFrames.mem fl3.2.2.1 hm
      rw [at3] at e'
      cases e'
      exact hnf _ hd3
    have nL : a ≠ X.env.locals := fun z => far (List.mem_filterMap.mpr ⟨X.env, List.mem_cons_self, by rw [hfr, z]⟩)
    have nF : a ∉ X.fs := by
      intro hm
      obtain ⟨e, he, q⟩ := List.mem_filterMap.mp hm
      exact far (List.mem_filterMap.mpr ⟨e, List.mem_cons_of_mem _ he, q⟩)
    have S3 := J3.suite at3 hd3 na nL nF
    have LT : PySem.W.Looks (model X.prog X.w) g3 (typeOf (.ref a)) cls := fun A Q E s k q => wpAny_typeOf_ref (k _ _ at3) (by rw [hz3.1]; exact q)
    have look : ∀ {x : Str} {c : Value} {np : Pos}, Names X x c → ∀ {Q : Value → Shared → Prop} {E : Value → Shared → Prop}, Q c { s' with heap := g3 } →
        wpAny (model X.prog X.w) (X.A.mark (some (.ref a))) (eval (.Name x np) X.env) Q E { s' with heap := g3 } := by
      intro x c np hc Q E q
      obtain ⟨hg, hdbg, hm | ⟨hm, hv, hnn⟩⟩ := hc
      · exact ld_glob (X := X.suite a ((a, oe3) :: (X.pn ++ pins))) S3 hg hm q hdbg
      · exact ld_blt (X := X.suite a ((a, oe3) :: (X.pn ++ pins))) S3 hg hm hv q hnn hdbg
    have go : ∀ {hs' : List ExceptHandler} {l' : List Clause}, Cls2 X hs' l' → wCl X.K Wout D l' cls d σ' H' → wpAny (model X.prog X.w) X.A (handleBy (.ref a) X.env hs') (SP X pins D) X.xe { s' with heap := g3 } := by
      intro hs' l' hk
      induction hk with
      | nil =>
        intro wz
        refine wpAny_handleBy_nil ?_
        obtain ⟨k1, k2, k3, oe, vs, T, oT, ts', he, hz, hd, hf1, hrr⟩ := id fl3
        unfold PySem.passOn
        refine wpAny_bind (wpAny_field he hd hf1 ?_)
        rw [if_neg (show ¬ ((Value.ref T == Value.none) = true) from by simp)]
        have out : wpAny (model X.prog X.w) X.A (setFlight (.ref a) X.env.frame) (fun _ s4 => wpAny (model X.prog X.w) X.A (throw (.ref a) : Sem Flow) (SP X pins D) X.xe s4) X.xe { s' with heap := g3 } := by
          rw [hfr]
          refine HandSPX.setFlight_upZ fl3 fun g4 hh4 up4 => wpAny_throw (tk _ _ ?_)
          exact ⟨a, B, sI, pins, σ', H', cls, d, rfl, J, nb, (up.trans up3).trans up4, .inr (.inr (by rw [hstk]; exact hh4)), na, os, ag, wz⟩
        first
          | exact wpAny_bind (wpAny_pure (wpAny_bind out))
          | exact wpAny_bind out
      | @bare x c ts b0 su p1 p2 hs2 l2 hc hsu r ih =>
        intro wz
        obtain ⟨b, hb1, yes, no⟩ := wz
        refine wpAny_handleBy_cons (codeAny_handlers_test ?_) (by intro q; cases q)
        have LM := PySem.W.exm_one (M := model X.prog X.w) (J3.kIn) LT hb1
        refine look hc (LM.here ?_)
        cases b with
        | true =>
          refine codeAny_handlers_suite ?_
          refine HandSPX.lands_againZ fl3 fun g4 fl4 up4 => ?_
          have J4 : Inv X pins σ' H' { s' with heap := g4 } := J.landed nb fl4.1 ((up.trans up3).trans up4) os ag
          obtain ⟨oe4, vs4, at4, hz4, hd4⟩ := fl4.there
          have S4 := J4.suite at4 hd4 na nL nF
          refine wpAny_mono ((hsu a oe4 cls d (X.pn ++ pins) hz4 ⟨_, hd4⟩).run [] _ _ H' _ S4 (yes rfl a na)) (fun f s6 hsp => ?_) (fun _ _ z => False.elim z)
          cases f with
          | ret u =>
            obtain ⟨v6, σ6, H6, S6, r6, q6⟩ := hsp
            exact ⟨_, _, _, S6.unsuite ok, r6, q6⟩
          | next =>
            obtain ⟨σ6, H6, S6, q6⟩ := hsp
            exact ⟨_, _, S6.unsuite ok, q6⟩
          | brk =>
            obtain ⟨σ6, H6, S6, q6⟩ := hsp
            exact ⟨_, _, S6.unsuite ok, q6⟩
          | cont =>
            obtain ⟨σ6, H6, S6, q6⟩ := hsp
            exact ⟨_, _, S6.unsuite ok, q6⟩
        | false =>
          show wpAny _ X.A (handleBy (.ref a) X.env hs2) _ _ _
          exact ih (no rfl)
      | @named x n i c ts b0 su p1 p2 hs2 l2 hc hi hln hsu r ih =>
        intro wz
        obtain ⟨b, hb1, yes, no⟩ := wz
        have hloc : Loc X.env.scope n := .inl hln
        refine wpAny_handleBy_cons (codeAny_handlers_test ?_) (by intro q; cases q)
        have LM := PySem.W.exm_one (M := model X.prog X.w) (J3.kIn) LT hb1
        refine look hc (LM.here ?_)
        cases b with
        | true =>
          refine codeAny_handlers_suite_as ?_
          refine HandSPX.lands_againZ fl3 fun g4 fl4 up4 => ?_
          have J4 : Inv X pins σ' H' { s' with heap := g4 } := J.landed nb fl4.1 ((up.trans up3).trans up4) os ag
          obtain ⟨oe4, vs4, at4, hz4, hd4⟩ := fl4.there
          have S4 := J4.suite at4 hd4 na nL nF
          refine store_ok (X := X.suite a ((a, oe4) :: (X.pn ++ pins))) (v := .ref a) S4 hN hi hloc rfl (fun s5 S5 => ?_) (.inr hln)
          refine wpAny_mono ((hsu a oe4 cls d (X.pn ++ pins) hz4 ⟨_, hd4⟩).run [] s5 _ H' _ S5 (yes rfl a na)) (fun f s6 hsp => ?_) (fun _ _ z => False.elim z)
          have gone : ∀ {σ6 : St} {H6 : Hp} {Q : Shared → Prop}, Inv (X.suite a ((a, oe4) :: (X.pn ++ pins))) [] σ6 H6 s6 → (∀ s7, Inv X pins (σ6.set i none) H6 s7 → Q s7) →
              wpAny (model X.prog X.w) X.A (do bindName X.env n .none; unbindBehindTheSuite X.env n p2) (fun _ s7 => Q s7) X.xe s6 := fun {σ6 H6 Q} S6 hq => gone_ok (S6.unsuite ok) hN hi hln hq
          cases f with
          | ret u =>
            obtain ⟨v6, σ6, H6, S6, r6, q6⟩ := hsp
            exact gone S6 fun s7 J7 => ⟨_, _, _, J7, r6, q6⟩
          | next =>
            obtain ⟨σ6, H6, S6, q6⟩ := hsp
            exact gone S6 fun s7 J7 => ⟨_, _, J7, q6⟩
          | brk =>
            obtain ⟨σ6, H6, S6, q6⟩ := hsp
            exact gone S6 fun s7 J7 => ⟨_, _, J7, q6⟩
          | cont =>
            obtain ⟨σ6, H6, S6, q6⟩ := hsp
            exact gone S6 fun s7 J7 => ⟨_, _, J7, q6⟩
        | false =>
          show wpAny _ X.A (handleBy (.ref a) X.env hs2) _ _ _
          exact ih (no rfl)
    exact go hh wish
  cases f with
  | ret u =>
    obtain ⟨v, σ', H', J', r, q⟩ := hsp
    exact ⟨v, σ', H', J'.ofTry ok, r, q⟩
  | next =>
    obtain ⟨σ', H', J', q⟩ := hsp
    exact wpAny_execs_nil ⟨σ', H', J'.ofTry ok, q⟩
  | brk =>
    obtain ⟨σ', H', J', q⟩ := hsp
    exact ⟨σ', H', J'.ofTry ok, q⟩
  | cont =>
    obtain ⟨σ', H', J', q⟩ := hsp
    exact ⟨σ', H', J'.ofTry ok, q⟩
end
end Fc
end L2
set_option Elab.async false
set_option linter.all false
set_option maxRecDepth 100000
set_option maxHeartbeats 8000000
namespace L2
namespace Fc
open PySem PySem.Spec PyProof.Rows
/-! ### what the top has written -/
structure DefF (K : PySem.W.Frag) (x qual : Str) (st : Stmt) (f : Addr) : Prop where
  ex : ∃ fd : FuncData, Fun K x qual st f fd
theorem DefF.of {K : PySem.W.Frag} {x qual : Str} {st : Stmt} {f : Addr} {oc : Value} {od an : Option Addr} {osl : Array (Option Value)} {kV doc pm cdv ct : Value} (l : K.lookup f = some ⟨oc, od, .func (PySem.W.fnOf x qual (defArgs st) (defBody st) (defScope st) .none kV doc pm an cdv ct), osl⟩)
    (c : PySem.W.codeIn K cdv qual = true) (k : PySem.W.keepIn K (.ref f) = true) : DefF K x qual st f := ⟨_, fun_mk l c k⟩
/-- a class over ArithmeticError -/
theorem arc_of {K : PySem.W.Frag} {C fI : Addr} {f nm q : Str} {N : Addr} {bs bm : List Value} {sn : List Str} {sub : List Value} {ab : Bool} {col : Option Bool} {dd : Option Addr} {k0 k1 k2 k3 k5 : Option Value}
    (xL : K.lookup C = some (excClassObj nm q C N bs bm true sn sub ab col dd k0 k1 k2 k3 k5 "ArithmeticError.__new__")) (bm1 : arOver bm = true) (sa : PySem.W.findIn K (.ref C) "__setattr__" = some (some (.builtin "object.__setattr__")))
    (ga : PySem.W.findIn K (.ref C) "__getattribute__" = some (some (.builtin "BaseException.__getattribute__"))) (gg : PySem.W.findIn K (.ref C) "__getattr__" = some none) (hd : PySem.W.hasDictIn K C = true) (nf : PySem.W.findIn K (.ref C) f = some none)
    (exC : PySem.W.subIn K (.ref C) (.type "BaseException") = some true) (tyC : PySem.W.typeIn K (.ref C) = some (.type "type")) (kC : PySem.W.keepIn K (.ref C) = true) (iC : PySem.W.findIn K (.ref C) "__init__" = some (some (.ref fI)))
    (tI : PySem.W.typeIn K (.ref fI) = some (.type "function")) : ArC K C fI f := ⟨⟨nm, q, N, bs, bm, sn, sub, ab, col, dd, k0, k1, k2, k3, k5, xL, bm1⟩, sa, ga, gg, hd, nf, exC, tyC, kC, iC, tI⟩
end Fc
end L2
set_option Elab.async false
set_option linter.all false
set_option maxRecDepth 100000
/-! A small language over trees of data, with owners, and what its programs give. -/
namespace L2
namespace Dn
open PySem

/-- keys of dicts: ints, texts, flat tuples of them -/
inductive KD where
  | k (x : Sum Int Str)
  | t (xs : List (Sum Int Str))
  deriving DecidableEq
/-- data; the flag of a container: it is owned (one place alone leads to it, it may be changed) -/
inductive D where
  | no | non | bl (b : Bool) | int (i : Int) | str (x : Str)
  | tup (o : Bool) (ds : List D)
  | lst (o : Bool) (ds : List D)
  | dct (o : Bool) (t : Bool) (ks : List KD) (ds : List D)
  | obj (o : Bool) (c : Nat) (ds : List D)
  | gl (g : Nat)
  /-- a dict that the top has written -/
  | wdt (ks : List Str) (ds : List D)
  /-- a list that stands in the top's heap or in the caller's -/
  | wls (ds : List D)
def D.isNo : D → Bool | .no => true | _ => false
theorem isNo_iff {d : D} : d.isNo = true ↔ d = .no := by cases d <;> simp [D.isNo]
theorem isNo_ne {d : D} : d.isNo = false ↔ d ≠ .no := by cases d <;> simp [D.isNo]
def D.own : D → Bool
  | .tup o _ => o | .lst o _ => o | .dct o _ _ _ => o | .obj o _ _ => o | _ => false
mutual
def frz : D → D
  | .tup _ ds => .tup false (frzL ds)
  | .lst _ ds => .lst false (frzL ds)
  | .dct _ t ks ds => .dct false t ks (frzL ds)
  | .obj _ c ds => .obj false c (frzL ds)
  | .no => .no
  | .non => .non
  | .bl b => .bl b
  | .int i => .int i
  | .str x => .str x
  | .gl g => .gl g
  | .wdt ks ds => .wdt ks ds
  | .wls ds => .wls ds
def frzL : List D → List D
  | [] => []
  | d :: ds => frz d :: frzL ds
end
theorem frzL_eq : ∀ ds, frzL ds = ds.map frz
  | [] => rfl
  | d :: ds => by rw [frzL, frzL_eq ds]; rfl

/-! ### paths -/
inductive PStep where
  | f (j : Nat) | i (n : Int) | k (x : KD)
abbrev Path := List PStep
/-- the place that an index of any sign means -/
def ixD (n : Nat) (i : Int) : Option Nat := ixN n i
def keyIx (ks : List KD) (x : KD) : Option Nat := ks.findIdx? (fun y => decide (y = x))
def stepIx : D → PStep → Option Nat
  | .obj _ _ ds, .f j => if j < ds.length then some j else none
  | .lst _ ds, .i n => ixN ds.length n
  | .tup _ ds, .i n => ixN ds.length n
  | .dct _ _ ks _, .k x => keyIx ks x
  | _, _ => none
def D.kids : D → List D
  | .tup _ ds => ds | .lst _ ds => ds | .dct _ _ _ ds => ds | .obj _ _ ds => ds | _ => []
def D.setKids : D → List D → D
  | .tup o _, ds => .tup o ds | .lst o _, ds => .lst o ds | .dct o t ks _, ds => .dct o t ks ds | .obj o c _, ds => .obj o c ds | d, _ => d
def PStep.isF : PStep → Bool | .f _ => true | _ => false
/-- items are looked up in what is owned alone -/
def getD : D → Path → D
  | d, [] => d
  | d, s :: r => if s.isF || d.own then (match stepIx d s with
    | some j => getD (d.kids.getD j .no) r
    | none => .no) else .no
def setD : D → Path → D → D
  | _, [], x => x
  | d, s :: r, x => match stepIx d s with
    | some j => d.setKids (d.kids.set j (setD (d.kids.getD j .no) r x))
    | none => d

abbrev Env := List D
def Env.at (e : Env) (i : Nat) : D := e.getD i .no

/-! ### outcomes -/
structure X where
  (cls : Nat) (val : D)
inductive R (α : Type) where
  | ok (a : α) (e : Env) | exc (x : X) (e : Env) | stuck
@[simp] def R.bind {α β : Type} (r : R α) (f : α → Env → R β) : R β := match r with
  | .ok a e => f a e
  | .exc x e => .exc x e
  | .stuck => .stuck
inductive CR where
  | ok (d : D) (ds : List D) | exc (x : X) (ds : List D) | stuck
inductive RS where
  | nxt (e : Env) | brk (e : Env) | cnt (e : Env) | ret (d : D) (e : Env) | exc (x : X) (e : Env) | stuck
/-- an operand: a value of its own, or a place -/
inductive OV where
  | tmp (d : D) | plc (i : Nat) (p : Path)
def OV.get (e : Env) : OV → D
  | .tmp d => d
  | .plc i p => getD (e.at i) p

/-! ### syntax -/
inductive B where
  | add | sub | mul | fdiv | mod | pow | neg
  | eq | ne | lt | le | gt | ge | isN | notN | inn | nin
  | len | idx | sl | sl1 | sl2 | rev
  | int1 | list1 | tuple1 | str1 | isi | all1 | sum1 | dict1
  deriving DecidableEq
inductive MB where
  | append | pop | insert | extend | clear
  deriving DecidableEq
mutual
inductive Ex where
  | lit (d : D)
  | gl (g : Nat)
  | ref (i : Nat) | fld (p : Ex) (c j : Nat) | ix (p : Ex) (e : Ex)
  | rd (p : Ex)
  | mov (i : Nat)
  | fldv (e : Ex) (c j : Nat)
  | frz (e : Ex)
  | tup (es : Exs) | lst (es : Exs) | dct (t : Bool) (ks vs : Exs)
  | bop (b : B) (es : Exs)
  /-- a[l:h]; the flags: is there l, is there h -/
  | sl (bl bh : Bool) (a l h : Ex)
  | ife (t a b : Ex)
  | and (a b : Ex) | or (a b : Ex) | not (a : Ex)
  | chain (o1 o2 : B) (a b c : Ex)
  | tru (e : Ex)
  | call (f : Nat) (es : Exs)
  /-- a call of the function that stands in a slot, one of fs -/
  | callv (fs : List Nat) (i : Nat) (es : Exs)
  | mk (c : Nat) (es : Exs)
  | mth (m c : Nat) (a : Ex) (es : Exs)
  | mut (l : Bool) (b : MB) (p : Ex) (es : Exs)
  | comp (elt : Ex) (tg : Tg) (vs : List Nat) (it : Ex) (cond : Ex)
  | itE (e : Ex) | itR (es : Exs) | itZ (a b : Ex) | itRev (e : Ex) | itK (e : Ex) | itI (e : Ex) | itV (e : Ex)
inductive Exs where
  | nil | cons (e : Ex) (es : Exs)
inductive Tg where
  | nm (i : Nat) | tp (ts : Tgs) | fld (p : Ex) (c j : Nat) | ix (p : Ex) (e : Ex)
inductive Tgs where
  | nil | cons (t : Tg) (ts : Tgs)
end
def Tgs.len : Tgs → Nat | .nil => 0 | .cons _ ts => ts.len + 1
/-- what an except clause's suite stores: a literal, the exception's field -/
inductive HV where
  | lit (d : D) | fld
/-- except clauses: the class, the name's slot, the slot that the suite stores to, what -/
inductive Hs where
  | nil | cons (c : Nat) (i : Option Nat) (j : Nat) (v : HV) (hs : Hs)
mutual
inductive Sm where
  | asg (t : Tg) (e : Ex)
  | ex (e : Ex)
  | ret (e : Ex)
  | ife (t : Ex) (a b : Sms)
  | whl (t : Ex) (b : Sms)
  | for_ (t : Tg) (it : Ex) (b : Sms)
  | brk | cnt | pas
  | rai (c : Nat) (e : Ex)
  | try_ (b : Sms) (hs : Hs)
  | delS (p : Ex) (lo hi : Ex)
inductive Sms where
  | nil | cons (s : Sm) (ss : Sms)
end
structure Fn where
  (np ns : Nat) (fx : List Nat) (body : Sms)
structure Prog where
  fn : Nat → Option Fn
  /-- what a global name holds -/
  gd : Nat → D
  /-- how many fields a class's instances have, its __init__ -/
  init : Nat → Nat
  /-- is an exception's class c one of the clause d -/
  sub : Nat → Nat → Option Bool

/-! ### built-in operations, by data -/
mutual
/-- data that == compares: no dict, no object -/
def D.py : D → Option PyData
  | .non => some .none
  | .bl b => some (.bool b)
  | .int i => some (.int i)
  | .str x => some (.str x)
  | .lst _ ds => (pyL ds).map .list
  | .tup _ ds => (pyL ds).map .tuple
  | .dct _ _ _ _ => none
  | .obj _ _ _ => none
  | .gl _ => none
  | .wdt _ _ => none
  | .wls _ => none
  | .no => none
def pyL : List D → Option (List PyData)
  | [] => some []
  | d :: ds => match d.py, pyL ds with
    | some x, some xs => some (x :: xs)
    | _, _ => none
end
def eqD (a b : D) : Option Bool := match a.py, b.py with
  | some x, some y => if min x.depth y.depth ≤ 190 then some (PyData.eqv x y) else none
  | _, _ => none
def allF (ds : List D) : Bool := ds.all (!·.own)
def LINE : Nat := 16777216
def keysD : List D → Option (List (Sum Int Str))
  | [] => some []
  | .int i :: r => (keysD r).map (.inl i :: ·)
  | .str x :: r => (keysD r).map (.inr x :: ·)
  | _ => none
def blsD : List D → Option (List Bool)
  | [] => some []
  | .bl b :: r => (blsD r).map (b :: ·)
  | _ => none
def intsD : List D → Option (List Int)
  | [] => some []
  | .int i :: r => (intsD r).map (i :: ·)
  | _ => none
def D.key : D → Option KD
  | .int i => some (.k (.inl i))
  | .str x => some (.k (.inr x))
  | .tup _ ds => (keysD ds).map .t
  | _ => none
def KD.flat : KD → Bool | .k _ => true | .t _ => false
def D.len : D → Option Nat
  | .tup _ ds => some ds.length | .lst _ ds => some ds.length | .dct _ false ks _ => some ks.length
  | .str x => if x.length ≤ LINE then some x.length else none
  | .wls ds => some ds.length
  | _ => none
def D.truth : D → Option Bool
  | .non => some false
  | .bl b => some b
  | .int i => some (i != 0)
  | .str x => if x.length ≤ LINE then some ((x.length : Int) != 0) else none
  | .lst _ ds => some (!ds.isEmpty)
  | .tup _ ds => some (!ds.isEmpty)
  | .dct _ t ks _ => if t then none else some (!ks.isEmpty)
  | _ => none
/-- x in a container -/
def inD (x c : D) : Option Bool := match c with
  | .lst _ ds => match x.py, pyL ds with
    | some a, some bs => if min (PyData.depthAll bs) a.depth ≤ 190 then some (bs.any fun b => PyData.eqv b a) else none
    | _, _ => none
  | .tup _ ds => match x.py, pyL ds with
    | some a, some bs => if min (PyData.depthAll bs) a.depth ≤ 190 then some (bs.any fun b => PyData.eqv b a) else none
    | _, _ => none
  | .dct _ t ks _ => match x.key with
    | some k => if k.flat && !t then some ((keyIx ks k).isSome) else none
    | none => none
  | .wdt ks _ => match x with
    | .str z => some ((ks.findIdx? fun y => decide (y = z)).isSome)
    | _ => none
  | _ => none
def D.nonB : D → Option Bool
  | .no => none | .gl _ => none | .non => some true | _ => some false
def cmpD (b : B) (x y : D) : Option D := match b, x, y with
  | .lt, .int i, .int j => some (.bl (decide (i < j)))
  | .le, .int i, .int j => some (.bl (decide (i ≤ j)))
  | .gt, .int i, .int j => some (.bl (decide (j < i)))
  | .ge, .int i, .int j => some (.bl (decide (j ≤ i)))
  | .lt, .str i, .str j => some (.bl (decide (i.cps.toList < j.cps.toList)))
  | .le, .str i, .str j => some (.bl (decide (¬ j.cps.toList < i.cps.toList)))
  | .eq, a, b => (eqD a b).map .bl
  | .ne, a, b => (eqD a b).map fun r => .bl (!r)
  | .isN, a, .non => a.nonB.map .bl
  | .notN, a, .non => a.nonB.map fun b => .bl (!b)
  | .inn, a, c => (inD a c).map .bl
  | .nin, a, c => (inD a c).map fun r => .bl (!r)
  | _, _, _ => none
def arD (b : B) (x y : D) : Option D := match b, x, y with
  | .add, .int i, .int j => some (.int (i + j))
  | .sub, .int i, .int j => some (.int (i - j))
  | .mul, .int i, .int j => if (-(2 ^ 64) < i ∧ i < 2 ^ 64) ∨ (-(2 ^ 64) < j ∧ j < 2 ^ 64) then some (.int (i * j)) else none
  | .fdiv, .int i, .int j => if j ≠ 0 ∧ j.natAbs < 1073741824 then some (.int (i.fdiv j)) else none
  | .mod, .int i, .int j => if j ≠ 0 then some (.int (i.fmod j)) else none
  | .pow, .int i, .int j => if 0 ≤ j ∧ j ≤ 1000000 ∧ i.natAbs < 2 ^ 64 then some (.int (i ^ j.toNat)) else none
  | .add, .str i, .str j => if i.length + j.length ≤ LINE then some (.str (i ++ j)) else none
  | .add, .lst _ a, .lst _ b => if allF a && allF b && decide (a.length + b.length ≤ LINE) then some (.lst true (a ++ b)) else none
  | .add, .tup _ a, .tup _ b => if allF a && allF b && !a.isEmpty && !b.isEmpty && decide (a.length + b.length ≤ LINE) then some (.tup false (a ++ b)) else none
  | .mul, .lst _ a, .int k => if allF a && decide (-(2 ^ 63) ≤ k ∧ k < 2 ^ 63 ∧ a.length * k.toNat ≤ LINE) then some (.lst true (List.replicate k.toNat a).flatten) else none
  | _, _, _ => none
def slD (xs : List D) (lo hi : Option Int) : List D := (xs.drop (HT.sIx xs.length 0 lo)).take (HT.sIx xs.length xs.length hi - HT.sIx xs.length 0 lo)
def slcD (x : D) (lo hi : Option Int) : Option D := match x with
  | .lst _ a => if allF a then some (.lst true (slD a lo hi)) else none
  | .tup _ a => if allF a && !(HT.sIx a.length 0 lo == 0 && HT.sIx a.length a.length hi == a.length) then some (.tup false (slD a lo hi)) else none
  | .str z => if z.length ≤ LINE then some (.str (cutS z lo hi)) else none
  | .wls a => some (.lst true (slD a lo hi))
  | _ => none
/-- x[i] of a text, list, tuple, dict -/
def idxD (x i : D) : Option D := match x, i with
  | .lst _ ds, .int n => (ixN ds.length n).bind fun j => ds[j]?
  | .tup _ ds, .int n => (ixN ds.length n).bind fun j => ds[j]?
  | .dct _ t ks ds, i => match i.key with
    | some k => if k.flat && !t then (keyIx ks k).bind fun j => ds[j]? else none
    | none => none
  | .wdt ks ds, .str z => (ks.findIdx? fun y => decide (y = z)).bind fun j => ds[j]?
  | .wls ds, .int n => (ixN ds.length n).bind fun j => ds[j]?
  | .str z, .int n => if z.length ≤ LINE then (atI z.cps.toList n).map fun c => .str ⟨#[c]⟩ else none
  | _, _ => none
/-- built-in types among the globals; own classes behind them -/
def tyName : Nat → Option String
  | 0 => some "int" | 1 => some "bool" | 2 => some "str" | 3 => some "tuple" | 4 => some "list" | 5 => some "dict" | _ => none
def tyOf : D → Option String
  | .non => some "NoneType" | .bl _ => some "bool" | .int _ => some "int" | .str _ => some "str" | .tup _ _ => some "tuple" | .lst _ _ => some "list" | .dct _ _ _ _ => some "dict" | _ => none
def isTy (t n : String) : Bool := t == n || (t == "bool" && n == "int")
def isiD (x : D) (g : Nat) : Option Bool := match tyName g with
  | some n => match x with
    | .obj _ _ _ => none
    | x => (tyOf x).map fun t => isTy t n
  | none => none
def bopD (b : B) (ds : List D) : Option D := match b, ds with
  | .neg, [.int i] => some (.int (-i))
  | .len, [d] => d.len.map fun n => .int n
  | .isi, [x, .gl g] => (isiD x g).map .bl
  | .int1, [.int i] => some (.int i)
  | .int1, [.bl b] => some (.int (if b then 1 else 0))
  | .list1, [.lst _ a] => if allF a then some (.lst true a) else none
  | .list1, [.tup _ a] => if allF a then some (.lst true a) else none
  | .tuple1, [.lst _ a] => if allF a then some (.tup false a) else none
  | .tuple1, [.tup false a] => some (.tup false a)
  | .dict1, [.dct _ false ks ds] => if allF ds then some (.dct true false ks ds) else none
  | .rev, [.lst _ a] => if allF a then some (.lst true a.reverse) else none
  | .idx, [x, i] => match idxD x i with
    | some d => if d.own then none else some d
    | none => none
  | .all1, [.lst _ a] => (blsD a).map fun bs => .bl (bs.all id)
  | .sum1, [.lst _ a] => (intsD a).map fun is => .int is.sum
  | b, [x, y] => match cmpD b x y with
    | some r => some r
    | none => arD b x y
  | _, _ => none

/-! ### the evaluator -/
abbrev Call := Nat → List D → CR
/-- arguments: places that are owned are lent; what was lent: the root, the path, the root's data, the argument's number -/
def fetchA (fx : List Nat) : Nat → List OV → Env → Option (List D × Env × List (Nat × Path × D × Nat))
  | _, [], e => some ([], e, [])
  | k, .tmp d :: r, e => match fetchA fx (k + 1) r e with
    | some (ds, e', bs) => some (d :: ds, e', bs)
    | none => none
  | k, .plc i p :: r, e => if (getD (e.at i) p).isNo then none else if (getD (e.at i) p).own then
        (if k ∈ fx then (match fetchA fx (k + 1) r (e.set i .no) with
          | some (ds, e', bs) => some (getD (e.at i) p :: ds, e', (i, p, e.at i, k) :: bs)
          | none => none) else none)
      else (match fetchA fx (k + 1) r e with
        | some (ds, e', bs) => some (getD (e.at i) p :: ds, e', bs)
        | none => none)
def giveB : List (Nat × Path × D × Nat) → List D → Env → Env
  | [], _, e => e
  | (i, p, rt, k) :: bs, ds, e => (giveB bs ds e).set i (setD rt p (ds.getD k .no))
def putKD (ks : List KD) (ds : List D) (x : KD) (d : D) : List KD × List D := match keyIx ks x with
  | some j => (ks, ds.set j d)
  | none => (ks ++ [x], ds ++ [d])
def mutD (b : MB) (d : D) (as : List D) : Option (D × D) := match b, d, as with
  | .append, .lst true ds, [x] => if ds.length < LINE then some (.non, .lst true (ds ++ [x])) else none
  | .pop, .lst true ds, [] => match ds.getLast? with
    | some x => some (x, .lst true ds.dropLast)
    | none => none
  | .extend, .lst true ds, [.lst _ xs] => if allF xs && decide (ds.length + xs.length ≤ LINE) then some (.non, .lst true (ds ++ xs)) else none
  | .clear, .lst true _, [] => some (.non, .lst true [])
  | _, _, _ => none
/-- x's place set: a field, an item -/
def setFld (d : D) (c j : Nat) (x : D) : Option D := match d with
  | .obj true c' ds => if c' = c then (if j < ds.length then some (.obj true c (ds.set j x)) else if j = ds.length then some (.obj true c (ds ++ [x])) else none) else none
  | _ => none
def setIx (d : D) (i x : D) : Option D := match d, i with
  | .lst true ds, .int n => match ixN ds.length n with
    | some j => some (.lst true (ds.set j x))
    | none => none
  | .dct true t ks ds, i => match i.key with
    | some k => if k.flat && !t && decide (ks.length < LINE) && decide (ks.count k ≤ 1) then some (.dct true t (putKD ks ds k x).1 (putKD ks ds k x).2) else none
    | none => none
  | _, _ => none
def stepOf (d i : D) : Option PStep := match d, i with
  | .lst _ _, .int n => some (.i n)
  | .tup _ _, .int n => some (.i n)
  | .dct _ t _ _, i => match i.key with
    | some k => if k.flat && !t then some (.k k) else none
    | none => none
  | _, _ => none
def compD (f : D → Env → R (Option D)) : List D → Env → List D → R (List D)
  | [], e, acc => .ok acc e
  | d :: ds, e, acc => match f d e with
    | .ok (some x) e' => if acc.length < LINE then compD f ds e' (acc ++ [x]) else .stuck
    | .ok none e' => compD f ds e' acc
    | .exc _ _ => .stuck
    | .stuck => .stuck
def wipeE (e : Env) : List Nat → Env
  | [] => e
  | v :: vs => (wipeE e vs).set v .no
def rangeD (lo hi : Int) : List D := (List.range (hi - lo).toNat).map fun (k : Nat) => D.int (lo + k)
def enumD : List D → Nat → List D
  | [], _ => []
  | d :: ds, k => .tup true [.int k, d] :: enumD ds (k + 1)
def zipD : List D → List D → List D
  | a :: as, b :: bs => .tup true [a, b] :: zipD as bs
  | _, _ => []
/-- what a loop walks over a list's or tuple's items; the place that is lent meanwhile -/
structure IV where
  (items : List D) (lent : Option (Nat × D))
/-- an operand that is walked: a list or a tuple -/
def walkO (lo : Bool) (ov : OV) (e : Env) : Option (List D × Option (Nat × D) × Env) := match ov with
  | .tmp d => match frz d with
    | .lst _ ds => some (ds, none, e)
    | .tup _ ds => if lo then none else some (ds, none, e)
    | _ => none
  | .plc i s => match getD (e.at i) s with
    | .lst false ds => some (ds, none, e)
    | .tup false ds => if lo then none else some (ds, none, e)
    | .lst true ds => if s.isEmpty && allF ds then some (ds, some (i, .lst true ds), e.set i .no) else none
    | _ => none
def unlend (l : Option (Nat × D)) (e : Env) : Env := match l with
  | some (i, d) => e.set i d
  | none => e
/-! ### the combinators -/
@[simp] def R.andThen {α β : Type} (r : R α) (f : α → Env → R β) : R β := match r with
  | .ok a e => f a e
  | .exc x e => .exc x e
  | .stuck => .stuck
abbrev M (α : Type) := Env → R α
def cRd (p : M (Nat × Path)) : M D := fun e => match p e with
  | .ok (i, s) e1 => if (getD (e1.at i) s).isNo then .stuck else
    if (getD (e1.at i) s).own then .ok (frz (getD (e1.at i) s)) (e1.set i (setD (e1.at i) s (frz (getD (e1.at i) s)))) else .ok (getD (e1.at i) s) e1
  | .exc x e1 => .exc x e1
  | .stuck => .stuck
def cMov (i : Nat) : M D := fun e => if (e.at i).isNo then .stuck else .ok (e.at i) (e.set i .no)
def cFldv (a : M D) (c j : Nat) : M D := fun e => match a e with
  | .ok (.obj _ c' ds) e1 => if c' = c ∧ j < ds.length then .ok (ds.getD j .no) e1 else .stuck
  | .ok _ _ => .stuck
  | .exc x e1 => .exc x e1
  | .stuck => .stuck
def cFrz (a : M D) : M D := fun e => match a e with
  | .ok d e1 => .ok (Dn.frz d) e1
  | .exc x e1 => .exc x e1
  | .stuck => .stuck
def cTup (es : M (List D)) : M D := fun e => match es e with
  | .ok ds e1 => if ds.length ≤ LINE then .ok (.tup (!allF ds) ds) e1 else .stuck
  | .exc x e1 => .exc x e1
  | .stuck => .stuck
def cLst (es : M (List D)) : M D := fun e => match es e with
  | .ok ds e1 => if ds.length ≤ LINE then .ok (.lst true ds) e1 else .stuck
  | .exc x e1 => .exc x e1
  | .stuck => .stuck
def cBop (b : B) (os : M (List OV)) : M D := fun e => match os e with
  | .ok ovs e1 => match bopD b (ovs.map (OV.get e1)) with
    | some d => .ok d e1
    | none => .stuck
  | .exc x e1 => .exc x e1
  | .stuck => .stuck
def pNone : M (Option Int) := fun e => .ok none e
def pInt (a : M D) : M (Option Int) := fun e => match a e with
  | .ok (.int i) e1 => .ok (some i) e1
  | .ok _ _ => .stuck
  | .exc x e1 => .exc x e1
  | .stuck => .stuck
def cSl (o : M OV) (l h : M (Option Int)) : M D := fun e => match o e with
  | .ok ov e1 => match l e1 with
    | .ok lo e2 => match h e2 with
      | .ok hi e3 => match slcD (ov.get e3) lo hi with
        | some d => .ok d e3
        | none => .stuck
      | .exc x e3 => .exc x e3
      | .stuck => .stuck
    | .exc x e2 => .exc x e2
    | .stuck => .stuck
  | .exc x e1 => .exc x e1
  | .stuck => .stuck
def cIfe {α : Type} (t : M Bool) (a b : M α) : M α := fun e => match t e with
  | .ok true e1 => a e1
  | .ok false e1 => b e1
  | .exc x e1 => .exc x e1
  | .stuck => .stuck
def cAnd (a b : M D) : M D := fun e => match a e with
  | .ok (.bl true) e1 => b e1
  | .ok (.bl false) e1 => .ok (.bl false) e1
  | .ok _ _ => .stuck
  | .exc x e1 => .exc x e1
  | .stuck => .stuck
def cOr (a b : M D) : M D := fun e => match a e with
  | .ok (.bl true) e1 => .ok (.bl true) e1
  | .ok (.bl false) e1 => b e1
  | .ok _ _ => .stuck
  | .exc x e1 => .exc x e1
  | .stuck => .stuck
def cNot (a : M D) : M D := fun e => match a e with
  | .ok (.bl b) e1 => .ok (.bl (!b)) e1
  | .ok _ _ => .stuck
  | .exc x e1 => .exc x e1
  | .stuck => .stuck
def cChain (o1 o2 : B) (a b c : M OV) : M D := fun e => match a e with
  | .ok oa e1 => match b e1 with
    | .ok ob e2 => match cmpD o1 (oa.get e2) (ob.get e2) with
      | some (.bl true) => match c e2 with
        | .ok oc e3 => match cmpD o2 (ob.get e3) (oc.get e3) with
          | some (.bl r) => .ok (.bl r) e3
          | _ => .stuck
        | .exc x e3 => .exc x e3
        | .stuck => .stuck
      | some (.bl false) => .ok (.bl false) e2
      | _ => .stuck
    | .exc x e2 => .exc x e2
    | .stuck => .stuck
  | .exc x e1 => .exc x e1
  | .stuck => .stuck
def cCall (P : Prog) (call : Call) (f : Nat) (os : M (List OV)) : M D := fun e => match os e with
  | .ok ovs e1 => match P.fn f with
    | some fn => if ovs.length = fn.np then match fetchA fn.fx 0 ovs e1 with
        | some (ds, e2, bs) => match call f ds with
          | .ok d ds' => .ok d (giveB bs ds' e2)
          | .exc x ds' => .exc x (giveB bs ds' e2)
          | .stuck => .stuck
        | none => .stuck
      else .stuck
    | none => .stuck
  | .exc x e1 => .exc x e1
  | .stuck => .stuck
def cCallv (P : Prog) (call : Call) (fs : List Nat) (i : Nat) (os : M (List OV)) : M D := fun e => match e.at i with
  | .gl g => if 1000 ≤ g ∧ g - 1000 ∈ fs then cCall P call (g - 1000) os e else .stuck
  | _ => .stuck
def cMk (P : Prog) (call : Call) (c : Nat) (os : M (List OV)) : M D := fun e => match os e with
  | .ok ovs e1 => match P.fn (P.init c) with
    | some fn => if ovs.length + 1 = fn.np ∧ 0 ∈ fn.fx then match fetchA fn.fx 1 ovs e1 with
        | some (ds, e2, bs) => match call (P.init c) (.obj true c [] :: ds) with
          | .ok .non ds' => .ok (ds'.getD 0 .no) (giveB bs ds' e2)
          | .ok _ _ => .stuck
          | .exc x ds' => .exc x (giveB bs ds' e2)
          | .stuck => .stuck
        | none => .stuck
      else .stuck
    | none => .stuck
  | .exc x e1 => .exc x e1
  | .stuck => .stuck
/-- a receiver: an instance of a class -/
def oChk (c : Nat) (o : M OV) : M OV := fun e => match o e with
  | .ok ov e1 => match ov.get e1 with
    | .obj _ c' _ => if c' = c then .ok ov e1 else .stuck
    | _ => .stuck
  | .exc x e1 => .exc x e1
  | .stuck => .stuck
def D.lstOwn : D → Bool | .lst true _ => true | _ => false
/-- a method that changes the list at a place; l: the place's root is lent while the arguments are worked out -/
def cMut (l : Bool) (b : MB) (p : M (Nat × Path)) (es : M (List D)) : M D := fun e => match p e with
  | .ok (i, s) e1 => if (getD (e1.at i) s).lstOwn then
      match es (if l then e1.set i .no else e1) with
      | .ok ds e2 => match mutD b (getD (if l then e1.at i else e2.at i) s) ds with
        | some (r, d) => .ok r (e2.set i (setD (if l then e1.at i else e2.at i) s d))
        | none => .stuck
      | .exc x e2 => .exc x e2
      | .stuck => .stuck
    else .stuck
  | .exc x e1 => .exc x e1
  | .stuck => .stuck
def turnC (g : D → M Unit) (t : M Bool) (x : M D) (vs : List Nat) (d : D) : M (Option D) := fun e => match g d e with
  | .ok _ e3 => match t e3 with
    | .ok true e4 => match x e4 with
      | .ok y e5 => .ok (some y) (wipeE e5 vs)
      | .exc x e5 => .exc x e5
      | .stuck => .stuck
    | .ok false e4 => .ok none (wipeE e4 vs)
    | .exc x e4 => .exc x e4
    | .stuck => .stuck
  | .exc x e3 => .exc x e3
  | .stuck => .stuck
def cComp (i : M IV) (g : D → M Unit) (t : M Bool) (x : M D) (vs : List Nat) : M D := fun e => match i e with
  | .ok iv e1 => match compD (turnC g t x vs) iv.items (wipeE e1 vs) [] with
    | .ok ds e2 => .ok (.lst true ds) (unlend iv.lent e2)
    | .exc _ _ => .stuck
    | .stuck => .stuck
  | .exc x e1 => .exc x e1
  | .stuck => .stuck
def pRef (i : Nat) : M (Nat × Path) := fun e => if (e.at i).isNo then .stuck else .ok (i, []) e
def pFld (p : M (Nat × Path)) (c j : Nat) : M (Nat × Path) := fun e => match p e with
  | .ok (i, s) e1 => match getD (e1.at i) s with
    | .obj _ c' ds => if c' = c ∧ j < ds.length then .ok (i, s ++ [.f j]) e1 else .stuck
    | _ => .stuck
  | .exc x e1 => .exc x e1
  | .stuck => .stuck
def pIx (p : M (Nat × Path)) (a : M D) : M (Nat × Path) := fun e => match p e with
  | .ok (i, s) e1 => match a e1 with
    | .ok x e2 => match (getD (e2.at i) s).own, stepOf (getD (e2.at i) s) x with
      | true, some st => match stepIx (getD (e2.at i) s) st with
        | some _ => .ok (i, s ++ [st]) e2
        | none => .stuck
      | _, _ => .stuck
    | .exc x e2 => .exc x e2
    | .stuck => .stuck
  | .exc x e1 => .exc x e1
  | .stuck => .stuck
def oTmp (a : M D) : M OV := fun e => match a e with
  | .ok d e1 => .ok (.tmp d) e1
  | .exc x e1 => .exc x e1
  | .stuck => .stuck
def oPlc (p : M (Nat × Path)) : M OV := fun e => match p e with
  | .ok (i, s) e1 => if (getD (e1.at i) s).isNo then .stuck else .ok (.plc i s) e1
  | .exc x e1 => .exc x e1
  | .stuck => .stuck
def lNil {α : Type} : M (List α) := fun e => .ok [] e
def lCons {α : Type} (a : M α) (as : M (List α)) : M (List α) := fun e => match a e with
  | .ok o e1 => match as e1 with
    | .ok os e2 => .ok (o :: os) e2
    | .exc x e2 => .exc x e2
    | .stuck => .stuck
  | .exc x e1 => .exc x e1
  | .stuck => .stuck
def tVal (a : M D) : M Bool := fun e => match a e with
  | .ok (.bl b) e1 => .ok b e1
  | .ok _ _ => .stuck
  | .exc x e1 => .exc x e1
  | .stuck => .stuck
def tTru (a : M OV) : M Bool := fun e => match a e with
  | .ok o e1 => match (o.get e1).truth with
    | some b => .ok b e1
    | none => .stuck
  | .exc x e1 => .exc x e1
  | .stuck => .stuck
def tAndD (a b : M Bool) : M Bool := fun e => match a e with
  | .ok true e1 => b e1
  | .ok false e1 => .ok false e1
  | .exc x e1 => .exc x e1
  | .stuck => .stuck
def tOrD (a b : M Bool) : M Bool := fun e => match a e with
  | .ok true e1 => .ok true e1
  | .ok false e1 => b e1
  | .exc x e1 => .exc x e1
  | .stuck => .stuck
def tNotD (a : M Bool) : M Bool := fun e => match a e with
  | .ok b e1 => .ok (!b) e1
  | .exc x e1 => .exc x e1
  | .stuck => .stuck
def iRng (es : M (List D)) : M IV := fun e => match es e with
  | .ok [.int j] e1 => if -(2 ^ 62) ≤ j ∧ j < 2 ^ 62 then .ok ⟨rangeD 0 j, none⟩ e1 else .stuck
  | .ok [.int i, .int j] e1 => if -(2 ^ 62) ≤ i ∧ i < 2 ^ 62 ∧ -(2 ^ 62) ≤ j ∧ j < 2 ^ 62 then .ok ⟨rangeD i j, none⟩ e1 else .stuck
  | .ok _ _ => .stuck
  | .exc x e1 => .exc x e1
  | .stuck => .stuck
def iWalk (lo : Bool) (a : M OV) (f : List D → List D) : M IV := fun e => match a e with
  | .ok o e1 => match walkO lo o e1 with
    | some (ds, l, e2) => .ok ⟨f ds, l⟩ e2
    | none => .stuck
  | .exc x e1 => .exc x e1
  | .stuck => .stuck
def chD (z : Str) : List D := z.cps.toList.map fun c => .str ⟨#[c]⟩
/-- a list, a tuple or a text is walked -/
def iPlain (a : M OV) : M IV := fun e => match a e with
  | .ok o e1 => match o.get e1 with
    | .str z => .ok ⟨chD z, none⟩ e1
    | _ => match walkO false o e1 with
      | some (ds, l, e2) => .ok ⟨ds, l⟩ e2
      | none => .stuck
  | .exc x e1 => .exc x e1
  | .stuck => .stuck
def gName_ (i : Nat) : D → M Unit := fun d e => .ok () (e.set i d)
def gTup_ (n : Nat) (ts : List D → M Unit) : D → M Unit := fun d e => match d with
  | .tup _ ds => if ds.length = n then ts ds e else .stuck
  | _ => .stuck
def gFld (p : M (Nat × Path)) (c j : Nat) : D → M Unit := fun d e => match p e with
  | .ok (i, s) e1 => match setFld (getD (e1.at i) s) c j d with
    | some x => .ok () (e1.set i (setD (e1.at i) s x))
    | none => .stuck
  | .exc x e1 => .exc x e1
  | .stuck => .stuck
def gIx (p : M (Nat × Path)) (a : M D) : D → M Unit := fun d e => match p e with
  | .ok (i, s) e1 => match a e1 with
    | .ok k e2 => match setIx (getD (e2.at i) s) k d with
      | some x => .ok () (e2.set i (setD (e2.at i) s x))
      | none => .stuck
    | .exc x e2 => .exc x e2
    | .stuck => .stuck
  | .exc x e1 => .exc x e1
  | .stuck => .stuck
def gsNil : List D → M Unit := fun ds e => match ds with
  | [] => .ok () e
  | _ => .stuck
def gsCons (t : D → M Unit) (ts : List D → M Unit) : List D → M Unit := fun ds e => match ds with
  | d :: ds => match t d e with
    | .ok _ e1 => ts ds e1
    | .exc x e1 => .exc x e1
    | .stuck => .stuck
  | [] => .stuck
def mStuck {α : Type} : M α := fun _ => .stuck
/-- what an expression is as a value, a place, an operand, a test, a walk -/
structure DX where
  (e : M D) (p : M (Nat × Path)) (o : M OV) (t : M Bool) (i : M IV)
def DX.val (a : M D) : DX := ⟨a, mStuck, oTmp a, tVal a, iPlain (oTmp a)⟩
def DX.plc (p : M (Nat × Path)) : DX := ⟨mStuck, p, oPlc p, mStuck, iPlain (oPlc p)⟩
def DX.tst (a : M D) (t : M Bool) : DX := ⟨a, mStuck, oTmp a, t, iPlain (oTmp a)⟩
def DX.itr (i : M IV) : DX := ⟨mStuck, mStuck, mStuck, mStuck, i⟩
mutual
def den (P : Prog) (call : Call) : Ex → DX
  | .lit d => .val fun e => .ok d e
  | .gl g => .val fun e => .ok (P.gd g) e
  | .ref i => .plc (pRef i)
  | .fld p c j => .plc (pFld (den P call p).p c j)
  | .ix p a => .plc (pIx (den P call p).p (den P call a).e)
  | .rd p => .val (cRd (den P call p).p)
  | .mov i => .val (cMov i)
  | .fldv a c j => .val (cFldv (den P call a).e c j)
  | .frz a => .val (cFrz (den P call a).e)
  | .tup es => .val (cTup (denEs P call es))
  | .lst es => .val (cLst (denEs P call es))
  | .dct t _ _ => .val fun e => .ok (.dct true t [] []) e
  | .bop b es => .val (cBop b (denOs P call es))
  | .sl bl bh a l h => .val (cSl (den P call a).o (if bl then pInt (den P call l).e else pNone) (if bh then pInt (den P call h).e else pNone))
  | .ife t a b => .val (cIfe (den P call t).t (den P call a).e (den P call b).e)
  | .and a b => .tst (cAnd (den P call a).e (den P call b).e) (tAndD (den P call a).t (den P call b).t)
  | .or a b => .tst (cOr (den P call a).e (den P call b).e) (tOrD (den P call a).t (den P call b).t)
  | .not a => .tst (cNot (den P call a).e) (tNotD (den P call a).t)
  | .chain o1 o2 a b c => .val (cChain o1 o2 (den P call a).o (den P call b).o (den P call c).o)
  | .tru a => .tst mStuck (tTru (den P call a).o)
  | .call f es => .val (cCall P call f (denOs P call es))
  | .callv fs i es => .val (cCallv P call fs i (denOs P call es))
  | .mk c es => .val (cMk P call c (denOs P call es))
  | .mth m c a es => .val (cCall P call m (lCons (oChk c (den P call a).o) (denOs P call es)))
  | .mut l b p es => .val (cMut l b (den P call p).p (denEs P call es))
  | .comp x tg vs it cond => .val (cComp (den P call it).i (denG P call tg) (den P call cond).t (den P call x).e vs)
  | .itE a => .itr (iWalk true (den P call a).o fun ds => enumD ds 0)
  | .itR es => .itr (iRng (denEs P call es))
  | .itZ _ _ => .itr mStuck
  | .itRev a => .itr (iWalk false (den P call a).o List.reverse)
  | .itK _ => .itr mStuck
  | .itI _ => .itr mStuck
  | .itV _ => .itr mStuck
def denEs (P : Prog) (call : Call) : Exs → M (List D)
  | .nil => lNil
  | .cons a as => lCons (den P call a).e (denEs P call as)
def denOs (P : Prog) (call : Call) : Exs → M (List OV)
  | .nil => lNil
  | .cons a as => lCons (den P call a).o (denOs P call as)
def denG (P : Prog) (call : Call) : Tg → D → M Unit
  | .nm i => gName_ i
  | .tp ts => gTup_ ts.len (denGs P call ts)
  | .fld p c j => gFld (den P call p).p c j
  | .ix p a => gIx (den P call p).p (den P call a).e
def denGs (P : Prog) (call : Call) : Tgs → List D → M Unit
  | .nil => gsNil
  | .cons t ts => gsCons (denG P call t) (denGs P call ts)
end
/-- a loop's turns -/
def forD (f : D → Env → RS) : List D → Env → RS
  | [], e => .nxt e
  | d :: ds, e => match f d e with
    | .nxt e' => forD f ds e'
    | .cnt e' => forD f ds e'
    | .brk e' => .nxt e'
    | .ret d e' => .ret d e'
    | .exc x e' => .exc x e'
    | .stuck => .stuck
def whlD (t : Env → R Bool) (b : Env → RS) : Nat → Env → RS
  | 0, _ => .stuck
  | n + 1, e => match t e with
    | .ok true e1 => match b e1 with
      | .nxt e' => whlD t b n e'
      | .cnt e' => whlD t b n e'
      | .brk e' => .nxt e'
      | .ret d e' => .ret d e'
      | .exc x e' => .exc x e'
      | .stuck => .stuck
    | .ok false e1 => .nxt e1
    | .exc x e1 => .exc x e1
    | .stuck => .stuck
def RS.map (f : Env → Env) : RS → RS
  | .nxt e => .nxt (f e) | .brk e => .brk (f e) | .cnt e => .cnt (f e) | .ret d e => .ret d (f e) | .exc x e => .exc x (f e) | .stuck => .stuck
def BIG : Nat := 1000000000
abbrev MS := Env → RS
def sAsg (a : M D) (g : D → M Unit) : MS := fun e => match a e with
  | .ok d e1 => match g d e1 with
    | .ok _ e2 => .nxt e2
    | .exc x e2 => .exc x e2
    | .stuck => .stuck
  | .exc x e1 => .exc x e1
  | .stuck => .stuck
def sEx (a : M D) : MS := fun e => match a e with
  | .ok _ e1 => .nxt e1
  | .exc x e1 => .exc x e1
  | .stuck => .stuck
def sRet (a : M D) : MS := fun e => match a e with
  | .ok d e1 => .ret d e1
  | .exc x e1 => .exc x e1
  | .stuck => .stuck
def sIf (t : M Bool) (a b : MS) : MS := fun e => match t e with
  | .ok true e1 => a e1
  | .ok false e1 => b e1
  | .exc x e1 => .exc x e1
  | .stuck => .stuck
def sTurn (g : D → M Unit) (b : MS) (d : D) : MS := fun e => match g d e with
  | .ok _ e3 => b e3
  | .exc x e3 => .exc x e3
  | .stuck => .stuck
def sFor (i : M IV) (g : D → M Unit) (b : MS) : MS := fun e => match i e with
  | .ok iv e1 => (forD (sTurn g b) iv.items e1).map (unlend iv.lent)
  | .exc x e1 => .exc x e1
  | .stuck => .stuck
def sRai (c : Nat) (a : M D) : MS := fun e => match a e with
  | .ok d e1 => .exc ⟨c, frz d⟩ e1
  | .exc x e1 => .exc x e1
  | .stuck => .stuck
def sSeq (a b : MS) : MS := fun e => match a e with
  | .nxt e1 => b e1
  | .brk e1 => .brk e1
  | .cnt e1 => .cnt e1
  | .ret d e1 => .ret d e1
  | .exc x e1 => .exc x e1
  | .stuck => .stuck
def offN (i : Option Nat) (e : Env) : Env := match i with | some s => e.set s .no | none => e
def denH (P : Prog) : Hs → X → Env → RS
  | .nil, x, e => .exc x e
  | .cons c i j v hs, x, e => match P.sub x.cls c with
    | some true => match v with
      | .lit d => .nxt ((offN i e).set j d)
      | .fld => match i with
        | some s => if x.cls = c ∧ s < e.length then .nxt ((e.set s .no).set j x.val) else .stuck
        | none => .stuck
    | some false => denH P hs x e
    | none => .stuck
def sTry (b : MS) (h : X → Env → RS) : MS := fun e => match b e with
  | .exc x e1 => h x e1
  | r => r
mutual
def denS (P : Prog) (call : Call) : Sm → MS
  | .asg t a => sAsg (den P call a).e (denG P call t)
  | .ex a => sEx (den P call a).e
  | .ret a => sRet (den P call a).e
  | .ife t a b => sIf (den P call t).t (denSs P call a) (denSs P call b)
  | .whl t b => whlD (den P call t).t (denSs P call b) BIG
  | .for_ t it b => sFor (den P call it).i (denG P call t) (denSs P call b)
  | .brk => fun e => .brk e
  | .cnt => fun e => .cnt e
  | .pas => fun e => .nxt e
  | .rai c a => sRai c (den P call a).e
  | .try_ b hs => sTry (denSs P call b) (denH P hs)
  | .delS _ _ _ => fun _ => .stuck
def denSs (P : Prog) (call : Call) : Sms → MS
  | .nil => fun e => .nxt e
  | .cons s ss => sSeq (denS P call s) (denSs P call ss)
end
/-- the parameters behind a call: those that are never stored to -/
def maskF (fx : List Nat) : Nat → List D → List D
  | _, [] => []
  | k, d :: ds => (if k ∈ fx then d else .no) :: maskF fx (k + 1) ds
def denFn (P : Prog) : Nat → Call
  | 0, _, _ => .stuck
  | n + 1, f, ds => match P.fn f with
    | some fn => if ds.length = fn.np then match denSs P (denFn P n) fn.body (ds ++ List.replicate (fn.ns - fn.np) .no) with
        | .nxt e => .ok .non (maskF fn.fx 0 (e.take fn.np))
        | .ret d e => .ok d (maskF fn.fx 0 (e.take fn.np))
        | .exc x e => .exc x (maskF fn.fx 0 (e.take fn.np))
        | _ => .stuck
      else .stuck
    | none => .stuck
end Dn
end L2
set_option Elab.async false
set_option linter.all false
set_option maxRecDepth 100000
/-! Data over the heap: frozen, owned; what a step leaves. -/
namespace L2
namespace Dn
open PySem PySem.Spec

/-- the top's things: classes, the names of their fields, global values -/
structure Gi where
  K : PySem.W.Frag
  cls : Nat → Addr
  fnm : Nat → List Str
  gv : Nat → V
  /-- what a written dict holds -/
  wd : Addr → List Str → List V → Prop
def HO.kvK (kvs : List (Key × V)) (ks : List KD) (vs : List V) : Prop := ks = kvs.map (fun q => KD.k q.1) ∧ vs = kvs.map (·.2)
def HO.kvT (kvs : List (List Key × V)) (ks : List KD) (vs : List V) : Prop := ks = kvs.map (fun q => KD.t q.1) ∧ vs = kvs.map (·.2)
mutual
inductive Fz (G : Gi) (F : Hp) : V → D → Prop
  | no (v : V) : Fz G F v .no
  | non : Fz G F .non .non
  | bl (b : Bool) : Fz G F (.bl b) (.bl b)
  | int (i : Int) : Fz G F (.int i) (.int i)
  | str (x : Str) : Fz G F (.str x) (.str x)
  | gl (g : Nat) : Fz G F (G.gv g) (.gl g)
  | wdt {a : Addr} {ks : List Str} {vs : List V} {ds : List D} : G.wd a ks vs → FzL G F vs ds → Fz G F (.ref a) (.wdt ks ds)
  | wls {a : Addr} {vs : List V} {ds : List D} : SqL G.K F a vs → FzL G F vs ds → Fz G F (.ref a) (.wls ds)
  | tup {a : Addr} {vs : List V} {ds : List D} : SqT G.K F a vs → FzL G F vs ds → Fz G F (.ref a) (.tup false ds)
  | lst {a : Addr} {vs : List V} {ds : List D} : Rd F a (.lst vs) → FzL G F vs ds → Fz G F (.ref a) (.lst false ds)
  | dK {a : Addr} {kvs : List (Key × V)} {ds : List D} : F a = some (.dK kvs) → FzL G F (kvs.map (·.2)) ds → Fz G F (.ref a) (.dct false false (kvs.map (fun q => KD.k q.1)) ds)
  | dT {a : Addr} {kvs : List (List Key × V)} {ds : List D} : F a = some (.dT kvs) → FzL G F (kvs.map (·.2)) ds → Fz G F (.ref a) (.dct false true (kvs.map (fun q => KD.t q.1)) ds)
  | obj {a dx : Addr} {c : Nat} {fs : List (Str × V)} {ds : List D} : F a = some (.ins (G.cls c) dx fs) → F dx = some (.own a) → fs.map (·.1) = (G.fnm c).take ds.length → FzL G F (fs.map (·.2)) ds → Fz G F (.ref a) (.obj false c ds)
inductive FzL (G : Gi) (F : Hp) : List V → List D → Prop
  | nil : FzL G F [] []
  | cons {v : V} {vs : List V} {d : D} {ds : List D} : Fz G F v d → FzL G F vs ds → FzL G F (v :: vs) (d :: ds)
end
mutual
inductive Rep (G : Gi) (F H : Hp) : V → D → List Addr → Prop
  | fz {v : V} {d : D} : Fz G F v d → Rep G F H v d []
  | tup {a : Addr} {vs : List V} {ds : List D} {fp : List Addr} : H a = some (.tup vs) → RepL G F H vs ds fp → Rep G F H (.ref a) (.tup true ds) (a :: fp)
  | lst {a : Addr} {vs : List V} {ds : List D} {fp : List Addr} : H a = some (.lst vs) → RepL G F H vs ds fp → Rep G F H (.ref a) (.lst true ds) (a :: fp)
  | dK {a : Addr} {kvs : List (Key × V)} {ds : List D} {fp : List Addr} : H a = some (.dK kvs) → RepL G F H (kvs.map (·.2)) ds fp → Rep G F H (.ref a) (.dct true false (kvs.map (fun q => KD.k q.1)) ds) (a :: fp)
  | dT {a : Addr} {kvs : List (List Key × V)} {ds : List D} {fp : List Addr} : H a = some (.dT kvs) → RepL G F H (kvs.map (·.2)) ds fp → Rep G F H (.ref a) (.dct true true (kvs.map (fun q => KD.t q.1)) ds) (a :: fp)
  | obj {a dx : Addr} {c : Nat} {fs : List (Str × V)} {ds : List D} {fp : List Addr} : H a = some (.ins (G.cls c) dx fs) → H dx = some (.own a) → fs.map (·.1) = (G.fnm c).take ds.length → RepL G F H (fs.map (·.2)) ds fp →
      Rep G F H (.ref a) (.obj true c ds) (a :: dx :: fp)
inductive RepL (G : Gi) (F H : Hp) : List V → List D → List Addr → Prop
  | nil : RepL G F H [] [] []
  | cons {v : V} {vs : List V} {d : D} {ds : List D} {f g : List Addr} : Rep G F H v d f → RepL G F H vs ds g → RepL G F H (v :: vs) (d :: ds) (f ++ g)
end
section
variable {G : Gi} {F F' H H' : Hp}
theorem Same.sqt' {K : PySem.W.Frag} {H H' : Hp} {a : Addr} {xs : List V} (e : Same H H') (h : SqT K H a xs) : SqT K H' a xs := by
  rcases h with (h | ⟨o, h⟩) | h
  · exact .inl (.inl (e _ _ h))
  · exact .inl (.inr ⟨o, e _ _ h⟩)
  · exact .inr h
theorem Same.sql' {K : PySem.W.Frag} {H H' : Hp} {a : Addr} {xs : List V} (e : Same H H') (h : SqL K H a xs) : SqL K H' a xs := by
  rcases h with (h | ⟨o, h⟩) | h
  · exact .inl (.inl (e _ _ h))
  · exact .inl (.inr ⟨o, e _ _ h⟩)
  · exact .inr h
mutual
theorem Fz.mono (e : Same F F') : ∀ {v : V} {d : D}, Fz G F v d → Fz G F' v d
  | _, _, .no v => .no v
  | _, _, .non => .non
  | _, _, .bl b => .bl b
  | _, _, .int i => .int i
  | _, _, .str x => .str x
  | _, _, .gl g => .gl g
  | _, _, .wdt h r => .wdt h (FzL.mono e r)
  | _, _, .wls h r => .wls (Same.sql' e h) (FzL.mono e r)
  | _, _, .tup h r => .tup (Same.sqt' e h) (FzL.mono e r)
  | _, _, .lst h r => .lst (h.imp (e _ _) fun ⟨o, h⟩ => ⟨o, e _ _ h⟩) (FzL.mono e r)
  | _, _, .dK h r => .dK (e _ _ h) (FzL.mono e r)
  | _, _, .dT h r => .dT (e _ _ h) (FzL.mono e r)
  | _, _, .obj h1 h2 h3 r => .obj (e _ _ h1) (e _ _ h2) h3 (FzL.mono e r)
theorem FzL.mono (e : Same F F') : ∀ {vs : List V} {ds : List D}, FzL G F vs ds → FzL G F' vs ds
  | _, _, .nil => .nil
  | _, _, .cons h r => .cons (Fz.mono e h) (FzL.mono e r)
end
mutual
theorem Rep.move (e : Same F F') : ∀ {v : V} {d : D} {fp : List Addr}, Rep G F H v d fp → (∀ b ∈ fp, H' b = H b) → Rep G F' H' v d fp
  | _, _, _, .fz h, _ => .fz (h.mono e)
  | _, _, _, .tup h r, k => .tup (by rw [k _ List.mem_cons_self]; exact h) (RepL.move e r fun b hb => k b (List.mem_cons_of_mem _ hb))
  | _, _, _, .lst h r, k => .lst (by rw [k _ List.mem_cons_self]; exact h) (RepL.move e r fun b hb => k b (List.mem_cons_of_mem _ hb))
  | _, _, _, .dK h r, k => .dK (by rw [k _ List.mem_cons_self]; exact h) (RepL.move e r fun b hb => k b (List.mem_cons_of_mem _ hb))
  | _, _, _, .dT h r, k => .dT (by rw [k _ List.mem_cons_self]; exact h) (RepL.move e r fun b hb => k b (List.mem_cons_of_mem _ hb))
  | _, _, _, .obj h1 h2 h3 r, k => .obj (by rw [k _ List.mem_cons_self]; exact h1) (by rw [k _ (List.mem_cons_of_mem _ List.mem_cons_self)]; exact h2) h3 (RepL.move e r fun b hb => k b (List.mem_cons_of_mem _ (List.mem_cons_of_mem _ hb)))
theorem RepL.move (e : Same F F') : ∀ {vs : List V} {ds : List D} {fp : List Addr}, RepL G F H vs ds fp → (∀ b ∈ fp, H' b = H b) → RepL G F' H' vs ds fp
  | _, _, _, .nil, _ => .nil
  | _, _, _, .cons h r, k => .cons (Rep.move e h fun b hb => k b (List.mem_append_left _ hb)) (RepL.move e r fun b hb => k b (List.mem_append_right _ hb))
end
mutual
theorem Rep.dom : ∀ {v : V} {d : D} {fp : List Addr}, Rep G F H v d fp → ∀ b ∈ fp, H b ≠ none
  | _, _, _, .fz _, _, hb => nomatch hb
  | _, _, _, .tup h r, b, hb => (List.mem_cons.mp hb).elim (fun e => by rw [e, h]; exact fun z => nomatch z) (RepL.dom r b)
  | _, _, _, .lst h r, b, hb => (List.mem_cons.mp hb).elim (fun e => by rw [e, h]; exact fun z => nomatch z) (RepL.dom r b)
  | _, _, _, .dK h r, b, hb => (List.mem_cons.mp hb).elim (fun e => by rw [e, h]; exact fun z => nomatch z) (RepL.dom r b)
  | _, _, _, .dT h r, b, hb => (List.mem_cons.mp hb).elim (fun e => by rw [e, h]; exact fun z => nomatch z) (RepL.dom r b)
  | _, _, _, .obj h1 h2 h3 r, b, hb => (List.mem_cons.mp hb).elim (fun e => by rw [e, h1]; exact fun z => nomatch z) fun hb => (List.mem_cons.mp hb).elim (fun e => by rw [e, h2]; exact fun z => nomatch z) (RepL.dom r b)
theorem RepL.dom : ∀ {vs : List V} {ds : List D} {fp : List Addr}, RepL G F H vs ds fp → ∀ b ∈ fp, H b ≠ none
  | _, _, _, .nil, _, hb => nomatch hb
  | _, _, _, .cons h r, b, hb => (List.mem_append.mp hb).elim (Rep.dom h b) (RepL.dom r b)
end
mutual
theorem Fz.frz : ∀ {v : V} {d : D}, Fz G F v d → Dn.frz d = d
  | _, _, .no v => by rw [Dn.frz]
  | _, _, .non => by rw [Dn.frz]
  | _, _, .bl b => by rw [Dn.frz]
  | _, _, .int i => by rw [Dn.frz]
  | _, _, .str x => by rw [Dn.frz]
  | _, _, .gl g => by rw [Dn.frz]
  | _, _, .wdt h r => by rw [Dn.frz]
  | _, _, .wls h r => by rw [Dn.frz]
  | _, _, .tup h r => by rw [Dn.frz, FzL.frz r]
  | _, _, .lst h r => by rw [Dn.frz, FzL.frz r]
  | _, _, .dK h r => by rw [Dn.frz, FzL.frz r]
  | _, _, .dT h r => by rw [Dn.frz, FzL.frz r]
  | _, _, .obj h1 h2 h3 r => by rw [Dn.frz, FzL.frz r]
theorem FzL.frz : ∀ {vs : List V} {ds : List D}, FzL G F vs ds → Dn.frzL ds = ds
  | _, _, .nil => by rw [Dn.frzL]
  | _, _, .cons h r => by rw [Dn.frzL, Fz.frz h, FzL.frz r]
end
theorem Fz.own {v : V} {d : D} (h : Fz G F v d) : d.own = false := by cases h <;> rfl
theorem frzL_length : ∀ ds : List D, (frzL ds).length = ds.length
  | [] => by rw [frzL]
  | d :: ds => by rw [frzL, List.length_cons, frzL_length ds, List.length_cons]
mutual
/-- all of it frozen, in a frozen heap that has it -/
theorem Rep.freeze (e : Same F F') : ∀ {v : V} {d : D} {fp : List Addr}, Rep G F H v d fp → (∀ b ∈ fp, F' b = H b) → Fz G F' v (Dn.frz d)
  | _, _, _, .fz h, _ => by rw [h.frz]; exact h.mono e
  | _, _, _, .tup h r, k => by rw [Dn.frz]; exact .tup (SqT.of (by rw [k _ List.mem_cons_self]; exact h)) (RepL.freeze e r fun b hb => k b (List.mem_cons_of_mem _ hb))
  | _, _, _, .lst h r, k => by rw [Dn.frz]; exact .lst (.inl (by rw [k _ List.mem_cons_self]; exact h)) (RepL.freeze e r fun b hb => k b (List.mem_cons_of_mem _ hb))
  | _, _, _, .dK h r, k => by rw [Dn.frz]; exact .dK (by rw [k _ List.mem_cons_self]; exact h) (RepL.freeze e r fun b hb => k b (List.mem_cons_of_mem _ hb))
  | _, _, _, .dT h r, k => by rw [Dn.frz]; exact .dT (by rw [k _ List.mem_cons_self]; exact h) (RepL.freeze e r fun b hb => k b (List.mem_cons_of_mem _ hb))
  | _, _, _, .obj h1 h2 h3 r, k => by
    rw [Dn.frz]
    exact .obj (by rw [k _ List.mem_cons_self]; exact h1) (by rw [k _ (List.mem_cons_of_mem _ List.mem_cons_self)]; exact h2) (by rw [frzL_length]; exact h3) (RepL.freeze e r fun b hb => k b (List.mem_cons_of_mem _ (List.mem_cons_of_mem _ hb)))
theorem RepL.freeze (e : Same F F') : ∀ {vs : List V} {ds : List D} {fp : List Addr}, RepL G F H vs ds fp → (∀ b ∈ fp, F' b = H b) → FzL G F' vs (Dn.frzL ds)
  | _, _, _, .nil, _ => by rw [Dn.frzL]; exact .nil
  | _, _, _, .cons h r, k => by rw [Dn.frzL]; exact .cons (Rep.freeze e h fun b hb => k b (List.mem_append_left _ hb)) (RepL.freeze e r fun b hb => k b (List.mem_append_right _ hb))
end
theorem Rep.fz_of {v : V} {d : D} {fp : List Addr} (h : Rep G F H v d fp) (o : d.own = false) : Fz G F v d ∧ fp = [] := by
  cases h with
  | fz h => exact ⟨h, rfl⟩
  | _ => cases o
theorem FzL.repL : ∀ {vs : List V} {ds : List D}, FzL G F vs ds → RepL G F H vs ds []
  | _, _, .nil => .nil
  | _, _, .cons h r => .cons (f := []) (g := []) (.fz h) (FzL.repL r)
theorem RepL.fzL : ∀ {vs : List V} {ds : List D} {fp : List Addr}, RepL G F H vs ds fp → allF ds = true → FzL G F vs ds ∧ fp = []
  | _, _, _, .nil, _ => ⟨.nil, rfl⟩
  | _, _, _, .cons h r, k => by
    unfold allF at k
    rw [List.all_cons, Bool.and_eq_true] at k
    obtain ⟨h1, e1⟩ := h.fz_of (by simpa using k.1)
    obtain ⟨h2, e2⟩ := RepL.fzL r k.2
    exact ⟨.cons h1 h2, by rw [e1, e2]; rfl⟩
theorem FzL.allF : ∀ {vs : List V} {ds : List D}, FzL G F vs ds → Dn.allF ds = true
  | _, _, .nil => rfl
  | _, _, .cons h r => by
    unfold Dn.allF
    rw [List.all_cons, Bool.and_eq_true]
    exact ⟨by rw [h.own]; rfl, FzL.allF r⟩
theorem FzL.len : ∀ {vs : List V} {ds : List D}, FzL G F vs ds → vs.length = ds.length
  | _, _, .nil => rfl
  | _, _, .cons _ r => by rw [List.length_cons, List.length_cons, FzL.len r]
theorem RepL.len : ∀ {vs : List V} {ds : List D} {fp : List Addr}, RepL G F H vs ds fp → vs.length = ds.length
  | _, _, _, .nil => rfl
  | _, _, _, .cons _ r => by rw [List.length_cons, List.length_cons, RepL.len r]
theorem FzL.get : ∀ {vs : List V} {ds : List D} {i : Nat} {d : D}, FzL G F vs ds → ds[i]? = some d → ∃ v, vs[i]? = some v ∧ Fz G F v d
  | _, _, 0, _, .cons h _, e => ⟨_, rfl, by cases e; exact h⟩
  | _, _, i + 1, _, .cons _ r, e => FzL.get (i := i) r e
theorem FzL.append : ∀ {vs ws : List V} {ds es : List D}, FzL G F vs ds → FzL G F ws es → FzL G F (vs ++ ws) (ds ++ es)
  | _, _, _, _, .nil, s => s
  | _, _, _, _, .cons h r, s => .cons h (FzL.append r s)
theorem RepL.append : ∀ {vs ws : List V} {ds es : List D} {f g : List Addr}, RepL G F H vs ds f → RepL G F H ws es g → RepL G F H (vs ++ ws) (ds ++ es) (f ++ g)
  | _, _, _, _, _, _, .nil, s => s
  | _, _, _, _, _, _, .cons h r, s => by rw [List.append_assoc]; exact .cons h (RepL.append r s)
theorem FzL.take : ∀ {vs : List V} {ds : List D} (n : Nat), FzL G F vs ds → FzL G F (vs.take n) (ds.take n)
  | _, _, 0, _ => .nil
  | _, _, _ + 1, .nil => .nil
  | _, _, n + 1, .cons h r => .cons h (FzL.take n r)
theorem FzL.drop : ∀ {vs : List V} {ds : List D} (n : Nat), FzL G F vs ds → FzL G F (vs.drop n) (ds.drop n)
  | _, _, 0, r => r
  | _, _, _ + 1, .nil => .nil
  | _, _, n + 1, .cons _ r => FzL.drop n r
theorem FzL.reverse {vs : List V} {ds : List D} (h : FzL G F vs ds) : FzL G F vs.reverse ds.reverse := by
  induction vs generalizing ds with
  | nil => cases h; exact .nil
  | cons v vs ih => cases h with
    | cons h r =>
      rw [List.reverse_cons, List.reverse_cons]
      exact (ih r).append (.cons h .nil)
/-- one of several, and what stands in its place then -/
theorem RepL.at : ∀ {vs : List V} {ds : List D} {fp : List Addr} {j : Nat} {d : D}, RepL G F H vs ds fp → ds[j]? = some d →
    ∃ v f rest, vs[j]? = some v ∧ Rep G F H v d f ∧ fp.Perm (f ++ rest) ∧
      ∀ (F2 H2 : Hp) (v2 : V) (d2 : D) (f2 : List Addr), Same F F2 → (∀ b ∈ rest, H2 b = H b) → Rep G F2 H2 v2 d2 f2 → ∃ fp2, fp2.Perm (f2 ++ rest) ∧ RepL G F2 H2 (vs.set j v2) (ds.set j d2) fp2
  | _, _, _, 0, _, .cons (f := f) (g := g) h r, e => by
    cases e
    exact ⟨_, f, g, rfl, h, .refl _, fun F2 H2 v2 d2 f2 s k q => ⟨f2 ++ g, .refl _, .cons q (r.move s k)⟩⟩
  | _, _, _, j + 1, _, .cons (f := f) (g := g) h r, e => by
    obtain ⟨v, f', rest, h1, h2, h3, h4⟩ := RepL.at (j := j) r e
    refine ⟨v, f', f ++ rest, h1, h2, ?_, fun F2 H2 v2 d2 f2 s k q => ?_⟩
    · refine (List.Perm.append_left f h3).trans ?_
      rw [← List.append_assoc, ← List.append_assoc]
      exact List.Perm.append_right _ List.perm_append_comm
    · obtain ⟨fp2, p2, r2⟩ := h4 F2 H2 v2 d2 f2 s (fun b hb => k b (List.mem_append_right _ hb)) q
      refine ⟨f ++ fp2, ?_, .cons (h.move s fun b hb => k b (List.mem_append_left _ hb)) r2⟩
      refine (List.Perm.append_left f p2).trans ?_
      rw [← List.append_assoc, ← List.append_assoc]
      exact List.Perm.append_right _ List.perm_append_comm
end

/-! ### places in the heap -/
def pathV (H : Hp) : V → Path → Option V
  | v, [] => some v
  | .ref a, .f j :: r => match H a with
    | some (.ins _ _ fs) => (fs[j]?).bind fun q => pathV H q.2 r
    | _ => none
  | .ref a, .i n :: r => match H a with
    | some (.lst vs) => (ixN vs.length n).bind fun j => (vs[j]?).bind fun w => pathV H w r
    | some (.tup vs) => (ixN vs.length n).bind fun j => (vs[j]?).bind fun w => pathV H w r
    | _ => none
  | .ref a, .k x :: r => match H a with
    | some (.dK kvs) => (keyIx (kvs.map (fun q => KD.k q.1)) x).bind fun j => (kvs[j]?).bind fun q => pathV H q.2 r
    | some (.dT kvs) => (keyIx (kvs.map (fun q => KD.t q.1)) x).bind fun j => (kvs[j]?).bind fun q => pathV H q.2 r
    | _ => none
  | _, _ => none
theorem pathV_mono {H H' : Hp} (e : Same H H') : ∀ {p : Path} {v w : V}, pathV H v p = some w → pathV H' v p = some w
  | [], v, w, h => by
    unfold pathV at h ⊢
    exact h
  | s :: r, v, w, h => by
    cases v with
    | ref a =>
      cases q : H a with
      | none => cases s <;> simp only [pathV, q] at h <;> cases h
      | some o =>
        have q' := e a o q
        cases s with
        | f j =>
          cases o <;> simp only [pathV, q] at h <;> first | cases h | skip
          simp only [pathV, q']
          obtain ⟨z, hz, h⟩ := Option.bind_eq_some_iff.mp h
          rw [hz]
          exact pathV_mono e h
        | i n =>
          cases o <;> simp only [pathV, q] at h <;> first | cases h | skip
          all_goals
            simp only [pathV, q']
            obtain ⟨j, hj, h⟩ := Option.bind_eq_some_iff.mp h
            obtain ⟨z, hz, h⟩ := Option.bind_eq_some_iff.mp h
            rw [hj]
            simp only [Option.bind_some]
            rw [hz]
            exact pathV_mono e h
        | k x =>
          cases o <;> simp only [pathV, q] at h <;> first | cases h | skip
          all_goals
            simp only [pathV, q']
            obtain ⟨j, hj, h⟩ := Option.bind_eq_some_iff.mp h
            obtain ⟨z, hz, h⟩ := Option.bind_eq_some_iff.mp h
            rw [hj]
            simp only [Option.bind_some]
            rw [hz]
            exact pathV_mono e h
    | _ => cases s <;> simp [pathV] at h
end Dn
end L2
set_option Elab.async false
set_option linter.all false
set_option maxRecDepth 100000
/-! Places: reading, putting back. -/
namespace L2
namespace Dn
open PySem PySem.Spec
section
variable {G : Gi} {F F' H H' : Hp}
theorem getD_no : ∀ p : Path, getD .no p = .no
  | [] => rfl
  | s :: r => by
    unfold getD
    split
    · cases s <;> rfl
    · rfl
theorem ixN_lt {n : Nat} {i : Int} {j : Nat} (h : ixN n i = some j) : j < n := (ixN_seq h).2.1
theorem keyIx_lt {ks : List KD} {x : KD} {j : Nat} (h : keyIx ks x = some j) : j < ks.length := by
  unfold keyIx at h
  exact (List.findIdx?_eq_some_iff_findIdx_eq.mp h).1
theorem getD_get {ds : List D} {j : Nat} (h : j < ds.length) : ds[j]? = some (ds.getD j .no) := by
  rw [List.getD_eq_getElem?_getD, List.getElem?_eq_getElem h]
  rfl
theorem set_self {α : Type} {l : List α} {j : Nat} {x : α} (h : l[j]? = some x) : l.set j x = l := by
  apply List.ext_getElem?
  intro i
  rw [List.getElem?_set]
  split
  · rename_i e
    subst e
    split
    · exact h.symm
    · rename_i q
      rw [List.getElem?_eq_none (by omega)] at h
      cases h
  · rfl
theorem get_map_fst {α β : Type} {l : List (α × β)} {j : Nat} {v : β} (h : (l.map (·.2))[j]? = some v) : ∃ q, l[j]? = some q ∧ q.2 = v := by
  rw [List.getElem?_map] at h
  obtain ⟨q, h1, h2⟩ := Option.map_eq_some_iff.mp h
  exact ⟨q, h1, h2⟩
/-- what is owned: its place, and what is put back there -/
theorem Rep.at : ∀ (p : Path) {v : V} {d : D} {fp : List Addr}, Rep G F H v d fp → (getD d p).own = true →
    ∃ w f rest, pathV H v p = some w ∧ Rep G F H w (getD d p) f ∧ fp.Perm (f ++ rest) ∧
      ∀ (F2 H2 : Hp) (d2 : D) (f2 : List Addr), Same F F2 → (∀ b ∈ rest, H2 b = H b) → Rep G F2 H2 w d2 f2 → ∃ fp2, fp2.Perm (f2 ++ rest) ∧ Rep G F2 H2 v (setD d p d2) fp2
  | [], v, d, fp, h, _ => ⟨v, fp, [], rfl, h, by rw [List.append_nil], fun F2 H2 d2 f2 _ _ q => ⟨f2, by rw [List.append_nil], q⟩⟩
  | s :: r, v, d, fp, h, o => by
    unfold getD at o
    split at o
    case isFalse => cases o
    rename_i hs
    cases hj : stepIx d s with
    | none => rw [hj] at o; cases o
    | some j =>
      rw [hj] at o
      have o : (getD (d.kids.getD j .no) r).own = true := o
      have eg : getD d (s :: r) = getD (d.kids.getD j .no) r := by
        rw [getD, if_pos hs, hj]
      have es : ∀ d2, setD d (s :: r) d2 = d.setKids (d.kids.set j (setD (d.kids.getD j .no) r d2)) := fun d2 => by rw [setD, hj]
      rw [eg]
      simp only [es]
      cases h with
      | fz h =>
        -- nothing frozen is owned
        exfalso
        have fro : ∀ (p : Path) {v : V} {d : D}, Fz G F v d → (getD d p).own = false := by
          intro p
          induction p with
          | nil => exact fun h => h.own
          | cons s r ih =>
            intro v d h
            unfold getD
            split
            · cases hj : stepIx d s with
              | none => rfl
              | some j =>
                show (getD (d.kids.getD j .no) r).own = false
                have kids : ∀ {vs : List V} {ds : List D}, FzL G F vs ds → (getD (ds.getD j .no) r).own = false := fun {vs ds} q => by
                  rw [List.getD_eq_getElem?_getD]
                  cases e : ds[j]? with
                  | none =>
                    show (getD .no r).own = false
                    rw [getD_no]
                    rfl
                  | some d => exact let ⟨_, _, q⟩ := q.get e; ih q
                cases h with
                | tup _ q => exact kids q
                | lst _ q => exact kids q
                | dK _ q => exact kids q
                | dT _ q => exact kids q
                | obj _ _ _ q => exact kids q
                | _ => cases s <;> cases hj
            · rfl
        have z := fro (s :: r) h
        rw [eg, o] at z
        cases z
      | @tup a vs ds fL hH q =>
        cases s with
        | i n =>
          have hl := ixN_lt (show ixN ds.length n = some j from hj)
          obtain ⟨vj, fj, rj, e1, e2, e3, e4⟩ := q.at (getD_get hl)
          obtain ⟨w, f, rest, h1, h2, h3, h4⟩ := Rep.at r e2 o
          refine ⟨w, f, a :: (rest ++ rj), ?_, h2, ?_, fun F2 H2 d2 f2 sm k z => ?_⟩
          · simp only [pathV, hH]
            rw [q.len, show ixN ds.length n = some j from hj]
            simp only [Option.bind_some]
            rw [e1]
            exact h1
          · refine (List.Perm.cons a (e3.trans (List.Perm.append_right rj h3))).trans ?_
            rw [List.append_assoc]
            exact List.perm_middle.symm
          · obtain ⟨g, g1, g2⟩ := h4 F2 H2 d2 f2 sm (fun b hb => k b (List.mem_cons_of_mem _ (List.mem_append_left _ hb))) z
            obtain ⟨g', g3, g4⟩ := e4 F2 H2 vj _ g sm (fun b hb => k b (List.mem_cons_of_mem _ (List.mem_append_right _ hb))) g2
            rw [set_self e1] at g4
            refine ⟨a :: g', ?_, .tup (by rw [k a List.mem_cons_self]; exact hH) g4⟩
            refine (List.Perm.cons a (g3.trans (List.Perm.append_right rj g1))).trans ?_
            rw [List.append_assoc]
            exact List.perm_middle.symm
        | f _ => cases hj
        | k _ => cases hj
      | @lst a vs ds fL hH q =>
        cases s with
        | i n =>
          have hl := ixN_lt (show ixN ds.length n = some j from hj)
          obtain ⟨vj, fj, rj, e1, e2, e3, e4⟩ := q.at (getD_get hl)
          obtain ⟨w, f, rest, h1, h2, h3, h4⟩ := Rep.at r e2 o
          refine ⟨w, f, a :: (rest ++ rj), ?_, h2, ?_, fun F2 H2 d2 f2 sm k z => ?_⟩
          · simp only [pathV, hH]
            rw [q.len, show ixN ds.length n = some j from hj]
            simp only [Option.bind_some]
            rw [e1]
            exact h1
          · refine (List.Perm.cons a (e3.trans (List.Perm.append_right rj h3))).trans ?_
            rw [List.append_assoc]
            exact List.perm_middle.symm
          · obtain ⟨g, g1, g2⟩ := h4 F2 H2 d2 f2 sm (fun b hb => k b (List.mem_cons_of_mem _ (List.mem_append_left _ hb))) z
            obtain ⟨g', g3, g4⟩ := e4 F2 H2 vj _ g sm (fun b hb => k b (List.mem_cons_of_mem _ (List.mem_append_right _ hb))) g2
            rw [set_self e1] at g4
            refine ⟨a :: g', ?_, .lst (by rw [k a List.mem_cons_self]; exact hH) g4⟩
            refine (List.Perm.cons a (g3.trans (List.Perm.append_right rj g1))).trans ?_
            rw [List.append_assoc]
            exact List.perm_middle.symm
        | f _ => cases hj
        | k _ => cases hj
      | @dK a kvs ds fL hH q =>
        cases s with
        | k x =>
          have hj' : keyIx (kvs.map (fun q => KD.k q.1)) x = some j := hj
          have hl : j < ds.length := by
            have := keyIx_lt hj'
            have e := q.len
            rw [List.length_map] at this e
            omega
          obtain ⟨vj, fj, rj, e1, e2, e3, e4⟩ := q.at (getD_get hl)
          obtain ⟨w, f, rest, h1, h2, h3, h4⟩ := Rep.at r e2 o
          obtain ⟨kv, hk1, hk2⟩ := get_map_fst e1
          refine ⟨w, f, a :: (rest ++ rj), ?_, h2, ?_, fun F2 H2 d2 f2 sm k z => ?_⟩
          · simp only [pathV, hH]
            rw [hj']
            simp only [Option.bind_some]
            rw [hk1]
            simp only [Option.bind_some]
            rw [hk2]
            exact h1
          · refine (List.Perm.cons a (e3.trans (List.Perm.append_right rj h3))).trans ?_
            rw [List.append_assoc]
            exact List.perm_middle.symm
          · obtain ⟨g, g1, g2⟩ := h4 F2 H2 d2 f2 sm (fun b hb => k b (List.mem_cons_of_mem _ (List.mem_append_left _ hb))) z
            obtain ⟨g', g3, g4⟩ := e4 F2 H2 vj _ g sm (fun b hb => k b (List.mem_cons_of_mem _ (List.mem_append_right _ hb))) g2
            rw [set_self e1] at g4
            refine ⟨a :: g', ?_, .dK (by rw [k a List.mem_cons_self]; exact hH) g4⟩
            refine (List.Perm.cons a (g3.trans (List.Perm.append_right rj g1))).trans ?_
            rw [List.append_assoc]
            exact List.perm_middle.symm
        | f _ => cases hj
        | i _ => cases hj
      | @dT a kvs ds fL hH q =>
        cases s with
        | k x =>
          have hj' : keyIx (kvs.map (fun q => KD.t q.1)) x = some j := hj
          have hl : j < ds.length := by
            have := keyIx_lt hj'
            have e := q.len
            rw [List.length_map] at this e
            omega
          obtain ⟨vj, fj, rj, e1, e2, e3, e4⟩ := q.at (getD_get hl)
          obtain ⟨w, f, rest, h1, h2, h3, h4⟩ := Rep.at r e2 o
          obtain ⟨kv, hk1, hk2⟩ := get_map_fst e1
          refine ⟨w, f, a :: (rest ++ rj), ?_, h2, ?_, fun F2 H2 d2 f2 sm k z => ?_⟩
          · simp only [pathV, hH]
            rw [hj']
            simp only [Option.bind_some]
            rw [hk1]
            simp only [Option.bind_some]
            rw [hk2]
            exact h1
          · refine (List.Perm.cons a (e3.trans (List.Perm.append_right rj h3))).trans ?_
            rw [List.append_assoc]
            exact List.perm_middle.symm
          · obtain ⟨g, g1, g2⟩ := h4 F2 H2 d2 f2 sm (fun b hb => k b (List.mem_cons_of_mem _ (List.mem_append_left _ hb))) z
            obtain ⟨g', g3, g4⟩ := e4 F2 H2 vj _ g sm (fun b hb => k b (List.mem_cons_of_mem _ (List.mem_append_right _ hb))) g2
            rw [set_self e1] at g4
            refine ⟨a :: g', ?_, .dT (by rw [k a List.mem_cons_self]; exact hH) g4⟩
            refine (List.Perm.cons a (g3.trans (List.Perm.append_right rj g1))).trans ?_
            rw [List.append_assoc]
            exact List.perm_middle.symm
        | f _ => cases hj
        | i _ => cases hj
      | @obj a dx c fs ds fL hH hD hn q =>
        cases s with
        | f i =>
          have hl : i < ds.length ∧ i = j := by
            have z : (if i < ds.length then some i else none) = some j := hj
            split at z
            · rename_i y; cases z; exact ⟨y, rfl⟩
            · cases z
          obtain ⟨hl, rfl⟩ := hl
          obtain ⟨vj, fj, rj, e1, e2, e3, e4⟩ := q.at (getD_get hl)
          obtain ⟨w, f, rest, h1, h2, h3, h4⟩ := Rep.at r e2 o
          obtain ⟨kv, hk1, hk2⟩ := get_map_fst e1
          have pm : ∀ {x : List Addr} {y z u : List Addr}, x.Perm (y ++ (z ++ u)) → (a :: dx :: x).Perm (y ++ (a :: dx :: (z ++ u))) := fun {x y z u} h =>
            ((h.cons dx).cons a).trans (((List.perm_middle.symm).cons a).trans List.perm_middle.symm)
          refine ⟨w, f, a :: dx :: (rest ++ rj), ?_, h2, ?_, fun F2 H2 d2 f2 sm k z => ?_⟩
          · simp only [pathV, hH]
            rw [hk1]
            simp only [Option.bind_some]
            rw [hk2]
            exact h1
          · exact pm ((e3.trans (List.Perm.append_right rj h3)).trans (by rw [List.append_assoc]))
          · obtain ⟨g, g1, g2⟩ := h4 F2 H2 d2 f2 sm (fun b hb => k b (List.mem_cons_of_mem _ (List.mem_cons_of_mem _ (List.mem_append_left _ hb)))) z
            obtain ⟨g', g3, g4⟩ := e4 F2 H2 vj _ g sm (fun b hb => k b (List.mem_cons_of_mem _ (List.mem_cons_of_mem _ (List.mem_append_right _ hb)))) g2
            rw [set_self e1] at g4
            refine ⟨a :: dx :: g', ?_, .obj (by rw [k a List.mem_cons_self]; exact hH) (by rw [k dx (List.mem_cons_of_mem _ List.mem_cons_self)]; exact hD) ?_ g4⟩
            · exact pm ((g3.trans (List.Perm.append_right rj g1)).trans (by rw [List.append_assoc]))
            · show fs.map (·.1) = (G.fnm c).take ((ds.set i _).length)
              rw [List.length_set]
              exact hn
        | i _ => cases hj
        | k _ => cases hj
/-- what stands at a place, to be read -/
theorem Rep.rd (sFH : Same F H) : ∀ (p : Path) {v : V} {d : D} {fp : List Addr}, Rep G F H v d fp → (∀ d', getD d p = d' → d' ≠ .no) →
    ∃ w f, pathV H v p = some w ∧ Rep G F H w (getD d p) f ∧ ∀ b ∈ f, b ∈ fp
  | [], v, d, fp, h, _ => ⟨v, fp, rfl, h, fun _ hb => hb⟩
  | s :: r, v, d, fp, h, o => by
    have o : getD d (s :: r) ≠ .no := o _ rfl
    unfold getD at o
    split at o
    case isFalse => exact absurd rfl o
    rename_i hs
    cases hj : stepIx d s with
    | none => rw [hj] at o; exact absurd rfl o
    | some j =>
      rw [hj] at o
      have o : getD (d.kids.getD j .no) r ≠ .no := o
      have eg : getD d (s :: r) = getD (d.kids.getD j .no) r := by
        rw [getD, if_pos hs, hj]
      rw [eg]
      -- an owned list of kids
      have go : ∀ {vs : List V} {ds : List D} {fL : List Addr}, RepL G F H vs ds fL → j < ds.length → d.kids = ds → (∀ w, vs[j]? = some w → pathV H v (s :: r) = pathV H w r) → (∀ b ∈ fL, b ∈ fp) →
          ∃ w f, pathV H v (s :: r) = some w ∧ Rep G F H w (getD (d.kids.getD j .no) r) f ∧ ∀ b ∈ f, b ∈ fp := fun {vs ds fL} q hl ek hp hf => by
        subst ek
        obtain ⟨vj, fj, rj, e1, e2, e3, _⟩ := q.at (getD_get hl)
        obtain ⟨w, f, h1, h2, h3⟩ := Rep.rd sFH r e2 fun d' e => by rw [← e]; exact o
        exact ⟨w, f, by rw [hp vj e1]; exact h1, h2, fun b hb => hf b (e3.mem_iff.mpr (List.mem_append_left _ (h3 b hb)))⟩
      cases h with
      | fz h =>
        cases s with
        | f i =>
          cases h with
          | @obj a dx c fs ds hH hD hn q =>
            have hl : i < ds.length ∧ i = j := by
              have z : (if i < ds.length then some i else none) = some j := hj
              split at z
              · rename_i y; cases z; exact ⟨y, rfl⟩
              · cases z
            obtain ⟨hl, rfl⟩ := hl
            refine go (FzL.repL q) hl rfl (fun w e => ?_) (fun _ hb => nomatch hb)
            obtain ⟨kv, hk1, hk2⟩ := get_map_fst e
            simp only [pathV, sFH _ _ hH]
            rw [hk1]
            simp only [Option.bind_some]
            rw [hk2]
          | _ => cases hj
        | i _ =>
          have z := h.own
          rw [show PStep.isF (.i _) = false from rfl, Bool.false_or, z] at hs
          cases hs
        | k _ =>
          have z := h.own
          rw [show PStep.isF (.k _) = false from rfl, Bool.false_or, z] at hs
          cases hs
      | @tup a vs ds fL hH q =>
        cases s with
        | i n =>
          refine go q (ixN_lt (show ixN ds.length n = some j from hj)) rfl (fun w e => ?_) fun b hb => List.mem_cons_of_mem _ hb
          simp only [pathV, hH]
          rw [q.len, show ixN ds.length n = some j from hj]
          simp only [Option.bind_some]
          rw [e]
          rfl
        | f _ => cases hj
        | k _ => cases hj
      | @lst a vs ds fL hH q =>
        cases s with
        | i n =>
          refine go q (ixN_lt (show ixN ds.length n = some j from hj)) rfl (fun w e => ?_) fun b hb => List.mem_cons_of_mem _ hb
          simp only [pathV, hH]
          rw [q.len, show ixN ds.length n = some j from hj]
          simp only [Option.bind_some]
          rw [e]
          rfl
        | f _ => cases hj
        | k _ => cases hj
      | @dK a kvs ds fL hH q =>
        cases s with
        | k x =>
          have hj' : keyIx (kvs.map (fun q => KD.k q.1)) x = some j := hj
          have hl : j < ds.length := by
            have := keyIx_lt hj'
            have e := q.len
            rw [List.length_map] at this e
            omega
          refine go q hl rfl (fun w e => ?_) fun b hb => List.mem_cons_of_mem _ hb
          obtain ⟨kv, hk1, hk2⟩ := get_map_fst e
          simp only [pathV, hH]
          rw [hj']
          simp only [Option.bind_some]
          rw [hk1]
          simp only [Option.bind_some]
          rw [hk2]
        | f _ => cases hj
        | i _ => cases hj
      | @dT a kvs ds fL hH q =>
        cases s with
        | k x =>
          have hj' : keyIx (kvs.map (fun q => KD.t q.1)) x = some j := hj
          have hl : j < ds.length := by
            have := keyIx_lt hj'
            have e := q.len
            rw [List.length_map] at this e
            omega
          refine go q hl rfl (fun w e => ?_) fun b hb => List.mem_cons_of_mem _ hb
          obtain ⟨kv, hk1, hk2⟩ := get_map_fst e
          simp only [pathV, hH]
          rw [hj']
          simp only [Option.bind_some]
          rw [hk1]
          simp only [Option.bind_some]
          rw [hk2]
        | f _ => cases hj
        | i _ => cases hj
      | @obj a dx c fs ds fL hH hD hn q =>
        cases s with
        | f i =>
          have hl : i < ds.length ∧ i = j := by
            have z : (if i < ds.length then some i else none) = some j := hj
            split at z
            · rename_i y; cases z; exact ⟨y, rfl⟩
            · cases z
          obtain ⟨hl, rfl⟩ := hl
          refine go q hl rfl (fun w e => ?_) fun b hb => List.mem_cons_of_mem _ (List.mem_cons_of_mem _ hb)
          obtain ⟨kv, hk1, hk2⟩ := get_map_fst e
          simp only [pathV, hH]
          rw [hk1]
          simp only [Option.bind_some]
          rw [hk2]
        | i _ => cases hj
        | k _ => cases hj
end
end Dn
end L2
set_option Elab.async false
set_option linter.all false
set_option maxRecDepth 100000
/-! Frames: slots, temporaries, what is owned; steps. -/
namespace L2
namespace Dn
open PySem PySem.Spec
inductive RepO (G : Gi) (F H : Hp) : Option V → D → List Addr → Prop
  | none : RepO G F H none .no []
  | some {v : V} {d : D} {f : List Addr} : Rep G F H v d f → RepO G F H (some v) d f
inductive RepE (G : Gi) (F H : Hp) : List (Option V) → List D → List Addr → Prop
  | nil : RepE G F H [] [] []
  | cons {o : Option V} {σ : List (Option V)} {d : D} {e : List D} {f g : List Addr} : RepO G F H o d f → RepE G F H σ e g → RepE G F H (o :: σ) (d :: e) (f ++ g)
section
variable {G : Gi} {F F' H H' : Hp}
theorem RepO.move (e : Same F F') {o : Option V} {d : D} {fp : List Addr} (h : RepO G F H o d fp) (k : ∀ b ∈ fp, H' b = H b) : RepO G F' H' o d fp := by
  cases h with
  | none => exact .none
  | some h => exact .some (h.move e k)
theorem RepE.move (e : Same F F') : ∀ {σ : List (Option V)} {en : List D} {fp : List Addr}, RepE G F H σ en fp → (∀ b ∈ fp, H' b = H b) → RepE G F' H' σ en fp
  | _, _, _, .nil, _ => .nil
  | _, _, _, .cons h r, k => .cons (h.move e fun b hb => k b (List.mem_append_left _ hb)) (RepE.move e r fun b hb => k b (List.mem_append_right _ hb))
theorem RepE.len : ∀ {σ : List (Option V)} {en : List D} {fp : List Addr}, RepE G F H σ en fp → σ.length = en.length
  | _, _, _, .nil => rfl
  | _, _, _, .cons _ r => by rw [List.length_cons, List.length_cons, RepE.len r]
theorem RepE.dom : ∀ {σ : List (Option V)} {en : List D} {fp : List Addr}, RepE G F H σ en fp → ∀ b ∈ fp, H b ≠ none
  | _, _, _, .nil, _, hb => nomatch hb
  | _, _, _, .cons h r, b, hb => (List.mem_append.mp hb).elim (fun z => by cases h with
    | none => cases z
    | some h => exact h.dom b z) (RepE.dom r b)
/-- one slot, and what stands in its place then -/
theorem RepE.at : ∀ {σ : List (Option V)} {en : List D} {fp : List Addr} {i : Nat}, RepE G F H σ en fp → i < en.length →
    ∃ o f rest, σ[i]? = some o ∧ RepO G F H o (en.getD i .no) f ∧ fp.Perm (f ++ rest) ∧
      ∀ (F2 H2 : Hp) (o2 : Option V) (d2 : D) (f2 : List Addr), Same F F2 → (∀ b ∈ rest, H2 b = H b) → RepO G F2 H2 o2 d2 f2 → ∃ fp2, fp2.Perm (f2 ++ rest) ∧ RepE G F2 H2 (σ.set i o2) (en.set i d2) fp2
  | _, _, _, 0, .cons (f := f) (g := g) h r, _ => ⟨_, f, g, rfl, h, .refl _, fun F2 H2 v2 d2 f2 s k q => ⟨f2 ++ g, .refl _, .cons q (r.move s k)⟩⟩
  | _, _, _, i + 1, .cons (f := f) (g := g) h r, e => by
    obtain ⟨v, f', rest, h1, h2, h3, h4⟩ := RepE.at (i := i) r (by rw [List.length_cons] at e; omega)
    refine ⟨v, f', f ++ rest, h1, h2, ?_, fun F2 H2 v2 d2 f2 s k q => ?_⟩
    · refine (List.Perm.append_left f h3).trans ?_
      rw [← List.append_assoc, ← List.append_assoc]
      exact List.Perm.append_right _ List.perm_append_comm
    · obtain ⟨fp2, p2, r2⟩ := h4 F2 H2 v2 d2 f2 s (fun b hb => k b (List.mem_append_right _ hb)) q
      refine ⟨f ++ fp2, ?_, .cons (h.move s fun b hb => k b (List.mem_append_left _ hb)) r2⟩
      refine (List.Perm.append_left f p2).trans ?_
      rw [← List.append_assoc, ← List.append_assoc]
      exact List.Perm.append_right _ List.perm_append_comm
theorem at_lt {e : Env} {i : Nat} (h : e.at i ≠ .no) : i < e.length := by
  by_cases q : i < e.length
  · exact q
  · refine absurd ?_ h
    unfold Env.at
    rw [List.getD_eq_getElem?_getD, List.getElem?_eq_none (by omega)]
    rfl
theorem RepO.some_of {o : Option V} {d : D} {f : List Addr} (h : RepO G F H o d f) (n : d ≠ .no) : ∃ v, o = Option.some v ∧ Rep G F H v d f := by
  cases h with
  | none => exact absurd rfl n
  | some h => exact ⟨_, rfl, h⟩

/-- what a piece of a run leaves: pu, nothing tracked was changed -/
structure Step (pu : Bool) (F H : Hp) (fp : List Addr) (F' H' : Hp) (fp' : List Addr) : Prop where
  ff : Same F F'
  keep : ∀ b o, H b = some o → b ∉ fp → H' b = some o
  new : ∀ b ∈ fp', b ∈ fp ∨ H b = none
  nf : ∀ b, F' b ≠ none → F b ≠ none ∨ b ∈ fp ∨ H b = none
  pu : pu = true → Same H H'
theorem Step.refl {F H : Hp} {fp : List Addr} : Step true F H fp F H fp := ⟨Same.refl F, fun _ _ h _ => h, fun _ h => .inl h, fun _ h => .inl h, fun _ => Same.refl H⟩
theorem Step.trans {p q : Bool} {F H F1 H1 F2 H2 : Hp} {f f1 f2 : List Addr} (a : Step p F H f F1 H1 f1) (b : Step q F1 H1 f1 F2 H2 f2) : Step (p && q) F H f F2 H2 f2 := by
  have back : ∀ c, H1 c = none → c ∈ f ∨ H c = none := fun c n => by
    cases e : H c with
    | none => exact .inr rfl
    | some o =>
      by_cases hc : c ∈ f
      · exact .inl hc
      · rw [a.keep c o e hc] at n; cases n
  refine ⟨a.ff.trans b.ff, fun c o h n => ?_, fun c hc => ?_, fun c n => ?_, fun h => ?_⟩
  · refine b.keep c o (a.keep c o h n) fun hc => ?_
    rcases a.new c hc with z | z
    · exact n z
    · rw [h] at z; cases z
  · rcases b.new c hc with z | z
    · exact a.new c z
    · exact back c z
  · rcases b.nf c n with z | z | z
    · exact a.nf c z
    · exact .inr (a.new c z)
    · exact .inr (back c z)
  · rw [Bool.and_eq_true] at h
    exact (a.pu h.1).trans (b.pu h.2)
theorem Step.weak {p q : Bool} {F H F' H' : Hp} {f f' g g' : List Addr} (a : Step p F H f F' H' f') (h1 : ∀ b, b ∈ f → b ∈ g) (h2 : ∀ b ∈ g', b ∈ f' ∨ b ∈ g ∨ H b = none) (hq : q = true → p = true) : Step q F H g F' H' g' :=
  ⟨a.ff, fun b o h n => a.keep b o h fun z => n (h1 b z), fun b hb => (h2 b hb).elim (fun z => (a.new b z).imp (h1 b) id) id, fun b n => (a.nf b n).imp id (Or.imp (h1 b) id), fun h => a.pu (hq h)⟩
theorem Step.any {p q : Bool} {F H F' H' : Hp} {f f' : List Addr} (a : Step p F H f F' H' f') (hq : q = true → p = true) : Step q F H f F' H' f' := ⟨a.ff, a.keep, a.new, a.nf, fun h => a.pu (hq h)⟩
/-- something beside what a step touches -/
theorem Step.out {p : Bool} {F H F' H' : Hp} {f f' g : List Addr} (a : Step p F H f F' H' f') (dom : ∀ b ∈ g, H b ≠ none) (dj : ∀ b ∈ g, b ∉ f) : (∀ b ∈ g, H' b = H b) ∧ (∀ b ∈ g, b ∉ f') ∧ ((∀ b ∈ g, F b = none) → ∀ b ∈ g, F' b = none) := by
  refine ⟨fun b hb => ?_, fun b hb n => ?_, fun nf b hb => ?_⟩
  · cases e : H b with
    | none => exact absurd e (dom b hb)
    | some o => rw [a.keep b o e (dj b hb)]
  · rcases a.new b n with z | z
    · exact dj b hb z
    · exact dom b hb z
  · cases e : F' b with
    | none => rfl
    | some o =>
      exfalso
      rcases a.nf b (by rw [e]; exact fun z => nomatch z) with z | z | z
      · exact z (nf b hb)
      · exact dj b hb z
      · exact dom b hb z

/-- a frame: the slots σ are the data env (what it owns: fp), the temporaries vs are ds (f) -/
structure Fr (G : Gi) (F H : Hp) (σ : List (Option V)) (en : Env) (vs : List V) (ds : List D) (fp f : List Addr) : Prop where
  re : RepE G F H σ en fp
  rl : RepL G F H vs ds f
  nd : (f ++ fp).Nodup
  nf : ∀ b ∈ f ++ fp, F b = none
  fh : Same F H
abbrev Fr0 (G : Gi) (F H : Hp) (σ : List (Option V)) (en : Env) (fp : List Addr) : Prop := Fr G F H σ en [] [] fp []
variable {σ : List (Option V)} {en en' : Env} {vs ws : List V} {ds es : List D} {fp fp' f g : List Addr} {p q : Bool}
theorem Fr.drop (h : Fr G F H σ en vs ds fp f) : Fr0 G F H σ en fp :=
  ⟨h.re, .nil, (List.nodup_append.mp h.nd).2.1, fun b hb => h.nf b (List.mem_append_right _ hb), h.fh⟩
theorem nodup_app {l m : List Addr} : (l ++ m).Nodup ↔ l.Nodup ∧ m.Nodup ∧ ∀ b ∈ l, b ∉ m := by
  rw [List.nodup_append]
  constructor
  · exact fun ⟨a, b, c⟩ => ⟨a, b, fun x hx hm => c x hx x hm rfl⟩
  · exact fun ⟨a, b, c⟩ => ⟨a, b, fun x hx y hy e => c x hx (e ▸ hy)⟩
/-- temporaries beside a further step of the slots -/
theorem Fr.keep {σ' : List (Option V)} (h : Fr G F H σ en vs ds fp f) (s : Step p F H fp F' H' (g ++ fp')) (h' : Fr G F' H' σ' en' ws es fp' g) : Fr G F' H' σ' en' (vs ++ ws) (ds ++ es) fp' (f ++ g) ∧ Step p F H (f ++ fp) F' H' ((f ++ g) ++ fp') := by
  obtain ⟨n1, n2, n3⟩ := nodup_app.mp h.nd
  obtain ⟨k1, k2, k3⟩ := s.out (g := f) h.rl.dom n3
  have nf := k3 fun b hb => h.nf b (List.mem_append_left _ hb)
  refine ⟨⟨h'.re, (h.rl.move s.ff k1).append h'.rl, ?_, fun b hb => ?_, h'.fh⟩, s.weak (fun b hb => List.mem_append_right _ hb) (fun b hb => ?_) id⟩
  · rw [List.append_assoc]
    exact nodup_app.mpr ⟨n1, h'.nd, k2⟩
  · rw [List.append_assoc] at hb
    exact (List.mem_append.mp hb).elim (nf b) (h'.nf b)
  · rw [List.append_assoc] at hb
    exact (List.mem_append.mp hb).elim (fun z => .inr (.inl (List.mem_append_left _ z))) .inl
end
end Dn
end L2
set_option Elab.async false
set_option linter.all false
set_option maxRecDepth 100000
/-! What the evaluator's outcomes say of readings; sequences of values and operands. -/
namespace L2
namespace Dn
open PySem PySem.Spec PyProof.Rows
theorem _root_.L2.PE.imp {X : Cx} {e : Expr} {t u : TE} (h : PE X e t) (k : ∀ σ H Q, u σ H Q → t σ H Q) : PE X e u := ⟨fun pins s σ H Q I q => h.run pins s σ H Q I (k σ H Q q)⟩
theorem _root_.L2.PT.imp {X : Cx} {e : Expr} {t u : TT} (h : PT X e t) (k : ∀ σ H Q, u σ H Q → t σ H Q) : PT X e u := ⟨fun pins s σ H Q I q => h.run pins s σ H Q I (k σ H Q q)⟩
theorem _root_.L2.PA.imp {X : Cx} {e : List Expr} {t u : TA} (h : PA X e t) (k : ∀ σ H Q, u σ H Q → t σ H Q) : PA X e u := ⟨fun pos pins s σ H Q I q => h.run pos pins s σ H Q I (k σ H Q q)⟩
theorem _root_.L2.PS.imp {X : Cx} {e : Stmt} {t u : TS} (h : PS X e t) (k : ∀ D σ H, u D σ H → t D σ H) : PS X e u := ⟨fun pins s σ H D I q => h.run pins s σ H D I (k D σ H q)⟩
theorem _root_.L2.PSs.imp {X : Cx} {e : List Stmt} {t u : TS} (h : PSs X e t) (k : ∀ D σ H, u D σ H → t D σ H) : PSs X e u := ⟨fun pins s σ H D I q => h.run pins s σ H D I (k D σ H q)⟩
theorem _root_.L2.PG.imp {X : Cx} {e : Expr} {t u : TG} (h : PG X e t) (k : ∀ v σ H Q, u v σ H Q → t v σ H Q) : PG X e u := ⟨fun pins s σ H v w Q I r q => h.run pins s σ H v w Q I r (k v σ H Q q)⟩
theorem _root_.L2.PGs.imp {X : Cx} {e : List Expr} {t u : TGs} (h : PGs X e t) (k : ∀ v σ H Q, u v σ H Q → t v σ H Q) : PGs X e u := ⟨fun pins s σ H v w Q I r q => h.run pins s σ H v w Q I r (k v σ H Q q)⟩
theorem _root_.L2.PI.imp {X : Cx} {tg e : Expr} {t u : TI} (h : PI X tg e t) (k : ∀ σ H R, u σ H R → t σ H R) : PI X tg e u := ⟨fun pins s σ H R I q => h.run pins s σ H R I (k σ H R q)⟩
theorem _root_.L2.PE.none {X : Cx} {e : Expr} : PE X e fun _ _ _ => False := ⟨fun _ _ _ _ _ _ h => h.elim⟩

/-- an exception of the program: its class, its one field -/
structure XR (G : Gi) (F H : Hp) (x : Dn.X) (cls : Value) (dx : Option Addr) : Prop where
  ex : ∃ (d : Addr) (f : Str) (v : V), cls = .ref (G.cls x.cls) ∧ dx = some d ∧ H d = some (.xd [(f, v)]) ∧ G.fnm x.cls = [f] ∧ Fz G F v x.val
section
variable (G : Gi) (W : WX)
/-- what is wanted where an exception comes -/
def Exc (σ : St) (F H : Hp) (fp : List Addr) (x : Dn.X) (en' : Env) : Prop :=
  ∀ (F' H' : Hp) (fp' : List Addr) (cls : Value) (dx : Option Addr), Step false F H fp F' H' fp' → Fr0 G F' H' σ en' fp' → XR G F' H' x cls dx → W cls dx σ H'
def Aft {α : Type} (σ : St) (F H : Hp) (fp : List Addr) (r : R α) (k : α → Env → Prop) : Prop := match r with
  | .ok a en' => k a en'
  | .exc x en' => Exc G W σ F H fp x en'
  | .stuck => False
/-- a value -/
def TV (pu : Bool) (m : M D) : TE := fun σ H Q => ∃ F en fp, Fr0 G F H σ en fp ∧ Aft G W σ F H fp (m en) fun d en' =>
  ∀ F' H' v fp' f, Step pu F H fp F' H' (f ++ fp') → Fr G F' H' σ en' [v] [d] fp' f → Q v H'
/-- values -/
def TL (pu : Bool) (m : M (List D)) : TA := fun σ H Q => ∃ F en fp, Fr0 G F H σ en fp ∧ Aft G W σ F H fp (m en) fun ds en' =>
  ∀ F' H' vs fp' f, Step pu F H fp F' H' (f ++ fp') → Fr G F' H' σ en' vs ds fp' f → Q vs H'
/-- a test -/
def TB (pu : Bool) (m : M Bool) : TT := fun σ H Q => ∃ F en fp, Fr0 G F H σ en fp ∧ Aft G W σ F H fp (m en) fun b en' =>
  ∀ F' H' fp', Step pu F H fp F' H' fp' → Fr0 G F' H' σ en' fp' → Q b H'
/-- a place -/
def TP (pu : Bool) (m : M (Nat × Path)) : TE := fun σ H Q => ∃ F en fp, Fr0 G F H σ en fp ∧ Aft G W σ F H fp (m en) fun ip en' =>
  ∀ F' H' v fp', Step pu F H fp F' H' fp' → Same H H' → Fr0 G F' H' σ en' fp' → (∃ v0, σ[ip.1]? = some (some v0) ∧ pathV H' v0 ip.2 = some v) → Q v H'
end
/-- operands: their values; the data of those that are no places -/
inductive OVs (H : Hp) (σ : St) : List OV → List V → List D → List V → Prop
  | nil : OVs H σ [] [] [] []
  | tmp {d : D} {v : V} {os : List OV} {vs ws : List V} {ds : List D} : OVs H σ os vs ds ws → OVs H σ (.tmp d :: os) (v :: vs) (d :: ds) (v :: ws)
  | plc {i : Nat} {p : Path} {v0 v : V} {os : List OV} {vs ws : List V} {ds : List D} : σ[i]? = some (some v0) → pathV H v0 p = some v → OVs H σ os vs ds ws → OVs H σ (.plc i p :: os) (v :: vs) ds ws
section
variable (G : Gi) (W : WX)
/-- an operand; operands -/
def TO (pu : Bool) (m : M OV) : TE := fun σ H Q => ∃ F en fp, Fr0 G F H σ en fp ∧ Aft G W σ F H fp (m en) fun o en' =>
  ∀ F' H' v tvs tds fp' f, Step pu F H fp F' H' (f ++ fp') → Fr G F' H' σ en' tvs tds fp' f → OVs H' σ [o] [v] tds tvs → Q v H'
def TOs (pu : Bool) (m : M (List OV)) : TA := fun σ H Q => ∃ F en fp, Fr0 G F H σ en fp ∧ Aft G W σ F H fp (m en) fun os en' =>
  ∀ F' H' vs tvs tds fp' f, Step pu F H fp F' H' (f ++ fp') → Fr G F' H' σ en' tvs tds fp' f → OVs H' σ os vs tds tvs → Q vs H'
end
section
variable {G : Gi} {W : WX} {X : Cx} {p q : Bool} {σ : St} {F H F' H' : Hp} {fp fp' f : List Addr} {e : Expr} {es : List Expr}
theorem Exc.step {x : Dn.X} {en' : Env} (h : Exc G W σ F H fp x en') (s : Step p F H fp F' H' fp') : Exc G W σ F' H' fp' x en' :=
  fun F2 H2 fp2 cls dx s2 fr xr => h F2 H2 fp2 cls dx ((s.trans s2).any fun z => nomatch z) fr xr
theorem Step.slots (s : Step p F H fp F' H' (f ++ fp')) : Step p F H fp F' H' fp' := s.weak (fun _ h => h) (fun b hb => .inl (List.mem_append_right _ hb)) id
theorem Aft.step {α : Type} {r : R α} {k k' : α → Env → Prop} (h : Aft G W σ F H fp r k) (s : Step p F H fp F' H' fp') (i : ∀ a en', r = .ok a en' → k a en' → k' a en') : Aft G W σ F' H' fp' r k' := by
  cases r with
  | ok a en' => exact i a en' rfl h
  | exc x en' => exact Exc.step h s
  | stuck => exact h
theorem OVs.mono (k : ∀ (v0 : V) (i : Nat) (s : Path) (v : V), σ[i]? = some (some v0) → pathV H v0 s = some v → pathV H' v0 s = some v) : ∀ {os : List OV} {vs ws : List V} {ds : List D}, OVs H σ os vs ds ws → OVs H' σ os vs ds ws
  | _, _, _, _, .nil => .nil
  | _, _, _, _, .tmp r => .tmp (OVs.mono k r)
  | _, _, _, _, .plc h1 h2 r => .plc h1 (k _ _ _ _ h1 h2) (OVs.mono k r)
/-! ### sequences -/
theorem tl_nil : PA X [] (TL G W true lNil) := pa_nil.imp fun σ H Q h => by
  obtain ⟨F, en, fp, fr, h⟩ := h
  exact h F H [] fp [] Step.refl ⟨fr.re, .nil, fr.nd, fr.nf, fr.fh⟩
theorem tl_cons {m : M D} {ms : M (List D)} (he : PE X e (TV G W p m)) (hs : PA X es (TL G W q ms)) (st : starEach (e :: es) X.env = (false, eval e X.env) :: starEach es X.env) : PA X (e :: es) (TL G W (p && q) (lCons m ms)) := by
  refine (pa_cons he hs st).imp fun σ H Q h => ?_
  obtain ⟨F, en, fp, fr, h⟩ := h
  refine ⟨F, en, fp, fr, ?_⟩
  unfold lCons at h
  cases e1 : m en with
  | ok d en1 =>
    rw [e1] at h
    refine fun F1 H1 v fp1 f1 s1 fr1 => ⟨F1, en1, fp1, fr1.drop, ?_⟩
    cases e2 : ms en1 with
    | ok ds en2 =>
      dsimp only at h
      rw [e2] at h
      refine fun F2 H2 vs fp2 f2 s2 fr2 => ?_
      obtain ⟨fr3, s3⟩ := fr1.keep s2 fr2
      exact h F2 H2 (v :: vs) fp2 (f1 ++ f2) (s1.trans s3) fr3
    | exc x en2 =>
      dsimp only at h
      rw [e2] at h
      exact Exc.step h s1.slots
    | stuck =>
      dsimp only at h
      rw [e2] at h
      exact h
  | exc x en1 => rw [e1] at h; exact h
  | stuck => rw [e1] at h; exact h
theorem to_nil : PA X [] (TOs G W true lNil) := pa_nil.imp fun σ H Q h => by
  obtain ⟨F, en, fp, fr, h⟩ := h
  exact h F H [] [] [] fp [] Step.refl fr .nil
/-- the places of an operand stay where they are: a name's slot, or nothing that follows changes anything -/
def Stay (m : M OV) : Prop := ∀ en i s en', m en = .ok (.plc i s) en' → s = []
theorem OVs.app1 : ∀ {o : OV} {v : V} {ds : List D} {ws : List V} {os : List OV} {vs : List V} {ds2 : List D} {ws2 : List V}, OVs H σ [o] [v] ds ws → OVs H σ os vs ds2 ws2 → OVs H σ (o :: os) (v :: vs) (ds ++ ds2) (ws ++ ws2)
  | _, _, _, _, _, _, _, _, .tmp .nil, r => .tmp r
  | _, _, _, _, _, _, _, _, .plc h1 h2 .nil, r => .plc h1 h2 r
theorem tos_cons_r {m : M OV} {ms : M (List OV)} {H : Hp} {Q : List V → Hp → Prop} (hst : q = true ∨ Stay m) (h : TOs G W (p && q) (lCons m ms) σ H Q) : TO G W p m σ H fun v H1 => TOs G W q ms σ H1 fun vs H2 => Q (v :: vs) H2 := by
  obtain ⟨F, en, fp, fr, h⟩ := h
  refine ⟨F, en, fp, fr, ?_⟩
  unfold lCons at h
  cases e1 : m en with
  | ok o en1 =>
    rw [e1] at h
    refine fun F1 H1 v tvs tds fp1 f1 s1 fr1 ov1 => ⟨F1, en1, fp1, fr1.drop, ?_⟩
    cases e2 : ms en1 with
    | ok os en2 =>
      dsimp only at h
      rw [e2] at h
      refine fun F2 H2 vs tvs2 tds2 fp2 f2 s2 fr2 ov2 => ?_
      obtain ⟨fr3, s3⟩ := fr1.keep s2 fr2
      refine h F2 H2 (v :: vs) _ _ fp2 (f1 ++ f2) (s1.trans s3) fr3 (OVs.app1 ?_ ov2)
      cases ov1 with
      | tmp r => cases r; exact .tmp .nil
      | plc h1 h2 r =>
        cases r
        refine .plc h1 ?_ .nil
        rcases hst with z | z
        · exact pathV_mono (s2.pu z) h2
        · obtain rfl := z _ _ _ _ e1
          exact h2
    | exc x en2 =>
      dsimp only at h
      rw [e2] at h
      exact Exc.step h s1.slots
    | stuck =>
      dsimp only at h
      rw [e2] at h
      exact h
  | exc x en1 => rw [e1] at h; exact h
  | stuck => rw [e1] at h; exact h
theorem tos_nil_r {H : Hp} {Q : List V → Hp → Prop} (h : TOs G W true lNil σ H Q) : Q [] H := by
  obtain ⟨F, en, fp, fr, h⟩ := h
  exact h F H [] [] [] fp [] Step.refl fr .nil
theorem to_cons {m : M OV} {ms : M (List OV)} (he : PE X e (TO G W p m)) (hs : PA X es (TOs G W q ms)) (st : starEach (e :: es) X.env = (false, eval e X.env) :: starEach es X.env) (hst : q = true ∨ Stay m) : PA X (e :: es) (TOs G W (p && q) (lCons m ms)) :=
  (pa_cons he hs st).imp fun σ H Q h => tos_cons_r hst h
/-- a value as an operand; a place as an operand -/
theorem to_tmp {m : M D} (he : PE X e (TV G W p m)) : PE X e (TO G W p (oTmp m)) := he.imp fun σ H Q h => by
  obtain ⟨F, en, fp, fr, h⟩ := h
  refine ⟨F, en, fp, fr, ?_⟩
  unfold oTmp at h
  cases e1 : m en with
  | ok d en1 =>
    rw [e1] at h
    exact fun F1 H1 v fp1 f1 s1 fr1 => h F1 H1 v [v] [d] fp1 f1 s1 fr1 (.tmp .nil)
  | exc x en1 => rw [e1] at h; exact h
  | stuck => rw [e1] at h; exact h
theorem to_plc {m : M (Nat × Path)} (he : PE X e (TP G W p m)) : PE X e (TO G W p (oPlc m)) := he.imp fun σ H Q h => by
  obtain ⟨F, en, fp, fr, h⟩ := h
  refine ⟨F, en, fp, fr, ?_⟩
  unfold oPlc at h
  cases e1 : m en with
  | ok ip en1 =>
    obtain ⟨i, s⟩ := ip
    rw [e1] at h
    dsimp only at h
    have go : (∀ F' H' v tvs tds fp' f, Step p F H fp F' H' (f ++ fp') → Fr G F' H' σ en1 tvs tds fp' f → OVs H' σ [.plc i s] [v] tds tvs → Q v H') →
      ∀ F' H' v fp', Step p F H fp F' H' fp' → Same H H' → Fr0 G F' H' σ en1 fp' → (∃ v0, σ[i]? = some (some v0) ∧ pathV H' v0 s = some v) → Q v H' := fun k F1 H1 v fp1 s1 _ fr1 ⟨v0, q1, q2⟩ =>
      k F1 H1 v [] [] fp1 [] s1 fr1 (.plc q1 q2 .nil)
    split at h
    · exact h.elim
    · exact go h
  | exc x en1 => rw [e1] at h; exact h
  | stuck => rw [e1] at h; exact h
end
end Dn
end L2
set_option Elab.async false
set_option linter.all false
set_option maxRecDepth 100000
set_option maxHeartbeats 1000000
/-! Places, values that are read, displays, choices, tests. -/
namespace L2
namespace Dn
open PySem PySem.Spec PyProof.Rows
section
variable {G : Gi} {W : WX} {X : Cx} {p q r : Bool} {σ : St} {F H F' H' : Hp} {fp fp' f : List Addr} {e : Expr} {es : List Expr} {pos : Pos}
theorem Fr.at {en : Env} {vs : List V} {ds : List D} (fr : Fr G F H σ en vs ds fp f) {i : Nat} (h : en.at i ≠ .no) : ∃ v g, σ[i]? = some (some v) ∧ Rep G F H v (en.at i) g ∧ ∀ b ∈ g, b ∈ fp := by
  obtain ⟨o, g, rest, h1, h2, h3, _⟩ := fr.re.at (at_lt h)
  obtain ⟨v, rfl, hv⟩ := h2.some_of h
  exact ⟨v, g, h1, hv, fun b hb => h3.mem_iff.mpr (List.mem_append_left _ hb)⟩
/-- what stands at a place of the frame -/
theorem Fr.place {en : Env} {vs : List V} {ds : List D} (fr : Fr G F H σ en vs ds fp f) {i : Nat} {s : Path} (h : getD (en.at i) s ≠ .no) :
    ∃ v0 v g, σ[i]? = some (some v0) ∧ pathV H v0 s = some v ∧ Rep G F H v (getD (en.at i) s) g ∧ ∀ b ∈ g, b ∈ fp := by
  have h0 : en.at i ≠ .no := fun z => h (by rw [z, getD_no])
  obtain ⟨v0, g, h1, h2, h3⟩ := fr.at h0
  obtain ⟨w, k, k1, k2, k3⟩ := h2.rd fr.fh s fun d' e => by rw [← e]; exact h
  exact ⟨v0, w, k, h1, k1, k2, fun b hb => h3 b (k3 b hb)⟩
theorem pathV_app {v w : V} : ∀ {s t : Path}, pathV H v s = some w → pathV H v (s ++ t) = pathV H w t := by
  intro s
  induction s generalizing v with
  | nil => intro t h; have e : v = w := by simpa [pathV] using h
           rw [e]; rfl
  | cons x s ih =>
    intro t h
    cases v with
    | ref a =>
      cases hH : H a with
      | none => cases x <;> simp only [pathV, hH] at h <;> cases h
      | some o =>
        cases x with
        | f j =>
          cases o <;> simp only [pathV, hH] at h <;> first | cases h | skip
          simp only [List.cons_append, pathV, hH]
          obtain ⟨z, hz, h⟩ := Option.bind_eq_some_iff.mp h
          rw [hz]
          exact ih h
        | i n =>
          cases o <;> simp only [pathV, hH] at h <;> first | cases h | skip
          all_goals
            simp only [List.cons_append, pathV, hH]
            obtain ⟨j, hj, h⟩ := Option.bind_eq_some_iff.mp h
            obtain ⟨z, hz, h⟩ := Option.bind_eq_some_iff.mp h
            rw [hj]
            simp only [Option.bind_some]
            rw [hz]
            exact ih h
        | k y =>
          cases o <;> simp only [pathV, hH] at h <;> first | cases h | skip
          all_goals
            simp only [List.cons_append, pathV, hH]
            obtain ⟨j, hj, h⟩ := Option.bind_eq_some_iff.mp h
            obtain ⟨z, hz, h⟩ := Option.bind_eq_some_iff.mp h
            rw [hj]
            simp only [Option.bind_some]
            rw [hz]
            exact ih h
    | _ => cases x <;> simp [pathV] at h
theorem tp_ref {i : Nat} {x : Str} (he : PE X (.Name x pos) (tVar i)) : PE X (.Name x pos) (TP G W true (pRef i)) := he.imp fun σ H Q h => by
  obtain ⟨F, en, fp, fr, h⟩ := h
  unfold pRef at h
  cases q : (en.at i).isNo with
  | true =>
    rw [if_pos q] at h
    exact h.elim
  | false =>
    obtain ⟨v, g, h1, _, _⟩ := fr.at (isNo_ne.mp q)
    rw [if_neg (by rw [q]; exact Bool.false_ne_true)] at h
    exact ⟨v, h1, h F H v fp Step.refl (Same.refl H) fr ⟨v, h1, rfl⟩⟩
/-! ### fields -/
theorem lookup_nth : ∀ {fs : List (Str × V)} {ns : List Str} {j : Nat} {n : Str} {kv : Str × V}, fs.map (·.1) = ns → ns.Nodup → ns[j]? = some n → fs[j]? = some kv → fs.lookup n = some kv.2
  | (m, v) :: fs, _, 0, n, kv, e, _, h1, h2 => by
    subst e
    cases h1
    cases h2
    simp [List.lookup]
  | (m, v) :: fs, _, j + 1, n, kv, e, nd, h1, h2 => by
    subst e
    rw [List.map_cons] at nd h1
    have hne : n ≠ m := fun z => (List.nodup_cons.mp nd).1 (by
      subst z
      exact List.mem_of_getElem? h1)
    rw [List.lookup_cons]
    rw [show (n == m) = false from beq_eq_false_iff_ne.mpr hne]
    exact lookup_nth rfl (List.nodup_cons.mp nd).2 h1 h2
/-- a class of the program, as its fields are asked -/
structure ClsOk (G : Gi) (c : Nat) : Prop where
  cl : Cls G.K (G.cls c)
  na : ∀ n ∈ G.fnm c, NoAttr G.K (G.cls c) n
  nd : (G.fnm c).Nodup
  le : (G.fnm c).length < 1000
theorem nodup_take {α : Type} {l : List α} (n : Nat) (h : l.Nodup) : (l.take n).Nodup := h.sublist (List.take_sublist n l)
theorem tp_fld {m : M (Nat × Path)} {c j : Nat} {n : Str} (he : PE X e (TP G W p m)) (hK : X.K = G.K) (ok : ClsOk G c) (hn : (G.fnm c)[j]? = some n) (hb : attributeBase e n X.env (eval e X.env) = eval e X.env) :
    PE X (.Attribute e n pos) (TP G W p (pFld m c j)) := (pe_fld he hb).imp fun σ H Q h => by
  obtain ⟨F, en, fp, fr, h⟩ := h
  refine ⟨F, en, fp, fr, ?_⟩
  unfold pFld at h
  cases e1 : m en with
  | ok ip en1 =>
    obtain ⟨i, s⟩ := ip
    rw [e1] at h
    dsimp only at h
    refine fun F1 H1 v fp1 s1 sm fr1 ⟨v0, q1, q2⟩ => ?_
    cases hd : getD (en1.at i) s <;> rw [hd] at h <;> first | exact h.elim | skip
    rename_i o c' ds
    dsimp only at h
    by_cases hc : c' = c ∧ j < ds.length
    · rw [if_pos hc] at h
      obtain ⟨rfl, hj⟩ := hc
      obtain ⟨v0', v', g, p1, p2, p3, p4⟩ := fr1.place (i := i) (s := s) (by rw [hd]; exact fun z => nomatch z)
      rw [q1] at p1
      cases p1
      rw [q2] at p2
      cases p2
      rw [hd] at p3
      obtain ⟨a, dx, fs, rfl, hH, hnm, hl⟩ : ∃ (a dx : Addr) (fs : List (Str × V)), v = .ref a ∧ H1 a = some (.ins (G.cls c') dx fs) ∧ fs.map (·.1) = (G.fnm c').take ds.length ∧ fs.length = ds.length := by
        cases p3 with
        | fz z => cases z with
          | obj h1 h2 h3 h4 => exact ⟨_, _, _, rfl, fr1.fh _ _ h1, h3, by have z := h4.len; rw [List.length_map] at z; exact z⟩
        | obj h1 h2 h3 h4 => exact ⟨_, _, _, rfl, h1, h3, by have z := h4.len; rw [List.length_map] at z; exact z⟩
      have hj' : j < fs.length := by omega
      obtain ⟨kv, hkv⟩ : ∃ kv, fs[j]? = some kv := ⟨_, List.getElem?_eq_getElem hj'⟩
      have hlk := lookup_nth hnm (nodup_take _ ok.nd) (by rw [List.getElem?_take, if_pos hj]; exact hn) hkv
      refine ⟨a, _, dx, fs, kv.2, rfl, hH, by rw [hK]; exact ok.cl, by rw [hK]; exact ok.na n (List.mem_of_getElem? hn), hlk, ?_⟩
      refine h F1 H1 kv.2 fp1 s1 sm fr1 ⟨v0, q1, ?_⟩
      rw [pathV_app q2]
      simp only [pathV, hH]
      rw [hkv]
      rfl
    · rw [if_neg hc] at h
      exact h.elim
  | exc x en1 => rw [e1] at h; exact h
  | stuck => rw [e1] at h; exact h
/-! ### a place read as a value -/
/-- what is owned at a place is frozen there -/
theorem Fr.freeze {en : Env} (fr : Fr0 G F H σ en fp) {i : Nat} {s : Path} {v0 v : V} (h1 : σ[i]? = some (some v0)) (h2 : pathV H v0 s = some v) (o : (getD (en.at i) s).own = true) :
    ∃ F2 fp2, Step true F H fp F2 H fp2 ∧ Fr0 G F2 H σ (en.set i (setD (en.at i) s (frz (getD (en.at i) s)))) fp2 ∧ Fz G F2 v (frz (getD (en.at i) s)) := by
  have h0 : en.at i ≠ .no := fun z => by rw [z, getD_no] at o; cases o
  obtain ⟨o', g, rest, k1, k2, k3, k4⟩ := fr.re.at (at_lt h0)
  rw [h1] at k1
  cases k1
  cases k2 with
  | some k2 =>
    obtain ⟨w, f, rs, j1, j2, j3, j4⟩ := k2.at s o
    rw [h2] at j1
    cases j1
    have hm : ∀ b, b ∈ f → b ∈ fp := fun b hb => k3.mem_iff.mpr (List.mem_append_left _ (j3.mem_iff.mpr (List.mem_append_left _ hb)))
    have pm : fp.Perm (f ++ (rs ++ rest)) := k3.trans (by rw [← List.append_assoc]; exact List.Perm.append_right rest j3)
    have nd := pm.nodup_iff.mp fr.nd
    obtain ⟨n1, n2, n3⟩ := nodup_app.mp nd
    obtain ⟨F2, eF2⟩ : ∃ F2 : Hp, F2 = fun b => if b ∈ f then H b else F b := ⟨_, rfl⟩
    have s2 : Same F F2 := fun b u z => by
      rw [eF2]
      have : b ∉ f := fun hb => by have := fr.nf b (hm b hb); rw [this] at z; cases z
      simp only [this, if_false]
      exact z
    have sH : Same F2 H := fun b u z => by
      rw [eF2] at z
      by_cases hb : b ∈ f
      · simp only [hb, if_true] at z; exact z
      · simp only [hb, if_false] at z; exact fr.fh b u z
    have fz := j2.freeze s2 (fun b hb => by rw [eF2]; simp only [hb, if_true])
    obtain ⟨g2, g3, g4⟩ := j4 F2 H _ [] s2 (fun _ _ => rfl) (.fz fz)
    obtain ⟨fp2, g5, g6⟩ := k4 F2 H (some v0) _ g2 s2 (fun _ _ => rfl) (.some g4)
    rw [set_self h1] at g6
    have pm2 : fp2.Perm (rs ++ rest) := g5.trans (List.Perm.append_right rest g3)
    refine ⟨F2, fp2, ⟨s2, fun _ _ z _ => z, fun b hb => .inl (pm.mem_iff.mpr (List.mem_append_right _ (pm2.mem_iff.mp hb))), fun b z => ?_, fun _ => Same.refl H⟩, ⟨g6, .nil, pm2.nodup_iff.mpr n2, fun b hb => ?_, sH⟩, fz⟩
    · rw [eF2] at z
      by_cases hb : b ∈ f
      · exact .inr (.inl (hm b hb))
      · simp only [hb, if_false] at z; exact .inl z
    · have hb' := pm2.mem_iff.mp hb
      rw [eF2]
      have : b ∉ f := fun z => n3 b z hb'
      simp only [this, if_false]
      exact fr.nf b (pm.mem_iff.mpr (List.mem_append_right _ hb'))
theorem tv_rd {m : M (Nat × Path)} (he : PE X e (TP G W p m)) : PE X e (TV G W p (cRd m)) := he.imp fun σ H Q h => by
  obtain ⟨F, en, fp, fr, h⟩ := h
  refine ⟨F, en, fp, fr, ?_⟩
  unfold cRd at h
  cases e1 : m en with
  | ok ip en1 =>
    obtain ⟨i, s⟩ := ip
    rw [e1] at h
    dsimp only at h
    refine fun F1 H1 v fp1 s1 sm fr1 ⟨v0, q1, q2⟩ => ?_
    cases hn' : (getD (en1.at i) s).isNo with
    | true =>
      rw [if_pos hn'] at h
      exact h.elim
    | false =>
      have hn := isNo_ne.mp hn'
      rw [if_neg (by rw [hn']; exact Bool.false_ne_true)] at h
      cases ho : (getD (en1.at i) s).own with
      | true =>
        rw [if_pos ho] at h
        obtain ⟨F2, fp2, z1, z2, z3⟩ := fr1.freeze q1 q2 ho
        exact h F2 H1 v fp2 [] ((s1.trans z1).any fun z => by rw [z]; rfl) ⟨z2.re, .cons (f := []) (g := []) (.fz z3) .nil, z2.nd, z2.nf, z2.fh⟩
      | false =>
        rw [if_neg (by rw [ho]; exact Bool.false_ne_true)] at h
        obtain ⟨v0', v', g, p1, p2, p3, p4⟩ := fr1.place hn
        rw [q1] at p1
        cases p1
        rw [q2] at p2
        cases p2
        obtain ⟨y, rfl⟩ := p3.fz_of ho
        exact h F1 H1 v fp1 [] s1 ⟨fr1.re, .cons (f := []) (g := []) (.fz y) .nil, fr1.nd, fr1.nf, fr1.fh⟩
  | exc x en1 => rw [e1] at h; exact h
  | stuck => rw [e1] at h; exact h
theorem tv_mov {i : Nat} {x : Str} (he : PE X (.Name x pos) (tVar i)) : PE X (.Name x pos) (TV G W true (cMov i)) := he.imp fun σ H Q h => by
  obtain ⟨F, en, fp, fr, h⟩ := h
  unfold cMov at h
  cases hn' : (en.at i).isNo with
  | true =>
    rw [if_pos hn'] at h
    exact h.elim
  | false =>
    have hn := isNo_ne.mp hn'
    rw [if_neg (by rw [hn']; exact Bool.false_ne_true)] at h
    obtain ⟨o', g, rest, k1, k2, k3, k4⟩ := fr.re.at (at_lt hn)
    obtain ⟨v, rfl, hv⟩ := k2.some_of hn
    obtain ⟨fp2, g1, g2⟩ := k4 F H (some v) .no [] (Same.refl F) (fun _ _ => rfl) (.some (.fz (.no v)))
    rw [set_self k1] at g2
    have pm : fp.Perm (g ++ fp2) := k3.trans (List.Perm.append_left g g1.symm)
    refine ⟨v, k1, h F H v fp2 g (Step.refl.weak (fun _ z => z) (fun b hb => .inl (pm.mem_iff.mpr hb)) id) ⟨g2, ?_, pm.nodup_iff.mp fr.nd, fun b hb => fr.nf b (pm.mem_iff.mpr hb), fr.fh⟩⟩
    have := RepL.cons hv (RepL.nil (G := G) (F := F) (H := H))
    rw [List.append_nil] at this
    exact this
end
end Dn
end L2
set_option Elab.async false
set_option linter.all false
set_option maxRecDepth 100000
set_option maxHeartbeats 1000000
/-! Constants, displays, choices, tests. -/
namespace L2
namespace Dn
open PySem PySem.Spec PyProof.Rows
section
variable {G : Gi} {W : WX} {X : Cx} {p q r : Bool} {σ : St} {F H F' H' : Hp} {fp fp' f : List Addr} {e a b : Expr} {es : List Expr} {pos : Pos}
theorem Fr.fz1 {en : Env} {v : V} {d : D} (fr : Fr0 G F H σ en fp) (h : Fz G F v d) : Fr G F H σ en [v] [d] fp [] := ⟨fr.re, .cons (f := []) (g := []) (.fz h) .nil, fr.nd, fr.nf, fr.fh⟩
/-- a value that stands already -/
theorem tv_c {v : V} {d : D} (he : PE X e (tC v)) (hd : ∀ F, Fz G F v d) : PE X e (TV G W true fun en => .ok d en) := he.imp fun σ H Q h => by
  obtain ⟨F, en, fp, fr, h⟩ := h
  exact h F H v fp [] Step.refl (fr.fz1 (hd F))
/-- a new object, owned or frozen -/
theorem Fr.new {en : Env} {vs : List V} {ds : List D} {o : HO} {a : Addr} {d : D} (fr : Fr G F H σ en vs ds fp f) (n : H a = none) (own : ∀ F2 H2, Same F F2 → Same H H2 → H2 a = some o → RepL G F2 H2 vs ds f → Rep G F2 H2 (.ref a) d (a :: f)) :
    Step true F H (f ++ fp) F (upd H a o) ((a :: f) ++ fp) ∧ Fr G F (upd H a o) σ en [.ref a] [d] fp (a :: f) := by
  obtain ⟨n1, n2, n3⟩ := nodup_app.mp fr.nd
  have dom : ∀ b ∈ f ++ fp, H b ≠ none := fun b hb => (List.mem_append.mp hb).elim (fr.rl.dom b) (fr.re.dom b)
  have na : a ∉ f ++ fp := fun hb => dom a hb n
  have sm : Same H (upd H a o) := fun b u z => by rw [upd_ne (ne_of_none z n)]; exact z
  have hk : ∀ b ∈ f ++ fp, upd H a o b = H b := fun b hb => upd_ne fun z => na (by rw [← z]; exact hb)
  refine ⟨⟨Same.refl F, fun b u z _ => sm b u z, fun b hb => ?_, fun b z => .inl z, fun _ => sm⟩, ⟨fr.re.move (Same.refl F) fun b hb => hk b (List.mem_append_right _ hb), ?_, ?_, ?_, fr.fh.trans sm⟩⟩
  · rcases List.mem_cons.mp hb with z | z
    · exact .inr (by rw [z]; exact n)
    · exact .inl z
  · have rl := fr.rl.move (F' := F) (H' := upd H a o) (Same.refl F) fun b hb => hk b (List.mem_append_left _ hb)
    have := RepL.cons (own F (upd H a o) (Same.refl F) sm upd_same rl) (RepL.nil (G := G) (F := F) (H := upd H a o))
    rw [List.append_nil] at this
    exact this
  · show ((a :: f) ++ fp).Nodup
    rw [List.cons_append]
    exact List.nodup_cons.mpr ⟨na, fr.nd⟩
  · intro b hb
    rcases List.mem_cons.mp (show b ∈ a :: (f ++ fp) from hb) with z | z
    · rw [z]
      exact fr.fh.free n
    · exact fr.nf b z
/-- .. frozen at once -/
theorem Fr.newF {en : Env} {o : HO} {a : Addr} {d : D} (fr : Fr0 G F H σ en fp) (n : H a = none) (fz : ∀ F2, Same F F2 → F2 a = some o → Fz G F2 (.ref a) d) :
    ∃ F2, Step true F H fp F2 (upd H a o) fp ∧ Fr G F2 (upd H a o) σ en [.ref a] [d] fp [] := by
  have nF := fr.fh.free n
  have sm : Same H (upd H a o) := fun b u z => by rw [upd_ne (ne_of_none z n)]; exact z
  have sF : Same F (upd F a o) := fun b u z => by rw [upd_ne (ne_of_none z nF)]; exact z
  have na : a ∉ fp := fun hb => fr.re.dom a hb n
  have hk : ∀ b ∈ fp, upd H a o b = H b := fun b hb => upd_ne fun z => na (by rw [← z]; exact hb)
  refine ⟨upd F a o, ⟨sF, fun b u z _ => sm b u z, fun b hb => .inl hb, fun b z => ?_, fun _ => sm⟩, ⟨fr.re.move sF hk, .cons (f := []) (g := []) (.fz (fz _ sF upd_same)) .nil, fr.nd, fun b hb => ?_, fun b u z => ?_⟩⟩
  · by_cases hb : b = a
    · rw [hb]; exact .inr (.inr n)
    · rw [upd_ne hb] at z; exact .inl z
  · rw [upd_ne fun z => na (by rw [← z]; exact hb)]
    exact fr.nf b hb
  · by_cases hb : b = a
    · subst hb
      rw [upd_same] at z ⊢
      exact z
    · rw [upd_ne hb] at z ⊢
      exact fr.fh b u z
theorem LINE_le : LINE = sizeLine := by rw [sizeLine_eq]; rfl
theorem tv_lst {m : M (List D)} (he : PA X es (TL G W p m)) : PE X (.List es pos) (TV G W p (cLst m)) := (pe_lst he).imp fun σ H Q h => by
  obtain ⟨F, en, fp, fr, h⟩ := h
  refine ⟨F, en, fp, fr, ?_⟩
  unfold cLst at h
  cases e1 : m en with
  | ok ds en1 =>
    rw [e1] at h
    refine fun F1 H1 vs fp1 f1 s1 fr1 => ?_
    dsimp only at h
    by_cases hl : ds.length ≤ LINE
    · rw [if_pos hl] at h
      refine ⟨by rw [fr1.rl.len, ← LINE_le]; exact hl, fun a n => ?_⟩
      obtain ⟨s2, fr2⟩ := fr1.new (o := .lst vs) (d := .lst true ds) n fun F2 H2 _ _ ha rl => .lst ha rl
      exact h F1 _ (.ref a) fp1 (a :: f1) ((s1.trans s2).any fun z => by rw [z]; rfl) fr2
    · rw [if_neg hl] at h
      exact h.elim
  | exc x en1 => rw [e1] at h; exact h
  | stuck => rw [e1] at h; exact h
theorem tv_tup {m : M (List D)} {k : Nat} (he : PA X es (TL G W p m)) : PE X (.Tuple es k pos) (TV G W p (cTup m)) := (pe_tup he).imp fun σ H Q h => by
  obtain ⟨F, en, fp, fr, h⟩ := h
  refine ⟨F, en, fp, fr, ?_⟩
  unfold cTup at h
  cases e1 : m en with
  | ok ds en1 =>
    rw [e1] at h
    refine fun F1 H1 vs fp1 f1 s1 fr1 => ?_
    dsimp only at h
    by_cases hl : ds.length ≤ LINE
    · rw [if_pos hl] at h
      refine ⟨by rw [fr1.rl.len, ← LINE_le]; exact hl, fun a n => ?_⟩
      cases ha : allF ds with
      | true =>
        rw [ha] at h
        obtain ⟨fz, rfl⟩ := fr1.rl.fzL ha
        obtain ⟨F2, s2, fr2⟩ := fr1.drop.newF (o := .tup vs) (d := .tup false ds) n fun F2 sm z => .tup (SqT.of z) (fz.mono sm)
        exact h F2 _ (.ref a) fp1 [] ((s1.trans s2).any fun z => by rw [z]; rfl) fr2
      | false =>
        rw [ha] at h
        obtain ⟨s2, fr2⟩ := fr1.new (o := .tup vs) (d := .tup true ds) n fun F2 H2 _ _ ha rl => .tup ha rl
        exact h F1 _ (.ref a) fp1 (a :: f1) ((s1.trans s2).any fun z => by rw [z]; rfl) fr2
    · rw [if_neg hl] at h
      exact h.elim
  | exc x en1 => rw [e1] at h; exact h
  | stuck => rw [e1] at h; exact h
theorem tv_dnK : PE X (.Dict [] [] pos) (TV G W true fun en => .ok (.dct true false [] []) en) := pe_dnewK.imp fun σ H Q h => by
  obtain ⟨F, en, fp, fr, h⟩ := h
  intro a n
  obtain ⟨s2, fr2⟩ := Fr.new (vs := []) (ds := []) (f := []) (o := .dK []) (d := .dct true false [] []) fr n fun F2 H2 _ _ ha rl => .dK (kvs := []) ha rl
  exact h F _ (.ref a) fp [a] s2 fr2
theorem tv_dnT : PE X (.Dict [] [] pos) (TV G W true fun en => .ok (.dct true true [] []) en) := pe_dnewT.imp fun σ H Q h => by
  obtain ⟨F, en, fp, fr, h⟩ := h
  intro a n
  obtain ⟨s2, fr2⟩ := Fr.new (vs := []) (ds := []) (f := []) (o := .dT []) (d := .dct true true [] []) fr n fun F2 H2 _ _ ha rl => .dT (kvs := []) ha rl
  exact h F _ (.ref a) fp [a] s2 fr2
/-! ### choices -/
theorem tv_ife {t : M Bool} {x y : M D} {c : Expr} (hc : PT X c (TB G W p t)) (ha : PE X a (TV G W q x)) (hb : PE X b (TV G W r y)) : PE X (.IfExp c a b pos) (TV G W (p && (q && r)) (cIfe t x y)) := (pe_ifExp hc ha hb).imp fun σ H Q h => by
  obtain ⟨F, en, fp, fr, h⟩ := h
  refine ⟨F, en, fp, fr, ?_⟩
  unfold cIfe at h
  cases e1 : t en with
  | ok k en1 =>
    rw [e1] at h
    refine fun F1 H1 fp1 s1 fr1 => ?_
    cases k with
    | true =>
      rw [if_pos rfl]
      exact ⟨F1, en1, fp1, fr1, Aft.step h s1 fun d en2 _ k F2 H2 v fp2 f2 s2 fr2 => k F2 H2 v fp2 f2 ((s1.trans s2).any fun z => by simp only [Bool.and_eq_true] at z ⊢; exact ⟨z.1, z.2.1⟩) fr2⟩
    | false =>
      rw [if_neg Bool.false_ne_true]
      exact ⟨F1, en1, fp1, fr1, Aft.step h s1 fun d en2 _ k F2 H2 v fp2 f2 s2 fr2 => k F2 H2 v fp2 f2 ((s1.trans s2).any fun z => by simp only [Bool.and_eq_true] at z ⊢; exact ⟨z.1, z.2.2⟩) fr2⟩
  | exc x en1 => rw [e1] at h; exact h
  | stuck => rw [e1] at h; exact h
theorem Fz.bl_of {v : V} {b : Bool} {f : List Addr} (h : Rep G F H v (.bl b) f) : v = .bl b ∧ f = [] := by
  cases h with
  | fz h => cases h; exact ⟨rfl, rfl⟩
theorem Fr.bl {en : Env} {v : V} {b : Bool} (fr : Fr G F H σ en [v] [.bl b] fp f) : v = .bl b ∧ f = [] := by
  obtain ⟨_, rl, _, _, _⟩ := fr
  cases rl with
  | cons h r =>
    cases r
    obtain ⟨e1, e2⟩ := Fz.bl_of h
    exact ⟨e1, by rw [e2]; rfl⟩
/-- a value that is a truth value, as a test -/
theorem tb_val {m : M D} (he : PE X e (TV G W p m)) (hv : ∀ whole, isTrue e X.env whole = (do let v ← whole; standAt e.pos; holding [v] (truthy v))) : PT X e (TB G W p (tVal m)) := (pt_val he hv).imp fun σ H Q h => by
  obtain ⟨F, en, fp, fr, h⟩ := h
  refine ⟨F, en, fp, fr, ?_⟩
  unfold tVal at h
  cases e1 : m en with
  | ok d en1 =>
    rw [e1] at h
    cases d <;> first | exact h.elim | skip
    refine fun F1 H1 v fp1 f1 s1 fr1 => ?_
    obtain ⟨rfl, rfl⟩ := fr1.bl
    exact ⟨_, rfl, h F1 H1 fp1 s1 fr1.drop⟩
  | exc x en1 => rw [e1] at h; exact h
  | stuck => rw [e1] at h; exact h
theorem tb_not {t : M Bool} (he : PT X a (TB G W p t)) : PT X (.UnaryOp .Not a pos) (TB G W p (tNotD t)) := (pt_not he).imp fun σ H Q h => by
  obtain ⟨F, en, fp, fr, h⟩ := h
  refine ⟨F, en, fp, fr, ?_⟩
  unfold tNotD at h
  cases e1 : t en with
  | ok k en1 => rw [e1] at h; exact h
  | exc x en1 => rw [e1] at h; exact h
  | stuck => rw [e1] at h; exact h
theorem tv_not {m : M D} (he : PE X a (TV G W p m)) : PE X (.UnaryOp .Not a pos) (TV G W p (cNot m)) := (pe_not he).imp fun σ H Q h => by
  obtain ⟨F, en, fp, fr, h⟩ := h
  refine ⟨F, en, fp, fr, ?_⟩
  unfold cNot at h
  cases e1 : m en with
  | ok d en1 =>
    rw [e1] at h
    cases d <;> first | exact h.elim | skip
    refine fun F1 H1 v fp1 f1 s1 fr1 => ?_
    obtain ⟨rfl, rfl⟩ := fr1.bl
    exact ⟨_, rfl, h F1 H1 _ fp1 [] s1 (fr1.drop.fz1 (.bl _))⟩
  | exc x en1 => rw [e1] at h; exact h
  | stuck => rw [e1] at h; exact h
/-- and, or: a test whatever the whole is -/
theorem PW.imp' {t u : TT} (h : PW X e t) (k : ∀ σ H Q, u σ H Q → t σ H Q) : PW X e u := ⟨fun w pins s σ H Q I q => h.run w pins s σ H Q I (k σ H Q q)⟩
theorem tb_and {t u : M Bool} {rest : List Expr} (ha : PT X a (TB G W p t)) (hb : PW X (.BoolOp .And (b :: rest) pos) (TB G W q u)) : PW X (.BoolOp .And (a :: b :: rest) pos) (TB G W (p && q) (tAndD t u)) := PW.imp' (pw_and ha hb) fun σ H Q h => by
  obtain ⟨F, en, fp, fr, h⟩ := h
  refine ⟨F, en, fp, fr, ?_⟩
  unfold tAndD at h
  cases e1 : t en with
  | ok k en1 =>
    rw [e1] at h
    refine fun F1 H1 fp1 s1 fr1 => ?_
    cases k with
    | true =>
      rw [if_pos rfl]
      exact ⟨F1, en1, fp1, fr1, Aft.step h s1 fun d en2 _ k F2 H2 fp2 s2 fr2 => k F2 H2 fp2 (s1.trans s2) fr2⟩
    | false =>
      rw [if_neg Bool.false_ne_true]
      exact h F1 H1 fp1 (s1.any fun z => (Bool.and_eq_true_iff.mp z).1) fr1
  | exc x en1 => rw [e1] at h; exact h
  | stuck => rw [e1] at h; exact h
theorem tb_or {t u : M Bool} {rest : List Expr} (ha : PT X a (TB G W p t)) (hb : PW X (.BoolOp .Or (b :: rest) pos) (TB G W q u)) : PW X (.BoolOp .Or (a :: b :: rest) pos) (TB G W (p && q) (tOrD t u)) := PW.imp' (pw_or ha hb) fun σ H Q h => by
  obtain ⟨F, en, fp, fr, h⟩ := h
  refine ⟨F, en, fp, fr, ?_⟩
  unfold tOrD at h
  cases e1 : t en with
  | ok k en1 =>
    rw [e1] at h
    refine fun F1 H1 fp1 s1 fr1 => ?_
    cases k with
    | true =>
      rw [if_pos rfl]
      exact h F1 H1 fp1 (s1.any fun z => (Bool.and_eq_true_iff.mp z).1) fr1
    | false =>
      rw [if_neg Bool.false_ne_true]
      exact ⟨F1, en1, fp1, fr1, Aft.step h s1 fun d en2 _ k F2 H2 fp2 s2 fr2 => k F2 H2 fp2 (s1.trans s2) fr2⟩
  | exc x en1 => rw [e1] at h; exact h
  | stuck => rw [e1] at h; exact h
theorem tv_and {x y : M D} {rest : List Expr} (ha : PE X a (TV G W p x)) (hb : PE X (.BoolOp .And (b :: rest) pos) (TV G W q y)) : PE X (.BoolOp .And (a :: b :: rest) pos) (TV G W (p && q) (cAnd x y)) := (pe_and ha hb).imp fun σ H Q h => by
  obtain ⟨F, en, fp, fr, h⟩ := h
  refine ⟨F, en, fp, fr, ?_⟩
  unfold cAnd at h
  cases e1 : x en with
  | ok d en1 =>
    rw [e1] at h
    cases d <;> first | exact h.elim | skip
    rename_i k
    refine fun F1 H1 v fp1 f1 s1 fr1 => ?_
    obtain ⟨rfl, rfl⟩ := fr1.bl
    refine ⟨k, rfl, ?_⟩
    cases k with
    | true =>
      rw [if_pos rfl]
      exact ⟨F1, en1, fp1, fr1.drop, Aft.step h s1 fun d en2 _ k F2 H2 v fp2 f2 s2 fr2 => k F2 H2 v fp2 f2 (s1.trans s2) fr2⟩
    | false =>
      rw [if_neg Bool.false_ne_true]
      exact h F1 H1 _ fp1 [] (s1.any fun z => (Bool.and_eq_true_iff.mp z).1) (fr1.drop.fz1 (.bl _))
  | exc x en1 => rw [e1] at h; exact h
  | stuck => rw [e1] at h; exact h
theorem tv_or {x y : M D} {rest : List Expr} (ha : PE X a (TV G W p x)) (hb : PE X (.BoolOp .Or (b :: rest) pos) (TV G W q y)) : PE X (.BoolOp .Or (a :: b :: rest) pos) (TV G W (p && q) (cOr x y)) := (pe_or ha hb).imp fun σ H Q h => by
  obtain ⟨F, en, fp, fr, h⟩ := h
  refine ⟨F, en, fp, fr, ?_⟩
  unfold cOr at h
  cases e1 : x en with
  | ok d en1 =>
    rw [e1] at h
    cases d <;> first | exact h.elim | skip
    rename_i k
    refine fun F1 H1 v fp1 f1 s1 fr1 => ?_
    obtain ⟨rfl, rfl⟩ := fr1.bl
    refine ⟨k, rfl, ?_⟩
    cases k with
    | true =>
      rw [if_pos rfl]
      exact h F1 H1 _ fp1 [] (s1.any fun z => (Bool.and_eq_true_iff.mp z).1) (fr1.drop.fz1 (.bl _))
    | false =>
      rw [if_neg Bool.false_ne_true]
      exact ⟨F1, en1, fp1, fr1.drop, Aft.step h s1 fun d en2 _ k F2 H2 v fp2 f2 s2 fr2 => k F2 H2 v fp2 f2 (s1.trans s2) fr2⟩
  | exc x en1 => rw [e1] at h; exact h
  | stuck => rw [e1] at h; exact h
end
end Dn
end L2
set_option Elab.async false
set_option linter.all false
set_option maxRecDepth 100000
set_option maxHeartbeats 1000000
/-! Built-in operations: what they ask, over data. -/
namespace L2
namespace Dn
open PySem PySem.Spec PyProof.Rows
section
variable {G : Gi} {W : WX} {X : Cx} {p q r : Bool} {σ : St} {F H F' H' : Hp} {fp fp' f : List Addr} {e a b : Expr} {es : List Expr} {pos : Pos}
/-- what operands are, to be read -/
def Vw (G : Gi) (F H : Hp) (v : V) (d : D) : Prop := d ≠ .no → ∃ g, Rep G F H v d g
inductive Vws (G : Gi) (F H : Hp) : List V → List D → Prop
  | nil : Vws G F H [] []
  | cons {v : V} {d : D} {vs : List V} {ds : List D} : Vw G F H v d → Vws G F H vs ds → Vws G F H (v :: vs) (d :: ds)
theorem Fr.views {en : Env} : ∀ {os : List OV} {vs tvs : List V} {tds : List D} {f : List Addr}, Fr G F H σ en tvs tds fp f → OVs H σ os vs tds tvs → Vws G F H vs (os.map (OV.get en))
  | _, _, _, _, _, _, .nil => .nil
  | _, _, _, _, _, fr, .tmp r => by
    obtain ⟨re, rl, nd, nf, fh⟩ := fr
    cases rl with
    | @cons v vs d ds f g h rl =>
      refine .cons (fun _ => ⟨f, h⟩) (Fr.views (f := g) ⟨re, rl, ?_, ?_, fh⟩ r)
      · rw [List.append_assoc] at nd
        exact (List.nodup_append.mp nd).2.1
      · rw [List.append_assoc] at nf
        exact fun b hb => nf b (List.mem_append_right _ hb)
  | .plc i s :: _, _, _, _, _, fr, .plc h1 h2 r => by
    refine .cons (fun hn => ?_) (Fr.views fr r)
    obtain ⟨v0, v, g, k1, k2, k3, _⟩ := fr.place (i := i) (s := s) hn
    rw [h1] at k1
    cases k1
    rw [h2] at k2
    cases k2
    exact ⟨g, k3⟩
/-- what an operation hands on -/
def Out (G : Gi) (F H : Hp) (d : D) (Q : VK) : Prop := ∀ (F' H' : Hp) (v : V) (f : List Addr), Same F F' → Same H H' → Same F' H' → (∀ b, F' b ≠ none → F b ≠ none ∨ H b = none) → (∀ b ∈ f, H b = none ∧ F' b = none) → f.Nodup → Rep G F' H' v d f → Q v H'
theorem Out.fz {d : D} {Q : VK} {v : V} (h : Out G F H d Q) (fh : Same F H) (z : Fz G F v d) : Q v H := h F H v [] (Same.refl F) (Same.refl H) fh (fun _ z => .inl z) (fun _ hb => nomatch hb) List.nodup_nil (.fz z)
theorem Out.new {d : D} {Q : VK} {a : Addr} {o : HO} (h : Out G F H d Q) (fh : Same F H) (n : H a = none) (z : ∀ H2, Same H H2 → H2 a = some o → Rep G F H2 (.ref a) d [a]) : Q (.ref a) (upd H a o) := by
  have sm : Same H (upd H a o) := fun b u z => by rw [upd_ne (ne_of_none z n)]; exact z
  exact h F (upd H a o) (.ref a) [a] (Same.refl F) sm (fh.trans sm) (fun _ z => .inl z) (fun b hb => by rw [List.mem_singleton.mp hb]; exact ⟨n, fh.free n⟩) (List.nodup_cons.mpr ⟨(fun z => nomatch z), List.nodup_nil⟩) (z _ sm upd_same)
theorem Out.newF {d : D} {Q : VK} {a : Addr} {o : HO} (h : Out G F H d Q) (fh : Same F H) (n : H a = none) (z : ∀ F2, Same F F2 → F2 a = some o → Fz G F2 (.ref a) d) : Q (.ref a) (upd H a o) := by
  have nF := fh.free n
  have sm : Same H (upd H a o) := fun b u z => by rw [upd_ne (ne_of_none z n)]; exact z
  have sF : Same F (upd F a o) := fun b u z => by rw [upd_ne (ne_of_none z nF)]; exact z
  refine h (upd F a o) (upd H a o) (.ref a) [] sF sm (fun b u z => ?_) (fun b z => ?_) (fun _ hb => nomatch hb) List.nodup_nil (.fz (z _ sF upd_same))
  · by_cases hb : b = a
    · subst hb
      rw [upd_same] at z ⊢
      exact z
    · rw [upd_ne hb] at z ⊢
      exact fh b u z
  · by_cases hb : b = a
    · rw [hb]; exact .inr n
    · rw [upd_ne hb] at z; exact .inl z
theorem Fr.out {en : Env} {tvs : List V} {tds : List D} {d : D} {Q : VK} (fr : Fr G F H σ en tvs tds fp f) (h : ∀ F' H' v fp' f', Step true F H (f ++ fp) F' H' (f' ++ fp') → Fr G F' H' σ en [v] [d] fp' f' → Q v H') : Out G F H d Q := by
  intro F' H' v g sF sH sFH nf new nd rp
  have dom : ∀ b ∈ fp, H b ≠ none := fr.re.dom
  refine h F' H' v fp g ⟨sF, fun b o z _ => sH b o z, fun b hb => ?_, fun b z => (nf b z).imp id .inr, fun _ => sH⟩ ⟨fr.re.move sF fun b hb => ?_, ?_, ?_, fun b hb => ?_, sFH⟩
  · rcases List.mem_append.mp hb with z | z
    · exact .inr (new b z).1
    · exact .inl (List.mem_append_right _ z)
  · cases e : H b with
    | none => exact absurd e (dom b hb)
    | some o => exact sH b o e
  · have := RepL.cons rp (RepL.nil (G := G) (F := F') (H := H'))
    rw [List.append_nil] at this
    exact this
  · exact nodup_app.mpr ⟨nd, fr.drop.nd, fun b hb hm => dom b hm (new b hb).1⟩
  · rcases List.mem_append.mp hb with z | z
    · exact (new b z).2
    · cases e : F' b with
      | none => rfl
      | some o =>
        rcases nf b (by rw [e]; exact fun z => nomatch z) with y | y
        · exact absurd (fr.nf b (List.mem_append_right _ z)) y
        · exact absurd y (dom b z)
/-- an operation on values, as data say it -/
def RB (G : Gi) (g : List D → Option D) (vs : List V) (H : Hp) (Q : VK) : Prop := ∃ F ds d, Same F H ∧ Vws G F H vs ds ∧ g ds = some d ∧ Out G F H d Q
theorem bop_read {bo : B} {ms : M (List OV)} {Q : VK} (h : TV G W p (cBop bo ms) σ H Q) : TOs G W p ms σ H fun vs H1 => RB G (bopD bo) vs H1 Q := by
  obtain ⟨F, en, fp, fr, h⟩ := h
  refine ⟨F, en, fp, fr, ?_⟩
  unfold cBop at h
  cases e1 : ms en with
  | ok ovs en1 =>
    rw [e1] at h
    refine fun F1 H1 vs tvs tds fp1 f1 s1 fr1 ov1 => ?_
    cases e2 : bopD bo (ovs.map (OV.get en1)) with
    | none =>
      dsimp only at h
      rw [e2] at h
      exact h.elim
    | some d =>
      dsimp only at h
      rw [e2] at h
      exact ⟨F1, _, d, fr1.fh, fr1.views ov1, e2, fr1.out fun F2 H2 v fp2 f2 s2 fr2 => h F2 H2 v fp2 f2 ((s1.trans s2).any fun z => by rw [z]; rfl) fr2⟩
  | exc x en1 => rw [e1] at h; exact h
  | stuck => rw [e1] at h; exact h
/-- two operands, one after the other -/
theorem tv_bop2 {bo : B} {ma mb : M OV} {t : TE} {tl : TE → TE → TE} (hst : q = true ∨ Stay ma) {R : R2} (he : PE X e (tOp R (TO G W p ma) (TO G W q mb))) (k : ∀ x y H Q, RB G (bopD bo) [x, y] H Q → R x y H Q) : PE X e (TV G W (p && q) (cBop bo (lCons ma (lCons mb lNil)))) := he.imp fun σ H Q h => by
  have h1 := tos_cons_r hst (show TOs G W (p && q) _ σ H _ from bop_read h)
  obtain ⟨F, en, fp, fr, h1⟩ := h1
  refine ⟨F, en, fp, fr, Aft.step h1 Step.refl fun o en1 e1 h1 F1 H1 v tvs tds fp1 f1 s1 fr1 ov1 => ?_⟩
  have h2 := h1 F1 H1 v tvs tds fp1 f1 s1 fr1 ov1
  have h3 := tos_cons_r (p := q) (q := true) (.inl rfl) (show TOs G W (q && true) _ σ H1 _ by rw [Bool.and_true]; exact h2)
  obtain ⟨F, en, fp, fr, h3⟩ := h3
  exact ⟨F, en, fp, fr, Aft.step h3 Step.refl fun o en1 e1 h3 F1 H1 w tvs tds fp1 f1 s1 fr1 ov1 => k _ _ _ _ (tos_nil_r (h3 F1 H1 w tvs tds fp1 f1 s1 fr1 ov1))⟩
end
end Dn
end L2
set_option Elab.async false
set_option linter.all false
set_option maxRecDepth 100000
set_option maxHeartbeats 1000000
/-! Operators by values, over data. -/
namespace L2
namespace Dn
open PySem PySem.Spec PyProof.Rows
section
variable {G : Gi} {X : Cx} {F H : Hp} {f : List Addr}
theorem rep_int {v : V} {i : Int} (h : Rep G F H v (.int i) f) : v = .int i := by
  cases h with
  | fz h => cases h; rfl
theorem rep_str {v : V} {x : Str} (h : Rep G F H v (.str x) f) : v = .str x := by
  cases h with
  | fz h => cases h; rfl
theorem rep_bl {v : V} {b : Bool} (h : Rep G F H v (.bl b) f) : v = .bl b := by
  cases h with
  | fz h => cases h; rfl
theorem rep_non {v : V} (h : Rep G F H v .non f) : v = .non := by
  cases h with
  | fz h => cases h; rfl
theorem rep_lst (fh : Same F H) {v : V} {o : Bool} {ds : List D} (h : Rep G F H v (.lst o ds) f) : ∃ a vs g, v = .ref a ∧ Rd H a (.lst vs) ∧ RepL G F H vs ds g ∧ (o = true → H a = some (.lst vs) ∧ f = a :: g) := by
  cases h with
  | fz h => cases h with
    | lst h r => exact ⟨_, _, [], rfl, h.imp (fh _ _) fun ⟨o, h⟩ => ⟨o, fh _ _ h⟩, r.repL, fun z => nomatch z⟩
  | lst h r => exact ⟨_, _, _, rfl, .inl h, r, fun _ => ⟨h, rfl⟩⟩
theorem rep_tup (fh : Same F H) {v : V} {o : Bool} {ds : List D} (h : Rep G F H v (.tup o ds) f) : ∃ a vs g, v = .ref a ∧ SqT G.K H a vs ∧ RepL G F H vs ds g ∧ (o = true → H a = some (.tup vs) ∧ f = a :: g) := by
  cases h with
  | fz h => cases h with
    | tup h r => exact ⟨_, _, [], rfl, Same.sqt' fh h, r.repL, fun z => nomatch z⟩
  | tup h r => exact ⟨_, _, _, rfl, SqT.of h, r, fun _ => ⟨h, rfl⟩⟩
theorem rep_wls (fh : Same F H) {v : V} {ds : List D} (h : Rep G F H v (.wls ds) f) : ∃ a vs, v = .ref a ∧ SqL G.K H a vs ∧ FzL G F vs ds := by
  cases h with
  | fz h => cases h with
    | wls h r => exact ⟨_, _, rfl, Same.sql' fh h, r⟩
theorem SqL.rd {K : PySem.W.Frag} {a : Addr} {vs : List V} (h : Rd H a (.lst vs)) : SqL K H a vs := .inl h
mutual
theorem Fz.dp (fh : Same F H) : ∀ {v : V} {d : D} {x : PyData}, Fz G F v d → d.py = some x → Dp G.K H v x
  | _, _, _, .no _, e => by simp [D.py] at e
  | _, _, _, .non, e => by simp [D.py] at e; subst e; exact .non
  | _, _, _, .bl b, e => by simp [D.py] at e; subst e; exact .bl b
  | _, _, _, .int i, e => by simp [D.py] at e; subst e; exact .int i
  | _, _, _, .str x, e => by simp [D.py] at e; subst e; exact .str x
  | _, _, _, .gl g, e => by simp [D.py] at e
  | _, _, _, .wdt h r, e => by simp [D.py] at e
  | _, _, _, .wls h r, e => by simp [D.py] at e
  | _, _, _, .tup h r, e => by
    simp only [D.py, Option.map_eq_some_iff] at e
    obtain ⟨xs, e1, rfl⟩ := e
    exact .tup (Same.sqt' fh h) (FzL.dp fh r e1)
  | _, _, _, .lst h r, e => by
    simp only [D.py, Option.map_eq_some_iff] at e
    obtain ⟨xs, e1, rfl⟩ := e
    exact .lst (.inl (h.imp (fh _ _) fun ⟨o, h⟩ => ⟨o, fh _ _ h⟩)) (FzL.dp fh r e1)
  | _, _, _, .dK h r, e => by simp [D.py] at e
  | _, _, _, .dT h r, e => by simp [D.py] at e
  | _, _, _, .obj h1 h2 h3 r, e => by simp [D.py] at e
theorem FzL.dp (fh : Same F H) : ∀ {vs : List V} {ds : List D} {xs : List PyData}, FzL G F vs ds → pyL ds = some xs → DpAll G.K H vs xs
  | _, _, _, .nil, e => by simp [pyL] at e; subst e; exact .nil
  | _, _, _, .cons (d := d) (ds := ds) h r, e => by
    simp only [pyL] at e
    cases e1 : d.py with
    | none => rw [e1] at e; simp at e
    | some x =>
      cases e2 : pyL ds with
      | none => rw [e1, e2] at e; simp at e
      | some xs =>
        rw [e1, e2] at e
        simp at e
        subst e
        exact .cons (Fz.dp fh h e1) (FzL.dp fh r e2)
end
mutual
theorem Rep.dp (fh : Same F H) : ∀ {v : V} {d : D} {x : PyData} {f : List Addr}, Rep G F H v d f → d.py = some x → Dp G.K H v x
  | _, _, _, _, .fz h, e => h.dp fh e
  | _, _, _, _, .tup h r, e => by
    simp only [D.py, Option.map_eq_some_iff] at e
    obtain ⟨xs, e1, rfl⟩ := e
    exact .tup (SqT.of h) (RepL.dp fh r e1)
  | _, _, _, _, .lst h r, e => by
    simp only [D.py, Option.map_eq_some_iff] at e
    obtain ⟨xs, e1, rfl⟩ := e
    exact .lst (SqL.of h) (RepL.dp fh r e1)
  | _, _, _, _, .dK h r, e => by simp [D.py] at e
  | _, _, _, _, .dT h r, e => by simp [D.py] at e
  | _, _, _, _, .obj h1 h2 h3 r, e => by simp [D.py] at e
theorem RepL.dp (fh : Same F H) : ∀ {vs : List V} {ds : List D} {xs : List PyData} {f : List Addr}, RepL G F H vs ds f → pyL ds = some xs → DpAll G.K H vs xs
  | _, _, _, _, .nil, e => by simp [pyL] at e; subst e; exact .nil
  | _, _, _, _, .cons (d := d) (ds := ds) h r, e => by
    simp only [pyL] at e
    cases e1 : d.py with
    | none => rw [e1] at e; simp at e
    | some x =>
      cases e2 : pyL ds with
      | none => rw [e1, e2] at e; simp at e
      | some xs =>
        rw [e1, e2] at e
        simp at e
        subst e
        exact .cons (Rep.dp fh h e1) (RepL.dp fh r e2)
end
mutual
theorem py_plain : ∀ {d : D} {x : PyData}, d.py = some x → x.plain = true
  | .no, _, e => by simp [D.py] at e
  | .non, _, e => by simp [D.py] at e; subst e; rfl
  | .bl b, _, e => by simp [D.py] at e; subst e; rfl
  | .int i, _, e => by simp [D.py] at e; subst e; rfl
  | .str x, _, e => by simp [D.py] at e; subst e; rfl
  | .gl g, _, e => by simp [D.py] at e
  | .wdt _ _, _, e => by simp [D.py] at e
  | .wls _, _, e => by simp [D.py] at e
  | .tup _ ds, _, e => by
    simp only [D.py, Option.map_eq_some_iff] at e
    obtain ⟨xs, e1, rfl⟩ := e
    simp only [PyData.plain]
    exact pyL_plain e1
  | .lst _ ds, _, e => by
    simp only [D.py, Option.map_eq_some_iff] at e
    obtain ⟨xs, e1, rfl⟩ := e
    simp only [PyData.plain]
    exact pyL_plain e1
  | .dct _ _ _ _, _, e => by simp [D.py] at e
  | .obj _ _ _, _, e => by simp [D.py] at e
theorem pyL_plain : ∀ {ds : List D} {xs : List PyData}, pyL ds = some xs → PyData.plainAll xs = true
  | [], _, e => by simp [pyL] at e; subst e; rfl
  | d :: ds, _, e => by
    simp only [pyL] at e
    cases e1 : d.py with
    | none => rw [e1] at e; simp at e
    | some x =>
      cases e2 : pyL ds with
      | none => rw [e1, e2] at e; simp at e
      | some xs =>
        rw [e1, e2] at e
        simp at e
        subst e
        simp only [PyData.plainAll, py_plain e1, pyL_plain e2, Bool.and_self]
end
/-- the items of a list that is doubled, and so on, as one array -/
theorem rep_arr (zs : List Value) (k : Int) : List.foldl (fun x1 x2 => x1 ++ x2) #[] (List.replicate (if zs.toArray.isEmpty = true then 0 else k.toNat) zs.toArray) = (List.replicate k.toNat zs).flatten.toArray := by
  have go := foldl_rep zs k.toNat []
  cases zs with
  | cons z r => exact (by simpa using go)
  | nil => simp
/-- lists, as they stand: tracked or locked -/
theorem op_catR : OpR X (binaryOp .Add) (fun x y H Q => ∃ l b xs zs, x = .ref l ∧ y = .ref b ∧ Rd H l (.lst xs) ∧ Rd H b (.lst zs) ∧ xs.length + zs.length ≤ sizeLine ∧ ∀ p, H p = none → Q (.ref p) (upd H p (.lst (xs ++ zs)))) :=
  fun pins s σ H x y v u Q I rx ry h => by
  obtain ⟨pa, pb, as, bs, rfl, rfl, ka, kb, short, done⟩ := h
  cases rx; cases ry
  obtain ⟨_, us, _, ra, ea⟩ := ka.ok I.hok
  obtain ⟨_, ws, _, rb, eb⟩ := kb.ok I.hok
  have small : us.toArray.size + ws.toArray.size ≤ sizeLine := by
    have z1 := ra.length
    have z2 := rb.length
    simp only [List.size_toArray]
    omega
  refine PySem.P.add_list ea eb ?_ small
  rw [show us.toArray ++ ws.toArray = (us ++ ws).toArray by simp]
  have made := I.lnew (t' := s.toks) (ra.append rb) (by rw [List.length_append]; exact short)
  exact ⟨.ref _, _, made, rfl, done _ I.fresh⟩
theorem op_repR : OpR X (binaryOp .Mult) (fun x y H Q => ∃ l k xs, x = .ref l ∧ y = .int k ∧ Rd H l (.lst xs) ∧ -(2 ^ 63) ≤ k ∧ k < 2 ^ 63 ∧ xs.length * k.toNat ≤ sizeLine ∧ ∀ p, H p = none → Q (.ref p) (upd H p (.lst (List.replicate k.toNat xs).flatten))) :=
  fun pins s σ H x y v u Q I rx ry h => by
  obtain ⟨pa, k, as, rfl, rfl, ka, lo, hi, short, done⟩ := h
  obtain ⟨t, rfl⟩ := ry
  cases rx
  obtain ⟨_, us, cap, ra, ea⟩ := ka.ok I.hok
  have size : us.toArray.size * k.toNat ≤ sizeLine := by rw [List.size_toArray, ← ra.length]; exact short
  have fits : ¬ (!Builtin.List.listFitsIndex k) = true := fun z => by rw [fitsIndex_both lo hi] at z; cases z
  have brief : ¬ Builtin.List.listTooLong (us.toArray.size * k.toNat) = true := fun z => by rw [notLongL size] at z; cases z
  have under : ¬ us.toArray.size * k.toNat > (2 ^ 63 - 1) / 8 := fun z => absurd (Nat.lt_of_lt_of_le z size) (by decide)
  have made := I.lnew (t' := s.toks) (ra.rep k.toNat) (by rw [PyProof.Rows.lm_len_rep_flat, Nat.mul_comm]; exact short)
  have inner := AutoListH.list___mul___list_int_3 pa us.toArray cap k t fits under brief
  refine wpAny_binaryOp_repeat_ref (T := "list") (U := "int") (by decide) ⟨_, ea, rfl⟩ (fun s' => typeIs_int s' k t) noFill_list_mul PySem.F.fills_int_mul PySem.F.slot_int_rmul repeat_list PySem.F.slot_int_index.lookup ?_
  refine call_meets PySem.F.slot_int_rmul (typeIs_int s k t) PySem.F.entry_int_rmul (PySem.F.args_int_rmul_2 _ _) (int___rmul___int_list k t pa us.toArray cap) ⟨ea, rfl, ⟨_, ea, rfl⟩, ?_⟩
  refine call_meets PySem.F.slot_list_mul ⟨_, ea, rfl⟩ PySem.F.entry_list_mul (PySem.F.args_list_mul_2 _ _) inner ⟨ea, ?_⟩
  rw [rep_arr]
  exact ⟨.ref _, _, made, rfl, done _ I.fresh⟩
theorem FzL.rep {vs : List V} {ds : List D} (h : FzL G F vs ds) : ∀ n : Nat, FzL G F (List.replicate n vs).flatten (List.replicate n ds).flatten
  | 0 => .nil
  | n + 1 => by
    rw [List.replicate_succ, List.replicate_succ, List.flatten_cons, List.flatten_cons]
    exact h.append (FzL.rep h n)
theorem Vws.two {vs : List V} {a b : D} (h : Vws G F H vs [a, b]) : ∃ x y, vs = [x, y] ∧ Vw G F H x a ∧ Vw G F H y b := by
  cases h with
  | cons h1 r => cases r with
    | cons h2 r => cases r; exact ⟨_, _, rfl, h1, h2⟩
theorem Vws.get2 {x y : V} {ds : List D} (h : Vws G F H [x, y] ds) : ∃ a b, ds = [a, b] ∧ Vw G F H x a ∧ Vw G F H y b := by
  cases h with
  | cons h1 r => cases r with
    | cons h2 r => cases r; exact ⟨_, _, rfl, h1, h2⟩
theorem Vws.get1 {x : V} {ds : List D} (h : Vws G F H [x] ds) : ∃ a, ds = [a] ∧ Vw G F H x a := by
  cases h with
  | cons h1 r => cases r; exact ⟨_, rfl, h1⟩
theorem tups_of {vs : List V} {ds : List D} {g : List Addr} (r : RepL G F H vs ds g) (h : Dn.allF ds = true) : FzL G F vs ds := (r.fzL h).1
/-- arithmetic, joining -/
theorem opr_ar {op : Operator} {bo : B} (hK : X.K = G.K) (hop : (op = .Add ∧ bo = .add) ∨ (op = .Sub ∧ bo = .sub) ∨ (op = .Mult ∧ bo = .mul) ∨ (op = .FloorDiv ∧ bo = .fdiv) ∨ (op = .Mod ∧ bo = .mod) ∨ (op = .Pow ∧ bo = .pow)) :
    OpR X (binaryOp op) (fun x y H Q => RB G (fun ds => match ds with | [a, b] => arD bo a b | _ => none) [x, y] H Q) := by
  intro pins s σ H x y v u Q I rx ry h
  obtain ⟨F, ds, d, fh, vw, hg, out⟩ := h
  obtain ⟨a, b, rfl, va, vb⟩ := vw.get2
  dsimp only at hg
  unfold arD at hg
  split at hg
  · -- ints
    obtain ⟨rfl, _⟩ : op = .Add ∧ True := by simpa using hop
    obtain ⟨_, ra⟩ := va (fun z => nomatch z)
    obtain ⟨_, rb⟩ := vb (fun z => nomatch z)
    cases hg
    exact op_add pins s σ H x y v u Q I rx ry ⟨_, _, rep_int ra, rep_int rb, out.fz fh (.int _)⟩
  · obtain ⟨rfl, _⟩ : op = .Sub ∧ True := by simpa using hop
    obtain ⟨_, ra⟩ := va (fun z => nomatch z)
    obtain ⟨_, rb⟩ := vb (fun z => nomatch z)
    cases hg
    exact op_sub pins s σ H x y v u Q I rx ry ⟨_, _, rep_int ra, rep_int rb, out.fz fh (.int _)⟩
  · obtain ⟨rfl, _⟩ : op = .Mult ∧ True := by simpa using hop
    obtain ⟨_, ra⟩ := va (fun z => nomatch z)
    obtain ⟨_, rb⟩ := vb (fun z => nomatch z)
    split at hg
    · rename_i hc
      cases hg
      exact op_mul pins s σ H x y v u Q I rx ry ⟨_, _, rep_int ra, rep_int rb, hc, out.fz fh (.int _)⟩
    · cases hg
  · obtain ⟨rfl, _⟩ : op = .FloorDiv ∧ True := by simpa using hop
    obtain ⟨_, ra⟩ := va (fun z => nomatch z)
    obtain ⟨_, rb⟩ := vb (fun z => nomatch z)
    split at hg
    · rename_i hc
      cases hg
      exact op_fdivN pins s σ H x y v u Q I rx ry ⟨_, _, rep_int ra, rep_int rb, hc, out.fz fh (.int _)⟩
    · cases hg
  · obtain ⟨rfl, _⟩ : op = .Mod ∧ True := by simpa using hop
    obtain ⟨_, ra⟩ := va (fun z => nomatch z)
    obtain ⟨_, rb⟩ := vb (fun z => nomatch z)
    split at hg
    · rename_i hc
      cases hg
      exact op_modN pins s σ H x y v u Q I rx ry ⟨_, _, rep_int ra, rep_int rb, hc, out.fz fh (.int _)⟩
    · cases hg
  · obtain ⟨rfl, _⟩ : op = .Pow ∧ True := by simpa using hop
    obtain ⟨_, ra⟩ := va (fun z => nomatch z)
    obtain ⟨_, rb⟩ := vb (fun z => nomatch z)
    split at hg
    · rename_i hc
      cases hg
      exact op_pow pins s σ H x y v u Q I rx ry ⟨_, _, rep_int ra, rep_int rb, hc, out.fz fh (.int _)⟩
    · cases hg
  · obtain ⟨rfl, _⟩ : op = .Add ∧ True := by simpa using hop
    obtain ⟨_, ra⟩ := va (fun z => nomatch z)
    obtain ⟨_, rb⟩ := vb (fun z => nomatch z)
    split at hg
    · rename_i hc
      cases hg
      exact op_add_str pins s σ H x y v u Q I rx ry ⟨_, _, rep_str ra, rep_str rb, by rw [← LINE_le]; exact hc, out.fz fh (.str _)⟩
    · cases hg
  · obtain ⟨rfl, _⟩ : op = .Add ∧ True := by simpa using hop
    obtain ⟨_, ra⟩ := va (fun z => nomatch z)
    obtain ⟨_, rb⟩ := vb (fun z => nomatch z)
    split at hg
    · rename_i hc
      simp only [Bool.and_eq_true, decide_eq_true_eq] at hc
      obtain ⟨⟨h1, h2⟩, h3⟩ := hc
      cases hg
      obtain ⟨p1, xs, g1, rfl, hp1, r1, _⟩ := rep_lst fh ra
      obtain ⟨p2, zs, g2, rfl, hp2, r2, _⟩ := rep_lst fh rb
      have z1 := tups_of r1 h1
      have z2 := tups_of r2 h2
      refine op_catR pins s σ H _ _ v u Q I rx ry ⟨p1, p2, xs, zs, rfl, rfl, hp1, hp2, by rw [z1.len, z2.len, ← LINE_le]; exact h3, fun p n => out.new fh n fun H2 _ hp => ?_⟩
      exact .lst hp (z1.append z2).repL
    · cases hg
  · obtain ⟨rfl, _⟩ : op = .Add ∧ True := by simpa using hop
    obtain ⟨_, ra⟩ := va (fun z => nomatch z)
    obtain ⟨_, rb⟩ := vb (fun z => nomatch z)
    split at hg
    · rename_i hc
      simp only [Bool.and_eq_true, decide_eq_true_eq, Bool.not_eq_true'] at hc
      obtain ⟨⟨⟨⟨h1, h2⟩, h4⟩, h5⟩, h3⟩ := hc
      cases hg
      obtain ⟨p1, xs, g1, rfl, hp1, r1, _⟩ := rep_tup fh ra
      obtain ⟨p2, zs, g2, rfl, hp2, r2, _⟩ := rep_tup fh rb
      have z1 := tups_of r1 h1
      have z2 := tups_of r2 h2
      refine op_catT pins s σ H _ _ v u Q I rx ry ⟨p1, p2, xs, zs, rfl, rfl, by rw [hK]; exact hp1, by rw [hK]; exact hp2, ?_, by rw [z1.len, z2.len, ← LINE_le]; exact h3, fun e => ?_, fun _ p n => out.newF fh n fun F2 sm hp => ?_⟩
      · rintro rfl
        cases z1
        cases h4
      · subst e
        cases z2
        cases h5
      · exact .tup (SqT.of hp) ((z1.append z2).mono sm)
    · cases hg
  · obtain ⟨rfl, _⟩ : op = .Mult ∧ True := by simpa using hop
    obtain ⟨_, ra⟩ := va (fun z => nomatch z)
    obtain ⟨_, rb⟩ := vb (fun z => nomatch z)
    split at hg
    · rename_i hc
      simp only [Bool.and_eq_true, decide_eq_true_eq] at hc
      obtain ⟨h1, h2, h3, h4⟩ := hc
      cases hg
      obtain ⟨p1, xs, g1, rfl, hp1, r1, _⟩ := rep_lst fh ra
      have z1 := tups_of r1 h1
      refine op_repR pins s σ H _ _ v u Q I rx ry ⟨p1, _, xs, rfl, rep_int rb, hp1, h2, h3, by rw [z1.len, ← LINE_le]; exact h4, fun p n => out.new fh n fun H2 _ hp => ?_⟩
      exact .lst hp (z1.rep _).repL
    · cases hg
  · cases hg
end
end Dn
end L2
set_option Elab.async false
set_option linter.all false
set_option maxRecDepth 100000
set_option maxHeartbeats 1000000
/-! Comparisons, subscripts, slices, built-in calls, truth: by values, over data. -/
namespace L2
namespace Dn
open PySem PySem.Spec PyProof.Rows
/-- what the top's things are -/
structure GOk (G : Gi) (w : World) : Prop where
  wd : ∀ a ks vs, G.wd a ks vs → ks.length = vs.length ∧ (∃ es n, KDict G.K w a es n) ∧ ∀ z : Str, ∃ r, PySem.W.nsIn G.K a z = some r ∧ RelO ((ks.findIdx? fun y => decide (y = z)).bind fun j => vs[j]?) r
  ty : ∀ g n, tyName g = some n → G.gv g = .ty n
  gn : ∀ g, G.gv g ≠ .non
  cv : ∀ c, G.gv (c + 20) = .ref (G.cls c)
section
variable {G : Gi} {X : Cx} {F H : Hp} {f : List Addr}
theorem keyIx_some {κ : Type} [DecidableEq κ] (g : κ → KD) (hg : ∀ a b, g a = g b → a = b) : ∀ (kvs : List (κ × V)) (k : κ), (keyIx (kvs.map (fun q => g q.1)) (g k)).isSome = (valV kvs k).isSome ∧
    ∀ j, keyIx (kvs.map (fun q => g q.1)) (g k) = some j → valV kvs k = (kvs[j]?).map (·.2)
  | [], k => ⟨rfl, fun j h => by cases h⟩
  | (a, v) :: r, k => by
    obtain ⟨h1, h2⟩ := keyIx_some g hg r k
    have e0 : keyIx (((a, v) :: r).map (fun q => g q.1)) (g k) = if g a = g k then some 0 else (keyIx (r.map (fun q => g q.1)) (g k)).map (· + 1) := by
      unfold keyIx
      rw [List.map_cons, List.findIdx?_cons]
      by_cases e : g a = g k
      · simp [e]
      · simp [e]
    rw [e0]
    by_cases e : a = k
    · subst e
      rw [if_pos rfl]
      refine ⟨by rw [valV_pos rfl]; rfl, fun j h => ?_⟩
      cases h
      rw [valV_pos rfl]
      rfl
    · rw [if_neg fun z => e (hg _ _ z), valV_neg e]
      refine ⟨by rw [Option.isSome_map]; exact h1, fun j h => ?_⟩
      obtain ⟨i, hi, rfl⟩ := Option.map_eq_some_iff.mp h
      exact h2 i hi
theorem kdk_inj : ∀ a b : Key, KD.k a = KD.k b → a = b := fun _ _ h => KD.k.inj h
theorem kdt_inj : ∀ a b : List Key, KD.t a = KD.t b → a = b := fun _ _ h => KD.t.inj h
theorem rep_dK (fh : Same F H) {v : V} {o : Bool} {ks : List KD} {ds : List D} (h : Rep G F H v (.dct o false ks ds) f) : ∃ a kvs g, v = .ref a ∧ H a = some (.dK kvs) ∧ ks = kvs.map (fun q => KD.k q.1) ∧ RepL G F H (kvs.map (·.2)) ds g ∧ (o = true → f = a :: g) := by
  cases h with
  | fz h => cases h with
    | dK h r => exact ⟨_, _, [], rfl, fh _ _ h, rfl, r.repL, fun z => nomatch z⟩
  | dK h r => exact ⟨_, _, _, rfl, h, rfl, r, fun _ => rfl⟩
theorem key_flat {a : D} {k : KD} (hk : a.key = some k) (hf : k.flat = true) {x : V} {f : List Addr} (ra : Rep G F H x a f) : ∃ k', k = .k k' ∧ x = kV k' := by
  cases k with
  | t _ => cases hf
  | k k =>
    refine ⟨k, rfl, ?_⟩
    cases a <;> simp only [D.key] at hk <;> first | cases hk | skip
    · rw [rep_int ra]; rfl
    · rw [rep_str ra]; rfl
    · obtain ⟨_, _, z⟩ := Option.map_eq_some_iff.mp hk
      cases z
theorem key_no {k : KD} (h : D.key .no = some k) : False := by cases h
/-- comparisons -/
theorem opr_cmp {op : CmpOp} {bo : B} (hK : X.K = G.K) (gok : GOk G X.w) (hu : X.A.units + 200 < cLine)
    (hop : (op = .Lt ∧ bo = .lt) ∨ (op = .LtE ∧ bo = .le) ∨ (op = .Gt ∧ bo = .gt) ∨ (op = .GtE ∧ bo = .ge) ∨ (op = .Eq ∧ bo = .eq) ∨ (op = .NotEq ∧ bo = .ne) ∨ (op = .Is ∧ bo = .isN) ∨ (op = .IsNot ∧ bo = .notN) ∨ (op = .In ∧ bo = .inn) ∨ (op = .NotIn ∧ bo = .nin)) :
    OpR X (compareOp op) (fun x y H Q => RB G (fun ds => match ds with | [a, b] => cmpD bo a b | _ => none) [x, y] H Q) := by
  intro pins s σ H x y v u Q I rx ry h
  obtain ⟨F, ds, d, fh, vw, hg, out⟩ := h
  obtain ⟨a, b, rfl, va, vb⟩ := vw.get2
  dsimp only at hg
  have eqs : ∀ {a b : D} {r : Bool}, Vw G F H x a → Vw G F H y b → eqD a b = some r → ∃ da db as bs, Reads s.heap v da as ∧ Reads s.heap u db bs ∧ da.plain = true ∧ db.plain = true ∧ X.A.units + min da.depth db.depth < cLine ∧ PyData.eqv da db = r := fun {a b r} va vb e => by
    unfold eqD at e
    split at e
    · rename_i da db h1 h2
      split at e
      · rename_i hd
        cases e
        obtain ⟨_, ra⟩ := va (fun z => by rw [z] at h1; simp [D.py] at h1)
        obtain ⟨_, rb⟩ := vb (fun z => by rw [z] at h2; simp [D.py] at h2)
        have p1 := ra.dp fh h1
        have p2 := rb.dp fh h2
        rw [← hK] at p1 p2
        obtain ⟨as, r1⟩ := Dp.reads I da x v p1 rx
        obtain ⟨bs, r2⟩ := Dp.reads I db y u p2 ry
        exact ⟨da, db, as, bs, r1, r2, py_plain h1, py_plain h2, by omega, rfl⟩
      · cases e
    · cases e
  have ins : ∀ {a b : D} {r : Bool}, Vw G F H x a → Vw G F H y b → inD a b = some r →
      (∃ da xs as bs, Reads s.heap v da as ∧ (Reads s.heap u (.list xs) bs ∨ Reads s.heap u (.tuple xs) bs) ∧ da.plain = true ∧ PyData.plainAll xs = true ∧ X.A.units + 1 + min (PyData.depthAll xs) da.depth < cLine ∧ (xs.any fun y => PyData.eqv y da) = r) ∨
      (∃ (p : Addr) (o : Option V), y = .ref p ∧ DGet H p x o ∧ o.isSome = r) ∨
      (∃ (p : Addr) (es : Array DictEntry) (n : Nat) (z : Str) (q : Option Value), y = .ref p ∧ x = .str z ∧ KDict X.K X.w p es n ∧ PySem.W.nsIn X.K p z = some q ∧ q.isSome = r) := fun {a b r} va vb e => by
    unfold inD at e
    split at e
    · rename_i o ds
      split at e
      · rename_i da xs h1 h2
        split at e
        · rename_i hd
          cases e
          obtain ⟨_, ra⟩ := va (fun z => by rw [z] at h1; simp [D.py] at h1)
          obtain ⟨_, rb⟩ := vb (fun z => nomatch z)
          have p1 := ra.dp fh h1
          have p2 := rb.dp fh (x := .list xs) (by simp only [D.py, h2]; rfl)
          rw [← hK] at p1 p2
          obtain ⟨as, r1⟩ := Dp.reads I da x v p1 rx
          obtain ⟨bs, r2⟩ := Dp.reads I _ y u p2 ry
          exact .inl ⟨da, xs, as, bs, r1, .inl r2, py_plain h1, pyL_plain h2, by omega, rfl⟩
        · cases e
      · cases e
    · rename_i o ds
      split at e
      · rename_i da xs h1 h2
        split at e
        · rename_i hd
          cases e
          obtain ⟨_, ra⟩ := va (fun z => by rw [z] at h1; simp [D.py] at h1)
          obtain ⟨_, rb⟩ := vb (fun z => nomatch z)
          have p1 := ra.dp fh h1
          have p2 := rb.dp fh (x := .tuple xs) (by simp only [D.py, h2]; rfl)
          rw [← hK] at p1 p2
          obtain ⟨as, r1⟩ := Dp.reads I da x v p1 rx
          obtain ⟨bs, r2⟩ := Dp.reads I _ y u p2 ry
          exact .inl ⟨da, xs, as, bs, r1, .inr r2, py_plain h1, pyL_plain h2, by omega, rfl⟩
        · cases e
      · cases e
    · rename_i o t ks ds
      split at e
      · rename_i k hk
        split at e
        · rename_i hf
          cases e
          obtain ⟨hf', ht⟩ := Bool.and_eq_true_iff.mp hf
          have ht : t = false := by simpa using ht
          subst ht
          obtain ⟨_, rb⟩ := vb (fun z => nomatch z)
          obtain ⟨_, ra⟩ := va (fun z => by rw [z] at hk; exact key_no hk)
          obtain ⟨p, kvs, g, e1, e2, e3, _, _⟩ := rep_dK fh rb
          obtain ⟨k', rfl, ex⟩ := key_flat hk hf' ra
          exact .inr (.inl ⟨p, valV kvs k', e1, .inl ⟨kvs, k', .inl e2, ex, rfl⟩, by rw [e3]; exact (keyIx_some KD.k kdk_inj kvs k').1.symm⟩)
        · cases e
      · cases e
    · rename_i ks ds
      split at e
      · rename_i z
        cases e
        obtain ⟨_, rb⟩ := vb (fun z => nomatch z)
        obtain ⟨_, ra⟩ := va (fun z => nomatch z)
        cases rb with
        | fz rb => cases rb with
          | @wdt p _ vs _ hw r =>
            obtain ⟨hl, ⟨es, n, kd⟩, hz⟩ := gok.wd _ _ _ hw
            obtain ⟨q, q1, q2⟩ := hz z
            refine .inr (.inr ⟨p, es, n, z, q, rfl, rep_str ra, by rw [hK]; exact kd, by rw [hK]; exact q1, ?_⟩)
            rw [← q2.isSome_eq]
            cases hi : List.findIdx? (fun y => decide (y = z)) ks with
            | none => rfl
            | some j =>
              have := (List.findIdx?_eq_some_iff_findIdx_eq.mp hi).1
              rw [Option.bind_some, List.getElem?_eq_getElem (by omega)]
              rfl
      · cases e
    · cases e
  unfold cmpD at hg
  split at hg
  · obtain ⟨rfl, _⟩ : op = .Lt ∧ True := by simpa using hop
    obtain ⟨_, ra⟩ := va (fun z => nomatch z)
    obtain ⟨_, rb⟩ := vb (fun z => nomatch z)
    cases hg
    exact op_lt pins s σ H x y v u Q I rx ry ⟨_, _, rep_int ra, rep_int rb, out.fz fh (.bl _)⟩
  · obtain ⟨rfl, _⟩ : op = .LtE ∧ True := by simpa using hop
    obtain ⟨_, ra⟩ := va (fun z => nomatch z)
    obtain ⟨_, rb⟩ := vb (fun z => nomatch z)
    cases hg
    exact op_le pins s σ H x y v u Q I rx ry ⟨_, _, rep_int ra, rep_int rb, out.fz fh (.bl _)⟩
  · obtain ⟨rfl, _⟩ : op = .Gt ∧ True := by simpa using hop
    obtain ⟨_, ra⟩ := va (fun z => nomatch z)
    obtain ⟨_, rb⟩ := vb (fun z => nomatch z)
    cases hg
    exact op_gt pins s σ H x y v u Q I rx ry ⟨_, _, rep_int ra, rep_int rb, out.fz fh (.bl _)⟩
  · obtain ⟨rfl, _⟩ : op = .GtE ∧ True := by simpa using hop
    obtain ⟨_, ra⟩ := va (fun z => nomatch z)
    obtain ⟨_, rb⟩ := vb (fun z => nomatch z)
    cases hg
    exact op_ge pins s σ H x y v u Q I rx ry ⟨_, _, rep_int ra, rep_int rb, out.fz fh (.bl _)⟩
  · obtain ⟨rfl, _⟩ : op = .Lt ∧ True := by simpa using hop
    obtain ⟨_, ra⟩ := va (fun z => nomatch z)
    obtain ⟨_, rb⟩ := vb (fun z => nomatch z)
    cases hg
    exact op_lt_str pins s σ H x y v u Q I rx ry ⟨_, _, rep_str ra, rep_str rb, out.fz fh (.bl _)⟩
  · obtain ⟨rfl, _⟩ : op = .LtE ∧ True := by simpa using hop
    obtain ⟨_, ra⟩ := va (fun z => nomatch z)
    obtain ⟨_, rb⟩ := vb (fun z => nomatch z)
    cases hg
    exact op_le_str pins s σ H x y v u Q I rx ry ⟨_, _, rep_str ra, rep_str rb, by rw [← decide_not]; exact out.fz fh (.bl _)⟩
  · obtain ⟨rfl, _⟩ : op = .Eq ∧ True := by simpa using hop
    obtain ⟨r, hr, rfl⟩ := Option.map_eq_some_iff.mp hg
    obtain ⟨da, db, as, bs, r1, r2, p1, p2, hd, rfl⟩ := eqs va vb hr
    exact SeqAt.eq_plain r1 r2 p1 p2 hd ⟨.bl _, H, I, rfl, out.fz fh (.bl _)⟩
  · obtain ⟨rfl, _⟩ : op = .NotEq ∧ True := by simpa using hop
    obtain ⟨r, hr, rfl⟩ := Option.map_eq_some_iff.mp hg
    obtain ⟨da, db, as, bs, r1, r2, p1, p2, hd, rfl⟩ := eqs va vb hr
    exact SeqAt.ne_plain r1 r2 p1 p2 hd ⟨.bl _, H, I, rfl, out.fz fh (.bl _)⟩
  · obtain ⟨rfl, _⟩ : op = .Is ∧ True := by simpa using hop
    obtain ⟨r, hr, rfl⟩ := Option.map_eq_some_iff.mp hg
    obtain ⟨_, rb⟩ := vb (fun z => nomatch z)
    have hy := rep_non rb
    obtain ⟨_, ra⟩ := va (fun z => by rw [z] at hr; cases hr)
    have hx : decide (x = .non) = r := by
      cases ra with
      | fz ra => cases ra <;> simp only [D.nonB] at hr <;> first | cases hr | skip
                 all_goals simp_all
      | _ => simp only [D.nonB] at hr; simp_all
    exact op_isN pins s σ H x y v u Q I rx ry ⟨hy, by rw [hx]; exact out.fz fh (.bl _)⟩
  · obtain ⟨rfl, _⟩ : op = .IsNot ∧ True := by simpa using hop
    obtain ⟨r, hr, rfl⟩ := Option.map_eq_some_iff.mp hg
    obtain ⟨_, rb⟩ := vb (fun z => nomatch z)
    have hy := rep_non rb
    obtain ⟨_, ra⟩ := va (fun z => by rw [z] at hr; cases hr)
    have hx : decide (x = .non) = r := by
      cases ra with
      | fz ra => cases ra <;> simp only [D.nonB] at hr <;> first | cases hr | skip
                 all_goals simp_all
      | _ => simp only [D.nonB] at hr; simp_all
    exact op_notN pins s σ H x y v u Q I rx ry ⟨hy, by rw [hx]; exact out.fz fh (.bl _)⟩
  · obtain ⟨rfl, _⟩ : op = .In ∧ True := by simpa using hop
    obtain ⟨r, hr, rfl⟩ := Option.map_eq_some_iff.mp hg
    rcases ins va vb hr with ⟨da, xs, as, bs, r1, r2 | r2, p1, p2, hd, rfl⟩ | ⟨p, o, rfl, g, rfl⟩ | ⟨p, es, n, z, q, e1, e2, kd, hz, rfl⟩
    · exact SeqAt.in_list_data r2 r1 p2 p1 hd ⟨.bl _, H, I, rfl, out.fz fh (.bl _)⟩
    · exact SeqAt.in_tuple_data r2 r1 p2 p1 hd ⟨.bl _, H, I, rfl, out.fz fh (.bl _)⟩
    · cases ry
      exact d_in (by omega) I g rx fun s3 I3 => ⟨.bl o.isSome, H, I3, rfl, out.fz fh (.bl _)⟩
    · exact op_in_kd kd pins s σ H x y v u Q I rx ry ⟨z, q, e2, e1, hz, out.fz fh (.bl _)⟩
  · obtain ⟨rfl, _⟩ : op = .NotIn ∧ True := by simpa using hop
    obtain ⟨r, hr, rfl⟩ := Option.map_eq_some_iff.mp hg
    rcases ins va vb hr with ⟨da, xs, as, bs, r1, r2 | r2, p1, p2, hd, rfl⟩ | ⟨p, o, rfl, g, rfl⟩ | ⟨p, es, n, z, q, e1, e2, kd, hz, rfl⟩
    · exact SeqAt.notIn_list_data r2 r1 p2 p1 hd ⟨.bl _, H, I, rfl, out.fz fh (.bl _)⟩
    · exact SeqAt.notIn_tuple_data r2 r1 p2 p1 hd ⟨.bl _, H, I, rfl, out.fz fh (.bl _)⟩
    · cases ry
      exact d_notIn (by omega) I g rx fun s3 I3 => ⟨.bl (!o.isSome), H, I3, rfl, out.fz fh (.bl _)⟩
    · exact op_notIn_kd kd pins s σ H x y v u Q I rx ry ⟨z, q, e2, e1, hz, out.fz fh (.bl _)⟩
  · cases hg
end
end Dn
end L2
set_option Elab.async false
set_option linter.all false
set_option maxRecDepth 100000
set_option maxHeartbeats 1000000
/-! Subscripts, slices, built-in calls, truth: by values, over data. -/
namespace L2
namespace Dn
open PySem PySem.Spec PyProof.Rows
section
variable {G : Gi} {W : WX} {X : Cx} {p q r : Bool} {σ : St} {F H : Hp} {f : List Addr} {e : Expr} {es : List Expr} {pos : Pos}
theorem RepL.get {vs : List V} {ds : List D} {g : List Addr} {j : Nat} {d : D} (r : RepL G F H vs ds g) (h : ds[j]? = some d) (o : d.own = false) : ∃ v, vs[j]? = some v ∧ Fz G F v d := by
  obtain ⟨v, f, rest, h1, h2, _⟩ := r.at h
  exact ⟨v, h1, (h2.fz_of o).1⟩
theorem atI_of {vs : List V} {n : Int} {j : Nat} {v : V} (h1 : ixN vs.length n = some j) (h2 : vs[j]? = some v) : atI vs n = some v := by
  unfold atI
  rw [h1]
  exact h2
theorem ixr (hK : X.K = G.K) (gok : GOk G X.w) (hu : X.A.units + 200 < cLine) : IxR X (fun x y H Q => RB G (bopD .idx) [x, y] H Q) := by
  intro value slice pins s σ H x y v u Q I rx ry h hs
  obtain ⟨F, ds, d, fh, vw, hg, out⟩ := h
  obtain ⟨a, b, rfl, va, vb⟩ := vw.get2
  have hg : (match idxD a b with | some d => if d.own then none else some d | none => none) = some d := hg
  cases e1 : idxD a b with
  | none => rw [e1] at hg; cases hg
  | some d' =>
    rw [e1] at hg
    dsimp only at hg
    cases o : d'.own with
    | true => rw [o, if_pos rfl] at hg; cases hg
    | false =>
      rw [o, if_neg Bool.false_ne_true] at hg
      cases hg
      unfold idxD at e1
      split at e1
      · obtain ⟨j, hj, e2⟩ := Option.bind_eq_some_iff.mp e1
        obtain ⟨_, ra⟩ := va (fun z => nomatch z)
        obtain ⟨_, rb⟩ := vb (fun z => nomatch z)
        obtain ⟨a, vs, g, rfl, h1, h2, _⟩ := rep_lst fh ra
        obtain ⟨w, hw, fz⟩ := h2.get e2 o
        exact ix_list value slice pins s σ H _ y v u Q I rx ry ⟨a, vs, _, w, rfl, rep_int rb, .inl h1, atI_of (by rw [h2.len]; exact hj) hw, out.fz fh fz⟩ hs
      · obtain ⟨j, hj, e2⟩ := Option.bind_eq_some_iff.mp e1
        obtain ⟨_, ra⟩ := va (fun z => nomatch z)
        obtain ⟨_, rb⟩ := vb (fun z => nomatch z)
        obtain ⟨a, vs, g, rfl, h1, h2, _⟩ := rep_tup fh ra
        obtain ⟨w, hw, fz⟩ := h2.get e2 o
        exact ix_tup value slice pins s σ H _ y v u Q I rx ry ⟨a, vs, _, w, rfl, rep_int rb, by rw [hK]; exact h1, atI_of (by rw [h2.len]; exact hj) hw, out.fz fh fz⟩ hs
      · rename_i oo t ks ds
        split at e1
        · rename_i k hk
          split at e1
          · rename_i hf
            obtain ⟨hf', ht⟩ := Bool.and_eq_true_iff.mp hf
            have ht : t = false := by simpa using ht
            subst ht
            obtain ⟨j, hj, e2⟩ := Option.bind_eq_some_iff.mp e1
            obtain ⟨_, ra⟩ := va (fun z => nomatch z)
            obtain ⟨_, rb⟩ := vb (fun z => by rw [z] at hk; exact key_no hk)
            obtain ⟨a, kvs, g, rfl, h1, h2, h3, _⟩ := rep_dK fh ra
            obtain ⟨k', rfl, ey⟩ := key_flat hk hf' rb
            obtain ⟨w, hw, fz⟩ := h3.get e2 o
            obtain ⟨kv, q1, q2⟩ := get_map_fst hw
            have hv : valV kvs k' = some w := by
              rw [h2] at hj
              rw [(keyIx_some KD.k kdk_inj kvs k').2 j hj, q1, ← q2]
              rfl
            have g : DGet H a y (some w) := .inl ⟨kvs, k', .inl h1, ey, hv.symm⟩
            cases rx
            exact tail_any (dict_typeIs I g) slot_dict_getitem.lookup (d_getItem (by omega) I g ry fun w' s3 I3 rw' => ⟨w, H, I3, rw', out.fz fh fz⟩) hs
          · cases e1
        · cases e1
      · rename_i ks ds z
        obtain ⟨j, hj, e2⟩ := Option.bind_eq_some_iff.mp e1
        obtain ⟨_, ra⟩ := va (fun z => nomatch z)
        obtain ⟨_, rb⟩ := vb (fun z => nomatch z)
        cases ra with
        | fz ra => cases ra with
          | @wdt p _ vs _ hw r =>
            obtain ⟨hl, ⟨es, n, kd⟩, hz⟩ := gok.wd _ _ _ hw
            obtain ⟨q, q1, q2⟩ := hz z
            obtain ⟨w, hw', fz⟩ := r.get e2
            rw [hj, Option.bind_some, hw'] at q2
            obtain ⟨u0, rfl, ru⟩ := q2.some_of
            have kd' : KDict X.K X.w p es n := by rw [hK]; exact kd
            cases rx
            have ey := rep_str rb
            subst ey
            obtain ⟨t, rfl⟩ := ry
            have hm := PySem.W.mapOf_K (prog := X.prog) (w := X.w) I.kIn kd'.at_ kd'.lit
            exact tail_any hm.typeIs slot_dict_getitem.lookup (wpAny_getItem_of (strKind_is X.prog X.w z t) hm (PySem.W.find_K kd'.at_ (by rw [hK]; exact q1)) ⟨w, H, I.tok _, ru, out.fz fh fz⟩) hs
      · obtain ⟨j, hj, e2⟩ := Option.bind_eq_some_iff.mp e1
        obtain ⟨_, ra⟩ := va (fun z => nomatch z)
        obtain ⟨_, rb⟩ := vb (fun z => nomatch z)
        obtain ⟨a, vs, rfl, h1, h2⟩ := rep_wls fh ra
        obtain ⟨w, hw, fz⟩ := h2.get e2
        exact ix_list value slice pins s σ H _ y v u Q I rx ry ⟨a, vs, _, w, rfl, rep_int rb, by rw [hK]; exact h1, atI_of (by rw [h2.len]; exact hj) hw, out.fz fh fz⟩ hs
      · rename_i z n
        obtain ⟨_, ra⟩ := va (fun z => nomatch z)
        obtain ⟨_, rb⟩ := vb (fun z => nomatch z)
        split at e1
        · rename_i hz
          obtain ⟨c, hc, rfl⟩ := Option.map_eq_some_iff.mp e1
          exact ix_str value slice pins s σ H x y v u Q I rx ry ⟨z, n, c, rep_str ra, rep_int rb, by rw [← LINE_le]; exact hz, hc, out.fz fh (.str _)⟩ hs
        · cases e1
      · cases e1
/-- slices -/
def RS3 (G : Gi) (x : V) (lo hi : Option Int) (H : Hp) (Q : VK) : Prop := ∃ F a d, Same F H ∧ Vw G F H x a ∧ slcD a lo hi = some d ∧ Out G F H d Q
theorem slr (hK : X.K = G.K) : SlR X (fun x lo hi H Q => RS3 G x lo hi H Q) := by
  intro pins s σ H x v vl vu lo hi sl Q I rx hs pl pu h
  obtain ⟨F, a, d, fh, va, hg, out⟩ := h
  unfold slcD at hg
  split at hg
  · rename_i o ds
    obtain ⟨_, ra⟩ := va (fun z => nomatch z)
    split at hg
    · rename_i ha
      cases hg
      obtain ⟨a, vs, g, rfl, h1, h2, _⟩ := rep_lst fh ra
      have fz := tups_of h2 ha
      refine sl_list pins s σ H _ v vl vu lo hi sl Q I rx hs pl pu ⟨a, vs, rfl, .inl h1, fun p n => out.new fh n fun H2 _ hp => ?_⟩
      refine .lst hp ?_
      unfold slD cutV
      rw [fz.len]
      exact ((fz.drop _).take _).repL
    · cases hg
  · rename_i o ds
    obtain ⟨_, ra⟩ := va (fun z => nomatch z)
    split at hg
    · rename_i ha
      cases hg
      obtain ⟨ha, hn⟩ := Bool.and_eq_true_iff.mp ha
      obtain ⟨a, vs, g, rfl, h1, h2, _⟩ := rep_tup fh ra
      have fz := tups_of h2 ha
      refine sl_tup pins s σ H _ v vl vu lo hi sl Q I rx hs pl pu ⟨a, vs, rfl, by rw [hK]; exact h1, ?_, fun p n => out.newF fh n fun F2 sm hp => ?_⟩
      · rw [fz.len]
        rintro ⟨z1, z2⟩
        rw [z1, z2] at hn
        simp at hn
      · refine .tup (SqT.of hp) ?_
        unfold slD cutV
        rw [fz.len]
        exact ((fz.drop _).take _).mono sm
    · cases hg
  · rename_i z
    obtain ⟨_, ra⟩ := va (fun z => nomatch z)
    split at hg
    · rename_i hz
      cases hg
      exact sl_str pins s σ H x v vl vu lo hi sl Q I rx hs pl pu ⟨z, rep_str ra, by rw [← LINE_le]; exact hz, out.fz fh (.str _)⟩
    · cases hg
  · obtain ⟨_, ra⟩ := va (fun z => nomatch z)
    cases hg
    obtain ⟨a, vs, rfl, h1, fz⟩ := rep_wls fh ra
    refine sl_list pins s σ H _ v vl vu lo hi sl Q I rx hs pl pu ⟨a, vs, rfl, by rw [hK]; exact h1, fun p n => out.new fh n fun H2 _ hp => ?_⟩
    refine .lst hp ?_
    unfold slD cutV
    rw [fz.len]
    exact ((fz.drop _).take _).repL
  · cases hg
/-- truth -/
theorem truv (fh : Same F H) {v : V} {d : D} {b : Bool} {g : List Addr} (h : Rep G F H v d g) (e : d.truth = some b) : TruV G.K v H b := by
  cases d <;> simp only [D.truth] at e <;> first | cases e | skip
  case non => rw [rep_non h]; rfl
  case bl => rw [rep_bl h]; rfl
  case int => rw [rep_int h]; rfl
  case str x =>
    split at e
    · rename_i hz
      cases e
      rw [rep_str h]
      exact ⟨by rw [← LINE_le]; exact hz, rfl⟩
    · cases e
  case tup o ds =>
    obtain ⟨a, vs, g, rfl, h1, h2, _⟩ := rep_tup fh h
    exact .inr (.inl ⟨vs, h1, by cases h2 <;> rfl⟩)
  case lst o ds =>
    obtain ⟨a, vs, g, rfl, h1, h2, _⟩ := rep_lst fh h
    exact .inl ⟨vs, .inl h1, by cases h2 <;> rfl⟩
  case dct o t ks ds =>
    split at e
    · cases e
    · rename_i ht
      cases e
      have ht : t = false := by simpa using ht
      subst ht
      obtain ⟨a, kvs, g, rfl, h1, h2, h3, _⟩ := rep_dK fh h
      exact .inr (.inr ⟨kvs, h1, by rw [h2]; cases kvs <;> rfl⟩)
theorem tb_tru {m : M OV} (hK : X.K = G.K) (he : PE X e (TO G W p m)) (hv : ∀ whole, isTrue e X.env whole = (do let v ← whole; standAt e.pos; holding [v] (truthy v))) : PT X e (TB G W p (tTru m)) := (pt_truth he hv).imp fun σ H Q h => by
  obtain ⟨F, en, fp, fr, h⟩ := h
  refine ⟨F, en, fp, fr, ?_⟩
  unfold tTru at h
  cases e1 : m en with
  | ok o en1 =>
    rw [e1] at h
    refine fun F1 H1 v tvs tds fp1 f1 s1 fr1 ov1 => ?_
    dsimp only at h
    cases e2 : (o.get en1).truth with
    | none => rw [e2] at h; exact h.elim
    | some b =>
      rw [e2] at h
      obtain ⟨d, ed, vw⟩ := (fr1.views ov1).get1
      have ed' : o.get en1 = d := by
        have : [o.get en1] = [d] := ed
        exact (List.cons.inj this).1
      subst ed'
      obtain ⟨g, rp⟩ := vw (fun z => by rw [z] at e2; cases e2)
      exact ⟨b, by rw [hK]; exact truv fr1.fh rp e2, h F1 H1 fp1 s1.slots fr1.drop⟩
  | exc x en1 => rw [e1] at h; exact h
  | stuck => rw [e1] at h; exact h
/-! ### built-in calls -/
theorem ty_of (fh : Same F H) {v : V} {d : D} {t : String} {g : List Addr} (h : Rep G F H v d g) (e : tyOf d = some t) : TyX G.K H v (.type t) := by
  cases d <;> simp only [tyOf] at e <;> cases e
  case non => rw [rep_non h]; exact .base .non
  case bl => rw [rep_bl h]; exact .base (.bl _)
  case int => rw [rep_int h]; exact .base (.int _)
  case str => rw [rep_str h]; exact .base (.str _)
  case tup =>
    obtain ⟨a, vs, g, rfl, h1, _⟩ := rep_tup fh h
    rcases h1 with (h | ⟨ob, h⟩) | ⟨ob, its, n, h1, h2, _⟩
    · exact .base (.tup h)
    · exact .fTuple h
    · exact .kTuple h1 h2
  case lst =>
    obtain ⟨a, vs, g, rfl, h1 | ⟨o, h1⟩, _⟩ := rep_lst fh h
    · exact .base (.lst h1)
    · exact .base (.frz h1)
  case dct o t ks ds =>
    cases h with
    | fz h => cases h with
      | dK h r => exact .base (.dK (fh _ _ h))
      | dT h r => exact .base (.dT (fh _ _ h))
    | dK h r => exact .base (.dK h)
    | dT h r => exact .base (.dT h)
theorem kit_isTy : ∀ t ∈ ["NoneType", "bool", "int", "str", "tuple", "list", "dict"], ∀ n ∈ ["int", "bool", "str", "tuple", "list", "dict"], kitB t n = some (isTy t n) := by decide +kernel
theorem tyOf_mem {d : D} {t : String} (e : tyOf d = some t) : t ∈ ["NoneType", "bool", "int", "str", "tuple", "list", "dict"] := by
  cases d <;> simp only [tyOf] at e <;> cases e <;> simp
theorem tyName_mem {g : Nat} {n : String} (e : tyName g = some n) : n ∈ ["int", "bool", "str", "tuple", "list", "dict"] := by
  unfold tyName at e
  split at e <;> cases e <;> simp
end
end Dn
end L2
set_option Elab.async false
set_option linter.all false
set_option maxRecDepth 100000
set_option maxHeartbeats 1000000
/-! Calls of built-ins by name. -/
namespace L2
namespace Dn
open PySem PySem.Spec PyProof.Rows
section
variable {G : Gi} {W : WX} {X : Cx} {p q r : Bool} {σ : St} {F H : Hp} {f : List Addr} {e : Expr} {es : List Expr} {pos : Pos}
theorem cr_len (hK : X.K = G.K) : CallR X (.builtin "len") (fun vs H Q => RB G (bopD .len) vs H Q) := by
  intro pins s σ H xs us Q I r h
  obtain ⟨F, ds, d, fh, vw, hg, out⟩ := h
  cases vw with
  | nil => cases hg
  | cons v1 r1 => cases r1 with
    | cons v2 r2 =>
      exfalso
      cases r2 <;> simp [bopD, cmpD, arD] at hg
    | nil =>
      rename_i x a
      have hg : (a.len.map fun n => D.int n) = some d := hg
      obtain ⟨n, hn, rfl⟩ := Option.map_eq_some_iff.mp hg
      obtain ⟨_, ra⟩ := v1 (fun z => by rw [z] at hn; cases hn)
      cases a <;> simp only [D.len] at hn <;> first | (cases hn; done) | skip
      case str z _ =>
        split at hn
        · rename_i hz
          cases hn
          exact call_len pins s σ H _ us Q I r ⟨x, _, rfl, by rw [rep_str ra]; exact ⟨by rw [← LINE_le]; exact hz, rfl⟩, out.fz fh (.int _)⟩
        · cases hn
      case tup o ds _ =>
        cases hn
        obtain ⟨a, vs, g, rfl, h1, h2, _⟩ := rep_tup fh ra
        exact call_len pins s σ H _ us Q I r ⟨_, vs.length, rfl, .inr ⟨vs, by rw [hK]; exact h1, rfl⟩, by rw [h2.len]; exact out.fz fh (.int _)⟩
      case lst o ds _ =>
        cases hn
        obtain ⟨a, vs, g, rfl, h1, h2, _⟩ := rep_lst fh ra
        exact call_len pins s σ H _ us Q I r ⟨_, vs.length, rfl, .inl ⟨vs, .inl h1, rfl⟩, by rw [h2.len]; exact out.fz fh (.int _)⟩
      case wls ds _ =>
        cases hn
        obtain ⟨a, vs, rfl, h1, h2⟩ := rep_wls fh ra
        exact call_len pins s σ H _ us Q I r ⟨_, vs.length, rfl, .inl ⟨vs, by rw [hK]; exact h1, rfl⟩, by rw [h2.len]; exact out.fz fh (.int _)⟩
      case dct o t ks ds _ =>
        cases t with
        | true => cases hn
        | false =>
          cases hn
          obtain ⟨a, kvs, g, rfl, h1, rfl, h3, _⟩ := rep_dK fh ra
          exact call_lenD pins s σ H _ us Q I r ⟨a, kvs, rfl, h1, by have := out.fz fh (.int _); rw [List.length_map] at this; exact this⟩
theorem cr_int : CallR X (.type "int") (fun vs H Q => RB G (bopD .int1) vs H Q) := by
  intro pins s σ H xs us Q I r h
  obtain ⟨F, ds, d, fh, vw, hg, out⟩ := h
  cases vw with
  | nil => cases hg
  | cons v1 r1 => cases r1 with
    | cons v2 r2 =>
      exfalso
      cases r2 <;> simp [bopD, cmpD, arD] at hg
    | nil =>
      rename_i x a
      cases a <;> simp only [bopD] at hg <;> first | (cases hg; done) | skip
      case int i =>
        cases hg
        obtain ⟨_, ra⟩ := v1 (fun z => nomatch z)
        exact call_int1 pins s σ H _ us Q I r (.inl ⟨i, by rw [rep_int ra], out.fz fh (.int _)⟩)
      case bl b =>
        cases hg
        obtain ⟨_, ra⟩ := v1 (fun z => nomatch z)
        exact call_int1 pins s σ H _ us Q I r (.inr ⟨b, by rw [rep_bl ra], out.fz fh (.int _)⟩)
theorem cr_list (hK : X.K = G.K) : CallR X (.type "list") (fun vs H Q => RB G (bopD .list1) vs H Q) := by
  intro pins s σ H xs us Q I r h
  obtain ⟨F, ds, d, fh, vw, hg, out⟩ := h
  cases vw with
  | nil => cases hg
  | cons v1 r1 => cases r1 with
    | cons v2 r2 =>
      exfalso
      cases r2 <;> simp [bopD, cmpD, arD] at hg
    | nil =>
      rename_i x a
      cases a <;> simp only [bopD] at hg <;> first | (cases hg; done) | skip
      case lst o ds =>
        split at hg
        · rename_i ha
          cases hg
          obtain ⟨_, ra⟩ := v1 (fun z => nomatch z)
          obtain ⟨a, vs, g, rfl, h1, h2, _⟩ := rep_lst fh ra
          have fz := tups_of h2 ha
          exact call_list_of pins s σ H _ us Q I r ⟨a, vs, rfl, .inl (.inl h1), fun l n => out.new fh n fun H2 _ hp => .lst hp fz.repL⟩
        · cases hg
      case tup o ds =>
        split at hg
        · rename_i ha
          cases hg
          obtain ⟨_, ra⟩ := v1 (fun z => nomatch z)
          obtain ⟨a, vs, g, rfl, h1, h2, _⟩ := rep_tup fh ra
          have fz := tups_of h2 ha
          exact call_list_of pins s σ H _ us Q I r ⟨a, vs, rfl, .inr (by rw [hK]; exact h1), fun l n => out.new fh n fun H2 _ hp => .lst hp fz.repL⟩
        · cases hg
theorem cr_tuple (hK : X.K = G.K) : CallR X (.type "tuple") (fun vs H Q => RB G (bopD .tuple1) vs H Q) := by
  intro pins s σ H xs us Q I r h
  obtain ⟨F, ds, d, fh, vw, hg, out⟩ := h
  cases vw with
  | nil => cases hg
  | cons v1 r1 => cases r1 with
    | cons v2 r2 =>
      exfalso
      cases r2 <;> simp [bopD, cmpD, arD] at hg
    | nil =>
      rename_i x a
      cases a <;> simp only [bopD] at hg <;> first | (cases hg; done) | skip
      case lst o ds =>
        split at hg
        · rename_i ha
          cases hg
          obtain ⟨_, ra⟩ := v1 (fun z => nomatch z)
          obtain ⟨a, vs, g, rfl, h1, h2, _⟩ := rep_lst fh ra
          have fz := tups_of h2 ha
          exact call_tuple_of pins s σ H _ us Q I r ⟨a, vs, rfl, .inl ⟨.inl h1, fun l n => out.newF fh n fun F2 sm hp => .tup (SqT.of hp) (fz.mono sm)⟩⟩
        · cases hg
      case tup o ds =>
        cases o with
        | true => cases hg
        | false =>
          cases hg
          obtain ⟨_, ra⟩ := v1 (fun z => nomatch z)
          obtain ⟨fz, _⟩ := ra.fz_of rfl
          obtain ⟨a, vs, g, rfl, h1, h2, _⟩ := rep_tup fh ra
          exact call_tuple_of pins s σ H _ us Q I r ⟨a, vs, rfl, .inr ⟨by rw [hK]; exact h1, out.fz fh fz⟩⟩
theorem bls_of : ∀ {ds : List D} {bs : List Bool} {vs : List V} {g : List Addr}, blsD ds = some bs → RepL G F H vs ds g → vs = bs.map V.bl
  | [], _, _, _, e, .nil => by simp [blsD] at e; subst e; rfl
  | d :: ds, bs, _, _, e, .cons h r => by
    cases d <;> simp only [blsD] at e <;> first | (cases e; done) | skip
    obtain ⟨bs', e1, rfl⟩ := Option.map_eq_some_iff.mp e
    rw [rep_bl h, bls_of e1 r]
    rfl
theorem ints_of : ∀ {ds : List D} {bs : List Int} {vs : List V} {g : List Addr}, intsD ds = some bs → RepL G F H vs ds g → vs = bs.map V.int
  | [], _, _, _, e, .nil => by simp [intsD] at e; subst e; rfl
  | d :: ds, bs, _, _, e, .cons h r => by
    cases d <;> simp only [intsD] at e <;> first | (cases e; done) | skip
    obtain ⟨bs', e1, rfl⟩ := Option.map_eq_some_iff.mp e
    rw [rep_int h, ints_of e1 r]
    rfl
theorem cr_allD (hc : X.calm = true) : CallR X (.builtin "all") (fun vs H Q => RB G (bopD .all1) vs H Q) := by
  intro pins s σ H xs us Q I r h
  obtain ⟨F, ds, d, fh, vw, hg, out⟩ := h
  cases vw with
  | nil => cases hg
  | cons v1 r1 => cases r1 with
    | cons v2 r2 =>
      exfalso
      cases r2 <;> simp [bopD, cmpD, arD] at hg
    | nil =>
      rename_i x a
      cases a <;> simp only [bopD] at hg <;> first | (cases hg; done) | skip
      obtain ⟨bs, hb, rfl⟩ := Option.map_eq_some_iff.mp hg
      obtain ⟨_, ra⟩ := v1 (fun z => nomatch z)
      obtain ⟨a, vs, g, rfl, h1, h2, _⟩ := rep_lst fh ra
      have e := bls_of hb h2
      subst e
      exact cr_all hc pins s σ H _ us Q I r ⟨a, bs, rfl, .inl h1, out.fz fh (.bl _)⟩
theorem cr_sumD (hc : X.calm = true) : CallR X (.builtin "sum") (fun vs H Q => RB G (bopD .sum1) vs H Q) := by
  intro pins s σ H xs us Q I r h
  obtain ⟨F, ds, d, fh, vw, hg, out⟩ := h
  cases vw with
  | nil => cases hg
  | cons v1 r1 => cases r1 with
    | cons v2 r2 =>
      exfalso
      cases r2 <;> simp [bopD, cmpD, arD] at hg
    | nil =>
      rename_i x a
      cases a <;> simp only [bopD] at hg <;> first | (cases hg; done) | skip
      obtain ⟨bs, hb, rfl⟩ := Option.map_eq_some_iff.mp hg
      obtain ⟨_, ra⟩ := v1 (fun z => nomatch z)
      obtain ⟨a, vs, g, rfl, h1, h2, _⟩ := rep_lst fh ra
      have e := ints_of hb h2
      subst e
      exact cr_sum hc pins s σ H _ us Q I r ⟨a, bs, rfl, .inl h1, out.fz fh (.int _)⟩
theorem rep_gl {v : V} {g : Nat} (h : Rep G F H v (.gl g) f) : v = G.gv g := by
  cases h with
  | fz h => cases h; rfl
theorem cr_isi (hK : X.K = G.K) (gok : GOk G X.w) : CallR X (.builtin "isinstance") (fun vs H Q => RB G (bopD .isi) vs H Q) := by
  intro pins s σ H xs us Q I r h
  obtain ⟨F, ds, d, fh, vw, hg, out⟩ := h
  cases vw with
  | nil => cases hg
  | cons v1 r1 => cases r1 with
    | nil => exfalso; rename_i a; cases a <;> simp [bopD] at hg
    | cons v2 r2 => cases r2 with
      | cons v3 r3 => exfalso; simp [bopD, cmpD, arD] at hg
      | nil =>
        rename_i x a y c
        cases c <;> (try (simp [bopD, cmpD, arD] at hg; done))
        rename_i g
        have hg : (isiD a g).map D.bl = some d := hg
        obtain ⟨b, hb, rfl⟩ := Option.map_eq_some_iff.mp hg
        unfold isiD at hb
        split at hb
        · rename_i n hn
          split at hb
          · cases hb
          · obtain ⟨t, ht, rfl⟩ := Option.map_eq_some_iff.mp hb
            obtain ⟨_, ra⟩ := v1 (fun z => by rw [z] at ht; cases ht)
            obtain ⟨_, rb⟩ := v2 (fun z => nomatch z)
            have ey := rep_gl rb
            rw [gok.ty _ _ hn] at ey
            subst ey
            exact call_isi pins s σ H _ us Q I r ⟨x, .ty n, .type t, .type n, _, rfl, .ty n, by rw [hK]; exact ty_of fh ra ht, by rw [hK]; exact kit_ty (kit_isTy _ (tyOf_mem ht) _ (tyName_mem hn)), out.fz fh (.bl _)⟩
        · cases hb
theorem cr_dict : CallR X (.type "dict") (fun vs H Q => RB G (bopD .dict1) vs H Q) := by
  intro pins s σ H xs us Q I r h
  obtain ⟨F, ds, d, fh, vw, hg, out⟩ := h
  cases vw with
  | nil => cases hg
  | cons v1 r1 => cases r1 with
    | cons v2 r2 =>
      exfalso
      cases r2 <;> simp [bopD, cmpD, arD] at hg
    | nil =>
      rename_i x a
      cases a <;> simp only [bopD] at hg <;> first | (cases hg; done) | skip
      case dct o t ks ds =>
        cases t with
        | true => cases hg
        | false =>
          simp only at hg
          split at hg
          · rename_i ha
            cases hg
            obtain ⟨_, ra⟩ := v1 (fun z => nomatch z)
            obtain ⟨a, kvs, g, rfl, h1, rfl, h2, _⟩ := rep_dK fh ra
            have fz := tups_of h2 ha
            cases r with
            | cons r1 rr =>
              cases rr
              obtain rfl := r1
              exact d_copyOf I (.inl h1) fun p s' n I' => ⟨.ref p, _, I', rfl, out.new fh n fun H2 _ hp => .dK hp fz.repL⟩
          · cases hg
end
end Dn
end L2
set_option Elab.async false
set_option linter.all false
set_option maxRecDepth 100000
set_option maxHeartbeats 1000000
/-! Calls of the program's own defs. -/
namespace L2
namespace Dn
open PySem PySem.Spec PyProof.Rows
section
variable {G : Gi} {W : WX} {X : Cx} {p q r : Bool} {σ : St} {F H : Hp} {f fp : List Addr} {e : Expr} {es : List Expr} {pos : Pos}
theorem pcount {l m : List Addr} (h : ∀ a, l.count a = m.count a) : l.Perm m := List.perm_iff_count.mpr h
theorem giveB_len : ∀ (bs : List (Nat × Path × D × Nat)) (ds : List D) (e : Env), (giveB bs ds e).length = e.length
  | [], _, _ => rfl
  | (i, p, rt, k) :: bs, ds, e => by
    show ((giveB bs ds e).set i _).length = _
    rw [List.length_set, giveB_len]
theorem fetch_len (fx : List Nat) : ∀ {ovs : List OV} {k : Nat} {e e2 : Env} {ds : List D} {bs : List (Nat × Path × D × Nat)}, fetchA fx k ovs e = some (ds, e2, bs) → e2.length = e.length
  | [], _, _, _, _, _, h => by cases h; rfl
  | .tmp d :: r, k, e, e2, ds, bs, h => by
    unfold fetchA at h
    split at h
    · rename_i h1
      cases h
      exact fetch_len fx h1
    · cases h
  | .plc i s :: r, k, e, e2, ds, bs, h => by
    unfold fetchA at h
    split at h
    · cases h
    · split at h
      · split at h
        · split at h
          · rename_i h1
            cases h
            rw [fetch_len fx h1, List.length_set]
          · cases h
        · cases h
      · split at h
        · rename_i h1
          cases h
          exact fetch_len fx h1
        · cases h
/-- arguments are taken out of the frame; behind the call they are put back -/
theorem fetch_ok (fx : List Nat) : ∀ {ovs : List OV} {k : Nat} {en e2 : Env} {ds : List D} {bs : List (Nat × Path × D × Nat)} {vs tvs : List V} {tds : List D} {fp f : List Addr},
    Fr G F H σ en tvs tds fp f → OVs H σ ovs vs tds tvs → fetchA fx k ovs en = some (ds, e2, bs) →
    ∃ fa fr, (f ++ fp).Perm (fa ++ fr) ∧ RepL G F H vs ds fa ∧
      ∀ (F2 H2 : Hp) (ds' : List D) (fa2 : List Addr), Same F F2 → (∀ b ∈ fr, H2 b = H b) → RepL G F2 H2 vs (ds'.drop k) fa2 → ∃ fp2 dr, (fp2 ++ dr).Perm (fa2 ++ fr) ∧ RepE G F2 H2 σ (giveB bs ds' e2) fp2
  | [], k, en, e2, ds, bs, vs, tvs, tds, fp, f, fr0, ov, h => by
    cases h
    cases ov
    obtain ⟨re, rl, nd, nf, fh⟩ := fr0
    cases rl
    refine ⟨[], fp, .refl _, .nil, fun F2 H2 ds' fa2 s k2 q => ⟨fp, [], ?_, re.move s k2⟩⟩
    generalize ds'.drop k = z at q
    cases q
    simp
  | .tmp d :: r, k, en, e2, ds, bs, vs, tvs, tds, fp, f, fr0, ov, h => by
    unfold fetchA at h
    split at h
    · rename_i ds1 e1 bs1 h1
      cases h
      cases ov with
      | tmp ov =>
        obtain ⟨re, rl, nd, nf, fh⟩ := fr0
        cases rl with
        | @cons v vs0 _ _ f1 f2 hd rl =>
          have fr1 : Fr G F H σ en _ _ fp f2 := ⟨re, rl, by rw [List.append_assoc] at nd; exact (List.nodup_append.mp nd).2.1, fun b hb => nf b (by rw [List.append_assoc]; exact List.mem_append_right _ hb), fh⟩
          obtain ⟨fa, fr, p1, p2, p3⟩ := fetch_ok fx fr1 ov h1
          refine ⟨f1 ++ fa, fr, ?_, .cons hd p2, fun F2 H2 ds' fa2 s k2 q => ?_⟩
          · rw [List.append_assoc, List.append_assoc]
            exact List.Perm.append_left f1 p1
          · cases hq : ds'.drop k with
            | nil => rw [hq] at q; cases q
            | cons d0 dr =>
              rw [hq] at q
              have e4 : ds'.drop (k + 1) = dr := by rw [← List.drop_drop, hq]; rfl
              cases q with
              | @cons _ _ _ _ g1 g2 q1 q2 =>
                obtain ⟨fp2, dr2, r1, r2⟩ := p3 F2 H2 ds' g2 s k2 (by rw [e4]; exact q2)
                refine ⟨fp2, g1 ++ dr2, ?_, r2⟩
                refine pcount fun a => ?_
                have := r1.count_eq a
                simp only [List.count_append] at this ⊢
                omega
    · cases h
  | .plc i s :: r, k, en, e2, ds, bs, vs, tvs, tds, fp, f, fr0, ov, h => by
    unfold fetchA at h
    split at h
    · cases h
    rename_i hno
    have hno : getD (en.at i) s ≠ .no := isNo_ne.mp (by simpa using hno)
    cases ov with
    | plc h1 h2 ov =>
      rename_i v0 v vs0
      split at h
      · -- lent
        rename_i ho
        split at h
        · split at h
          · rename_i ds1 e1 bs1 h3
            cases h
            obtain ⟨re, rl, nd, nf, fh⟩ := fr0
            have hi : i < en.length := at_lt fun z => hno (by rw [z, getD_no])
            obtain ⟨o, fi, rest, k1, k2, k3, k4⟩ := re.at hi
            rw [h1] at k1
            cases k1
            cases k2 with
            | some k2 =>
              obtain ⟨w, fd, rs, j1, j2, j3, j4⟩ := k2.at s ho
              rw [h2] at j1
              cases j1
              obtain ⟨fp1, g1, g2⟩ := k4 F H (some v0) .no [] (Same.refl F) (fun _ _ => rfl) (.some (.fz (.no v0)))
              rw [set_self h1] at g2
              have pm : (f ++ fp).Perm ((f ++ fp1) ++ (fd ++ rs)) := pcount fun a => by
                have a1 := k3.count_eq a
                have a2 := j3.count_eq a
                have a3 := g1.count_eq a
                simp only [List.count_append, List.count_nil] at a1 a2 a3 ⊢
                omega
              have nd' := pm.nodup_iff.mp nd
              have fr1 : Fr G F H σ (en.set i .no) _ _ fp1 f := ⟨g2, rl, (List.nodup_append.mp nd').1, fun b hb => nf b (pm.mem_iff.mpr (List.mem_append_left _ hb)), fh⟩
              obtain ⟨fa, fr, p1, p2, p3⟩ := fetch_ok fx fr1 ov h3
              refine ⟨fd ++ fa, rs ++ fr, ?_, .cons j2 p2, fun F2 H2 ds' fa2 sm kk q => ?_⟩
              · refine pcount fun a => ?_
                have a1 := pm.count_eq a
                have a2 := p1.count_eq a
                simp only [List.count_append] at a1 a2 ⊢
                omega
              · cases hq : ds'.drop k with
                | nil => rw [hq] at q; cases q
                | cons d0 dr =>
                  rw [hq] at q
                  have e4 : ds'.drop (k + 1) = dr := by rw [← List.drop_drop, hq]; rfl
                  have e5 : ds'.getD k .no = d0 := by
                    rw [List.getD_eq_getElem?_getD]
                    have : (ds'.drop k)[0]? = some d0 := by rw [hq]; rfl
                    rw [List.getElem?_drop] at this
                    rw [Nat.add_zero] at this
                    rw [this]
                    rfl
                  cases q with
                  | @cons _ _ _ _ q1f q2f q1 q2 =>
                    obtain ⟨fp2, dr2, r1, r2⟩ := p3 F2 H2 ds' q2f sm (fun b hb => kk b (List.mem_append_right _ hb)) (by rw [e4]; exact q2)
                    obtain ⟨gi, t1, t2⟩ := j4 F2 H2 d0 q1f sm (fun b hb => kk b (List.mem_append_left _ hb)) q1
                    have hl : i < (giveB bs1 ds' e2).length := by rw [giveB_len, fetch_len fx h3, List.length_set]; exact hi
                    obtain ⟨o', fi', rest', u1, u2, u3, u4⟩ := r2.at hl
                    obtain ⟨fp3, w1, w2⟩ := u4 F2 H2 (some v0) _ gi (Same.refl F2) (fun _ _ => rfl) (.some t2)
                    rw [set_self h1] at w2
                    refine ⟨fp3, fi' ++ dr2, ?_, by show RepE G F2 H2 σ ((giveB bs1 ds' e2).set i (setD (en.at i) s (ds'.getD k .no))) fp3; rw [e5]; exact w2⟩
                    refine pcount fun a => ?_
                    have a1 := r1.count_eq a
                    have a2 := t1.count_eq a
                    have a3 := u3.count_eq a
                    have a4 := w1.count_eq a
                    simp only [List.count_append] at a1 a2 a3 a4 ⊢
                    omega
          · cases h
        · cases h
      · rename_i ho
        split at h
        · rename_i ds1 e1 bs1 h3
          cases h
          obtain ⟨v0', v', g, q1, q2, q3, _⟩ := fr0.place hno
          rw [h1] at q1
          cases q1
          rw [h2] at q2
          cases q2
          have ho' : (getD (en.at i) s).own = false := by simpa using ho
          obtain ⟨fz, rfl⟩ := q3.fz_of ho'
          obtain ⟨fa, fr, p1, p2, p3⟩ := fetch_ok fx fr0 ov h3
          refine ⟨fa, fr, p1, .cons (f := []) (.fz fz) p2, fun F2 H2 ds' fa2 sm kk q => ?_⟩
          cases hq : ds'.drop k with
          | nil => rw [hq] at q; cases q
          | cons d0 dr =>
            rw [hq] at q
            have e4 : ds'.drop (k + 1) = dr := by rw [← List.drop_drop, hq]; rfl
            cases q with
            | @cons _ _ _ _ g1 g2 q1 q2 =>
              obtain ⟨fp2, dr2, r1, r2⟩ := p3 F2 H2 ds' g2 sm kk (by rw [e4]; exact q2)
              refine ⟨fp2, g1 ++ dr2, ?_, r2⟩
              refine pcount fun a => ?_
              have := r1.count_eq a
              simp only [List.count_append] at this ⊢
              omega
        · cases h
/-- a def of the program, as the evaluator has it -/
def spDn (G : Gi) (call : Call) (fn : Nat) : Sp := fun vs H Q E => ∃ F ds fa, Fr G F H [] [] vs ds [] fa ∧ match call fn ds with
  | .ok d ds' => ∀ (F' H' : Hp) (v : V) (f' : List Addr), Step false F H fa F' H' f' → Fr G F' H' [] [] (v :: vs) (d :: ds') [] f' → Q v H'
  | .exc x ds' => ∀ (F' H' : Hp) (f' : List Addr) (cls : Value) (dx : Option Addr), Step false F H fa F' H' f' → Fr G F' H' [] [] vs ds' [] f' → XR G F' H' x cls dx → E cls dx H'
  | .stuck => False
theorem call_read {P : Prog} {call : Call} {fn : Nat} {ms : M (List OV)} {Q : VK} (h : TV G W false (cCall P call fn ms) σ H Q) : TOs G W p ms σ H fun vs H1 => spDn G call fn vs H1 Q (WE W σ) := by
  obtain ⟨F, en, fp, fr, h⟩ := h
  refine ⟨F, en, fp, fr, ?_⟩
  unfold cCall at h
  cases e1 : ms en with
  | ok ovs en1 =>
    rw [e1] at h
    dsimp only at h
    refine fun F1 H1 vs tvs tds fp1 f1 s1 fr1 ov1 => ?_
    split at h
    · rename_i fd hfd
      split at h
      · rename_i hl
        split at h
        · rename_i ds e2 bs h2
          obtain ⟨fa, frr, p1, p2, p3⟩ := fetch_ok fd.fx fr1 ov1 h2
          have nd := p1.nodup_iff.mp fr1.nd
          obtain ⟨n1, n2, n3⟩ := nodup_app.mp nd
          have dom : ∀ b ∈ fa ++ frr, H1 b ≠ none := fun b hb => by
            have := p1.mem_iff.mpr hb
            exact (List.mem_append.mp this).elim (fr1.rl.dom b) (fr1.re.dom b)
          have nfF : ∀ b ∈ fa ++ frr, F1 b = none := fun b hb => fr1.nf b (p1.mem_iff.mpr hb)
          refine ⟨F1, ds, fa, ⟨.nil, p2, by rw [List.append_nil]; exact n1, fun b hb => nfF b (List.mem_append_left _ (by rwa [List.append_nil] at hb)), fr1.fh⟩, ?_⟩
          -- what stays beside the call
          have out : ∀ {F' H' : Hp} {f' : List Addr}, Step false F1 H1 fa F' H' f' → (∀ b ∈ frr, H' b = H1 b) ∧ (∀ b ∈ frr, b ∉ f') ∧ (∀ b ∈ frr, F' b = none) := fun {F' H' f'} s =>
            let ⟨a1, a2, a3⟩ := s.out (g := frr) (fun b hb => dom b (List.mem_append_right _ hb)) (fun b hb z => n3 b z hb)
            ⟨a1, a2, a3 fun b hb => nfF b (List.mem_append_right _ hb)⟩
          have step : ∀ {F' H' : Hp} {f' g g' : List Addr}, Step false F1 H1 fa F' H' f' → (∀ b ∈ g', b ∈ f' ∨ b ∈ frr) → Step false F H fp F' H' g' := fun {F' H' f' g g'} s k => by
            have s2 : Step false F1 H1 (f1 ++ fp1) F' H' g' := s.weak (fun b hb => p1.mem_iff.mpr (List.mem_append_left _ hb)) (fun b hb => (k b hb).elim .inl fun z => .inr (.inl (p1.mem_iff.mpr (List.mem_append_right _ z)))) id
            exact (s1.trans s2).any fun z => nomatch z
          split at h
          · rename_i d ds' h3
            (try rw [h3])
            refine fun F' H' v f' s2 fr2 => ?_
            obtain ⟨a1, a2, a3⟩ := out s2
            obtain ⟨_, rl2, nd2, nf2, fh2⟩ := fr2
            cases rl2 with
            | @cons _ _ _ _ g1 g2 r1 r2 =>
              obtain ⟨fp2, dr, w1, w2⟩ := p3 F' H' ds' g2 s2.ff a1 r2
              rw [List.append_nil] at nd2 nf2
              have ndA : (g1 ++ (g2 ++ frr)).Nodup := by
                rw [← List.append_assoc]
                exact nodup_app.mpr ⟨nd2, n2, fun b hb hm => a2 b hm hb⟩
              have pm : (g1 ++ (g2 ++ frr)).Perm ((g1 ++ fp2) ++ dr) := by
                rw [List.append_assoc]
                exact List.Perm.append_left g1 w1.symm
              have ndB := pm.nodup_iff.mp ndA
              refine h F' H' v fp2 g1 (step (g := []) s2 fun b hb => ?_) ⟨w2, ?_, (List.nodup_append.mp ndB).1, fun b hb => ?_, fh2⟩
              · have := pm.mem_iff.mpr (List.mem_append_left _ hb)
                rw [← List.append_assoc] at this
                exact List.mem_append.mp this
              · have := RepL.cons r1 (RepL.nil (G := G) (F := F') (H := H'))
                rw [List.append_nil] at this
                exact this
              · have := pm.mem_iff.mpr (List.mem_append_left _ hb)
                rw [← List.append_assoc] at this
                exact (List.mem_append.mp this).elim (nf2 b) (a3 b)
          · rename_i x ds' h3
            (try rw [h3])
            refine fun F' H' f' cls dx s2 fr2 xr => ?_
            obtain ⟨a1, a2, a3⟩ := out s2
            obtain ⟨_, rl2, nd2, nf2, fh2⟩ := fr2
            obtain ⟨fp2, dr, w1, w2⟩ := p3 F' H' ds' f' s2.ff a1 rl2
            rw [List.append_nil] at nd2 nf2
            have ndB := w1.symm.nodup_iff.mp (nodup_app.mpr ⟨nd2, n2, fun b hb hm => a2 b hm hb⟩)
            refine h F' H' fp2 cls dx (step (g := []) s2 fun b hb => List.mem_append.mp (w1.mem_iff.mp (List.mem_append_left _ hb))) ⟨w2, .nil, (List.nodup_append.mp ndB).1, fun b hb => ?_, fh2⟩ xr
            exact (List.mem_append.mp (w1.mem_iff.mp (List.mem_append_left _ hb))).elim (nf2 b) (a3 b)
          · exact h.elim
        · exact h.elim
      · exact h.elim
    · exact h.elim
  | exc x en1 => rw [e1] at h; exact h
  | stuck => rw [e1] at h; exact h
end
end Dn
end L2
set_option Elab.async false
set_option linter.all false
set_option maxRecDepth 100000
set_option maxHeartbeats 1000000
/-! Methods, new instances; the rules for calls. -/
namespace L2
namespace Dn
open PySem PySem.Spec PyProof.Rows
section
variable {G : Gi} {W : WX} {X : Cx} {p q r : Bool} {σ : St} {F H : Hp} {f fp : List Addr} {e o : Expr} {es : List Expr} {pos apos : Pos}
/-- a def of the program, called as it stands in the top -/
structure Callee (X : Cx) (k : Nat) (x : Str) (sp : Sp) : Prop where
  ex : ∃ (g : Addr) (fd : FuncData) (ps : List Str), FnOk X.prog X.w X.K X.mg X.base (L2.CX X.prog X.w) k g fd ps sp ∧ X.mg x = some (.ref g) ∧ PySem.W.keepIn X.K (.ref g) = true ∧ Binds X.K fd ps []
structure MethOk (X : Cx) (k : Nat) (C : Addr) (m : Str) (sp : Sp) : Prop where
  ex : ∃ (g : Addr) (fd : FuncData) (ps : List Str), FnOk X.prog X.w X.K X.mg X.base (L2.CX X.prog X.w) k g fd ps sp ∧ Meth X.K C m g ∧ Binds X.K fd ps []
structure MakeOk (X : Cx) (k : Nat) (C : Addr) (x : Str) (sp : Sp) : Prop where
  ex : ∃ (g : Addr) (fd : FuncData) (ps : List Str), FnOk X.prog X.w X.K X.mg X.base (L2.CX X.prog X.w) k g fd ps sp ∧ Mk X.K C g ∧ X.mg x = some (.ref C) ∧ Binds X.K fd ps []
def tCS (sp : Sp) (W : WX) (t : TA) : TE := fun σ H Q => t σ H fun vs H1 => sp vs H1 Q (WE W σ)
theorem pe_cs {k : Nat} {x : Str} {sp : Sp} {t : TA} {pn : Pos} (c : Callee X k x sp) (tk : Takes X W) (hr : Room k X.A) (hg : Gl X x) (ha : PA X (e :: es) t) (hdb : (x == ("__debug__" : Str)) = false)
    (he : starEach (e :: es) X.env = (false, eval e X.env) :: starEach es X.env) (hpl : (backTo pos (starEach es X.env)).any (·.1) = false) : PE X (.Call (.Name x pn) (e :: es) [] pos) (tCS sp W t) := by
  obtain ⟨g, fd, ps, F, hm, hk, b⟩ := c.ex
  exact (pe_callSD F hr hg hm hk b .nil (fun σ => passAt tk σ) ha hdb he hpl).imp fun σ H Q h => by
    show t σ H fun vs H1 => sp (vs ++ []) H1 Q (WE W σ)
    simp only [List.append_nil]
    exact h
theorem pe_cs0 {k : Nat} {x : Str} {sp : Sp} {pn : Pos} (c : Callee X k x sp) (tk : Takes X W) (hr : Room k X.A) (hg : Gl X x) (hdb : (x == ("__debug__" : Str)) = false) : PE X (.Call (.Name x pn) [] [] pos) (tCS sp W tNil) := by
  obtain ⟨g, fd, ps, F, hm, hk, b⟩ := c.ex
  refine ⟨fun pins s σ H Q I h => ?_⟩
  refine wpAny_Call_Name_kw (ld_glob I hg hm ?_ hdb)
  exact PySem.W.callWith_K0 I.kIn hk (run_fnSD (us := []) (E := fun σ => WE W σ) F hr b .nil (passAt tk σ) I .nil h)
def tMS (C : Addr) (m : Str) (sp : Sp) (W : WX) (ta : TE) (t : TA) : TE := fun σ H Q => ta σ H fun x H1 => ∃ a dx fs, x = .ref a ∧ H1 a = some (.ins C dx fs) ∧ fs.lookup m = none ∧ t σ H1 fun vs H2 => sp (x :: vs) H2 Q (WE W σ)
theorem pe_ms {k : Nat} {C : Addr} {m : Str} {sp : Sp} {ta : TE} {t : TA} (he : PE X o ta) (cl : Cls X.K C) (c : MethOk X k C m sp) (tk : Takes X W) (hr : Room k X.A) (ha : PA X (e :: es) t)
    (hst : starEach (e :: es) X.env = (false, eval e X.env) :: starEach es X.env) (hpl : (backTo pos (starEach es X.env)).any (·.1) = false) {pl : Sem Bool}
    (ht : eval (.Call (.Attribute o m apos) (e :: es) [] pos) X.env = (do
      let ov ← eval o X.env
      standAt apos.atName
      let (f, first) ← holding [ov] (getMethod ov m pl)
      callWith pos f first (backTo pos (starEach (e :: es) X.env)) (backToKw pos (keywordEach [] X.env)))) :
    PE X (.Call (.Attribute o m apos) (e :: es) [] pos) (tMS C m sp W ta t) := by
  obtain ⟨g, fd, ps, F, hm, b⟩ := c.ex
  refine ⟨fun pins s σ H Q I h => ?_⟩
  refine PySem.W.methodCall_KW (pl := pl) (thn (he.run pins s σ H _ I h) fun u s1 ⟨x, H1, I1, rx, a, dx, fs, ex, ea, l, q⟩ => ?_) ht
  subst ex
  obtain rfl : u = Value.ref a := rx
  refine getmeth_ok I1 ea cl hm l ?_
  refine PySem.W.callWith_K (first := [.ref a]) (h₀ := X.base) I.ok.mod.kin hm.kp (thn (ha.run pos pins s1 σ H1 _ I1 q) fun us s2 ⟨vs, H2, I2, r, q2⟩ => ⟨I2.kIn, ?_⟩) hst hpl
  exact run_fnSD (us := .ref a :: us) (vs := .ref a :: vs) (E := fun σ => WE W σ) F hr b .nil (passAt tk σ) I2 (.cons rfl r) (by rw [List.append_nil]; exact q2)
theorem pe_ms0 {k : Nat} {C : Addr} {m : Str} {sp : Sp} {ta : TE} (he : PE X o ta) (cl : Cls X.K C) (c : MethOk X k C m sp) (tk : Takes X W) (hr : Room k X.A) {pl : Sem Bool}
    (ht : eval (.Call (.Attribute o m apos) [] [] pos) X.env = (do
      let ov ← eval o X.env
      standAt apos.atName
      let (f, first) ← holding [ov] (getMethod ov m pl)
      callWith pos f first (backTo pos (starEach [] X.env)) (backToKw pos (keywordEach [] X.env)))) :
    PE X (.Call (.Attribute o m apos) [] [] pos) (tMS C m sp W ta tNil) := by
  obtain ⟨g, fd, ps, F, hm, b⟩ := c.ex
  refine ⟨fun pins s σ H Q I h => ?_⟩
  refine PySem.W.methodCall_KW (pl := pl) (thn (he.run pins s σ H _ I h) fun u s1 ⟨x, H1, I1, rx, a, dx, fs, ex, ea, l, q⟩ => ?_) ht
  subst ex
  obtain rfl : u = Value.ref a := rx
  refine getmeth_ok I1 ea cl hm l ?_
  exact PySem.W.callWith_K0 (first := [.ref a]) I1.kIn hm.kp (run_fnSD (us := [.ref a]) (vs := [.ref a]) (E := fun σ => WE W σ) F hr b .nil (passAt tk σ) I1 (.cons rfl .nil) q)
def tMkS (C : Addr) (sp : Sp) (W : WX) (t : TA) : TE := fun σ H Q => t σ H fun vs H1 => ∀ x dx, H1 x = none → H1 dx = none → dx ≠ x →
  sp (.ref x :: vs) (upd (upd H1 dx (.own x)) x (.ins C dx [])) (fun v H2 => v = .non ∧ Q (.ref x) H2) (WE W σ)
theorem run_makeS {k : Nat} {C : Addr} {g : Addr} {fd : FuncData} {ps : List Str} {sp : Sp} {pins : List (Addr × Obj)} {s : Shared} {Q : VK} {us : List Value} {vs : List V} (M : Mk X.K C g) (Fn : FnOk X.prog X.w X.K X.mg X.base (L2.CX X.prog X.w) k g fd ps sp) (hr : Room (k + 1) X.A) (hb : Binds X.K fd ps [])
    (tk : Takes X W) (I : Inv X pins σ H s) (r : Vals vs us)
    (h : ∀ x dx, H x = none → H dx = none → dx ≠ x → sp (.ref x :: vs) (upd (upd H dx (.own x)) x (.ins C dx [])) (fun v H2 => v = .non ∧ Q (.ref x) H2) (WE W σ)) :
    wpAny (model X.prog X.w) X.A (call (.ref C) us) (EP X pins σ Q) X.xe s := by
  have start := h (s.heap.objs.size + 1) s.heap.objs.size (I.hok.fresh (Nat.le_add_right _ 1)) (I.hok.fresh (Nat.le_refl _)) (fun z => absurd z (Nat.ne_of_lt (Nat.lt_succ_self _)))
  have made := Inv.made (C := C) I
  have given : Vals (V.ref (s.heap.objs.size + 1) :: vs) (Value.ref (s.heap.objs.size + 1) :: us ++ []) := by rw [List.append_nil]; exact .cons rfl r
  have bound := hb _ (Value.ref (s.heap.objs.size + 1) :: us) made.kIn (by rw [← given.length]; exact Fn.len _ _ _ _ start)
  have ran := Fn.run _ X.stack _ _ ⟨Value.ref (s.heap.objs.size + 1) :: us, []⟩ _ _ _ (WE W σ) (hr.make C us []) (made.env0.make C us []) bound given start
  refine wpAny_call (make_map (f := g) I.kIn M.makes M.init (beq_iff_eq.mp M.fn) (codeAny_mono ran fun res s' fin => ?_))
  match res, fin with
  | .error e, fin => exact passAt tk σ pins _ _ e s' made fin
  | .ok (.ret u), fin =>
    obtain ⟨v, H', I3, rv, rfl, q3⟩ := made.after fin
    exact ⟨rv, ⟨V.ref (s.heap.objs.size + 1), H', I3, rfl, q3⟩⟩
  | .ok .next, fin => exact fin.elim
  | .ok .brk, fin => exact fin.elim
  | .ok .cont, fin => exact fin.elim
theorem pe_mks {k : Nat} {C : Addr} {x : Str} {sp : Sp} {t : TA} {pn : Pos} (c : MakeOk X k C x sp) (kp : PySem.W.keepIn X.K (.ref C) = true) (tk : Takes X W) (hr : Room (k + 1) X.A) (hg : Gl X x) (ha : PA X (e :: es) t) (hdb : (x == ("__debug__" : Str)) = false)
    (he : starEach (e :: es) X.env = (false, eval e X.env) :: starEach es X.env) (hpl : (backTo pos (starEach es X.env)).any (·.1) = false) : PE X (.Call (.Name x pn) (e :: es) [] pos) (tMkS C sp W t) := by
  obtain ⟨g, fd, ps, F, M, hm, b⟩ := c.ex
  refine ⟨fun pins s σ H Q I h => ?_⟩
  refine wpAny_Call_Name_kw (ld_glob I hg hm ?_ hdb)
  refine PySem.W.callWith_K (h₀ := X.base) I.ok.mod.kin M.kp (thn (ha.run pos pins s σ H _ I h) fun us s1 ⟨vs, H1, I1, r, q⟩ => ⟨I1.kIn, ?_⟩) he hpl
  exact run_makeS M F hr b tk I1 r q
/-! ### readings -/
theorem chk_read {mo : M OV} {c : Nat} {Q : VK} (hK : X.K = G.K) (h : TO G W p (oChk c mo) σ H Q) : TO G W p mo σ H fun v H1 => (∃ a dx fs, v = .ref a ∧ H1 a = some (.ins (G.cls c) dx fs) ∧ ∀ y ∈ fs.map (·.1), y ∈ G.fnm c) ∧ Q v H1 := by
  obtain ⟨F, en, fp, fr, h⟩ := h
  refine ⟨F, en, fp, fr, ?_⟩
  unfold oChk at h
  cases e1 : mo en with
  | ok ov en1 =>
    rw [e1] at h
    dsimp only at h
    refine fun F1 H1 v tvs tds fp1 f1 s1 fr1 ov1 => ?_
    cases e2 : ov.get en1 <;> rw [e2] at h <;> first | exact h.elim | skip
    rename_i oo c' ds
    dsimp only at h
    by_cases hc : c' = c
    · rw [if_pos hc] at h
      subst hc
      refine ⟨?_, h F1 H1 v tvs tds fp1 f1 s1 fr1 ov1⟩
      obtain ⟨d, ed, vw⟩ := (fr1.views ov1).get1
      have ed' : ov.get en1 = d := by
        have : [ov.get en1] = [d] := ed
        exact (List.cons.inj this).1
      rw [e2] at ed'
      subst ed'
      obtain ⟨g, rp⟩ := vw (fun z => nomatch z)
      have nm : ∀ {fs : List (Str × V)}, fs.map (·.1) = (G.fnm c').take ds.length → ∀ y ∈ fs.map (·.1), y ∈ G.fnm c' := fun e y hy => by
        rw [e] at hy
        exact List.mem_of_mem_take hy
      cases rp with
      | fz z => cases z with
        | obj h1 h2 h3 h4 => exact ⟨_, _, _, rfl, fr1.fh _ _ h1, nm h3⟩
      | obj h1 h2 h3 h4 => exact ⟨_, _, _, rfl, h1, nm h3⟩
    · rw [if_neg hc] at h
      exact h.elim
  | exc x en1 => rw [e1] at h; exact h
  | stuck => rw [e1] at h; exact h
theorem lookup_not {m : Str} : ∀ {fs : List (Str × V)}, m ∉ fs.map (·.1) → fs.lookup m = none
  | [], _ => rfl
  | (n, v) :: fs, h => by
    rw [List.lookup_cons]
    rw [List.map_cons, List.mem_cons, not_or] at h
    rw [show (m == n) = false from beq_eq_false_iff_ne.mpr h.1]
    exact lookup_not h.2
theorem stay_chk {mo : M OV} {c : Nat} (h : Stay mo) : Stay (oChk c mo) := fun en i s en' e => by
  unfold oChk at e
  cases e1 : mo en with
  | ok ov en1 =>
    rw [e1] at e
    dsimp only at e
    split at e
    · split at e
      · cases e
        exact h en i s en' e1
      · cases e
    · cases e
  | exc x en1 => rw [e1] at e; cases e
  | stuck => rw [e1] at e; cases e
theorem tv_meth {P : Prog} {call : Call} {fn c k : Nat} {m : Str} {mo : M OV} {ms : M (List OV)} {pl : Sem Bool} (hK : X.K = G.K) (cok : ClsOk G c) (hm : m ∉ G.fnm c) (ho : PE X o (TO G W p mo)) (mk : MethOk X k (G.cls c) m (spDn G call fn)) (tk : Takes X W) (hr : Room k X.A)
    (ha : PA X (e :: es) (TOs G W q ms)) (hst2 : q = true ∨ Stay mo)
    (hst : starEach (e :: es) X.env = (false, eval e X.env) :: starEach es X.env) (hpl : (backTo pos (starEach es X.env)).any (·.1) = false)
    (ht : eval (.Call (.Attribute o m apos) (e :: es) [] pos) X.env = (do
      let ov ← eval o X.env
      standAt apos.atName
      let (f, first) ← holding [ov] (getMethod ov m pl)
      callWith pos f first (backTo pos (starEach (e :: es) X.env)) (backToKw pos (keywordEach [] X.env)))) :
    PE X (.Call (.Attribute o m apos) (e :: es) [] pos) (TV G W false (cCall P call fn (lCons (oChk c mo) ms))) :=
  (pe_ms ho (by rw [hK]; exact cok.cl) mk tk hr ha hst hpl ht).imp fun σ H Q h => by
    have h1 := tos_cons_r (p := p) (q := q) (hst2.imp id stay_chk) (call_read (p := p && q) h)
    have h2 := chk_read hK h1
    obtain ⟨F, en, fp, fr, h2⟩ := h2
    exact ⟨F, en, fp, fr, Aft.step h2 Step.refl fun ov en1 e1 h2 F1 H1 v tvs tds fp1 f1 s1 fr1 ov1 =>
      let ⟨⟨a, dx, fs, e2, e3, e4⟩, h3⟩ := h2 F1 H1 v tvs tds fp1 f1 s1 fr1 ov1
      ⟨a, dx, fs, e2, e3, lookup_not fun z => hm (e4 m z), h3⟩⟩
theorem tv_meth0 {P : Prog} {call : Call} {fn c k : Nat} {m : Str} {mo : M OV} {pl : Sem Bool} (hK : X.K = G.K) (cok : ClsOk G c) (hm : m ∉ G.fnm c) (ho : PE X o (TO G W p mo)) (mk : MethOk X k (G.cls c) m (spDn G call fn)) (tk : Takes X W) (hr : Room k X.A)
    (ht : eval (.Call (.Attribute o m apos) [] [] pos) X.env = (do
      let ov ← eval o X.env
      standAt apos.atName
      let (f, first) ← holding [ov] (getMethod ov m pl)
      callWith pos f first (backTo pos (starEach [] X.env)) (backToKw pos (keywordEach [] X.env)))) :
    PE X (.Call (.Attribute o m apos) [] [] pos) (TV G W false (cCall P call fn (lCons (oChk c mo) lNil))) :=
  (pe_ms0 ho (by rw [hK]; exact cok.cl) mk tk hr ht).imp fun σ H Q h => by
    have h1 := tos_cons_r (p := p) (q := true) (.inl rfl) (call_read (p := p && true) h)
    have h2 := chk_read hK h1
    obtain ⟨F, en, fp, fr, h2⟩ := h2
    exact ⟨F, en, fp, fr, Aft.step h2 Step.refl fun ov en1 e1 h2 F1 H1 v tvs tds fp1 f1 s1 fr1 ov1 =>
      let ⟨⟨a, dx, fs, e2, e3, e4⟩, h3⟩ := h2 F1 H1 v tvs tds fp1 f1 s1 fr1 ov1
      ⟨a, dx, fs, e2, e3, lookup_not fun z => hm (e4 m z), tos_nil_r h3⟩⟩
theorem tv_call {P : Prog} {call : Call} {fn k : Nat} {x : Str} {ms : M (List OV)} {pn : Pos} (c : Callee X k x (spDn G call fn)) (tk : Takes X W) (hr : Room k X.A) (hg : Gl X x) (ha : PA X (e :: es) (TOs G W p ms)) (hdb : (x == ("__debug__" : Str)) = false)
    (he : starEach (e :: es) X.env = (false, eval e X.env) :: starEach es X.env) (hpl : (backTo pos (starEach es X.env)).any (·.1) = false) : PE X (.Call (.Name x pn) (e :: es) [] pos) (TV G W false (cCall P call fn ms)) :=
  (pe_cs c tk hr hg ha hdb he hpl).imp fun σ H Q h => call_read h
theorem tv_call0 {P : Prog} {call : Call} {fn k : Nat} {x : Str} {pn : Pos} (c : Callee X k x (spDn G call fn)) (tk : Takes X W) (hr : Room k X.A) (hg : Gl X x) (hdb : (x == ("__debug__" : Str)) = false) : PE X (.Call (.Name x pn) [] [] pos) (TV G W false (cCall P call fn lNil)) :=
  (pe_cs0 c tk hr hg hdb).imp fun σ H Q h => tos_nil_r (call_read (p := true) h)
end
end Dn
end L2
set_option Elab.async false
set_option linter.all false
set_option maxRecDepth 100000
set_option maxHeartbeats 1000000
/-! New instances; methods of lists; fields of values; chains. -/
namespace L2
namespace Dn
open PySem PySem.Spec PyProof.Rows
section
variable {G : Gi} {W : WX} {X : Cx} {p q r : Bool} {σ : St} {F H : Hp} {f fp : List Addr} {e o a b c : Expr} {es : List Expr} {pos apos : Pos}
theorem mk_read {P : Prog} {call : Call} {cl : Nat} {ms : M (List OV)} {Q : VK} (h : TV G W false (cMk P call cl ms) σ H Q) : TOs G W p ms σ H fun vs H1 => ∀ x dx, H1 x = none → H1 dx = none → dx ≠ x →
    spDn G call (P.init cl) (.ref x :: vs) (upd (upd H1 dx (.own x)) x (.ins (G.cls cl) dx [])) (fun v H2 => v = .non ∧ Q (.ref x) H2) (WE W σ) := by
  obtain ⟨F, en, fp, fr, h⟩ := h
  refine ⟨F, en, fp, fr, ?_⟩
  unfold cMk at h
  cases e1 : ms en with
  | ok ovs en1 =>
    rw [e1] at h
    dsimp only at h
    refine fun F1 H1 vs tvs tds fp1 f1 s1 fr1 ov1 x dx nx nd ne => ?_
    split at h
    · rename_i fd hfd
      split at h
      · rename_i hl
        split at h
        · rename_i ds e2 bs h2
          obtain ⟨fa, frr, p1, p2, p3⟩ := fetch_ok fd.fx fr1 ov1 h2
          obtain ⟨H2, eH2⟩ : ∃ H2, H2 = upd (upd H1 dx (.own x)) x (.ins (G.cls cl) dx []) := ⟨_, rfl⟩
          have hk : ∀ b, b ≠ x → b ≠ dx → H2 b = H1 b := fun b h1 h2 => by rw [eH2, upd_ne h1, upd_ne h2]
          have hx : H2 x = some (.ins (G.cls cl) dx []) := by rw [eH2, upd_same]
          have hdx : H2 dx = some (.own x) := by rw [eH2, upd_ne ne, upd_same]
          have sm : Same H1 H2 := fun b u z => by rw [hk b (ne_of_none z nx) (ne_of_none z nd)]; exact z
          rw [← eH2]
          have nodp := p1.nodup_iff.mp fr1.nd
          obtain ⟨n1, n2, n3⟩ := nodup_app.mp nodp
          have dom : ∀ b ∈ fa ++ frr, H1 b ≠ none := fun b hb => by
            have := p1.mem_iff.mpr hb
            exact (List.mem_append.mp this).elim (fr1.rl.dom b) (fr1.re.dom b)
          have nfF : ∀ b ∈ fa ++ frr, F1 b = none := fun b hb => fr1.nf b (p1.mem_iff.mpr hb)
          have nxa : x ∉ fa ++ frr := fun hb => dom x hb nx
          have nda : dx ∉ fa ++ frr := fun hb => dom dx hb nd
          have hk2 : ∀ b ∈ fa ++ frr, H2 b = H1 b := fun b hb => hk b (fun z => nxa (by rw [← z]; exact hb)) (fun z => nda (by rw [← z]; exact hb))
          have nfx : ∀ b ∈ x :: dx :: fa, F1 b = none := fun b hb => by
            rcases List.mem_cons.mp hb with rfl | hb
            · exact fr1.fh.free nx
            · rcases List.mem_cons.mp hb with rfl | hb
              · exact fr1.fh.free nd
              · exact nfF b (List.mem_append_left _ hb)
          have rp : Rep G F1 H2 (.ref x) (.obj true cl []) [x, dx] := by
            have := Rep.obj (G := G) (F := F1) (H := H2) (a := x) (dx := dx) (c := cl) (fs := []) (ds := []) hx hdx rfl RepL.nil
            exact this
          have rl2 : RepL G F1 H2 (.ref x :: vs) (.obj true cl [] :: ds) (x :: dx :: fa) := RepL.cons rp (p2.move (Same.refl F1) fun b hb => hk2 b (List.mem_append_left _ hb))
          have ndx : (x :: dx :: fa).Nodup := by
            refine List.nodup_cons.mpr ⟨fun hb => ?_, List.nodup_cons.mpr ⟨fun hb => nda (List.mem_append_left _ hb), n1⟩⟩
            rcases List.mem_cons.mp hb with z | z
            · exact ne z.symm
            · exact nxa (List.mem_append_left _ z)
          refine ⟨F1, .obj true cl [] :: ds, x :: dx :: fa, ⟨.nil, rl2, by rw [List.append_nil]; exact ndx, fun b hb => nfx b (by rwa [List.append_nil] at hb), fr1.fh.trans sm⟩, ?_⟩
          have djx : ∀ b ∈ frr, b ∉ x :: dx :: fa := fun b hb hm => by
            rcases List.mem_cons.mp hm with z | hm
            · exact nxa (List.mem_append_right _ (by rw [← z]; exact hb))
            · rcases List.mem_cons.mp hm with z | hm
              · exact nda (List.mem_append_right _ (by rw [← z]; exact hb))
              · exact n3 b hm hb
          have out : ∀ {F' H' : Hp} {f' : List Addr}, Step false F1 H2 (x :: dx :: fa) F' H' f' → (∀ b ∈ frr, H' b = H1 b) ∧ (∀ b ∈ frr, b ∉ f') ∧ (∀ b ∈ frr, F' b = none) := fun {F' H' f'} s =>
            let ⟨a1, a2, a3⟩ := s.out (g := frr) (fun b hb => by rw [hk2 b (List.mem_append_right _ hb)]; exact dom b (List.mem_append_right _ hb)) djx
            ⟨fun b hb => (a1 b hb).trans (hk2 b (List.mem_append_right _ hb)), a2, a3 fun b hb => nfF b (List.mem_append_right _ hb)⟩
          have step : ∀ {F' H' : Hp} {f' g' : List Addr}, Step false F1 H2 (x :: dx :: fa) F' H' f' → (∀ b ∈ g', b ∈ f' ∨ b ∈ frr) → Step false F H fp F' H' g' := fun {F' H' f' g'} s k => by
            have none2 : ∀ b, H2 b = none → H1 b = none := fun b n => by
              cases e : H1 b with
              | none => rfl
              | some u => rw [sm b u e] at n; cases n
            have s2 : Step false F1 H1 (f1 ++ fp1) F' H' g' := by
              refine ⟨s.ff, fun b u z n => s.keep b u (sm b u z) fun hm => ?_, fun b hb => ?_, fun b z => ?_, fun z => nomatch z⟩
              · rcases List.mem_cons.mp hm with y | hm
                · rw [y, nx] at z; cases z
                · rcases List.mem_cons.mp hm with y | hm
                  · rw [y, nd] at z; cases z
                  · exact n (p1.mem_iff.mpr (List.mem_append_left _ hm))
              · rcases k b hb with z | z
                · rcases s.new b z with y | y
                  · rcases List.mem_cons.mp y with y | y
                    · rw [y]; exact .inr nx
                    · rcases List.mem_cons.mp y with y | y
                      · rw [y]; exact .inr nd
                      · exact .inl (p1.mem_iff.mpr (List.mem_append_left _ y))
                  · exact .inr (none2 b y)
                · exact .inl (p1.mem_iff.mpr (List.mem_append_right _ z))
              · rcases s.nf b z with y | y | y
                · exact .inl y
                · rcases List.mem_cons.mp y with y | y
                  · rw [y]; exact .inr (.inr nx)
                  · rcases List.mem_cons.mp y with y | y
                    · rw [y]; exact .inr (.inr nd)
                    · exact .inr (.inl (p1.mem_iff.mpr (List.mem_append_left _ y)))
                · exact .inr (.inr (none2 b y))
            exact (s1.trans s2).any fun z => nomatch z
          split at h
          · rename_i ds' h3
            rw [h3]
            rintro F' H' v f' s2 fr2
            obtain ⟨a1, a2, a3⟩ := out s2
            obtain ⟨_, rl2, nd2, nf2, fh2⟩ := fr2
            cases rl2 with
            | @cons _ _ _ _ g1 g2 r1 r2 =>
              refine ⟨rep_non r1, ?_⟩
              cases r2 with
              | @cons _ _ d0 dr q1f q2f q1 q2 =>
                obtain ⟨fp2, drp, w1, w2⟩ := p3 F' H' (d0 :: dr) q2f s2.ff a1 q2
                rw [List.append_nil] at nd2 nf2
                have ndA : (g1 ++ (q1f ++ q2f) ++ frr).Nodup := nodup_app.mpr ⟨nd2, n2, fun b hb hm => a2 b hm hb⟩
                have pm : (g1 ++ (q1f ++ q2f) ++ frr).Perm ((q1f ++ fp2) ++ (g1 ++ drp)) := pcount fun z => by
                  have := w1.count_eq z
                  simp only [List.count_append] at this ⊢
                  omega
                have ndB := pm.nodup_iff.mp ndA
                refine h F' H' (.ref x) fp2 q1f (step s2 fun b hb => ?_) ⟨w2, ?_, (List.nodup_append.mp ndB).1, fun b hb => ?_, fh2⟩
                · exact List.mem_append.mp (pm.mem_iff.mpr (List.mem_append_left _ hb))
                · have := RepL.cons q1 (RepL.nil (G := G) (F := F') (H := H'))
                  rw [List.append_nil] at this
                  exact this
                · exact (List.mem_append.mp (pm.mem_iff.mpr (List.mem_append_left _ hb))).elim (nf2 b) (a3 b)
          · exact h.elim
          · rename_i y ds' h3
            rw [h3]
            rintro F' H' f' cls ddx s2 fr2 xr
            obtain ⟨a1, a2, a3⟩ := out s2
            obtain ⟨_, rl2, nd2, nf2, fh2⟩ := fr2
            cases rl2 with
            | @cons _ _ d0 dr q1f q2f q1 q2 =>
              obtain ⟨fp2, drp, w1, w2⟩ := p3 F' H' (d0 :: dr) q2f s2.ff a1 q2
              rw [List.append_nil] at nd2 nf2
              have ndA : ((q1f ++ q2f) ++ frr).Nodup := nodup_app.mpr ⟨nd2, n2, fun b hb hm => a2 b hm hb⟩
              have pm : ((q1f ++ q2f) ++ frr).Perm (fp2 ++ (q1f ++ drp)) := pcount fun z => by
                have := w1.count_eq z
                simp only [List.count_append] at this ⊢
                omega
              have ndB := pm.nodup_iff.mp ndA
              refine h F' H' fp2 cls ddx (step s2 fun b hb => List.mem_append.mp (pm.mem_iff.mpr (List.mem_append_left _ hb))) ⟨w2, .nil, (List.nodup_append.mp ndB).1, fun b hb => ?_, fh2⟩ xr
              exact (List.mem_append.mp (pm.mem_iff.mpr (List.mem_append_left _ hb))).elim (nf2 b) (a3 b)
          · exact h.elim
        · exact h.elim
      · exact h.elim
    · exact h.elim
  | exc x en1 => rw [e1] at h; exact h
  | stuck => rw [e1] at h; exact h
theorem tv_mk {P : Prog} {call : Call} {cl k : Nat} {x : Str} {ms : M (List OV)} {pn : Pos} (c : MakeOk X k (G.cls cl) x (spDn G call (P.init cl))) (kp : PySem.W.keepIn X.K (.ref (G.cls cl)) = true) (tk : Takes X W) (hr : Room (k + 1) X.A) (hg : Gl X x) (ha : PA X (e :: es) (TOs G W p ms)) (hdb : (x == ("__debug__" : Str)) = false)
    (he : starEach (e :: es) X.env = (false, eval e X.env) :: starEach es X.env) (hpl : (backTo pos (starEach es X.env)).any (·.1) = false) : PE X (.Call (.Name x pn) (e :: es) [] pos) (TV G W false (cMk P call cl ms)) :=
  (pe_mks c kp tk hr hg ha hdb he hpl).imp fun σ H Q h => mk_read h
/-! ### a field of a value -/
theorem Fr.one {en : Env} {v : V} {d : D} (fr : Fr G F H σ en [v] [d] fp f) : Rep G F H v d f := by
  obtain ⟨_, rl, _, _, _⟩ := fr
  cases rl with
  | cons h r =>
    cases r
    rw [List.append_nil]
    exact h
theorem Fr.sub {en : Env} {vs ws : List V} {ds es : List D} {g : List Addr} (fr : Fr G F H σ en vs ds fp f) (rl : RepL G F H ws es g) (rest : List Addr) (pm : f.Perm (g ++ rest)) : Fr G F H σ en ws es fp g ∧ Step true F H (f ++ fp) F H (g ++ fp) := by
  have pm2 : (f ++ fp).Perm ((g ++ fp) ++ rest) := pcount fun z => by
    have := pm.count_eq z
    simp only [List.count_append] at this ⊢
    omega
  exact ⟨⟨fr.re, rl, (List.nodup_append.mp (pm2.nodup_iff.mp fr.nd)).1, fun b hb => fr.nf b (pm2.mem_iff.mpr (List.mem_append_left _ hb)), fr.fh⟩, Step.refl.weak (fun _ z => z) (fun b hb => .inl (pm2.mem_iff.mpr (List.mem_append_left _ hb))) id⟩
theorem tv_fldv {m : M D} {c j : Nat} {n : Str} (he : PE X e (TV G W p m)) (hK : X.K = G.K) (ok : ClsOk G c) (hn : (G.fnm c)[j]? = some n) (hb : attributeBase e n X.env (eval e X.env) = eval e X.env) :
    PE X (.Attribute e n pos) (TV G W p (cFldv m c j)) := (pe_fld he hb).imp fun σ H Q h => by
  obtain ⟨F, en, fp, fr, h⟩ := h
  refine ⟨F, en, fp, fr, ?_⟩
  unfold cFldv at h
  cases e1 : m en with
  | ok d en1 =>
    rw [e1] at h
    cases d <;> first | exact h.elim | skip
    rename_i o c' ds
    dsimp only at h
    refine fun F1 H1 v fp1 f1 s1 fr1 => ?_
    by_cases hc : c' = c ∧ j < ds.length
    · rw [if_pos hc] at h
      obtain ⟨rfl, hj⟩ := hc
      have go : ∀ {a dx : Addr} {fs : List (Str × V)} {g : List Addr} {rest : List Addr}, v = .ref a → H1 a = some (.ins (G.cls c') dx fs) → fs.map (·.1) = (G.fnm c').take ds.length → RepL G F1 H1 (fs.map (·.2)) ds g → f1.Perm (g ++ rest) →
          ∃ a C dx fs w, v = .ref a ∧ H1 a = some (.ins C dx fs) ∧ Cls X.K C ∧ NoAttr X.K C n ∧ fs.lookup n = some w ∧ Q w H1 := fun {a dx fs g rest} ev ha hnm rl pm => by
        have hl : fs.length = ds.length := by have z := rl.len; rw [List.length_map] at z; exact z
        obtain ⟨kv, hkv⟩ : ∃ kv, fs[j]? = some kv := ⟨_, List.getElem?_eq_getElem (by omega)⟩
        have hlk := lookup_nth hnm (nodup_take _ ok.nd) (by rw [List.getElem?_take, if_pos hj]; exact hn) hkv
        obtain ⟨w, gw, rw', k1, k2, k3, _⟩ := rl.at (getD_get hj)
        rw [List.getElem?_map, hkv] at k1
        cases k1
        refine ⟨a, _, dx, fs, kv.2, ev, ha, by rw [hK]; exact ok.cl, by rw [hK]; exact ok.na n (List.mem_of_getElem? hn), hlk, ?_⟩
        have rl1 : RepL G F1 H1 [kv.2] [ds.getD j .no] gw := by
          have := RepL.cons k2 (RepL.nil (G := G) (F := F1) (H := H1))
          rw [List.append_nil] at this
          exact this
        obtain ⟨fr2, s2⟩ := fr1.sub rl1 (rw' ++ rest) (by
          refine pcount fun z => ?_
          have a1 := pm.count_eq z
          have a2 := k3.count_eq z
          simp only [List.count_append] at a1 a2 ⊢
          omega)
        exact h F1 H1 kv.2 fp1 gw ((s1.trans s2).any fun z => by rw [z]; rfl) fr2
      have rp := fr1.one
      cases rp with
      | fz z => cases z with
        | obj h1 h2 h3 h4 => exact go (rest := []) rfl (fr1.fh _ _ h1) h3 h4.repL (.refl _)
      | @obj a dx _ fs _ g h1 h2 h3 h4 => exact go (rest := [a, dx]) rfl h1 h3 h4 (pcount fun z => by
          simp only [List.count_append, List.count_cons, List.count_nil]
          omega)
    · rw [if_neg hc] at h
      exact h.elim
  | exc x en1 => rw [e1] at h; exact h
  | stuck => rw [e1] at h; exact h
end
end Dn
end L2
set_option Elab.async false
set_option linter.all false
set_option maxRecDepth 100000
set_option maxHeartbeats 1000000
/-! Places that are changed. -/
namespace L2
namespace Dn
open PySem PySem.Spec PyProof.Rows
section
variable {G : Gi} {W : WX} {X : Cx} {p q r : Bool} {σ : St} {F H : Hp} {f fp : List Addr} {e o a b c : Expr} {es : List Expr} {pos apos : Pos}
theorem own_mem {a : Addr} {d : D} {fd : List Addr} (h : Rep G F H (.ref a) d fd) (o : d.own = true) : a ∈ fd := by
  cases h with
  | fz h => rw [h.own] at o; cases o
  | _ => exact List.mem_cons_self
/-- a slot's data are taken out as a temporary -/
theorem Fr.take {en : Env} {vs : List V} {ds : List D} {i : Nat} (fr : Fr G F H σ en vs ds fp f) (hn : en.at i ≠ .no) : ∃ v0 g fp1, σ[i]? = some (some v0) ∧ Fr G F H σ (en.set i .no) (v0 :: vs) (en.at i :: ds) fp1 (g ++ f) ∧ (f ++ fp).Perm ((g ++ f) ++ fp1) := by
  obtain ⟨o', g, rest, k1, k2, k3, k4⟩ := fr.re.at (at_lt hn)
  obtain ⟨v, rfl, hv⟩ := k2.some_of hn
  obtain ⟨fp2, g1, g2⟩ := k4 F H (some v) .no [] (Same.refl F) (fun _ _ => rfl) (.some (.fz (.no v)))
  rw [set_self k1] at g2
  have pm : (f ++ fp).Perm ((g ++ f) ++ fp2) := pcount fun a => by
    have a1 := k3.count_eq a
    have a2 := g1.count_eq a
    simp only [List.count_append, List.count_nil] at a1 a2 ⊢
    omega
  exact ⟨v, g, fp2, k1, ⟨g2, .cons hv fr.rl, pm.nodup_iff.mp fr.nd, fun b hb => fr.nf b (pm.mem_iff.mpr hb), fr.fh⟩, pm⟩
/-- a temporary is put into its slot -/
theorem Fr.give {en : Env} {v0 : V} {d : D} {vs : List V} {ds : List D} {i : Nat} (fr : Fr G F H σ en (v0 :: vs) (d :: ds) fp f) (h : σ[i]? = some (some v0)) (hi : i < en.length) : ∃ fp2 f2, Fr G F H σ (en.set i d) vs ds fp2 f2 ∧ ∀ b ∈ f2 ++ fp2, b ∈ f ++ fp := by
  obtain ⟨re, rl, nd, nf, fh⟩ := fr
  cases rl with
  | @cons _ _ _ _ g1 g2 h1 rl =>
    obtain ⟨o', g, rest, k1, k2, k3, k4⟩ := re.at hi
    obtain ⟨fp2, w1, w2⟩ := k4 F H (some v0) d g1 (Same.refl F) (fun _ _ => rfl) (.some h1)
    rw [set_self h] at w2
    have pm : ((g1 ++ g2) ++ fp).Perm ((g2 ++ fp2) ++ g) := pcount fun a => by
      have a1 := k3.count_eq a
      have a2 := w1.count_eq a
      simp only [List.count_append] at a1 a2 ⊢
      omega
    have hm : ∀ b ∈ g2 ++ fp2, b ∈ (g1 ++ g2) ++ fp := fun b hb => pm.mem_iff.mpr (List.mem_append_left _ hb)
    exact ⟨fp2, g2, ⟨w2, rl, (List.nodup_append.mp (pm.nodup_iff.mp nd)).1, fun b hb => nf b (hm b hb), fh⟩, hm⟩
/-- an object of a temporary is changed -/
theorem Fr.poke {en : Env} {v0 : V} {rt : D} {s : Path} {vs ws : List V} {ds es2 : List D} {a : Addr} {o' : HO} {d' : D} (fr : Fr G F H σ en (v0 :: vs) (rt :: ds) fp f) (ow : (getD rt s).own = true) (hp : pathV H v0 s = some (.ref a))
    (new : ∀ fd fv, Rep G F H (.ref a) (getD rt s) fd → RepL G F H vs ds fv → (fd ++ fv).Nodup → ∃ f2 fw dr, Rep G F (upd H a o') (.ref a) d' f2 ∧ RepL G F (upd H a o') ws es2 fw ∧ (f2 ++ fw ++ dr).Perm (fd ++ fv)) :
    ∃ f', Fr G F (upd H a o') σ en (v0 :: ws) (setD rt s d' :: es2) fp f' ∧ Step false F H (f ++ fp) F (upd H a o') (f' ++ fp) := by
  obtain ⟨re, rl, nd, nf, fh⟩ := fr
  cases rl with
  | @cons _ _ _ _ g0 fv h1 rl =>
    obtain ⟨w, fd, rs, j1, j2, j3, j4⟩ := h1.at s ow
    rw [hp] at j1
    cases j1
    have pm0 : ((g0 ++ fv) ++ fp).Perm ((fd ++ fv) ++ (rs ++ fp)) := pcount fun z => by
      have := j3.count_eq z
      simp only [List.count_append] at this ⊢
      omega
    have nd0 := pm0.nodup_iff.mp nd
    obtain ⟨n1, n2, n3⟩ := nodup_app.mp nd0
    obtain ⟨f2, fw, dr, r1, r2, r3⟩ := new fd fv j2 rl n1
    have am : a ∈ fd := own_mem j2 ow
    have hk : ∀ b ∈ rs ++ fp, upd H a o' b = H b := fun b hb => upd_ne fun z => n3 a (List.mem_append_left _ am) (by rw [← z]; exact hb)
    obtain ⟨gi, t1, t2⟩ := j4 F (upd H a o') d' f2 (Same.refl F) (fun b hb => hk b (List.mem_append_left _ hb)) r1
    have pm : ((g0 ++ fv) ++ fp).Perm (((gi ++ fw) ++ fp) ++ dr) := pcount fun z => by
      have a1 := pm0.count_eq z
      have a2 := t1.count_eq z
      have a3 := r3.count_eq z
      simp only [List.count_append] at a1 a2 a3 ⊢
      omega
    have hm : ∀ b ∈ (gi ++ fw) ++ fp, b ∈ (g0 ++ fv) ++ fp := fun b hb => pm.mem_iff.mpr (List.mem_append_left _ hb)
    have aF : F a = none := nf a (pm0.mem_iff.mpr (List.mem_append_left _ (List.mem_append_left _ am)))
    have aI : a ∈ (g0 ++ fv) ++ fp := pm0.mem_iff.mpr (List.mem_append_left _ (List.mem_append_left _ am))
    refine ⟨gi ++ fw, ⟨re.move (Same.refl F) fun b hb => hk b (List.mem_append_right _ hb), .cons t2 r2, (List.nodup_append.mp (pm.nodup_iff.mp nd)).1, fun b hb => nf b (hm b hb), fun b u z => ?_⟩,
      ⟨Same.refl F, fun b u z n => ?_, fun b hb => .inl (hm b hb), fun b z => .inl z, fun z => nomatch z⟩⟩
    · rw [upd_ne (fun y => by rw [y, aF] at z; cases z)]
      exact fh b u z
    · rw [upd_ne fun y => n (by rw [y]; exact aI)]
      exact z
/-! ### methods of lists -/
def rMut (b : MB) : V → List V → Hp → VK → Prop := match b with
  | .append => rAppend
  | .pop => rPop
  | .clear => rClear
  | .extend => fun x vs H Q => ∃ l b xs zs, x = .ref l ∧ vs = [.ref b] ∧ H l = some (.lst xs) ∧ Rd H b (.lst zs) ∧ xs.length + zs.length ≤ sizeLine ∧ Q .non (upd H l (.lst (xs ++ zs)))
  | .insert => fun _ _ _ _ => False
theorem mt_extendR : MtM X "list.extend" (rMut .extend) := fun pins s σ H x vs v us Q I rx rv h => by
  obtain ⟨pa, pb, as, bs, rfl, rfl, ka, kb, short, done⟩ := h
  obtain ⟨w, rfl, rw'⟩ := rv.one
  cases rx; cases rw'
  obtain ⟨_, zs, cap, ra, la, ea⟩ := I.lstM ka
  obtain ⟨_, ws, cap2, rb, eb⟩ := kb.ok I.hok
  have z1 := ra.length
  have z2 := rb.length
  have size : zs.toArray.size + ws.toArray.size ≤ sizeLine := by simp only [List.size_toArray]; omega
  have brief : ¬ (!zs.toArray.isEmpty && Builtin.List.listTooLong (zs.toArray.size + ws.toArray.size)) = true := fun z => by
    rw [notLongL size, Bool.and_false] at z
    cases z
  have inner := AutoSeq1.list_extend_list_list_0 pa zs.toArray cap pb ws.toArray cap2 brief (by simp only [List.size_toArray]; omega) (by omega)
  refine call_meets PySem.F.slot_list_extend ⟨_, ea, rfl⟩ PySem.F.entry_list_extend (PySem.F.args_list_extend_2 _ _) inner ⟨ea, eb, ?_⟩
  exact ⟨.non, _, I.lset (its' := zs ++ ws) ka ea (by simp) (ra.append rb) (by rw [List.length_append]; omega), rfl, done⟩
theorem rep_lstT {v : V} {ds : List D} (h : Rep G F H v (.lst true ds) f) : ∃ a vs g, v = .ref a ∧ H a = some (.lst vs) ∧ RepL G F H vs ds g ∧ f = a :: g := by
  cases h with
  | fz h => cases h
  | lst h r => exact ⟨_, _, _, rfl, h, r, rfl⟩
theorem RepL.snoc_inv : ∀ {ds : List D} {d : D} {vs : List V} {g : List Addr}, RepL G F H vs (ds ++ [d]) g → ∃ ws w g1 g2, vs = ws ++ [w] ∧ g = g1 ++ g2 ∧ RepL G F H ws ds g1 ∧ Rep G F H w d g2
  | [], d, _, _, .cons (v := v) (f := f) h r => by
    cases r
    exact ⟨[], v, [], f, rfl, by simp, .nil, h⟩
  | x :: ds, d, _, _, .cons (v := v) (f := f) h r => by
    obtain ⟨ws, w, g1, g2, rfl, rfl, r1, r2⟩ := RepL.snoc_inv r
    exact ⟨v :: ws, w, f ++ g1, g2, rfl, by rw [List.append_assoc], .cons h r1, r2⟩
theorem last_split {α : Type} {l : List α} {x : α} (h : l.getLast? = some x) : l = l.dropLast ++ [x] := by
  have hn : l ≠ [] := fun z => by rw [z] at h; cases h
  rw [List.getLast?_eq_some_getLast hn] at h
  cases h
  exact (List.dropLast_concat_getLast hn).symm
/-- the list at a place of a temporary is changed by a method -/
theorem Fr.mutL {en : Env} {v0 w : V} {rt : D} {s : Path} {vs : List V} {ds : List D} {mb : MB} {res d' : D} {Q : VK} (fr : Fr G F H σ en (v0 :: vs) (rt :: ds) fp f) (hp : pathV H v0 s = some w) (hm : mutD mb (getD rt s) ds = some (res, d'))
    (k : ∀ H' v f', Step false F H (f ++ fp) F H' (f' ++ fp) → Fr G F H' σ en [v0, v] [setD rt s d', res] fp f' → Q v H') : rMut mb w vs H Q := by
  have base : ∀ {es : List D}, getD rt s = .lst true es → ∃ a xs g, w = .ref a ∧ H a = some (.lst xs) ∧ RepL G F H xs es g := fun {es} e => by
    obtain ⟨re, rl, nd, nf, fh⟩ := fr
    cases rl with
    | cons h1 rl =>
      obtain ⟨w', fd, rs, j1, j2, _⟩ := h1.at s (by rw [e]; rfl)
      rw [hp] at j1
      cases j1
      rw [e] at j2
      obtain ⟨a, xs, g, h1, h2, h3, _⟩ := rep_lstT j2
      exact ⟨a, xs, g, h1, h2, h3⟩
  unfold mutD at hm
  split at hm
  · rename_i es x hd
    split at hm
    · rename_i hl
      cases hm
      obtain ⟨a, xs, g, rfl, ha, hr⟩ := base hd
      obtain ⟨y, rfl, _⟩ : ∃ y, vs = [y] ∧ True := by
        have := fr.rl.len
        match vs, this with
        | [y], _ => exact ⟨y, rfl, trivial⟩
      obtain ⟨f', fr2, s2⟩ := fr.poke (o' := .lst (xs ++ [y])) (d' := .lst true (es ++ [x])) (ws := [.non]) (es2 := [.non]) (by rw [hd]; rfl) hp fun fd fv r1 r2 nd => by
        rw [hd] at r1
        obtain ⟨a', xs', g', e1, h2, r1, rfl⟩ := rep_lstT r1
        cases e1
        rw [ha] at h2
        cases h2
        have na : ∀ b ∈ g' ++ fv, b ≠ a := fun b hb z => (List.nodup_cons.mp nd).1 (by rw [← z]; exact hb)
        have m1 := r1.move (F' := F) (H' := upd H a (.lst (xs ++ [y]))) (Same.refl F) fun b hb => upd_ne (na b (List.mem_append_left _ hb))
        have m2 := r2.move (F' := F) (H' := upd H a (.lst (xs ++ [y]))) (Same.refl F) fun b hb => upd_ne (na b (List.mem_append_right _ hb))
        exact ⟨a :: (g' ++ fv), [], [], .lst upd_same (m1.append m2), .cons (f := []) (g := []) (.fz .non) .nil, by simp⟩
      exact ⟨a, xs, y, rfl, rfl, ha, by rw [hr.len, ← LINE_le]; exact hl, k _ _ f' s2 fr2⟩
    · cases hm
  · rename_i es hd
    split at hm
    · rename_i x hx
      cases hm
      obtain ⟨a, xs, g, rfl, ha, hr⟩ := base hd
      obtain rfl : vs = [] := by
        have := fr.rl.len
        match vs, this with
        | [], _ => rfl
      have hes : es = es.dropLast ++ [res] := last_split hx
      rw [hes] at hr
      obtain ⟨ws, y, g1, g2, rfl, rfl, q1, q2⟩ := hr.snoc_inv
      obtain ⟨f', fr2, s2⟩ := fr.poke (o' := .lst ws) (d' := .lst true es.dropLast) (ws := [y]) (es2 := [res]) (by rw [hd]; rfl) hp fun fd fv r1 r2 nd => by
        rw [hd, hes] at r1
        obtain ⟨a', xs', g', e1, h2, r1, rfl⟩ := rep_lstT r1
        cases e1
        rw [ha] at h2
        cases h2
        obtain ⟨ws', y', g1', g2', e2, rfl, q1', q2'⟩ := r1.snoc_inv
        obtain ⟨rfl, e3⟩ := List.append_inj' e2 rfl
        cases e3
        cases r2
        rw [List.append_nil] at nd
        have na : ∀ b ∈ g1' ++ g2', b ≠ a := fun b hb z => (List.nodup_cons.mp nd).1 (by rw [← z]; exact hb)
        have m1 := q1'.move (F' := F) (H' := upd H a (.lst ws)) (Same.refl F) fun b hb => upd_ne (na b (List.mem_append_left _ hb))
        have m2 := q2'.move (F' := F) (H' := upd H a (.lst ws)) (Same.refl F) fun b hb => upd_ne (na b (List.mem_append_right _ hb))
        refine ⟨a :: g1', g2', [], .lst upd_same m1, ?_, by simp⟩
        have := RepL.cons m2 (RepL.nil (G := G) (F := F) (H := upd H a (.lst ws)))
        rw [List.append_nil] at this
        exact this
      refine ⟨a, ws ++ [y], y, rfl, rfl, ha, by simp, ?_⟩
      rw [List.dropLast_concat]
      exact k _ _ f' s2 fr2
    · cases hm
  · rename_i es oo xs2 hd
    split at hm
    · rename_i hl
      simp only [Bool.and_eq_true, decide_eq_true_eq] at hl
      cases hm
      obtain ⟨a, xs, g, rfl, ha, hr⟩ := base hd
      obtain ⟨y, rfl, _⟩ : ∃ y, vs = [y] ∧ True := by
        have := fr.rl.len
        match vs, this with
        | [y], _ => exact ⟨y, rfl, trivial⟩
      have hy : ∃ b zs, y = .ref b ∧ Rd H b (.lst zs) ∧ FzL G F zs xs2 := by
        obtain ⟨re, rl, nd, nf, fh⟩ := fr
        cases rl with
        | cons h1 rl => cases rl with
          | cons h2 rl =>
            obtain ⟨b, zs, g, e1, e2, e3, _⟩ := rep_lst fh h2
            exact ⟨b, zs, e1, e2, tups_of e3 hl.1⟩
      obtain ⟨b, zs, rfl, hb, hz⟩ := hy
      obtain ⟨f', fr2, s2⟩ := fr.poke (o' := .lst (xs ++ zs)) (d' := .lst true (es ++ xs2)) (ws := [.non]) (es2 := [.non]) (by rw [hd]; rfl) hp fun fd fv r1 r2 nd => by
        rw [hd] at r1
        obtain ⟨a', xs', g', e1, h2, r1, rfl⟩ := rep_lstT r1
        cases e1
        rw [ha] at h2
        cases h2
        have na : ∀ b ∈ g' ++ fv, b ≠ a := fun b hb z => (List.nodup_cons.mp nd).1 (by rw [← z]; exact hb)
        have m1 := r1.move (F' := F) (H' := upd H a (.lst (xs ++ zs))) (Same.refl F) fun b hb => upd_ne (na b (List.mem_append_left _ hb))
        refine ⟨a :: g', [], fv, .lst upd_same ?_, .cons (f := []) (g := []) (.fz .non) .nil, by simp⟩
        have := m1.append (hz.repL (H := upd H a (.lst (xs ++ zs))))
        rw [List.append_nil] at this
        exact this
      exact ⟨a, b, xs, zs, rfl, rfl, ha, hb, by rw [hr.len, hz.len, ← LINE_le]; exact hl.2, k _ _ f' s2 fr2⟩
    · cases hm
  · rename_i es hd
    cases hm
    obtain ⟨a, xs, g, rfl, ha, hr⟩ := base hd
    obtain rfl : vs = [] := by
      have := fr.rl.len
      match vs, this with
      | [], _ => rfl
    obtain ⟨f', fr2, s2⟩ := fr.poke (o' := .lst []) (d' := .lst true []) (ws := [.non]) (es2 := [.non]) (by rw [hd]; rfl) hp fun fd fv r1 r2 nd => by
      rw [hd] at r1
      obtain ⟨a', xs', g', e1, h2, r1, rfl⟩ := rep_lstT r1
      cases e1
      exact ⟨[a], [], g' ++ fv, .lst upd_same .nil, .cons (f := []) (g := []) (.fz .non) .nil, by simp⟩
    exact ⟨a, xs, rfl, rfl, ha, k _ _ f' s2 fr2⟩
  · cases hm
end
end Dn
end L2
set_option Elab.async false
set_option linter.all false
set_option maxRecDepth 100000
set_option maxHeartbeats 1000000
/-! Methods that change lists. -/
namespace L2
namespace Dn
open PySem PySem.Spec PyProof.Rows
section
variable {G : Gi} {W : WX} {X : Cx} {p q r : Bool} {σ σ' : St} {F H F' H' : Hp} {f fp fp' : List Addr} {e o a b c : Expr} {es : List Expr} {pos apos cpos : Pos}
theorem fz_deep : ∀ (s : Path) {v : V} {d : D}, Fz G F v d → (getD d s).own = false := by
  intro s
  induction s with
  | nil => exact fun h => h.own
  | cons s r ih =>
    intro v d h
    unfold getD
    split
    · cases hj : stepIx d s with
      | none => rfl
      | some j =>
        show (getD (d.kids.getD j .no) r).own = false
        have kids : ∀ {vs : List V} {ds : List D}, FzL G F vs ds → (getD (ds.getD j .no) r).own = false := fun {vs ds} q => by
          rw [List.getD_eq_getElem?_getD]
          cases e : ds[j]? with
          | none =>
            show (getD .no r).own = false
            rw [getD_no]
            rfl
          | some d => exact let ⟨_, _, q⟩ := q.get e; ih q
        cases h with
        | tup _ q => exact kids q
        | lst _ q => exact kids q
        | dK _ q => exact kids q
        | dT _ q => exact kids q
        | obj _ _ _ q => exact kids q
        | _ => cases s <;> cases hj
    · rfl
/-- an owned place stays where it is as long as what owns it is untouched -/
theorem Rep.path : ∀ (s : Path) {v : V} {d : D} {fp : List Addr}, Rep G F H v d fp → (getD d s).own = true → (∀ b ∈ fp, H' b = H b) → pathV H' v s = pathV H v s := by
  intro s
  induction s with
  | nil => exact fun _ _ _ => rfl
  | cons s r ih =>
    intro v d fp h o k
    have o0 := o
    unfold getD at o
    split at o
    case isFalse => cases o
    rename_i hs
    cases hj : stepIx d s with
    | none => rw [hj] at o; cases o
    | some j =>
      rw [hj] at o
      have o : (getD (d.kids.getD j .no) r).own = true := o
      cases h with
      | fz h => rw [fz_deep _ h] at o0; cases o0
      | @tup a vs ds fL hH q =>
        cases s with
        | i n =>
          have hl := ixN_lt (show ixN ds.length n = some j from hj)
          obtain ⟨vj, fj, rj, e1, e2, e3, _⟩ := q.at (getD_get hl)
          simp only [pathV, k a List.mem_cons_self, hH]
          rw [q.len, show ixN ds.length n = some j from hj]
          simp only [Option.bind_some]
          rw [e1]
          exact ih e2 o fun b hb => k b (List.mem_cons_of_mem _ (e3.mem_iff.mpr (List.mem_append_left _ hb)))
        | f _ => cases hj
        | k _ => cases hj
      | @lst a vs ds fL hH q =>
        cases s with
        | i n =>
          have hl := ixN_lt (show ixN ds.length n = some j from hj)
          obtain ⟨vj, fj, rj, e1, e2, e3, _⟩ := q.at (getD_get hl)
          simp only [pathV, k a List.mem_cons_self, hH]
          rw [q.len, show ixN ds.length n = some j from hj]
          simp only [Option.bind_some]
          rw [e1]
          exact ih e2 o fun b hb => k b (List.mem_cons_of_mem _ (e3.mem_iff.mpr (List.mem_append_left _ hb)))
        | f _ => cases hj
        | k _ => cases hj
      | @dK a kvs ds fL hH q =>
        cases s with
        | k x =>
          have hj' : keyIx (kvs.map (fun q => KD.k q.1)) x = some j := hj
          have hl : j < ds.length := by
            have := keyIx_lt hj'
            have e := q.len
            rw [List.length_map] at this e
            omega
          obtain ⟨vj, fj, rj, e1, e2, e3, _⟩ := q.at (getD_get hl)
          obtain ⟨kv, hk1, hk2⟩ := get_map_fst e1
          simp only [pathV, k a List.mem_cons_self, hH]
          rw [hj']
          simp only [Option.bind_some]
          rw [hk1]
          simp only [Option.bind_some]
          rw [hk2]
          exact ih e2 o fun b hb => k b (List.mem_cons_of_mem _ (e3.mem_iff.mpr (List.mem_append_left _ hb)))
        | f _ => cases hj
        | i _ => cases hj
      | @dT a kvs ds fL hH q =>
        cases s with
        | k x =>
          have hj' : keyIx (kvs.map (fun q => KD.t q.1)) x = some j := hj
          have hl : j < ds.length := by
            have := keyIx_lt hj'
            have e := q.len
            rw [List.length_map] at this e
            omega
          obtain ⟨vj, fj, rj, e1, e2, e3, _⟩ := q.at (getD_get hl)
          obtain ⟨kv, hk1, hk2⟩ := get_map_fst e1
          simp only [pathV, k a List.mem_cons_self, hH]
          rw [hj']
          simp only [Option.bind_some]
          rw [hk1]
          simp only [Option.bind_some]
          rw [hk2]
          exact ih e2 o fun b hb => k b (List.mem_cons_of_mem _ (e3.mem_iff.mpr (List.mem_append_left _ hb)))
        | f _ => cases hj
        | i _ => cases hj
      | @obj a dx c fs ds fL hH hD hn q =>
        cases s with
        | f i =>
          have hl : i < ds.length ∧ i = j := by
            have z : (if i < ds.length then some i else none) = some j := hj
            split at z
            · rename_i y; cases z; exact ⟨y, rfl⟩
            · cases z
          obtain ⟨hl, rfl⟩ := hl
          obtain ⟨vj, fj, rj, e1, e2, e3, _⟩ := q.at (getD_get hl)
          obtain ⟨kv, hk1, hk2⟩ := get_map_fst e1
          simp only [pathV, k a List.mem_cons_self, hH]
          rw [hk1]
          simp only [Option.bind_some]
          rw [hk2]
          exact ih e2 o fun b hb => k b (List.mem_cons_of_mem _ (List.mem_cons_of_mem _ (e3.mem_iff.mpr (List.mem_append_left _ hb))))
        | i _ => cases hj
        | k _ => cases hj
/-- the list at a place, at the time when it is named -/
theorem Fr.isLst {en : Env} {v0 w : V} {i : Nat} {s : Path} (fr : Fr0 G F H σ en fp) (h1 : σ[i]? = some (some v0)) (h2 : pathV H v0 s = some w) (h : (getD (en.at i) s).lstOwn = true) : tyV G.K "list" w H := by
  cases hd : getD (en.at i) s <;> rw [hd] at h <;> first | (exact absurd h Bool.false_ne_true) | skip
  rename_i o ds
  cases o with
  | false => exact absurd h Bool.false_ne_true
  | true =>
    obtain ⟨v0', v', g, p1, p2, p3, _⟩ := fr.place (i := i) (s := s) (by rw [hd]; exact fun z => nomatch z)
    rw [h1] at p1
    cases p1
    rw [h2] at p2
    cases p2
    rw [hd] at p3
    obtain ⟨a, vs, g', rfl, ha, _⟩ := rep_lstT p3
    exact .inl ⟨rfl, vs, SqL.of ha⟩
theorem own_no {d : D} {s : Path} (h : (getD d s).lstOwn = true) : d ≠ .no := fun z => by rw [z, getD_no] at h; cases h
theorem lstOwn_own {d : D} (h : d.lstOwn = true) : d.own = true := by
  cases d <;> first | (exact absurd h Bool.false_ne_true) | skip
  rename_i o _
  cases o
  · exact absurd h Bool.false_ne_true
  · rfl
theorem mut_read {l : Bool} {mb : MB} {mp : M (Nat × Path)} {ms : M (List D)} {Q : VK} (hK : X.K = G.K) (hst : l = true ∨ q = true ∨ ∀ en i s en', mp en = .ok (i, s) en' → s = [])
    (h : TV G W false (cMut l mb mp ms) σ H Q) : TP G W p mp σ H fun x H1 => tyV X.K "list" x H1 ∧ TL G W q ms σ H1 fun vs H2 => rMut mb x vs H2 Q := by
  obtain ⟨F, en, fp, fr, h⟩ := h
  refine ⟨F, en, fp, fr, ?_⟩
  unfold cMut at h
  cases e1 : mp en with
  | ok ip en1 =>
    obtain ⟨i, s⟩ := ip
    rw [e1] at h
    dsimp only at h
    refine fun F1 H1 x fp1 s1 sm fr1 ⟨v0, k1, k2⟩ => ?_
    cases hl : (getD (en1.at i) s).lstOwn with
    | false => rw [hl, if_neg Bool.false_ne_true] at h; exact h.elim
    | true =>
      rw [hl, if_pos rfl] at h
      refine ⟨by rw [hK]; exact fr1.isLst k1 k2 hl, ?_⟩
      cases l with
      | true =>
        simp only [if_true] at h
        obtain ⟨v0', g, fp2, t1, fr2, pm⟩ := fr1.take (own_no hl)
        rw [k1] at t1
        cases t1
        simp only [List.append_nil, List.nil_append] at fr2 pm
        have s2 : Step true F1 H1 fp1 F1 H1 (g ++ fp2) := Step.refl.weak (fun _ z => z) (fun b hb => .inl (pm.mem_iff.mpr hb)) id
        have hi := at_lt (own_no hl)
        refine ⟨F1, _, fp2, fr2.drop, ?_⟩
        cases e2 : ms (en1.set i .no) with
        | ok ds en2 =>
          rw [e2] at h
          dsimp only at h
          refine fun F2 H2 vs fp3 f3 s3 fr3 => ?_
          obtain ⟨fr4, s4⟩ := fr2.keep s3 fr3
          cases e3 : mutD mb (getD (en1.at i) s) ds with
          | none => rw [e3] at h; exact h.elim
          | some rd =>
            obtain ⟨res, d'⟩ := rd
            rw [e3] at h
            dsimp only at h
            have hpv : pathV H2 v0 s = some x := by
              rw [← k2]
              cases fr2.rl with
              | cons h2 r2 =>
                cases r2
                refine h2.path s (lstOwn_own hl) fun b hb => ?_
                have hb' : b ∈ _ := List.mem_append_left [] hb
                exact (s3.out fr2.rl.dom (nodup_app.mp fr2.nd).2.2).1 b hb'
            have hlen : en2.length = en1.length := by
              rw [← fr4.re.len, fr1.re.len]
            refine fr4.mutL hpv e3 fun H3 v f5 s5 fr5 => ?_
            obtain ⟨fp6, f6, fr6, hm6⟩ := fr5.give k1 (by rw [hlen]; exact hi)
            refine h F2 H3 v fp6 f6 ?_ fr6
            have s6 := (((s1.trans s2).trans s4).trans s5).any (q := false) fun z => nomatch z
            exact s6.weak (fun _ z => z) (fun b hb => .inl (hm6 b hb)) id
        | exc x2 en2 =>
          rw [e2] at h
          refine fun F2 H2 fp3 cls dx s3 fr3 xr => h F2 H2 fp3 cls dx ?_ fr3 xr
          have s12 := (s1.trans s2).slots
          exact (s12.trans s3).any fun z => nomatch z
        | stuck => rw [e2] at h; exact h
      | false =>
        rw [if_neg Bool.false_ne_true] at h
        refine ⟨F1, en1, fp1, fr1, ?_⟩
        cases e2 : ms en1 with
        | ok ds en2 =>
          rw [e2] at h
          dsimp only at h
          rw [if_neg Bool.false_ne_true] at h
          refine fun F2 H2 vs fp3 f3 s3 fr3 => ?_
          cases e3 : mutD mb (getD (en2.at i) s) ds with
          | none => rw [e3] at h; exact h.elim
          | some rd =>
            obtain ⟨res, d'⟩ := rd
            rw [e3] at h
            dsimp only at h
            have hpv : pathV H2 v0 s = some x := by
              rcases hst with z | z | z
              · cases z
              · exact pathV_mono (s3.pu z) k2
              · obtain rfl := z _ _ _ _ e1
                exact k2
            have hno : en2.at i ≠ .no := fun z => by
              rw [z, getD_no] at e3
              cases mb <;> cases e3
            obtain ⟨v0', g, fp4, t1, fr4, pm⟩ := fr3.take hno
            rw [k1] at t1
            cases t1
            have s4 : Step true F2 H2 (f3 ++ fp3) F2 H2 ((g ++ f3) ++ fp4) := Step.refl.weak (fun _ z => z) (fun b hb => .inl (pm.mem_iff.mpr hb)) id
            refine fr4.mutL hpv e3 fun H3 v f5 s5 fr5 => ?_
            obtain ⟨fp6, f6, fr6, hm6⟩ := fr5.give k1 (by rw [List.length_set]; exact at_lt hno)
            rw [List.set_set] at fr6
            refine h F2 H3 v fp6 f6 ?_ fr6
            have s6 := (((s1.trans s3).trans s4).trans s5).any (q := false) fun z => nomatch z
            exact s6.weak (fun _ z => z) (fun b hb => .inl (hm6 b hb)) id
        | exc x2 en2 =>
          rw [e2] at h
          refine fun F2 H2 fp3 cls dx s3 fr3 xr => h F2 H2 fp3 cls dx ?_ fr3 xr
          exact (s1.trans s3).any fun z => nomatch z
        | stuck => rw [e2] at h; exact h
  | exc x en1 => rw [e1] at h; exact h
  | stuck => rw [e1] at h; exact h
end
end Dn
end L2
set_option Elab.async false
set_option linter.all false
set_option maxRecDepth 100000
/-! Methods that change lists, as calls. -/
namespace L2
namespace Dn
open PySem PySem.Spec PyProof.Rows
section
variable {G : Gi} {W : WX} {X : Cx} {p q r : Bool} {σ σ' : St} {F H F' H' : Hp} {f fp fp' : List Addr} {e o a b c : Expr} {es : List Expr} {pos apos cpos : Pos}
def mbName : MB → Str | .append => "append" | .pop => "pop" | .insert => "insert" | .extend => "extend" | .clear => "clear"
def mbId : MB → String | .append => "list.append" | .pop => "list.pop" | .insert => "list.insert" | .extend => "list.extend" | .clear => "list.clear"
theorem mb_slot : ∀ {mb : MB}, mb ≠ .insert → Slot "list" (mbName mb) (mbId mb)
  | .append, _ => PySem.F.slot_list_append
  | .pop, _ => PySem.F.slot_list_pop
  | .extend, _ => PySem.F.slot_list_extend
  | .clear, _ => PySem.F.slot_list_clear
  | .insert, h => absurd rfl h
theorem mb_ty : ∀ {mb : MB}, mb ≠ .insert → typeOf (.builtin (mbId mb)) = pure (.type "method_descriptor")
  | .append, _ => PySem.F.type_list_append
  | .pop, _ => PySem.F.type_list_pop
  | .extend, _ => PySem.F.type_list_extend
  | .clear, _ => PySem.F.type_list_clear
  | .insert, h => absurd rfl h
theorem mb_mt : ∀ {mb : MB}, mb ≠ .insert → MtR X (mbId mb) (rMut mb)
  | .append, _ => mt_append
  | .pop, _ => mt_pop
  | .extend, _ => mt_extendR
  | .clear, _ => mt_clear
  | .insert, h => absurd rfl h
def isRefE : Expr → Bool | .Name _ _ => true | _ => false
theorem tv_mut {l : Bool} {mb : MB} {mp : M (Nat × Path)} {ms : M (List D)} (hK : X.K = G.K) (hmb : mb ≠ .insert) (ho : PE X o (TP G W p mp)) (ha : PA X (e :: es) (TL G W q ms)) (hst : l = true ∨ q = true ∨ ∀ en i s en', mp en = .ok (i, s) en' → s = [])
    (hbase : attributeBase o (mbName mb) X.env (eval o X.env) = eval o X.env)
    (hfew : ((backTo cpos (starEach (e :: es) X.env)).all (fun x => !x.1) && (backToKw cpos (keywordEach [] X.env)).all (fun x => x.1.isSome)
      && decide ((e :: es).length + ([] : List Keyword).length + (if ([] : List Keyword).isEmpty then 0 else 1) < 30)) = true)
    (hline : (apos.endLine == cpos.line) = true) (hs : starEach (e :: es) X.env = (false, eval e X.env) :: starEach es X.env) (hplain : (backTo cpos (starEach es X.env)).any (·.1) = false) :
    PE X (.Call (.Attribute o (mbName mb) apos) (e :: es) [] cpos) (TV G W false (cMut l mb mp ms)) :=
  (pe_bm PySem.F.plainAttrs_list (mb_slot hmb) (mb_ty hmb) (mb_mt hmb) ho ha hbase hfew hline hs hplain).imp fun σ H Q h => mut_read hK hst h
theorem tv_mut0 {l : Bool} {mb : MB} {mp : M (Nat × Path)} (hK : X.K = G.K) (hmb : mb ≠ .insert) (ho : PE X o (TP G W p mp))
    (hbase : attributeBase o (mbName mb) X.env (eval o X.env) = eval o X.env) (hline : (apos.endLine == cpos.line) = true) :
    PE X (.Call (.Attribute o (mbName mb) apos) [] [] cpos) (TV G W false (cMut l mb mp lNil)) :=
  (pe_bm0 PySem.F.plainAttrs_list (mb_slot hmb) (mb_ty hmb) (mb_mt hmb) ho hbase hline).imp fun σ H Q h => by
    have h1 := mut_read (p := p) (q := true) hK (.inr (.inl rfl)) h
    obtain ⟨F, en, fp, fr, h1⟩ := h1
    exact ⟨F, en, fp, fr, Aft.step h1 Step.refl fun ov en1 e1 h1 F1 H1 v fp1 s1 sm fr1 pv =>
      let ⟨ty, F2, en2, fp2, fr2, k⟩ := h1 F1 H1 v fp1 s1 sm fr1 pv
      ⟨ty, k F2 H1 [] fp2 [] Step.refl ⟨fr2.re, .nil, fr2.nd, fr2.nf, fr2.fh⟩⟩⟩
end
end Dn
end L2
set_option Elab.async false
set_option linter.all false
set_option maxRecDepth 100000
/-! Targets and statements. -/
namespace L2
namespace Dn
open PySem PySem.Spec PyProof.Rows
/-- the slots ks are as they were -/
def Agree (ks : Nat → Prop) (σ σ' : St) : Prop := σ'.length = σ.length ∧ ∀ k, ks k → σ'[k]? = σ[k]?
theorem Agree.refl {ks : Nat → Prop} {σ : St} : Agree ks σ σ := ⟨rfl, fun _ _ => rfl⟩
theorem Agree.trans {ks : Nat → Prop} {a b c : St} (h : Agree ks a b) (k : Agree ks b c) : Agree ks a c := ⟨k.1.trans h.1, fun i hi => (k.2 i hi).trans (h.2 i hi)⟩
theorem Agree.weak {ks js : Nat → Prop} {a b : St} (h : Agree ks a b) (k : ∀ i, js i → ks i) : Agree js a b := ⟨h.1, fun i hi => h.2 i (k i hi)⟩
theorem Agree.set {ks : Nat → Prop} {σ : St} {i : Nat} {v : Option V} (h : ¬ ks i) : Agree ks σ (σ.set i v) := ⟨List.length_set, fun k hk => by
  rw [List.getElem?_set]
  split
  · rename_i e
    exact absurd (e ▸ hk) h
  · rfl⟩
section
variable (G : Gi) (W : WX) (fx : Nat → Prop)
def ExcS (σ : St) (F H : Hp) (fp : List Addr) (x : Dn.X) (en' : Env) : Prop :=
  ∀ (F' H' : Hp) (σ' : St) (fp' : List Addr) (cls : Value) (dx : Option Addr), Step false F H fp F' H' fp' → Fr0 G F' H' σ' en' fp' → Agree fx σ σ' → XR G F' H' x cls dx → W cls dx σ' H'
def Nx (σ : St) (F H : Hp) (fp : List Addr) (K : St → Hp → Prop) (en' : Env) : Prop :=
  ∀ (F' H' : Hp) (σ' : St) (fp' : List Addr), Step false F H fp F' H' fp' → Fr0 G F' H' σ' en' fp' → Agree fx σ σ' → K σ' H'
/-- a target's store: the value is taken from the front of the temporaries -/
def TGd (g : D → M Unit) : TG := fun v σ H Q => ∃ F en fp f vs ds d, Fr G F H σ en (v :: vs) (d :: ds) fp f ∧ match g d en with
  | .ok _ en' => ∀ F' H' σ' fp' f', Step false F H (f ++ fp) F' H' (f' ++ fp') → Fr G F' H' σ' en' vs ds fp' f' → Agree fx σ σ' → Q σ' H'
  | .exc x en' => ExcS G W fx σ F H (f ++ fp) x en'
  | .stuck => False
def TGsd (g : List D → M Unit) : TGs := fun us σ H Q => ∃ F en fp f vs ds es, Fr G F H σ en (us ++ vs) (es ++ ds) fp f ∧ us.length = es.length ∧ match g es en with
  | .ok _ en' => ∀ F' H' σ' fp' f', Step false F H (f ++ fp) F' H' (f' ++ fp') → Fr G F' H' σ' en' vs ds fp' f' → Agree fx σ σ' → Q σ' H'
  | .exc x en' => ExcS G W fx σ F H (f ++ fp) x en'
  | .stuck => False
/-- a statement -/
def Aft2 (σ : St) (F H : Hp) (fp : List Addr) (E : Ends) : RS → Prop
  | .nxt e => Nx G fx σ F H fp E.nx e
  | .brk e => Nx G fx σ F H fp E.bk e
  | .cnt e => Nx G fx σ F H fp E.ct e
  | .ret d e => ∀ F' H' v σ' fp' f, Step false F H fp F' H' (f ++ fp') → Fr G F' H' σ' e [v] [d] fp' f → Agree fx σ σ' → E.rt v H'
  | .exc x e => ExcS G W fx σ F H fp x e
  | .stuck => False
def TSd (m : MS) : TS := fun E σ H => ∃ F en fp, Fr0 G F H σ en fp ∧ Aft2 G W fx σ F H fp E (m en)
end
section
variable {G : Gi} {W : WX} {X : Cx} {p q r : Bool} {fx : Nat → Prop} {σ σ' : St} {F H F' H' : Hp} {f fp fp' : List Addr} {e o a b c : Expr} {es : List Expr} {st : Stmt} {sts : List Stmt} {pos apos cpos : Pos}
theorem ExcS.exc {x : Dn.X} {en' : Env} (h : ExcS G W fx σ F H fp x en') : Exc G W σ F H fp x en' := fun F' H' fp' cls dx s fr xr => h F' H' σ fp' cls dx s fr Agree.refl xr
theorem ExcS.step {x : Dn.X} {en' : Env} (h : ExcS G W fx σ F H fp x en') (s : Step p F H fp F' H' fp') (ag : Agree fx σ σ') : ExcS G W fx σ' F' H' fp' x en' :=
  fun F2 H2 σ2 fp2 cls dx s2 fr ag2 xr => h F2 H2 σ2 fp2 cls dx ((s.trans s2).any fun z => nomatch z) fr (ag.trans ag2) xr
theorem Nx.step {K : St → Hp → Prop} {en' : Env} (h : Nx G fx σ F H fp K en') (s : Step p F H fp F' H' fp') (ag : Agree fx σ σ') : Nx G fx σ' F' H' fp' K en' :=
  fun F2 H2 σ2 fp2 s2 fr ag2 => h F2 H2 σ2 fp2 ((s.trans s2).any fun z => nomatch z) fr (ag.trans ag2)
theorem Aft2.step {E : Ends} {r : RS} (h : Aft2 G W fx σ F H fp E r) (s : Step p F H fp F' H' fp') (ag : Agree fx σ σ') : Aft2 G W fx σ' F' H' fp' E r := by
  cases r with
  | nxt e => exact Nx.step h s ag
  | brk e => exact Nx.step h s ag
  | cnt e => exact Nx.step h s ag
  | ret d e => exact fun F2 H2 v σ2 fp2 f2 s2 fr ag2 => h F2 H2 v σ2 fp2 f2 ((s.trans s2).any fun z => nomatch z) fr (ag.trans ag2)
  | exc x e => exact ExcS.step h s ag
  | stuck => exact h
/-! ### targets -/
theorem tg_name {i : Nat} {x : Str} (hN : X.N.Nodup) (hi : X.N[i]? = some x) (hx : Loc X.env.scope x) (hf : X.fn x = true ∨ X.env.scope.names.lookup x = some .local) (hfx : ¬ fx i) : PG X (.Name x pos) (TGd G W fx (gName_ i)) :=
  (pg_name (i := i) hN hi hx hf).imp fun v σ H Q h => by
    obtain ⟨F, en, fp, f, vs, ds, d, fr, h⟩ := h
    show Q (σ.set i (some v)) H
    have h : ∀ F' H' σ' fp' f', Step false F H (f ++ fp) F' H' (f' ++ fp') → Fr G F' H' σ' (en.set i d) vs ds fp' f' → Agree fx σ σ' → Q σ' H' := h
    obtain ⟨re, rl, nd, nf, fh⟩ := fr
    cases rl with
    | @cons _ _ _ _ g1 g2 h1 rl =>
      by_cases hi : i < en.length
      · obtain ⟨o', g, rest, k1, k2, k3, k4⟩ := re.at hi
        obtain ⟨fp2, w1, w2⟩ := k4 F H (some v) d g1 (Same.refl F) (fun _ _ => rfl) (.some h1)
        have pm : ((g1 ++ g2) ++ fp).Perm ((g2 ++ fp2) ++ g) := pcount fun a => by
          have a1 := k3.count_eq a
          have a2 := w1.count_eq a
          simp only [List.count_append] at a1 a2 ⊢
          omega
        have hm : ∀ b ∈ g2 ++ fp2, b ∈ (g1 ++ g2) ++ fp := fun b hb => pm.mem_iff.mpr (List.mem_append_left _ hb)
        exact h F H _ fp2 g2 (Step.refl.weak (fun _ z => z) (fun b hb => .inl (hm b hb)) fun z => nomatch z) ⟨w2, rl, (List.nodup_append.mp (pm.nodup_iff.mp nd)).1, fun b hb => nf b (hm b hb), fh⟩ (Agree.set hfx)
      · have e1 : en.set i d = en := List.set_eq_of_length_le (by omega)
        have e2 : σ.set i (some v) = σ := List.set_eq_of_length_le (by rw [re.len]; omega)
        rw [e1] at h
        rw [e2]
        have pm : ((g1 ++ g2) ++ fp).Perm ((g2 ++ fp) ++ g1) := pcount fun a => by
          simp only [List.count_append]
          omega
        have hm : ∀ b ∈ g2 ++ fp, b ∈ (g1 ++ g2) ++ fp := fun b hb => pm.mem_iff.mpr (List.mem_append_left _ hb)
        exact h F H σ fp g2 (Step.refl.weak (fun _ z => z) (fun b hb => .inl (hm b hb)) fun z => nomatch z) ⟨re, rl, (List.nodup_append.mp (pm.nodup_iff.mp nd)).1, fun b hb => nf b (hm b hb), fh⟩ Agree.refl
theorem tgs_nil : PGs X [] (TGsd G W fx gsNil) := pgs_nil.imp fun us σ H Q h => by
  obtain ⟨F, en, fp, f, vs, ds, es, fr, hl, h⟩ := h
  cases es with
  | cons _ _ => exact h.elim
  | nil =>
    cases us with
    | cons _ _ => cases hl
    | nil => exact ⟨rfl, h F H σ fp f (Step.refl.any fun z => nomatch z) fr Agree.refl⟩
theorem tgs_cons {g : D → M Unit} {gs : List D → M Unit} (h1 : PG X e (TGd G W fx g)) (h2 : PGs X es (TGsd G W fx gs))
    (hs : (assignEach (e :: es) X.env).map (·.2) = assign e X.env :: (assignEach es X.env).map (·.2)) : PGs X (e :: es) (TGsd G W fx (gsCons g gs)) := (pgs_cons h1 h2 hs).imp fun us σ H Q h => by
  obtain ⟨F, en, fp, f, vs, ds, es, fr, hl, h⟩ := h
  cases es with
  | nil => exact h.elim
  | cons d0 es =>
    cases us with
    | nil => cases hl
    | cons u us =>
      refine ⟨u, us, rfl, F, en, fp, f, us ++ vs, es ++ ds, d0, fr, ?_⟩
      simp only [gsCons] at h
      cases e1 : g d0 en with
      | ok _ en1 =>
        rw [e1] at h
        dsimp only at h ⊢
        refine fun F1 H1 σ1 fp1 f1 s1 fr1 ag1 => ⟨F1, en1, fp1, f1, vs, ds, es, fr1, by simpa using hl, ?_⟩
        cases e2 : gs es en1 with
        | ok _ en2 =>
          rw [e2] at h
          exact fun F2 H2 σ2 fp2 f2 s2 fr2 ag2 => h F2 H2 σ2 fp2 f2 (s1.trans s2) fr2 (ag1.trans ag2)
        | exc x en2 => rw [e2] at h; exact ExcS.step h s1 ag1
        | stuck => rw [e2] at h; exact h
      | exc x en1 => rw [e1] at h; exact h
      | stuck => rw [e1] at h; exact h
theorem tg_tup {k n : Nat} {gs : List D → M Unit} (hK : X.K = G.K) (hc : X.calm = true) (h : PGs X es (TGsd G W fx gs)) (hn : (assignEach es X.env).length = n) (hst : (assignEach es X.env).findIdx? (·.1) = none) : PG X (.Tuple es k pos) (TGd G W fx (gTup_ n gs)) :=
  (pg_tup hc h hn hst).imp fun v σ H Q h => by
    obtain ⟨F, en, fp, f, vs, ds, d, fr, h⟩ := h
    cases d <;> first | exact h.elim | skip
    rename_i o es2
    by_cases hl : es2.length = n
    case neg => simp only [gTup_, if_neg hl] at h
    simp only [gTup_, if_pos hl] at h
    obtain ⟨re, rl, nd, nf, fh⟩ := fr
    cases rl with
    | @cons _ _ _ _ g1 g2 h1 rl =>
      have key : ∃ a xs g rest, v = .ref a ∧ SqT G.K H a xs ∧ RepL G F H xs es2 g ∧ g1.Perm (g ++ rest) := by
        cases h1 with
        | fz z =>
          cases z with
          | tup a b => exact ⟨_, _, [], [], rfl, (Same.sqt' fh a), b.repL, .refl _⟩
        | @tup a _ _ fL a1 b => exact ⟨_, _, fL, [a], rfl, (by first | exact SqT.of a1 | exact .inl a1), b, List.perm_append_comm (l₁ := [a]) (l₂ := fL)⟩
      obtain ⟨a, xs, g, rest, rfl, hq, hx, pm1⟩ := key
      have pm : ((g1 ++ g2) ++ fp).Perm (((g ++ g2) ++ fp) ++ rest) := pcount fun z => by
        have a1 := pm1.count_eq z
        simp only [List.count_append] at a1 ⊢
        omega
      have hm : ∀ b ∈ (g ++ g2) ++ fp, b ∈ (g1 ++ g2) ++ fp := fun b hb => pm.mem_iff.mpr (List.mem_append_left _ hb)
      refine ⟨a, xs, rfl, by rw [hK]; exact hq, by rw [hx.len]; exact hl, F, en, fp, g ++ g2, vs, ds, es2, ⟨re, hx.append rl, (List.nodup_append.mp (pm.nodup_iff.mp nd)).1, fun b hb => nf b (hm b hb), fh⟩, hx.len, ?_⟩
      have s0 : Step true F H ((g1 ++ g2) ++ fp) F H ((g ++ g2) ++ fp) := Step.refl.weak (fun _ z => z) (fun b hb => .inl (hm b hb)) id
      cases e1 : gs es2 en with
      | ok _ en1 =>
        rw [e1] at h
        exact fun F2 H2 σ2 fp2 f2 s2 fr2 ag2 => h F2 H2 σ2 fp2 f2 ((s0.trans s2).any fun z => nomatch z) fr2 ag2
      | exc x en1 => rw [e1] at h; exact ExcS.step h s0 Agree.refl
      | stuck => rw [e1] at h; exact h
/-! ### simple statements -/
theorem asg_read {m : M D} {g : D → M Unit} {E : Ends} (h : TSd G W fx (sAsg m g) E σ H) : TV G W p m σ H fun v H1 => TGd G W fx g v σ H1 E.nx := by
  obtain ⟨F, en, fp, fr, h⟩ := h
  refine ⟨F, en, fp, fr, ?_⟩
  unfold sAsg at h
  cases e1 : m en with
  | ok d en1 =>
    rw [e1] at h
    dsimp only at h
    refine fun F1 H1 v fp1 f1 s1 fr1 => ⟨F1, en1, fp1, f1, [], [], d, fr1, ?_⟩
    cases e2 : g d en1 with
    | ok _ en2 =>
      rw [e2] at h
      refine fun F2 H2 σ2 fp2 f2 s2 fr2 ag2 => ?_
      obtain ⟨re, rl, nd, nf, fh⟩ := fr2
      cases rl
      exact h F2 H2 σ2 fp2 ((s1.trans s2).any (q := false) (fun z => nomatch z)) ⟨re, .nil, nd, nf, fh⟩ ag2
    | exc x en2 => rw [e2] at h; exact ExcS.step h s1 Agree.refl
    | stuck => rw [e2] at h; exact h
  | exc x en1 => rw [e1] at h; exact ExcS.exc h
  | stuck => rw [e1] at h; exact h
theorem ts_asg {tg : Expr} {m : M D} {g : D → M Unit} (he : PE X e (TV G W p m)) (hg : PG X tg (TGd G W fx g)) (hs : swapsWithSole [tg] e pos.line X.env = pure false) (hw : swappedStores [tg] e X.env = pure none)
    (h1 : (assignEach [tg] X.env).map (·.2) = [assign tg X.env]) : PS X (.Assign [tg] e pos) (TSd G W fx (sAsg m g)) := (ps_asg he hg hs hw h1).imp fun E σ H h => asg_read h
theorem ts_ex {m : M D} (he : PE X e (TV G W p m)) (hs : swapsWith e none pos.line X.env = pure false) : PS X (.Expr e pos) (TSd G W fx (sEx m)) := (ps_expr he hs).imp fun E σ H h => by
  obtain ⟨F, en, fp, fr, h⟩ := h
  refine ⟨F, en, fp, fr, ?_⟩
  unfold sEx at h
  cases e1 : m en with
  | ok d en1 =>
    rw [e1] at h
    exact fun F1 H1 v fp1 f1 s1 fr1 => h F1 H1 σ fp1 (s1.slots.any fun z => nomatch z) fr1.drop Agree.refl
  | exc x en1 => rw [e1] at h; exact ExcS.exc h
  | stuck => rw [e1] at h; exact h
theorem ts_ret {m : M D} (he : PE X e (TV G W p m)) : PS X (.Return (some e) pos) (TSd G W fx (sRet m)) := (ps_ret he).imp fun E σ H h => by
  obtain ⟨F, en, fp, fr, h⟩ := h
  refine ⟨F, en, fp, fr, ?_⟩
  unfold sRet at h
  cases e1 : m en with
  | ok d en1 =>
    rw [e1] at h
    exact fun F1 H1 v fp1 f1 s1 fr1 => h F1 H1 v σ fp1 f1 (s1.any fun z => nomatch z) fr1 Agree.refl
  | exc x en1 => rw [e1] at h; exact ExcS.exc h
  | stuck => rw [e1] at h; exact h
theorem ts_retN : PS X (.Return none pos) (TSd G W fx (sRet fun e => .ok .non e)) := ps_retN.imp fun E σ H h => by
  obtain ⟨F, en, fp, fr, h⟩ := h
  exact h F H .non σ fp [] (Step.refl.any fun z => nomatch z) ⟨fr.re, .cons (f := []) (g := []) (.fz .non) .nil, fr.nd, fr.nf, fr.fh⟩ Agree.refl
theorem ts_brk : PS X (.Break pos) (TSd G W fx fun e => .brk e) := ps_break.imp fun E σ H h => by
  obtain ⟨F, en, fp, fr, h⟩ := h
  exact h F H σ fp (Step.refl.any fun z => nomatch z) fr Agree.refl
theorem ts_cnt : PS X (.Continue pos) (TSd G W fx fun e => .cnt e) := ps_continue.imp fun E σ H h => by
  obtain ⟨F, en, fp, fr, h⟩ := h
  exact h F H σ fp (Step.refl.any fun z => nomatch z) fr Agree.refl
theorem ts_pas : PS X (.Pass pos) (TSd G W fx fun e => .nxt e) := ps_pass.imp fun E σ H h => by
  obtain ⟨F, en, fp, fr, h⟩ := h
  exact h F H σ fp (Step.refl.any fun z => nomatch z) fr Agree.refl
theorem ts_doc {x j pos pos'} : PS X (.Expr (.Constant (.str x) j pos) pos') (TSd G W fx fun e => .nxt e) := ps_doc.imp fun E σ H h => by
  obtain ⟨F, en, fp, fr, h⟩ := h
  exact h F H σ fp (Step.refl.any fun z => nomatch z) fr Agree.refl
theorem tss_nil : PSs X [] (TSd G W fx fun e => .nxt e) := pss_nil.imp fun E σ H h => by
  obtain ⟨F, en, fp, fr, h⟩ := h
  exact h F H σ fp (Step.refl.any fun z => nomatch z) fr Agree.refl
theorem tss_cons {m n : MS} (h1 : PS X st (TSd G W fx m)) (h2 : PSs X sts (TSd G W fx n)) : PSs X (st :: sts) (TSd G W fx (sSeq m n)) := (pss_cons h1 h2).imp fun E σ H h => by
  obtain ⟨F, en, fp, fr, h⟩ := h
  refine ⟨F, en, fp, fr, ?_⟩
  unfold sSeq at h
  cases e1 : m en with
  | nxt en1 =>
    rw [e1] at h
    exact fun F1 H1 σ1 fp1 s1 fr1 ag1 => ⟨F1, en1, fp1, fr1, Aft2.step h s1 ag1⟩
  | brk en1 => rw [e1] at h; exact h
  | cnt en1 => rw [e1] at h; exact h
  | ret d en1 => rw [e1] at h; exact h
  | exc x en1 => rw [e1] at h; exact h
  | stuck => rw [e1] at h; exact h
theorem ts_if {m : M Bool} {n1 n2 : MS} {s1 s2 : List Stmt} (hc : PT X c (TB G W p m)) (ha : PSs X s1 (TSd G W fx n1)) (hb : PSs X s2 (TSd G W fx n2)) : PS X (.If c s1 s2 pos) (TSd G W fx (sIf m n1 n2)) := (ps_if hc ha hb).imp fun E σ H h => by
  obtain ⟨F, en, fp, fr, h⟩ := h
  refine ⟨F, en, fp, fr, ?_⟩
  unfold sIf at h
  cases e1 : m en with
  | ok b en1 =>
    rw [e1] at h
    refine fun F1 H1 fp1 st1 fr1 => ?_
    cases b with
    | true =>
      rw [if_pos rfl]
      exact ⟨F1, en1, fp1, fr1, Aft2.step h st1 Agree.refl⟩
    | false =>
      rw [if_neg Bool.false_ne_true]
      exact ⟨F1, en1, fp1, fr1, Aft2.step h st1 Agree.refl⟩
  | exc x en1 => rw [e1] at h; exact ExcS.exc h
  | stuck => rw [e1] at h; exact h
/-! ### while -/
theorem whl_inv {m : M Bool} {n : MS} {E : Ends} {σ0 : St} {F0 H0 : Hp} {fp0 : List Addr} :
    ∀ k {σ : St} {H : Hp}, (∃ F en fp, Step false F0 H0 fp0 F H fp ∧ Fr0 G F H σ en fp ∧ Agree fx σ0 σ ∧ Aft2 G W fx σ0 F0 H0 fp0 E (whlD m n k en)) →
      TB G W p m σ H fun b H1 => if b = true then ∃ N : St → Hp → Prop, (∀ σ' H', N σ' H' → ∃ k', k' < k ∧ ∃ F en fp, Step false F0 H0 fp0 F H' fp ∧ Fr0 G F H' σ' en fp ∧ Agree fx σ0 σ' ∧ Aft2 G W fx σ0 F0 H0 fp0 E (whlD m n k' en)) ∧
        TSd G W fx n { E with nx := N, ct := N, bk := E.nx } σ H1 else E.nx σ H1 := by
  intro k σ H ⟨F, en, fp, s0, fr, ag, h⟩
  cases k with
  | zero => exact h.elim
  | succ k =>
    refine ⟨F, en, fp, fr, ?_⟩
    unfold whlD at h
    cases e1 : m en with
    | ok b en1 =>
      rw [e1] at h
      refine fun F1 H1 fp1 s1 fr1 => ?_
      have s01 : Step false F0 H0 fp0 F1 H1 fp1 := (s0.trans s1).any fun z => nomatch z
      cases b with
      | true =>
        dsimp only
        rw [if_pos rfl]
        dsimp only at h
        refine ⟨fun σ' H' => ∃ F en fp, Step false F0 H0 fp0 F H' fp ∧ Fr0 G F H' σ' en fp ∧ Agree fx σ0 σ' ∧ Aft2 G W fx σ0 F0 H0 fp0 E (whlD m n k en), fun σ' H' z => ⟨k, by omega, z⟩, F1, en1, fp1, fr1, ?_⟩
        cases e2 : n en1 with
        | nxt en2 =>
          rw [e2] at h
          exact fun F2 H2 σ2 fp2 s2 fr2 ag2 => ⟨F2, en2, fp2, (s01.trans s2).any (fun z => nomatch z), fr2, ag.trans ag2, h⟩
        | cnt en2 =>
          rw [e2] at h
          exact fun F2 H2 σ2 fp2 s2 fr2 ag2 => ⟨F2, en2, fp2, (s01.trans s2).any (fun z => nomatch z), fr2, ag.trans ag2, h⟩
        | brk en2 =>
          rw [e2] at h
          exact Nx.step h s01 ag
        | ret d en2 =>
          rw [e2] at h
          exact Aft2.step (E := E) (r := .ret d en2) h s01 ag
        | exc x en2 => rw [e2] at h; exact ExcS.step h s01 ag
        | stuck => rw [e2] at h; exact h
      | false =>
        dsimp only
        rw [if_neg Bool.false_ne_true]
        exact h F1 H1 σ fp1 s01 fr1 ag
    | exc x en1 => rw [e1] at h; exact ExcS.exc (ExcS.step h s0 ag)
    | stuck => rw [e1] at h; exact h
theorem ts_whl {m : M Bool} {n : MS} {body : List Stmt} (hp : PassesOwn (model X.prog X.w) X.A X.env X.xe) (hc : PT X c (TB G W p m)) (hb : PSs X body (TSd G W fx n)) : PS X (.While c body [] pos) (TSd G W fx (whlD m n BIG)) := (ps_while hp hc hb).imp fun E σ H h => by
  obtain ⟨F, en, fp, fr, h⟩ := h
  refine ⟨fun k σ' H' => ∃ F' en' fp', Step false F H fp F' H' fp' ∧ Fr0 G F' H' σ' en' fp' ∧ Agree fx σ σ' ∧ Aft2 G W fx σ F H fp E (whlD m n k en'), ⟨BIG, F, en, fp, Step.refl.any (fun z => nomatch z), fr, Agree.refl, h⟩, fun k σ' H' w => ?_⟩
  exact whl_inv k w
end
end Dn
end L2
set_option Elab.async false
set_option linter.all false
set_option maxRecDepth 100000
set_option maxHeartbeats 1000000
/-! Stores to fields and items. -/
namespace L2
namespace Dn
open PySem PySem.Spec PyProof.Rows
section
variable {G : Gi} {W : WX} {X : Cx} {p q r : Bool} {fx : Nat → Prop} {σ σ' : St} {F H F' H' : Hp} {f fp fp' : List Addr} {e o a b c i : Expr} {es : List Expr} {pos apos cpos : Pos}
/-! ### rules by values -/
def gFldA (K : PySem.W.Frag) (ta : TE) (fd : Str) : TG := fun v σ H Q => ta σ H fun x H1 => ∃ a C dx fs, x = .ref a ∧ H1 a = some (.ins C dx fs) ∧ Cls K C ∧ NoAttr K C fd ∧ fs.length < 1000 ∧ Q σ (upd H1 a (.ins C dx (putF fd v fs)))
theorem pg_fldA {ta : TE} {fd : Str} (ha : PE X o ta) : PG X (.Attribute o fd pos) (gFldA X.K ta fd) := by
  refine ⟨fun pins s σ H v u Q I r h => ?_⟩
  show wpAny _ _ (do
    let ov ← holding [u] (eval o X.env)
    standAt pos.atName
    holding [u, ov] (setAttr ov fd u)
    release [u, ov] []) _ _ _
  refine wpAny_bind (wpAny_holding (thn (ha.run pins s σ H _ I h) fun ov s1 ⟨x, H1, I1, r1, a, C, dx, fs, ex, ea, c, n, l, q⟩ => ?_))
  subst ex
  obtain rfl : ov = Value.ref a := r1
  refine wpAny_bind (wpAny_standAt (wpAny_bind (wpAny_holding ?_)))
  exact setattr_ok I1 ea c n l r fun s3 I3 => wpAny_release ⟨σ, _, I3, q⟩
def sSetA : TSet := fun o i v H Q => rSetL o i v H Q ∨ ∃ a H', o = .ref a ∧ DPut H a i v H' ∧ Q H'
theorem set_any (hu : X.A.units + 1 < cLine) : PSet X sSetA := by
  intro pins s σ H o i v ov iv u Q I ro ri rv h
  rcases h with h | ⟨a, H', rfl, g, q⟩
  · exact set_list pins s σ H o i v ov iv u Q I ro ri rv h
  · obtain rfl : ov = Value.ref a := ro
    exact d_setItem hu I g ri rv fun s4 I4 => ⟨H', I4, q⟩
/-! ### lists of keys and fields -/
theorem putF_at {nm : Str} {y : V} : ∀ {fs : List (Str × V)} {ns : List Str} {j : Nat}, fs.map (·.1) = ns.take fs.length → ns.Nodup → ns[j]? = some nm → j < fs.length → (putF nm y fs).map (·.1) = fs.map (·.1) ∧ (putF nm y fs).map (·.2) = (fs.map (·.2)).set j y
  | [], _, _, _, _, _, h => absurd h (Nat.not_lt_zero _)
  | (g, x) :: fs, n0 :: ns, j, e, nd, hn, hj => by
    simp only [List.map_cons, List.length_cons, List.take_succ_cons, List.cons.injEq] at e
    obtain ⟨rfl, e⟩ := e
    cases j with
    | zero =>
      cases hn
      simp [putF]
    | succ j =>
      have hne : g ≠ nm := fun z => by
        subst z
        exact (List.nodup_cons.mp nd).1 (List.mem_of_getElem? hn)
      obtain ⟨k1, k2⟩ := putF_at (y := y) e (List.nodup_cons.mp nd).2 hn (by simpa using hj)
      simp only [putF, if_neg hne, List.map_cons, k1, k2, List.set_cons_succ]
      exact ⟨trivial, trivial⟩
  | (_, _) :: _, [], j, e, _, _, _ => by simp at e
theorem putF_new {nm : Str} {y : V} : ∀ {fs : List (Str × V)}, nm ∉ fs.map (·.1) → putF nm y fs = fs ++ [(nm, y)]
  | [], _ => rfl
  | (g, x) :: fs, h => by
    rw [List.map_cons, List.mem_cons, not_or] at h
    simp only [putF, if_neg (Ne.symm h.1), List.cons_append]
    rw [putF_new h.2]
theorem keyIx_cons {k0 x : KD} {ks : List KD} : keyIx (k0 :: ks) x = if k0 = x then some 0 else (keyIx ks x).map (· + 1) := by
  unfold keyIx
  rw [List.findIdx?_cons]
  by_cases h : k0 = x
  · simp [h]
  · simp [h]
theorem putM_no {k : Key} {v : V} : ∀ {kvs : List (Key × V)}, (kvs.map fun q => KD.k q.1).count (.k k) = 0 → kvs.map (fun kv => if kv.1 = k then (kv.1, v) else kv) = kvs ∧ (kvs.any fun kv => decide (kv.1 = k)) = false
  | [], _ => ⟨rfl, rfl⟩
  | (k0, v0) :: r, h => by
    rw [List.map_cons, List.count_cons] at h
    have hne : k0 ≠ k := fun z => by rw [z] at h; simp at h
    obtain ⟨a, b⟩ := putM_no (k := k) (v := v) (kvs := r) (by omega)
    simp only [List.map_cons, List.any_cons, if_neg hne, a, b]
    simp [hne]
theorem putM_at {k : Key} {v : V} : ∀ {kvs : List (Key × V)} {j : Nat}, keyIx (kvs.map fun q => KD.k q.1) (.k k) = some j → (kvs.map fun q => KD.k q.1).count (.k k) ≤ 1 →
    kvs.map (fun kv => if kv.1 = k then (kv.1, v) else kv) = kvs.set j (k, v) ∧ (kvs.any fun kv => decide (kv.1 = k)) = true ∧ (kvs.map (·.1))[j]? = some k
  | [], j, h, _ => by cases h
  | (k0, v0) :: r, j, h, c => by
    rw [List.map_cons, keyIx_cons] at h
    rw [List.map_cons, List.count_cons] at c
    by_cases he : k0 = k
    · subst he
      rw [if_pos rfl] at h
      cases h
      obtain ⟨a, b⟩ := putM_no (k := k0) (v := v) (kvs := r) (by simp at c; exact c)
      simp only [List.map_cons, if_pos, a, List.set_cons_zero]
      simp
    · rw [if_neg (by intro z; cases z; exact he rfl)] at h
      cases hj : keyIx (r.map fun q => KD.k q.1) (.k k) with
      | none => rw [hj] at h; cases h
      | some j' =>
        rw [hj] at h
        cases h
        obtain ⟨a, b, d⟩ := putM_at (v := v) hj (by omega)
        simp only [List.map_cons, if_neg he, a, List.set_cons_succ, List.any_cons, b, Bool.or_true]
        exact ⟨trivial, trivial, by simpa using d⟩
theorem putM_none {k : Key} : ∀ {kvs : List (Key × V)}, keyIx (kvs.map fun q => KD.k q.1) (.k k) = none → (kvs.any fun kv => decide (kv.1 = k)) = false
  | [], _ => rfl
  | (k0, v0) :: r, h => by
    rw [List.map_cons, keyIx_cons] at h
    by_cases he : k0 = k
    · rw [if_pos (by rw [he])] at h
      cases h
    · rw [if_neg (by intro z; cases z; exact he rfl)] at h
      rw [List.any_cons, putM_none (kvs := r) (by cases q : keyIx (r.map fun q => KD.k q.1) (.k k) <;> rw [q] at h <;> first | rfl | cases h)]
      simp [he]
/-! ### the owned object at a place is changed -/
/-- as Fr.poke, the temporaries behind the root's own -/
theorem Fr.store {en : Env} {n : Nat} {s : Path} {v0 : V} {vs ws : List V} {ds es2 : List D} {ad : Addr} {o' : HO} {d' : D} (fr : Fr G F H σ en vs ds fp f) (h1 : σ[n]? = some (some v0)) (ow : (getD (en.at n) s).own = true) (hp : pathV H v0 s = some (.ref ad))
    (new : ∀ fd fv, Rep G F H (.ref ad) (getD (en.at n) s) fd → RepL G F H vs ds fv → (fd ++ fv).Nodup → ∃ f2 fw dr, Rep G F (upd H ad o') (.ref ad) d' f2 ∧ RepL G F (upd H ad o') ws es2 fw ∧ (f2 ++ fw ++ dr).Perm (fd ++ fv)) :
    ∃ fp2 f2, Fr G F (upd H ad o') σ (en.set n (setD (en.at n) s d')) ws es2 fp2 f2 ∧ Step false F H (f ++ fp) F (upd H ad o') (f2 ++ fp2) := by
  have hno : en.at n ≠ .no := fun z => by rw [z, getD_no] at ow; cases ow
  obtain ⟨v0', g, fp4, t1, fr4, pm⟩ := fr.take hno
  rw [h1] at t1
  cases t1
  have s4 : Step true F H (f ++ fp) F H ((g ++ f) ++ fp4) := Step.refl.weak (fun _ z => z) (fun b hb => .inl (pm.mem_iff.mpr hb)) id
  obtain ⟨f5, fr5, s5⟩ := fr4.poke (o' := o') (d' := d') (ws := ws) (es2 := es2) ow hp new
  obtain ⟨fp6, f6, fr6, hm6⟩ := fr5.give h1 (by rw [List.length_set]; exact at_lt hno)
  rw [List.set_set] at fr6
  have s6 := (s4.trans s5).any (q := false) fun z => nomatch z
  exact ⟨fp6, f6, fr6, s6.weak (fun _ z => z) (fun b hb => .inl (hm6 b hb)) id⟩
theorem setFld_own {d x d' : D} {c j : Nat} (h : setFld d c j x = some d') : ∃ ds, d = .obj true c ds ∧ ((j < ds.length ∧ d' = .obj true c (ds.set j x)) ∨ (j = ds.length ∧ d' = .obj true c (ds ++ [x]))) := by
  unfold setFld at h
  split at h
  · split at h
    · rename_i e
      subst e
      split at h
      · cases h; exact ⟨_, rfl, .inl ⟨‹_›, rfl⟩⟩
      · split at h
        · cases h; exact ⟨_, rfl, .inr ⟨‹_›, rfl⟩⟩
        · cases h
    · cases h
  · cases h
theorem rep_objT {v : V} {c : Nat} {ds : List D} (h : Rep G F H v (.obj true c ds) f) : ∃ a dx fs g, v = .ref a ∧ H a = some (.ins (G.cls c) dx fs) ∧ H dx = some (.own a) ∧ fs.map (·.1) = (G.fnm c).take ds.length ∧ RepL G F H (fs.map (·.2)) ds g ∧ f = a :: dx :: g := by
  cases h with
  | fz h => cases h
  | obj h1 h2 h3 h4 => exact ⟨_, _, _, _, rfl, h1, h2, h3, h4, rfl⟩
theorem tg_fld {mp : M (Nat × Path)} {c j : Nat} {nm : Str} (ho : PE X o (TP G W p mp)) (hK : X.K = G.K) (ok : ClsOk G c) (hn : (G.fnm c)[j]? = some nm) : PG X (.Attribute o nm pos) (TGd G W fx (gFld mp c j)) := (pg_fldA ho).imp fun v σ H Q h => by
  obtain ⟨F, en, fp, f, vs, ds, d, fr, h⟩ := h
  refine ⟨F, en, fp, fr.drop, ?_⟩
  unfold gFld at h
  cases e1 : mp en with
  | ok ip en1 =>
    obtain ⟨i, s⟩ := ip
    rw [e1] at h
    dsimp only at h
    refine fun F1 H1 x fp1 s1 sm fr1 ⟨v0, k1, k2⟩ => ?_
    obtain ⟨fr2, s2⟩ := fr.keep (g := []) s1 fr1
    simp only [List.append_nil] at fr2 s2
    cases e2 : setFld (getD (en1.at i) s) c j d with
    | none => rw [e2] at h; exact h.elim
    | some d' =>
      rw [e2] at h
      dsimp only at h
      obtain ⟨ds0, hd, hj⟩ := setFld_own e2
      obtain ⟨v0', v', g, p1, p2, p3, _⟩ := fr2.place (i := i) (s := s) (by rw [hd]; exact fun z => nomatch z)
      rw [k1] at p1
      cases p1
      rw [k2] at p2
      cases p2
      rw [hd] at p3
      obtain ⟨a, dx, fs, hx, ha, hnm, hl⟩ : ∃ (a dx : Addr) (fs : List (Str × V)), x = .ref a ∧ H1 a = some (.ins (G.cls c) dx fs) ∧ fs.map (·.1) = (G.fnm c).take ds0.length ∧ fs.length = ds0.length := by
        cases p3 with
        | fz z => cases z
        | obj h1 h2 h3 h4 => exact ⟨_, _, _, rfl, h1, h3, by have z := h4.len; rw [List.length_map] at z; exact z⟩
      subst hx
      have hle : fs.length ≤ (G.fnm c).length := by
        have := congrArg List.length hnm
        rw [List.length_map, List.length_take] at this
        omega
      refine ⟨a, _, dx, fs, rfl, ha, by rw [hK]; exact ok.cl, by rw [hK]; exact ok.na nm (List.mem_of_getElem? hn), Nat.lt_of_le_of_lt hle ok.le, ?_⟩
      have hput : (putF nm v fs).map (·.1) = (G.fnm c).take (putF nm v fs).length ∧ ((j < ds0.length ∧ (putF nm v fs).map (·.2) = (fs.map (·.2)).set j v) ∨ (j = ds0.length ∧ (putF nm v fs).map (·.2) = fs.map (·.2) ++ [v])) ∧ d' = .obj true c (if j < ds0.length then ds0.set j d else ds0 ++ [d]) := by
        rcases hj with ⟨hj, rfl⟩ | ⟨hj, rfl⟩
        · obtain ⟨q1, q2⟩ := putF_at (y := v) (by rw [hl]; exact hnm) ok.nd hn (by rw [hl]; exact hj)
          have hlen : (putF nm v fs).length = fs.length := by rw [← List.length_map (f := (·.1)), q1, List.length_map]
          exact ⟨by rw [q1, hlen, hl]; exact hnm, .inl ⟨hj, q2⟩, by rw [if_pos hj]⟩
        · have hni : nm ∉ fs.map (·.1) := by
            rw [hnm, ← hj]
            intro z
            have sp := List.take_append_drop j (G.fnm c)
            obtain ⟨hj2, e2⟩ := List.getElem?_eq_some_iff.mp hn
            rw [List.drop_eq_getElem_cons hj2, e2] at sp
            have nd := ok.nd
            rw [← sp] at nd
            exact (List.nodup_append.mp nd).2.2 nm z nm List.mem_cons_self rfl
          rw [putF_new hni]
          refine ⟨?_, .inr ⟨hj, by simp⟩, by rw [if_neg (by omega)]⟩
          rw [List.map_append, hnm, List.length_append, hl, List.length_singleton, List.take_succ, ← hj, hn]
          rfl
      obtain ⟨q1, q2, q3⟩ := hput
      subst q3
      obtain ⟨fp3, f3, fr3, s3⟩ := fr2.store (o' := .ins (G.cls c) dx (putF nm v fs)) (d' := .obj true c (if j < ds0.length then ds0.set j d else ds0 ++ [d])) (ws := vs) (es2 := ds) k1 (by rw [hd]; rfl) k2 fun fd fv r1 r2 nd => by
        rw [hd] at r1
        obtain ⟨a', dx', fs', fL, e0, h1, h2, h3, h4, rfl⟩ := rep_objT r1
        cases e0
        rw [ha] at h1
        cases h1
        · skip
          cases r2 with
          | @cons _ _ _ _ g1 g2 t1 t2 =>
            have na : ∀ b ∈ dx :: (fL ++ (g1 ++ g2)), b ≠ a := fun b hb z => (List.nodup_cons.mp nd).1 (by rw [← z]; exact hb)
            have kk : ∀ b ∈ fL ++ (g1 ++ g2), upd H1 a (.ins (G.cls c) dx (putF nm v fs)) b = H1 b := fun b hb => upd_ne (na b (List.mem_cons_of_mem _ hb))
            have m2 := t2.move (F' := F1) (Same.refl F1) fun b hb => kk b (List.mem_append_right _ (List.mem_append_right _ hb))
            have m1 := t1.move (F' := F1) (Same.refl F1) fun b hb => kk b (List.mem_append_right _ (List.mem_append_left _ hb))
            have m4 := h4.move (F' := F1) (Same.refl F1) fun b hb => kk b (List.mem_append_left _ hb)
            have hdx : upd H1 a (.ins (G.cls c) dx (putF nm v fs)) dx = some (.own a) := by rw [upd_ne (na dx List.mem_cons_self)]; exact h2
            rcases q2 with ⟨hj, q2⟩ | ⟨hj, q2⟩
            · rw [if_pos hj]
              obtain ⟨vj, fj, rj, e1, e2, e3, e4⟩ := m4.at (getD_get hj)
              obtain ⟨g', u1, u2⟩ := e4 F1 _ v d g1 (Same.refl F1) (fun _ _ => rfl) m1
              rw [← q2] at u2
              refine ⟨a :: dx :: g', g2, fj, .obj upd_same hdx ?_ u2, m2, ?_⟩
              · rw [q1]
                have := u2.len
                rw [List.length_map] at this
                rw [this]
              · refine pcount fun z => ?_
                have a1 := u1.count_eq z
                have a2 := e3.count_eq z
                simp only [List.count_append, List.count_cons] at a1 a2 ⊢
                omega
            · rw [if_neg (by omega)]
              have u2 : RepL G F1 (upd H1 a (.ins (G.cls c) dx (putF nm v fs))) (fs.map (·.2) ++ [v]) (ds0 ++ [d]) (fL ++ (g1 ++ [])) := m4.append (.cons m1 .nil)
              rw [← q2] at u2
              refine ⟨a :: dx :: (fL ++ (g1 ++ [])), g2, [], .obj upd_same hdx ?_ u2, m2, ?_⟩
              · rw [q1]
                have := u2.len
                rw [List.length_map] at this
                rw [this]
              · refine pcount fun z => ?_
                simp only [List.count_append, List.count_cons, List.count_nil]
                omega
      rcases hj with ⟨hj, e⟩ | ⟨hj, e⟩
      · rw [if_pos hj] at fr3
        rw [e] at h
        exact h F1 _ σ fp3 f3 ((s2.trans s3).any fun z => nomatch z) fr3 Agree.refl
      · rw [if_neg (by omega)] at fr3
        rw [e] at h
        exact h F1 _ σ fp3 f3 ((s2.trans s3).any fun z => nomatch z) fr3 Agree.refl
  | exc x en1 =>
    rw [e1] at h
    refine fun F1 H1 fp1 cls dx s1 fr1 xr => ExcS.exc h F1 H1 fp1 cls dx ?_ fr1 xr
    exact s1.weak (fun b hb => List.mem_append_right _ hb) (fun b hb => .inl hb) id
  | stuck => rw [e1] at h; exact h
end
end Dn
end L2
set_option Elab.async false
set_option linter.all false
set_option maxRecDepth 100000
set_option maxHeartbeats 1000000
/-! Stores to items. -/
namespace L2
namespace Dn
open PySem PySem.Spec PyProof.Rows
section
variable {G : Gi} {W : WX} {X : Cx} {p q r : Bool} {fx : Nat → Prop} {σ σ' : St} {F H F' H' : Hp} {f fp fp' : List Addr} {e o a b c i : Expr} {es : List Expr} {pos apos cpos : Pos}
theorem rep_dKT {v : V} {ks : List KD} {ds : List D} (h : Rep G F H v (.dct true false ks ds) f) : ∃ a kvs g, v = .ref a ∧ H a = some (.dK kvs) ∧ ks = kvs.map (fun q => KD.k q.1) ∧ RepL G F H (kvs.map (·.2)) ds g ∧ f = a :: g := by
  generalize hd : D.dct true false ks ds = d at h
  cases h with
  | fz h => subst hd; cases h
  | dK h r => cases hd; exact ⟨_, _, _, rfl, h, rfl, r, rfl⟩
  | _ => cases hd
inductive IxS : D → D → D → D → Prop
  | lst {ds : List D} {n : Int} {j : Nat} {x : D} : ixN ds.length n = some j → IxS (.lst true ds) (.int n) x (.lst true (ds.set j x))
  | dk {ks : List KD} {ds : List D} {i x : D} {k : Key} : i.key = some (.k k) → ks.length < LINE → ks.count (.k k) ≤ 1 → IxS (.dct true false ks ds) i x (.dct true false (putKD ks ds (.k k) x).1 (putKD ks ds (.k k) x).2)
theorem ixs_of {d i x d' : D} (h : setIx d i x = some d') : IxS d i x d' := by
  unfold setIx at h
  split at h
  · split at h
    · cases h
      exact .lst ‹_›
    · cases h
  · rename_i t ks ds
    split at h
    · rename_i k hk
      split at h
      · rename_i hc
        cases h
        simp only [Bool.and_eq_true, decide_eq_true_eq] at hc
        obtain ⟨⟨⟨h1, h2⟩, h3⟩, h4⟩ := hc
        cases t with
        | true => cases h2
        | false =>
          cases k with
          | t _ => cases h1
          | k k => exact .dk hk h3 h4
      · cases h
    · cases h
  · cases h
theorem IxS.own {d i x d' : D} (h : IxS d i x d') : d.own = true := by cases h <;> rfl
theorem key_val {i : D} {k : Key} {w : V} (h : i.key = some (.k k)) (r : Rep G F H w i f) : w = kV k := by
  cases i <;> simp only [D.key] at h <;> first | (cases h; done) | skip
  · cases h
    exact rep_int r
  · cases h
    exact rep_str r
  · rename_i ds
    cases q : keysD ds <;> rw [q] at h <;> cases h
theorem putK_len {kvs : List (Key × V)} {ds : List D} {g : List Addr} (h : RepL G F H (kvs.map (·.2)) ds g) : kvs.length = ds.length := by
  have := h.len
  rw [List.length_map] at this
  exact this
theorem tg_ix {mp : M (Nat × Path)} {ma : M D} (hK : X.K = G.K) (ho : PE X o (TP G W p mp)) (hi : PE X i (TV G W q ma)) (hst : q = true ∨ ∀ en i s en', mp en = .ok (i, s) en' → s = []) (hu : X.A.units + 1 < cLine)
    (ha : ∀ v, assign (.Subscript o i pos) X.env v = (do
      let ov ← holding [v] (eval o X.env)
      let iv ← holding [v, ov] (eval i X.env)
      standAt pos
      holding [v, ov, iv] (setItem ov iv v)
      release [v, ov, iv] [])) : PG X (.Subscript o i pos) (TGd G W fx (gIx mp ma)) := (pg_sub ho hi (set_any hu) ha).imp fun v σ H Q h => by
  obtain ⟨F, en, fp, f, vs, ds, d, fr, h⟩ := h
  refine ⟨F, en, fp, fr.drop, ?_⟩
  have wk : ∀ {x : Dn.X} {en1 : Env}, ExcS G W fx σ F H (f ++ fp) x en1 → Exc G W σ F H fp x en1 := fun h F1 H1 fp1 cls dx s1 fr1 xr =>
    ExcS.exc h F1 H1 fp1 cls dx (s1.weak (fun b hb => List.mem_append_right _ hb) (fun b hb => .inl hb) id) fr1 xr
  unfold gIx at h
  cases e1 : mp en with
  | ok ip en1 =>
    obtain ⟨n, s⟩ := ip
    rw [e1] at h
    dsimp only at h
    refine fun F1 H1 x fp1 s1 sm fr1 ⟨v0, k1, k2⟩ => ⟨F1, en1, fp1, fr1, ?_⟩
    obtain ⟨fr2, s2⟩ := fr.keep (g := []) s1 fr1
    simp only [List.append_nil] at fr2 s2
    cases e2 : ma en1 with
    | ok kd en2 =>
      rw [e2] at h
      dsimp only at h
      refine fun F3 H3 w fp3 f3 s3 fr3 => ?_
      obtain ⟨fr4, s4⟩ := fr2.keep s3 fr3
      cases e3 : setIx (getD (en2.at n) s) kd d with
      | none => rw [e3] at h; exact h.elim
      | some d' =>
        rw [e3] at h
        dsimp only at h
        have k3 : pathV H3 v0 s = some x := by
          rcases hst with z | z
          · exact pathV_mono (s3.pu z) k2
          · obtain rfl := z _ _ _ _ e1
            exact k2
        have hs := ixs_of e3
        have s24 := s2.trans s4
        obtain ⟨v0', v', g, p1, p2, p3, _⟩ := fr4.place (i := n) (s := s) (by have := hs.own; intro z; rw [z] at this; cases this)
        rw [k1] at p1
        cases p1
        rw [k3] at p2
        cases p2
        have rw0 := fr3.one
        have ow := hs.own
        generalize hdd : getD (en2.at n) s = dd at hs p3
        -- the temporaries: the value, the others, the key
        have inv : ∀ {Hx : Hp} {fv : List Addr}, RepL G F3 Hx ((v :: vs) ++ [w]) ((d :: ds) ++ [kd]) fv → ∃ gv gr gk, Rep G F3 Hx v d gv ∧ RepL G F3 Hx vs ds gr ∧ fv = gv ++ (gr ++ gk) := fun {Hx fv} r => by
          cases r with
          | @cons _ _ _ _ g1 g2 t1 t2 =>
            obtain ⟨ws, w', y1, y2, ew, rfl, u1, u2⟩ := t2.snoc_inv
            obtain ⟨rfl, _⟩ := List.append_inj' ew rfl
            exact ⟨g1, y1, y2, t1, u1, rfl⟩
        cases hs with
        | @lst ds0 nn j _ hj =>
          obtain ⟨a, xs, gg, rfl, hax, hr, hgg⟩ := rep_lstT p3
          obtain rfl := rep_int rw0
          refine .inl ⟨a, xs, nn, j, rfl, rfl, hax, by rw [hr.len]; exact hj, ?_⟩
          obtain ⟨fp5, f5, fr5, s5⟩ := fr4.store (o' := .lst (xs.set j v)) (d' := .lst true (ds0.set j d)) (ws := vs) (es2 := ds) k1 (by rw [hdd]; rfl) k3 fun fd fv r1 r2 nd => by
            rw [hdd] at r1
            obtain ⟨a', xs', fL, e0, h1, h4, rfl⟩ := rep_lstT r1
            cases e0
            rw [hax] at h1
            cases h1
            obtain ⟨gv, gr, gk, t1, t2, rfl⟩ := inv r2
            have na : ∀ b ∈ fL ++ (gv ++ (gr ++ gk)), b ≠ a := fun b hb z => (List.nodup_cons.mp nd).1 (by rw [← z]; exact hb)
            have kk : ∀ b ∈ fL ++ (gv ++ (gr ++ gk)), upd H3 a (.lst (xs.set j v)) b = H3 b := fun b hb => upd_ne (na b hb)
            have m1 := t1.move (F' := F3) (H' := upd H3 a (.lst (xs.set j v))) (Same.refl F3) fun b hb => kk b (List.mem_append_right _ (List.mem_append_left _ hb))
            have m2 := t2.move (F' := F3) (H' := upd H3 a (.lst (xs.set j v))) (Same.refl F3) fun b hb => kk b (List.mem_append_right _ (List.mem_append_right _ (List.mem_append_left _ hb)))
            have m4 := h4.move (F' := F3) (H' := upd H3 a (.lst (xs.set j v))) (Same.refl F3) fun b hb => kk b (List.mem_append_left _ hb)
            obtain ⟨vj, fj, rj, e1, e2, e3, e4⟩ := m4.at (getD_get (ixN_lt hj))
            obtain ⟨g', u1, u2⟩ := e4 F3 _ v d gv (Same.refl F3) (fun _ _ => rfl) m1
            refine ⟨a :: g', gr, gk ++ fj, .lst upd_same u2, m2, ?_⟩
            refine pcount fun z => ?_
            have a1 := u1.count_eq z
            have a2 := e3.count_eq z
            simp only [List.count_append, List.count_cons] at a1 a2 ⊢
            omega
          exact h F3 _ σ fp5 f5 ((s24.trans s5).any fun z => nomatch z) fr5 Agree.refl
        | @dk ks ds0 _ _ k hk hl hc =>
          obtain ⟨a, kvs, gg, rfl, hax, rfl, hr, hgg⟩ := rep_dKT p3
          obtain rfl := key_val hk rw0
          refine .inr ⟨a, _, rfl, DPut.k hax (by rw [← LINE_le]; simpa using hl), ?_⟩
          have hln := putK_len hr
          obtain ⟨fp5, f5, fr5, s5⟩ := fr4.store (o' := .dK (putK kvs k v)) (d' := .dct true false (putKD (kvs.map fun q => KD.k q.1) ds0 (.k k) d).1 (putKD (kvs.map fun q => KD.k q.1) ds0 (.k k) d).2) (ws := vs) (es2 := ds) k1 (by rw [hdd]; rfl) k3 fun fd fv r1 r2 nd => by
            rw [hdd] at r1
            obtain ⟨a', kvs', fL, e0, h1, ek, h4, rfl⟩ := rep_dKT r1
            cases e0
            rw [hax] at h1
            cases h1
            obtain ⟨gv, gr, gk, t1, t2, rfl⟩ := inv r2
            have na : ∀ b ∈ fL ++ (gv ++ (gr ++ gk)), b ≠ a := fun b hb z => (List.nodup_cons.mp nd).1 (by rw [← z]; exact hb)
            have kk : ∀ b ∈ fL ++ (gv ++ (gr ++ gk)), upd H3 a (.dK (putK kvs k v)) b = H3 b := fun b hb => upd_ne (na b hb)
            have m1 := t1.move (F' := F3) (H' := upd H3 a (.dK (putK kvs k v))) (Same.refl F3) fun b hb => kk b (List.mem_append_right _ (List.mem_append_left _ hb))
            have m2 := t2.move (F' := F3) (H' := upd H3 a (.dK (putK kvs k v))) (Same.refl F3) fun b hb => kk b (List.mem_append_right _ (List.mem_append_right _ (List.mem_append_left _ hb)))
            have m4 := h4.move (F' := F3) (H' := upd H3 a (.dK (putK kvs k v))) (Same.refl F3) fun b hb => kk b (List.mem_append_left _ hb)
            cases hx : keyIx (kvs.map fun q => KD.k q.1) (.k k) with
            | some j =>
              obtain ⟨w1, w2, w3⟩ := putM_at (v := v) hx hc
              have hj := keyIx_lt hx
              rw [List.length_map] at hj
              have ep : putK kvs k v = kvs.set j (k, v) := by rw [← w1]; unfold putK; rw [if_pos w2]
              obtain ⟨vj, fj, rj, e1, e2, e3, e4⟩ := m4.at (getD_get (j := j) (by omega))
              obtain ⟨g', u1, u2⟩ := e4 F3 _ v d gv (Same.refl F3) (fun _ _ => rfl) m1
              have hks : (kvs.set j (k, v)).map (fun q => KD.k q.1) = kvs.map fun q => KD.k q.1 := by
                rw [List.map_set]
                refine set_self ?_
                rw [List.getElem?_map] at w3 ⊢
                obtain ⟨z, z1, z2⟩ := Option.map_eq_some_iff.mp w3
                rw [z1]
                simp only [Option.map_some, z2]
              have hvs : (kvs.set j (k, v)).map (·.2) = (kvs.map (·.2)).set j v := by rw [List.map_set]
              have r0 := Rep.dK (G := G) (F := F3) (H := upd H3 a (.dK (putK kvs k v))) (a := a) (kvs := kvs.set j (k, v)) (ds := ds0.set j d) (fp := g') (by rw [upd_same, ep]) (by rw [hvs]; exact u2)
              rw [hks] at r0
              refine ⟨a :: g', gr, gk ++ fj, ?_, m2, ?_⟩
              · simp only [putKD, hx]
                exact r0
              · refine pcount fun z => ?_
                have a1 := u1.count_eq z
                have a2 := e3.count_eq z
                simp only [List.count_append, List.count_cons] at a1 a2 ⊢
                omega
            | none =>
              have w2 := putM_none hx
              have ep : putK kvs k v = kvs ++ [(k, v)] := by unfold putK; rw [if_neg (by rw [w2]; exact Bool.false_ne_true)]
              have u2 := m4.append (.cons m1 .nil)
              have r0 := Rep.dK (G := G) (F := F3) (H := upd H3 a (.dK (putK kvs k v))) (a := a) (kvs := kvs ++ [(k, v)]) (ds := ds0 ++ [d]) (fp := fL ++ (gv ++ [])) (by rw [upd_same, ep]) (by rw [List.map_append]; exact u2)
              rw [List.map_append] at r0
              refine ⟨a :: (fL ++ (gv ++ [])), gr, gk, ?_, m2, ?_⟩
              · simp only [putKD, hx]
                exact r0
              · refine pcount fun z => ?_
                simp only [List.count_append, List.count_cons, List.count_nil]
                omega
          exact h F3 _ σ fp5 f5 ((s24.trans s5).any fun z => nomatch z) fr5 Agree.refl
    | exc y en2 =>
      rw [e2] at h
      refine fun F3 H3 fp3 cls dx s3 fr3 xr => wk h F3 H3 fp3 cls dx ((s1.trans s3).any fun z => nomatch z) fr3 xr
    | stuck => rw [e2] at h; exact h
  | exc x en1 => rw [e1] at h; exact wk h
  | stuck => rw [e1] at h; exact h
end
end Dn
end L2
set_option Elab.async false
set_option linter.all false
set_option maxRecDepth 100000
set_option maxHeartbeats 1000000
/-! Loops over items. -/
namespace L2
namespace Dn
open PySem PySem.Spec PyProof.Rows
def orL (L : List Nat) (fx : Nat → Prop) : Nat → Prop := fun i => i ∈ L ∨ fx i
/-- the slot whose list is lent, as a temporary -/
def Lent (σ : St) : Option (Nat × D) → List V → List D → Prop
  | none, vs, ds => vs = [] ∧ ds = []
  | some (i, d), vs, ds => ∃ v, σ[i]? = some (some v) ∧ vs = [v] ∧ ds = [d]
/-- the iterator yields the items, as long as the temporaries stand -/
def Turns (G : Gi) (F0 : Hp) (J : It) (items : List D) (tvs : List V) (tds : List D) : Prop :=
  ∀ (F H : Hp) (σ : St) (en : Env) (fp f : List Addr), Same F0 F → Fr G F H σ en tvs tds fp f → (J.stop items.length H) ∧ ∀ k d, items[k]? = some d → J.go k H ∧
    ∀ x H', J.yld k H x H' → ∃ f', Fr G F H' σ en (x :: tvs) (d :: tds) fp f' ∧ Step false F H (f ++ fp) F H' (f' ++ fp)
section
variable (G : Gi) (W : WX)
def TId (mi : M IV) : TI := fun σ H R => ∃ F en fp, Fr0 G F H σ en fp ∧ Aft G W σ F H fp (mi en) fun iv en' =>
  ∀ F' H' J tvs tds fp' f, Step false F H fp F' H' (f ++ fp') → Fr G F' H' σ en' tvs tds fp' f → Lent σ iv.lent tvs tds → Turns G F' J iv.items tvs tds → R J H'
end
section
variable {G : Gi} {W : WX} {X : Cx} {p q r : Bool} {fx : Nat → Prop} {L : List Nat} {σ σ' : St} {F H F' H' : Hp} {f fp fp' : List Addr} {e o a b c i tg : Expr} {es : List Expr} {body : List Stmt} {pos apos cpos : Pos}
theorem RS.map_nxt {g : Env → Env} {e : Env} : (RS.nxt e).map g = .nxt (g e) := rfl
/-- what is lent is put back -/
theorem Fr.unlend {l : Option (Nat × D)} {tvs ws : List V} {tds es2 : List D} {en : Env} (fr : Fr G F H σ en (tvs ++ ws) (tds ++ es2) fp f) (hl : Lent σ l tvs tds) : ∃ fp2 f2, Fr G F H σ (Dn.unlend l en) ws es2 fp2 f2 ∧ ∀ b ∈ f2 ++ fp2, b ∈ f ++ fp := by
  cases l with
  | none =>
    obtain ⟨rfl, rfl⟩ := hl
    exact ⟨fp, f, fr, fun _ h => h⟩
  | some id =>
    obtain ⟨i, d⟩ := id
    obtain ⟨v, h1, rfl, rfl⟩ := hl
    have hi : i < en.length := by
      rw [← fr.re.len]
      exact (List.getElem?_eq_some_iff.mp h1).1
    exact Fr.give (v0 := v) (d := d) (vs := ws) (ds := es2) fr h1 hi
theorem Lent.agree {l : Option (Nat × D)} {tvs : List V} {tds : List D} (hl : Lent σ l tvs tds) (ag : Agree (orL L fx) σ σ') (hL : ∀ i d, l = some (i, d) → i ∈ L) : Lent σ' l tvs tds := by
  cases l with
  | none => exact hl
  | some id =>
    obtain ⟨i, d⟩ := id
    obtain ⟨v, h1, h2⟩ := hl
    exact ⟨v, by rw [ag.2 i (Or.inl (hL i d rfl))]; exact h1, h2⟩
theorem unlend_aft {l : Option (Nat × D)} {σ0 : St} {F0 H0 : Hp} {fp0 : List Addr} {tvs : List V} {tds : List D} {en : Env} {E : Ends} {r : RS} (s0 : Step false F0 H0 fp0 F H (f ++ fp)) (fr : Fr G F H σ en tvs tds fp f) (hl : Lent σ l tvs tds) (ag : Agree fx σ0 σ) (hL : ∀ i d, l = some (i, d) → i ∈ L)
    (h : Aft2 G W fx σ0 F0 H0 fp0 E (r.map (Dn.unlend l))) : Aft2 G W (orL L fx) σ F H fp E r := by
  have wk : ∀ {s1 s2 : St}, Agree (orL L fx) s1 s2 → Agree fx s1 s2 := fun a => a.weak fun i hi => Or.inr hi
  have nx : ∀ {K : St → Hp → Prop} {e : Env}, Nx G fx σ0 F0 H0 fp0 K (Dn.unlend l e) → Nx G (orL L fx) σ F H fp K e := fun {K e} h F' H' σ' fp' s fr' ag' => by
    obtain ⟨fr2, s2⟩ := fr.keep (g := []) s fr'
    obtain ⟨fp3, f3, fr3, hm⟩ := fr2.unlend (hl.agree ag' hL)
    obtain ⟨re, rl, nd, nf, fh⟩ := fr3
    cases rl
    exact h F' H' σ' fp3 ((s0.trans s2).weak (fun _ z => z) (fun b hb => .inl (hm b hb)) fun z => nomatch z) ⟨re, .nil, nd, nf, fh⟩ (ag.trans (wk ag'))
  cases r with
  | nxt e => exact nx h
  | brk e => exact nx h
  | cnt e => exact nx h
  | ret d e =>
    refine fun F' H' v σ' fp' f' s fr' ag' => ?_
    obtain ⟨fr2, s2⟩ := fr.keep s fr'
    obtain ⟨fp3, f3, fr3, hm⟩ := fr2.unlend (hl.agree ag' hL)
    exact h F' H' v σ' fp3 f3 ((s0.trans s2).weak (fun _ z => z) (fun b hb => .inl (hm b hb)) fun z => nomatch z) fr3 (ag.trans (wk ag'))
  | exc x e =>
    refine fun F' H' σ' fp' cls dx s fr' ag' xr => ?_
    obtain ⟨fr2, s2⟩ := fr.keep (g := []) s fr'
    obtain ⟨fp3, f3, fr3, hm⟩ := fr2.unlend (hl.agree ag' hL)
    obtain ⟨re, rl, nd, nf, fh⟩ := fr3
    cases rl
    exact h F' H' σ' fp3 cls dx ((s0.trans s2).weak (fun _ z => z) (fun b hb => .inl (hm b hb)) fun z => nomatch z) ⟨re, .nil, nd, nf, fh⟩ (ag.trans (wk ag')) xr
  | stuck => exact h
theorem ts_for {mi : M IV} {g : D → M Unit} {n : MS} (hp : PassesOwn (model X.prog X.w) X.A X.env X.xe) (hc : X.calm = true) (hi : PI X tg e (TId G W mi)) (hg : PG X tg (TGd G W (orL L fx) g)) (hb : PSs X body (TSd G W (orL L fx) n))
    (hgx : ∀ d en x en1, g d en ≠ .exc x en1) (hL : ∀ en iv en1, mi en = .ok iv en1 → ∀ i d, iv.lent = some (i, d) → i ∈ L) (hs : ∀ x, foldedSetIterable e X.env x = pure x) : PS X (.For tg e body [] pos) (TSd G W fx (sFor mi g n)) := (ps_for hp hc hi hg hb hs).imp fun E σ H h => by
  obtain ⟨F, en, fp, fr, h⟩ := h
  refine ⟨F, en, fp, fr, ?_⟩
  unfold sFor at h
  cases e1 : mi en with
  | exc x en1 => rw [e1] at h; exact ExcS.exc h
  | stuck => rw [e1] at h; exact h
  | ok iv en1 =>
    rw [e1] at h
    dsimp only at h
    have hLi := hL en iv en1 e1
    refine fun F1 H1 J tvs tds fp1 f1 s1 fr1 hl tn => ?_
    refine ⟨fun k m σ' H' => m = iv.items.length - k ∧ k ≤ iv.items.length ∧ ∃ F' en' fp' f', Step false F H fp F' H' (f' ++ fp') ∧ Same F1 F' ∧ Fr G F' H' σ' en' tvs tds fp' f' ∧ Agree (orL L fx) σ σ' ∧ Aft2 G W fx σ F H fp E ((forD (sTurn g n) (iv.items.drop k) en').map (Dn.unlend iv.lent)),
      ⟨_, rfl, Nat.zero_le _, F1, en1, fp1, f1, s1, Same.refl F1, fr1, Agree.refl, h⟩, ?_⟩
    rintro k m σ2 H2 ⟨rfl, hk, F2, en2, fp2, f2, s2, sm2, fr2, ag2, h2⟩
    have wk : ∀ {a b : St}, Agree (orL L fx) a b → Agree fx a b := fun a => a.weak fun i hi => Or.inr hi
    obtain ⟨st, go⟩ := tn F2 H2 σ2 en2 fp2 f2 sm2 fr2
    by_cases hlt : k < iv.items.length
    · obtain ⟨d, hd⟩ : ∃ d, iv.items[k]? = some d := ⟨_, List.getElem?_eq_getElem hlt⟩
      obtain ⟨g1, yl⟩ := go k d hd
      have hdr : iv.items.drop k = d :: iv.items.drop (k + 1) := by
        obtain ⟨_, e⟩ := List.getElem?_eq_some_iff.mp hd
        rw [List.drop_eq_getElem_cons hlt, e]
      rw [hdr] at h2
      unfold forD at h2
      refine .inr ⟨g1, fun σ' H' => k + 1 ≤ iv.items.length ∧ ∃ F' en' fp' f', Step false F H fp F' H' (f' ++ fp') ∧ Same F1 F' ∧ Fr G F' H' σ' en' tvs tds fp' f' ∧ Agree (orL L fx) σ σ' ∧ Aft2 G W fx σ F H fp E ((forD (sTurn g n) (iv.items.drop (k + 1)) en').map (Dn.unlend iv.lent)),
        fun σ' H' z => ⟨_, by omega, rfl, z.1, z.2⟩, fun x H3 y => ?_⟩
      obtain ⟨f3, fr3, s3⟩ := yl x H3 y
      have s23 := s2.trans s3
      refine ⟨F2, en2, fp2, f3, tvs, tds, d, fr3, ?_⟩
      unfold sTurn at h2
      cases e2 : g d en2 with
      | exc x en3 =>
        rw [e2] at h2
        dsimp only at h2
        exact absurd e2 (hgx d en2 x en3)
      | stuck => rw [e2] at h2; exact h2
      | ok _ en3 =>
        rw [e2] at h2
        dsimp only at h2 ⊢
        refine fun F4 H4 σ4 fp4 f4 s4 fr4 ag4 => ⟨F4, en3, fp4, fr4.drop, ?_⟩
        have s24 : Step false F H fp F4 H4 (f4 ++ fp4) := s23.trans s4
        have sm4 : Same F1 F4 := sm2.trans s4.ff
        have ag24 := ag2.trans ag4
        have nx : ∀ {en5 : Env}, Aft2 G W fx σ F H fp E ((forD (sTurn g n) (iv.items.drop (k + 1)) en5).map (Dn.unlend iv.lent)) → Nx G (orL L fx) σ4 F4 H4 fp4 (fun σ' H' => k + 1 ≤ iv.items.length ∧ ∃ F' en' fp' f', Step false F H fp F' H' (f' ++ fp') ∧ Same F1 F' ∧ Fr G F' H' σ' en' tvs tds fp' f' ∧ Agree (orL L fx) σ σ' ∧ Aft2 G W fx σ F H fp E ((forD (sTurn g n) (iv.items.drop (k + 1)) en').map (Dn.unlend iv.lent))) en5 :=
          fun {en5} h5 F5 H5 σ5 fp5 s5 fr5 ag5 => by
            obtain ⟨fr6, s6⟩ := fr4.keep (g := []) s5 fr5
            simp only [List.append_nil] at fr6 s6
            exact ⟨hlt, F5, en5, fp5, f4, s24.trans s6, sm4.trans s5.ff, fr6, ag24.trans ag5, h5⟩
        cases e3 : n en3 with
        | nxt en5 => rw [e3] at h2; exact nx h2
        | cnt en5 => rw [e3] at h2; exact nx h2
        | brk en5 =>
          rw [e3] at h2
          exact unlend_aft (r := .nxt en5) (E := E) s24 fr4 (hl.agree ag24 hLi) (wk ag24) hLi h2
        | ret d5 en5 =>
          rw [e3] at h2
          exact unlend_aft (r := .ret d5 en5) (E := E) s24 fr4 (hl.agree ag24 hLi) (wk ag24) hLi h2
        | exc x5 en5 =>
          rw [e3] at h2
          exact unlend_aft (r := .exc x5 en5) (E := E) s24 fr4 (hl.agree ag24 hLi) (wk ag24) hLi h2
        | stuck => rw [e3] at h2; exact h2
    · have hkn : k = iv.items.length := by omega
      subst hkn
      rw [List.drop_length] at h2
      refine .inl ⟨st, ?_⟩
      have h3 := unlend_aft (r := .nxt en2) (E := E) s2 fr2 (hl.agree ag2 hLi) (wk ag2) hLi h2
      exact h3 F2 H2 σ2 fp2 (Step.refl.any fun z => nomatch z) fr2.drop Agree.refl
end
end Dn
end L2
set_option Elab.async false
set_option linter.all false
set_option maxRecDepth 100000
set_option maxHeartbeats 1000000
/-! What loops walk. -/
namespace L2
namespace Dn
open PySem PySem.Spec PyProof.Rows
section
variable {G : Gi} {W : WX} {X : Cx} {p q r : Bool} {fx : Nat → Prop} {L : List Nat} {σ σ' : St} {F H F' H' : Hp} {f fp fp' : List Addr} {e o a b c i tg : Expr} {es : List Expr} {body : List Stmt} {pos apos cpos : Pos}
/-- the temporaries are frozen -/
theorem Fr.freezeL {en : Env} {vs : List V} {ds : List D} (fr : Fr G F H σ en vs ds fp f) : ∃ F2, Step true F H (f ++ fp) F2 H fp ∧ Fr0 G F2 H σ en fp ∧ FzL G F2 vs (frzL ds) := by
  obtain ⟨n1, n2, n3⟩ := nodup_app.mp fr.nd
  obtain ⟨F2, eF2⟩ : ∃ F2 : Hp, F2 = fun b => if b ∈ f then H b else F b := ⟨_, rfl⟩
  have s2 : Same F F2 := fun b u z => by
    rw [eF2]
    have : b ∉ f := fun hb => by have := fr.nf b (List.mem_append_left _ hb); rw [this] at z; cases z
    simp only [this, if_false]
    exact z
  have sH : Same F2 H := fun b u z => by
    rw [eF2] at z
    by_cases hb : b ∈ f
    · simp only [hb, if_true] at z; exact z
    · simp only [hb, if_false] at z; exact fr.fh b u z
  have fz := fr.rl.freeze s2 (fun b hb => by rw [eF2]; simp only [hb, if_true])
  refine ⟨F2, ⟨s2, fun _ _ z _ => z, fun b hb => .inl (List.mem_append_right _ hb), fun b z => ?_, fun _ => Same.refl H⟩, ⟨fr.re.move s2 fun _ _ => rfl, .nil, n2, fun b hb => ?_, sH⟩, fz⟩
  · rw [eF2] at z
    by_cases hb : b ∈ f
    · exact .inr (.inl (List.mem_append_left _ hb))
    · simp only [hb, if_false] at z; exact .inl z
  · rw [eF2]
    have : b ∉ f := fun z => n3 b z hb
    simp only [this, if_false]
    exact fr.nf b (List.mem_append_right _ hb)
/-- a list, a tuple, as long as the temporaries stand -/
def SrcL (G : Gi) (F0 : Hp) (a : Addr) (ds : List D) (tvs : List V) (tds : List D) : Prop :=
  ∀ (F H : Hp) (σ : St) (en : Env) (fp f : List Addr), Same F0 F → Fr G F H σ en tvs tds fp f → ∃ xs, SqL G.K H a xs ∧ FzL G F xs ds
def SrcT (G : Gi) (F0 : Hp) (a : Addr) (ds : List D) (tvs : List V) (tds : List D) : Prop :=
  ∀ (F H : Hp) (σ : St) (en : Env) (fp f : List Addr), Same F0 F → Fr G F H σ en tvs tds fp f → ∃ xs, SqT G.K H a xs ∧ FzL G F xs ds
theorem srcL_fz {a : Addr} {xs : List V} {ds tds : List D} {tvs : List V} (h : Rd F a (.lst xs)) (z : FzL G F xs ds) : SrcL G F a ds tvs tds := fun F2 H2 _ _ _ _ sm fr =>
  ⟨xs, SqL.rd ((h.imp (sm _ _) fun ⟨o, h⟩ => ⟨o, sm _ _ h⟩ : Rd F2 a (.lst xs)).imp (fr.fh _ _) fun ⟨o, h⟩ => ⟨o, fr.fh _ _ h⟩), z.mono sm⟩
theorem srcT_fz {a : Addr} {xs : List V} {ds tds : List D} {tvs : List V} (h : SqT G.K F a xs) (z : FzL G F xs ds) : SrcT G F a ds tvs tds := fun F2 H2 _ _ _ _ sm fr =>
  ⟨xs, Same.sqt' fr.fh (Same.sqt' sm h), z.mono sm⟩
theorem srcL_own {a : Addr} {ds : List D} (h : allF ds = true) : SrcL G F a ds [.ref a] [.lst true ds] := fun F2 H2 _ _ _ _ sm fr => by
  obtain ⟨a', xs, g, e, h1, h2, _⟩ := rep_lstT fr.one
  cases e
  exact ⟨xs, SqL.of h1, tups_of h2 h⟩
/-- what is walked, by its data -/
theorem walk_ok {lo : Bool} {o : OV} {en en' : Env} {tvs : List V} {tds ds : List D} {v : V} {l : Option (Nat × D)} (fr : Fr G F H σ en tvs tds fp f) (ov : OVs H σ [o] [v] tds tvs) (h : walkO lo o en = some (ds, l, en')) :
    ∃ F2 tvs2 tds2 fp2 f2 a, v = .ref a ∧ Step false F H (f ++ fp) F2 H (f2 ++ fp2) ∧ Fr G F2 H σ en' tvs2 tds2 fp2 f2 ∧ Lent σ l tvs2 tds2 ∧ (SrcL G F2 a ds tvs2 tds2 ∨ (lo = false ∧ SrcT G F2 a ds tvs2 tds2)) := by
  cases o with
  | tmp d =>
    cases ov with
    | tmp r =>
      cases r
      obtain ⟨F2, s2, fr2, z⟩ := fr.freezeL
      rw [show frzL [d] = [frz d] from rfl] at z
      cases z with
      | cons z zz =>
        simp only [walkO] at h
        split at h
        · rename_i oo es hd
          cases h
          rw [hd] at z
          cases z with
          | lst z1 z2 => exact ⟨F2, [], [], fp, [], _, rfl, s2.any (fun z => nomatch z), fr2, ⟨rfl, rfl⟩, .inl (srcL_fz z1 z2)⟩
        · rename_i oo es hd
          split at h
          · cases h
          · rename_i hlo
            cases h
            rw [hd] at z
            cases z with
            | tup z1 z2 => exact ⟨F2, [], [], fp, [], _, rfl, s2.any (fun z => nomatch z), fr2, ⟨rfl, rfl⟩, .inr ⟨by simpa using hlo, srcT_fz z1 z2⟩⟩
        · cases h
  | plc i s =>
    cases ov with
    | plc h1 h2 r =>
      cases r
      have rd : getD (en.at i) s ≠ .no → ∃ g, Rep G F H v (getD (en.at i) s) g := fun hn => by
        obtain ⟨v0, w, g, k1, k2, k3, _⟩ := fr.place (i := i) (s := s) hn
        rw [h1] at k1
        cases k1
        rw [h2] at k2
        cases k2
        exact ⟨g, k3⟩
      simp only [walkO] at h
      split at h
      · rename_i es hd
        cases h
        obtain ⟨g, k⟩ := rd (by rw [hd]; exact fun z => nomatch z)
        rw [hd] at k
        obtain ⟨k, _⟩ := k.fz_of rfl
        cases k with
        | lst z1 z2 => exact ⟨F, [], [], fp, [], _, rfl, Step.refl.weak (fun b hb => List.mem_append_right _ hb) (fun b hb => .inl hb) (fun z => nomatch z), fr.drop, ⟨rfl, rfl⟩, .inl (srcL_fz z1 z2)⟩
      · rename_i es hd
        split at h
        · cases h
        · rename_i hlo
          cases h
          obtain ⟨g, k⟩ := rd (by rw [hd]; exact fun z => nomatch z)
          rw [hd] at k
          obtain ⟨k, _⟩ := k.fz_of rfl
          cases k with
          | tup z1 z2 => exact ⟨F, [], [], fp, [], _, rfl, Step.refl.weak (fun b hb => List.mem_append_right _ hb) (fun b hb => .inl hb) (fun z => nomatch z), fr.drop, ⟨rfl, rfl⟩, .inr ⟨by simpa using hlo, srcT_fz z1 z2⟩⟩
      · rename_i es hd
        split at h
        · rename_i hc
          cases h
          rw [Bool.and_eq_true] at hc
          obtain rfl : s = [] := List.isEmpty_iff.mp hc.1
          have hd' : en.at i = .lst true ds := hd
          obtain rfl : _ = v := Option.some.inj h2
          have hno : en.at i ≠ .no := by rw [hd']; exact fun z => nomatch z
          obtain ⟨v0, g, fp1, k1, fr2, pm⟩ := fr.drop.take hno
          rw [h1] at k1
          cases k1
          rw [hd'] at fr2
          simp only [List.append_nil, List.nil_append] at fr2 pm
          obtain ⟨a, xs, g', rfl, ha, _⟩ := rep_lstT fr2.one
          exact ⟨F, _, _, fp1, g, a, rfl, Step.refl.weak (fun b hb => List.mem_append_right _ hb) (fun b hb => .inl (pm.mem_iff.mpr hb)) (fun z => nomatch z), fr2, ⟨_, h1, rfl, rfl⟩, .inl (srcL_own hc.2)⟩
        · cases h
      · cases h
/-! ### the turns -/
theorem fr_cons {en : Env} {tvs : List V} {tds : List D} {x : V} {d : D} (fr : Fr G F H σ en tvs tds fp f) (z : Fz G F x d) : Fr G F H σ en (x :: tvs) (d :: tds) fp f :=
  ⟨fr.re, .cons (f := []) (.fz z) fr.rl, fr.nd, fr.nf, fr.fh⟩
theorem turns_L {a : Addr} {ds tds : List D} {tvs : List V} (h : SrcL G F a ds tvs tds) : Turns G F (Itl G.K a) ds tvs tds := fun F2 H2 σ2 en2 fp2 f2 sm fr => by
  obtain ⟨xs, h1, h2⟩ := h F2 H2 σ2 en2 fp2 f2 sm fr
  refine ⟨⟨xs, h1, by rw [h2.len]; exact Nat.le_refl _⟩, fun k d hd => ?_⟩
  obtain ⟨x, hx, z⟩ := h2.get hd
  refine ⟨⟨xs, x, h1, hx⟩, fun y H' ⟨e, yl⟩ => ?_⟩
  subst e
  have := yl xs h1
  rw [hx] at this
  cases this
  exact ⟨f2, fr_cons fr z, Step.refl.any fun z => nomatch z⟩
theorem turns_T {a : Addr} {ds tds : List D} {tvs : List V} (h : SrcT G F a ds tvs tds) : Turns G F (Itt G.K a) ds tvs tds := fun F2 H2 σ2 en2 fp2 f2 sm fr => by
  obtain ⟨xs, h1, h2⟩ := h F2 H2 σ2 en2 fp2 f2 sm fr
  refine ⟨⟨xs, h1, by rw [h2.len]; exact Nat.le_refl _⟩, fun k d hd => ?_⟩
  obtain ⟨x, hx, z⟩ := h2.get hd
  refine ⟨⟨xs, x, h1, hx⟩, fun y H' ⟨e, yl⟩ => ?_⟩
  subst e
  have := yl xs h1
  rw [hx] at this
  cases this
  exact ⟨f2, fr_cons fr z, Step.refl.any fun z => nomatch z⟩
theorem rev_get {α : Type} {l : List α} {k : Nat} {d : α} (h : l.reverse[k]? = some d) : k < l.length ∧ l[l.length - 1 - k]? = some d := by
  have hk : k < l.reverse.length := (List.getElem?_eq_some_iff.mp h).1
  rw [List.length_reverse] at hk
  rw [List.getElem?_reverse hk] at h
  exact ⟨hk, h⟩
theorem turns_RL {a : Addr} {n : Nat} {ds tds : List D} {tvs : List V} (h : SrcL G F a ds tvs tds) (hn : n = ds.length) : Turns G F (Itv G.K a n) ds.reverse tvs tds := fun F2 H2 σ2 en2 fp2 f2 sm fr => by
  subst hn
  obtain ⟨xs, h1, h2⟩ := h F2 H2 σ2 en2 fp2 f2 sm fr
  refine ⟨by show ds.length ≤ ds.reverse.length; rw [List.length_reverse]; exact Nat.le_refl _, fun k d hd => ?_⟩
  obtain ⟨hk, hd⟩ := rev_get hd
  obtain ⟨x, hx, z⟩ := h2.get hd
  refine ⟨⟨hk, xs, x, h1, hx⟩, fun y H' ⟨e, yl⟩ => ?_⟩
  subst e
  have := yl xs h1
  rw [hx] at this
  cases this
  exact ⟨f2, fr_cons fr z, Step.refl.any fun z => nomatch z⟩
theorem turns_RT {a : Addr} {n : Nat} {ds tds : List D} {tvs : List V} (h : SrcT G F a ds tvs tds) (hn : n = ds.length) : Turns G F (RT.ItvT G.K a n) ds.reverse tvs tds := fun F2 H2 σ2 en2 fp2 f2 sm fr => by
  subst hn
  obtain ⟨xs, h1, h2⟩ := h F2 H2 σ2 en2 fp2 f2 sm fr
  refine ⟨by show ds.length ≤ ds.reverse.length; rw [List.length_reverse]; exact Nat.le_refl _, fun k d hd => ?_⟩
  obtain ⟨hk, hd⟩ := rev_get hd
  obtain ⟨x, hx, z⟩ := h2.get hd
  refine ⟨⟨hk, xs, x, h1, hx⟩, fun y H' ⟨e, yl⟩ => ?_⟩
  subst e
  have := yl xs h1
  rw [hx] at this
  cases this
  exact ⟨f2, fr_cons fr z, Step.refl.any fun z => nomatch z⟩
theorem enumD_len : ∀ {ds : List D} {k : Nat}, (enumD ds k).length = ds.length
  | [], _ => rfl
  | _ :: ds, k => by rw [enumD, List.length_cons, List.length_cons, enumD_len]
theorem enumD_get : ∀ {ds : List D} {k j : Nat} {x : D}, (enumD ds k)[j]? = some x → ∃ d, ds[j]? = some d ∧ x = .tup true [.int ((k + j : Nat) : Int), d]
  | [], _, _, _, h => by cases h
  | d :: ds, k, 0, x, h => by cases h; exact ⟨d, rfl, rfl⟩
  | d :: ds, k, j + 1, x, h => by
    obtain ⟨d', h1, h2⟩ := enumD_get (ds := ds) (k := k + 1) h
    exact ⟨d', h1, by rw [h2]; congr 4; omega⟩
theorem Fr.new1 {en : Env} {vs : List V} {ds : List D} {T : Addr} {ys : List V} {es : List D} (fr : Fr G F H σ en vs ds fp f) (n : H T = none) (z : FzL G F ys es) : Fr G F (upd H T (.tup ys)) σ en (.ref T :: vs) (.tup true es :: ds) fp ((T :: []) ++ f) ∧ Step false F H (f ++ fp) F (upd H T (.tup ys)) (((T :: []) ++ f) ++ fp) := by
  have dom : ∀ b ∈ f ++ fp, H b ≠ none := fun b hb => (List.mem_append.mp hb).elim (fr.rl.dom b) (fr.re.dom b)
  have na : T ∉ f ++ fp := fun hb => dom T hb n
  have sm : Same H (upd H T (.tup ys)) := fun b u z => by rw [upd_ne (ne_of_none z n)]; exact z
  have hk : ∀ b ∈ f ++ fp, upd H T (.tup ys) b = H b := fun b hb => upd_ne fun z => na (by rw [← z]; exact hb)
  refine ⟨⟨fr.re.move (Same.refl F) fun b hb => hk b (List.mem_append_right _ hb), .cons (.tup upd_same z.repL) (fr.rl.move (Same.refl F) fun b hb => hk b (List.mem_append_left _ hb)), ?_, fun b hb => ?_, fr.fh.trans sm⟩,
    ⟨Same.refl F, fun b u z _ => sm b u z, fun b hb => ?_, fun b z => .inl z, fun z => nomatch z⟩⟩
  · exact List.nodup_cons.mpr ⟨na, fr.nd⟩
  · rcases List.mem_cons.mp hb with rfl | hb
    · exact fr.fh.free n
    · exact fr.nf b hb
  · rcases List.mem_cons.mp hb with rfl | hb
    · exact .inr n
    · exact .inl hb
theorem turns_E {a : Addr} {ds tds : List D} {tvs : List V} (h : SrcL G F a ds tvs tds) : Turns G F (Ite G.K a) (enumD ds 0) tvs tds := fun F2 H2 σ2 en2 fp2 f2 sm fr => by
  obtain ⟨xs, h1, h2⟩ := h F2 H2 σ2 en2 fp2 f2 sm fr
  refine ⟨⟨xs, h1, by rw [h2.len, enumD_len]; exact Nat.le_refl _⟩, fun k d hd => ?_⟩
  obtain ⟨d0, hd0, rfl⟩ := enumD_get hd
  obtain ⟨x, hx, z⟩ := h2.get hd0
  refine ⟨⟨xs, x, h1, hx⟩, fun y H' ⟨T, x', e1, n, e2, yl⟩ => ?_⟩
  subst e1 e2
  have := yl xs h1
  rw [hx] at this
  cases this
  rw [Nat.zero_add]
  obtain ⟨a1, a2⟩ := fr.new1 (ys := [.int (k : Nat), x]) (es := [.int (k : Nat), d0]) n (.cons (.int _) (.cons z .nil))
  exact ⟨_, a1, a2⟩
theorem turns_R {lo : Int} {n : Nat} {hi : Int} (hn : n = (hi - lo).toNat) : Turns G F (Itr lo n) (rangeD lo hi) [] [] := fun F2 H2 σ2 en2 fp2 f2 sm fr => by
  subst hn
  have hlen : (rangeD lo hi).length = (hi - lo).toNat := by simp [rangeD]
  refine ⟨by show _ ≤ _; rw [hlen]; exact Nat.le_refl _, fun k d hd => ?_⟩
  have hk : k < (hi - lo).toNat := by rw [← hlen]; exact (List.getElem?_eq_some_iff.mp hd).1
  have e : d = .int (lo + (k : Nat)) := by
    unfold rangeD at hd
    rw [List.getElem?_map] at hd
    obtain ⟨j, h1, h2⟩ := Option.map_eq_some_iff.mp hd
    rw [List.getElem?_range hk] at h1
    cases h1
    exact h2.symm
  subst e
  refine ⟨hk, fun y H' ⟨e1, e2⟩ => ?_⟩
  subst e1 e2
  exact ⟨f2, fr_cons fr (.int _), Step.refl.any fun z => nomatch z⟩
/-! ### iterators -/
def iSeq (K : PySem.W.Frag) (tl : TE) : TI := fun σ H R => tl σ H fun x H1 => ∃ a, x = .ref a ∧ (((∃ xs, SqL K H1 a xs) ∧ R (Itl K a) H1) ∨ ((∃ xs, SqT K H1 a xs) ∧ R (Itt K a) H1))
theorem pi_seq {t : TE} (hl : PE X e t) : PI X tg e (iSeq X.K t) := by
  refine ⟨fun pins s σ H R I h => ?_⟩
  refine thn (hl.run pins s σ H _ I h) fun v s1 ⟨x, H1, I1, r1, a, e, q⟩ => ?_
  subst e
  cases r1
  rcases q with ⟨⟨xs, hq⟩, q⟩ | ⟨⟨xs, hq⟩, q⟩
  · obtain ⟨its, rv, p, hz⟩ := I1.list hq
    refine wpAny_pyIter_list p.isList ?_
    exact pi_one (tk := s1.toks) I1 _ (turn_list a _) ⟨_, Heap.get?_push_size _ rfl, rfl, rfl⟩ q
  · obtain ⟨its, rv, p, hz⟩ := I1.tuple hq
    refine wpAny_pyIter_tuple (show s1.heap.IsTuple a its.toArray from p) ?_
    exact pi_one (tk := s1.toks) I1 _ (turn_tuple a _) ⟨_, Heap.get?_push_size _ rfl, rfl, rfl⟩ q
theorem walk_read {lo : Bool} {mo : M OV} {g : List D → List D} {R : It → Hp → Prop} (h : TId G W (iWalk lo mo g) σ H R) : TO G W p mo σ H fun v H1 => ∃ F2 ds tvs2 tds2 fp2 f2 en2 a, v = .ref a ∧ Fr G F2 H1 σ en2 tvs2 tds2 fp2 f2 ∧ (SrcL G F2 a ds tvs2 tds2 ∨ (lo = false ∧ SrcT G F2 a ds tvs2 tds2)) ∧ ∀ J, Turns G F2 J (g ds) tvs2 tds2 → R J H1 := by
  obtain ⟨F, en, fp, fr, h⟩ := h
  refine ⟨F, en, fp, fr, ?_⟩
  unfold iWalk at h
  cases e1 : mo en with
  | ok ov en1 =>
    rw [e1] at h
    dsimp only at h
    refine fun F1 H1 v tvs tds fp1 f1 s1 fr1 ov1 => ?_
    cases e2 : walkO lo ov en1 with
    | none => rw [e2] at h; exact h.elim
    | some r =>
      obtain ⟨ds, l, en2⟩ := r
      rw [e2] at h
      dsimp only at h
      obtain ⟨F2, tvs2, tds2, fp2, f2, a, ev, s2, fr2, hl, src⟩ := walk_ok fr1 ov1 e2
      exact ⟨F2, ds, tvs2, tds2, fp2, f2, en2, a, ev, fr2, src, fun J hJ => h F2 H1 J tvs2 tds2 fp2 f2 ((s1.trans s2).any fun z => nomatch z) fr2 hl hJ⟩
  | exc x en1 => rw [e1] at h; exact h
  | stuck => rw [e1] at h; exact h
theorem ti_seq {mo : M OV} (hK : X.K = G.K) (he : PE X e (TO G W p mo)) : PI X tg e (TId G W (iWalk false mo id)) := (pi_seq he).imp fun σ H R h => by
  obtain ⟨F, en, fp, fr, h⟩ := walk_read (p := p) h
  refine ⟨F, en, fp, fr, Aft.step h Step.refl fun ov en1 e1 h F1 H1 v tvs tds fp1 f1 s1 fr1 ov1 => ?_⟩
  obtain ⟨F2, ds, tvs2, tds2, fp2, f2, en2, a, ev, fr2, src, k⟩ := h F1 H1 v tvs tds fp1 f1 s1 fr1 ov1
  rw [hK]
  refine ⟨a, ev, ?_⟩
  rcases src with src | ⟨_, src⟩
  · obtain ⟨xs, h1, _⟩ := src F2 H1 _ _ _ _ (Same.refl _) fr2
    exact .inl ⟨⟨xs, h1⟩, k _ (turns_L src)⟩
  · obtain ⟨xs, h1, _⟩ := src F2 H1 _ _ _ _ (Same.refl _) fr2
    exact .inr ⟨⟨xs, h1⟩, k _ (turns_T src)⟩
theorem ti_rev {mo : M OV} (hK : X.K = G.K) (hg : Gl X "reversed") (hm : X.mg "reversed" = none) (he : PE X e (TO G W p mo)) (hs : starEach [e] X.env = (false, eval e X.env) :: starEach [] X.env) : PI X tg (.Call (.Name "reversed" apos) [e] [] pos) (TId G W (iWalk false mo List.reverse)) := (RT.pi_revA hg hm he hs).imp fun σ H R h => by
  obtain ⟨F, en, fp, fr, h⟩ := walk_read (p := p) h
  refine ⟨F, en, fp, fr, Aft.step h Step.refl fun ov en1 e1 h F1 H1 v tvs tds fp1 f1 s1 fr1 ov1 => ?_⟩
  obtain ⟨F2, ds, tvs2, tds2, fp2, f2, en2, a, ev, fr2, src, k⟩ := h F1 H1 v tvs tds fp1 f1 s1 fr1 ov1
  rw [hK]
  rcases src with src | ⟨_, src⟩
  · obtain ⟨xs, h1, h2⟩ := src F2 H1 _ _ _ _ (Same.refl _) fr2
    exact ⟨a, xs, ev, .inl ⟨h1, k _ (turns_RL src h2.len)⟩⟩
  · obtain ⟨xs, h1, h2⟩ := src F2 H1 _ _ _ _ (Same.refl _) fr2
    exact ⟨a, xs, ev, .inr ⟨h1, k _ (turns_RT src h2.len)⟩⟩
theorem ti_enum {mo : M OV} {tpos : Pos} {elts : List Expr} {kk : Nat} (hK : X.K = G.K) (hg : Gl X "enumerate") (hm : X.mg "enumerate" = none) (he : PE X e (TO G W p mo)) (hs : starEach [e] X.env = [(false, eval e X.env)]) (hs2 : starEach [e] X.env = (false, eval e X.env) :: starEach [] X.env) :
    PI X (.Tuple elts kk tpos) (.Call (.Name "enumerate" apos) [e] [] pos) (TId G W (iWalk true mo fun ds => enumD ds 0)) := (pi_enum hg hm (pa_cons he pa_nil hs2) hs).imp fun σ H R h => by
  obtain ⟨F, en, fp, fr, h⟩ := walk_read (p := p) h
  refine ⟨F, en, fp, fr, Aft.step h Step.refl fun ov en1 e1 h F1 H1 v tvs tds fp1 f1 s1 fr1 ov1 => ?_⟩
  obtain ⟨F2, ds, tvs2, tds2, fp2, f2, en2, a, ev, fr2, src, k⟩ := h F1 H1 v tvs tds fp1 f1 s1 fr1 ov1
  rcases src with src | ⟨z, _⟩
  · obtain ⟨xs, h1, h2⟩ := src F2 H1 _ _ _ _ (Same.refl _) fr2
    exact ⟨a, xs, by rw [ev], by rw [hK]; exact h1, by rw [hK]; exact k _ (turns_E src)⟩
  · cases z
/-! ### a list, a tuple or a text -/
def iAnyS (K : PySem.W.Frag) (t : TE) : TI := fun σ H R => t σ H fun x H1 => (∃ z, x = .str z ∧ R (Its z) H1) ∨ ∃ a, x = .ref a ∧ (((∃ xs, SqL K H1 a xs) ∧ R (Itl K a) H1) ∨ ((∃ xs, SqT K H1 a xs) ∧ R (Itt K a) H1))
theorem pi_anyS {t : TE} (hl : PE X e t) : PI X tg e (iAnyS X.K t) := by
  refine ⟨fun pins s σ H R I h => ?_⟩
  refine thn (hl.run pins s σ H _ I h) fun v s1 ⟨x, H1, I1, r1, q⟩ => ?_
  rcases q with ⟨z, rfl, q⟩ | ⟨a, rfl, ⟨⟨xs, hq⟩, q⟩ | ⟨⟨xs, hq⟩, q⟩⟩
  · obtain ⟨tk, rfl⟩ := r1
    cases ha : z.cps.all (· < 128)
    · exact wpAny_pyIter_wide ha (pi_one (tk := s1.toks) I1 _ (turn_str _ z tk "str_iterator" (.inr rfl)) ⟨_, Heap.get?_push_size _ rfl, rfl, rfl⟩ q)
    · exact wpAny_pyIter_ascii ha (pi_one (tk := s1.toks) I1 _ (turn_str _ z tk "str_ascii_iterator" (.inl rfl)) ⟨_, Heap.get?_push_size _ rfl, rfl, rfl⟩ q)
  · cases r1
    obtain ⟨its, rv, p, hz⟩ := I1.list hq
    refine wpAny_pyIter_list p.isList ?_
    exact pi_one (tk := s1.toks) I1 _ (turn_list a _) ⟨_, Heap.get?_push_size _ rfl, rfl, rfl⟩ q
  · cases r1
    obtain ⟨its, rv, p, hz⟩ := I1.tuple hq
    refine wpAny_pyIter_tuple (show s1.heap.IsTuple a its.toArray from p) ?_
    exact pi_one (tk := s1.toks) I1 _ (turn_tuple a _) ⟨_, Heap.get?_push_size _ rfl, rfl, rfl⟩ q
theorem turns_S {z : Str} : Turns G F (Its z) (chD z) [] [] := fun F2 H2 σ2 en2 fp2 f2 sm fr => by
  have hlen : (chD z).length = z.cps.size := by simp [chD]
  refine ⟨by show z.cps.size ≤ _; rw [hlen]; exact Nat.le_refl _, fun k d hd => ?_⟩
  have hk : k < z.cps.size := by rw [← hlen]; exact (List.getElem?_eq_some_iff.mp hd).1
  refine ⟨hk, fun y H' ⟨e1, c, hc, e2⟩ => ?_⟩
  subst e1 e2
  have e : d = .str ⟨#[c]⟩ := by
    unfold chD at hd
    rw [List.getElem?_map, Array.getElem?_toList, hc] at hd
    exact (Option.some.inj hd).symm
  subst e
  exact ⟨f2, fr_cons fr (.str _), Step.refl.any fun z => nomatch z⟩
theorem ti_plain {mo : M OV} (hK : X.K = G.K) (he : PE X e (TO G W p mo)) : PI X tg e (TId G W (iPlain mo)) := (pi_anyS he).imp fun σ H R h => by
  obtain ⟨F, en, fp, fr, h⟩ := h
  refine ⟨F, en, fp, fr, ?_⟩
  unfold iPlain at h
  cases e1 : mo en with
  | exc x en1 => rw [e1] at h; exact h
  | stuck => rw [e1] at h; exact h
  | ok ov en1 =>
    rw [e1] at h
    dsimp only at h
    refine fun F1 H1 v tvs tds fp1 f1 s1 fr1 ov1 => ?_
    split at h
    · rename_i z hz
      obtain ⟨d, ed, vw⟩ := (fr1.views ov1).get1
      have ed' : ov.get en1 = d := (List.cons.inj ed).1
      rw [hz] at ed'
      subst ed'
      obtain ⟨g, rp⟩ := vw (fun z => nomatch z)
      obtain rfl := rep_str rp
      exact .inl ⟨z, rfl, h F1 H1 _ [] [] fp1 [] (s1.slots.any fun z => nomatch z) fr1.drop ⟨rfl, rfl⟩ turns_S⟩
    · cases e2 : walkO false ov en1 with
      | none => rw [e2] at h; exact h.elim
      | some r =>
        obtain ⟨ds, l, en2⟩ := r
        rw [e2] at h
        dsimp only at h
        obtain ⟨F2, tvs2, tds2, fp2, f2, a, ev, s2, fr2, hl, src⟩ := walk_ok fr1 ov1 e2
        have k := fun J hJ => h F2 H1 J tvs2 tds2 fp2 f2 ((s1.trans s2).any fun z => nomatch z) fr2 hl hJ
        rw [hK]
        refine .inr ⟨a, ev, ?_⟩
        rcases src with src | ⟨_, src⟩
        · obtain ⟨xs, h1, _⟩ := src F2 H1 _ _ _ _ (Same.refl _) fr2
          exact .inl ⟨⟨xs, h1⟩, k _ (turns_L src)⟩
        · obtain ⟨xs, h1, _⟩ := src F2 H1 _ _ _ _ (Same.refl _) fr2
          exact .inr ⟨⟨xs, h1⟩, k _ (turns_T src)⟩
end
end Dn
end L2
set_option Elab.async false
set_option linter.all false
set_option maxRecDepth 100000
set_option maxHeartbeats 1000000
/-! Operators, comparisons, chains, items, slices, calls of built-in names, ranges. -/
namespace L2
namespace Dn
open PySem PySem.Spec PyProof.Rows
section
variable {G : Gi} {W : WX} {X : Cx} {p q r : Bool} {fx : Nat → Prop} {L : List Nat} {σ σ' : St} {F H F' H' : Hp} {f fp fp' : List Addr} {e o a b c i tg : Expr} {es : List Expr} {body : List Stmt} {pos apos cpos : Pos}
theorem Fr.grow {en : Env} {vs : List V} {ds : List D} (fr : Fr G F H σ en vs ds fp f) (sF : Same F F') (sH : Same H H') (sFH : Same F' H') (nf : ∀ b, F' b ≠ none → F b ≠ none ∨ H b = none) : Fr G F' H' σ en vs ds fp f ∧ Step true F H (f ++ fp) F' H' (f ++ fp) := by
  have dom : ∀ b ∈ f ++ fp, H b ≠ none := fun b hb => (List.mem_append.mp hb).elim (fr.rl.dom b) (fr.re.dom b)
  have hk : ∀ b ∈ f ++ fp, H' b = H b := fun b hb => by
    cases e : H b with
    | none => exact absurd e (dom b hb)
    | some o => exact sH b o e
  refine ⟨⟨fr.re.move sF fun b hb => hk b (List.mem_append_right _ hb), fr.rl.move sF fun b hb => hk b (List.mem_append_left _ hb), fr.nd, fun b hb => ?_, sFH⟩, ⟨sF, fun b o z _ => sH b o z, fun b hb => .inl hb, fun b z => (nf b z).imp id .inr, fun _ => sH⟩⟩
  cases e : F' b with
  | none => rfl
  | some o =>
    rcases nf b (by rw [e]; exact fun z => nomatch z) with y | y
    · exact absurd (fr.nf b hb) y
    · exact absurd y (dom b hb)
theorem bop2_read {bo : B} {ma mb : M OV} {Q : VK} (hst : q = true ∨ Stay ma) {R : R2} (k : ∀ x y H Q, RB G (bopD bo) [x, y] H Q → R x y H Q) (h : TV G W (p && q) (cBop bo (lCons ma (lCons mb lNil))) σ H Q) : tOp R (TO G W p ma) (TO G W q mb) σ H Q := by
  have h1 := tos_cons_r hst (show TOs G W (p && q) _ σ H _ from bop_read h)
  obtain ⟨F, en, fp, fr, h1⟩ := h1
  refine ⟨F, en, fp, fr, Aft.step h1 Step.refl fun o en1 e1 h1 F1 H1 v tvs tds fp1 f1 s1 fr1 ov1 => ?_⟩
  have h2 := h1 F1 H1 v tvs tds fp1 f1 s1 fr1 ov1
  have h3 := tos_cons_r (p := q) (q := true) (.inl rfl) (show TOs G W (q && true) _ σ H1 _ by rw [Bool.and_true]; exact h2)
  obtain ⟨F, en, fp, fr, h3⟩ := h3
  exact ⟨F, en, fp, fr, Aft.step h3 Step.refl fun o en1 e1 h3 F1 H1 w tvs tds fp1 f1 s1 fr1 ov1 => k _ _ _ _ (tos_nil_r (h3 F1 H1 w tvs tds fp1 f1 s1 fr1 ov1))⟩
theorem tval_read {m : M D} {Q : Bool → Hp → Prop} (h : TB G W p (tVal m) σ H Q) : TV G W p m σ H fun x H1 => ∃ k, x = .bl k ∧ Q k H1 := by
  obtain ⟨F, en, fp, fr, h⟩ := h
  refine ⟨F, en, fp, fr, ?_⟩
  unfold tVal at h
  cases e1 : m en with
  | ok d en1 =>
    rw [e1] at h
    cases d <;> first | exact h.elim | skip
    refine fun F1 H1 v fp1 f1 s1 fr1 => ?_
    obtain ⟨rfl, rfl⟩ := fr1.bl
    exact ⟨_, rfl, h F1 H1 fp1 s1 fr1.drop⟩
  | exc x en1 => rw [e1] at h; exact h
  | stuck => rw [e1] at h; exact h
/-! ### operators -/
def arOp : Operator → Option B
  | .Add => some .add | .Sub => some .sub | .Mult => some .mul | .FloorDiv => some .fdiv | .Mod => some .mod | .Pow => some .pow | _ => none
def cmOp : CmpOp → Option B
  | .Lt => some .lt | .LtE => some .le | .Gt => some .gt | .GtE => some .ge | .Eq => some .eq | .NotEq => some .ne | .Is => some .isN | .IsNot => some .notN | .In => some .inn | .NotIn => some .nin
theorem rb_ar {op : Operator} {bo : B} (h : arOp op = some bo) {x y : V} {Q : VK} (r : RB G (bopD bo) [x, y] H Q) : RB G (fun ds => match ds with | [a, b] => arD bo a b | _ => none) [x, y] H Q := by
  obtain ⟨F, ds, d, fh, vw, hg, out⟩ := r
  refine ⟨F, ds, d, fh, vw, ?_, out⟩
  obtain ⟨a, b, rfl, _, _⟩ := vw.get2
  cases op <;> cases h <;> exact hg
theorem ar_op {op : Operator} {bo : B} (h : arOp op = some bo) : (op = .Add ∧ bo = .add) ∨ (op = .Sub ∧ bo = .sub) ∨ (op = .Mult ∧ bo = .mul) ∨ (op = .FloorDiv ∧ bo = .fdiv) ∨ (op = .Mod ∧ bo = .mod) ∨ (op = .Pow ∧ bo = .pow) := by
  cases op <;> cases h <;> simp
theorem tv_ar {op : Operator} {bo : B} {ma mb : M OV} (hK : X.K = G.K) (h : arOp op = some bo) (ha : PE X a (TO G W p ma)) (hb : PE X b (TO G W q mb)) (hst : q = true ∨ Stay ma) : PE X (.BinOp a op b pos) (TV G W (p && q) (cBop bo (lCons ma (lCons mb lNil)))) :=
  (pe_op (opr_ar (G := G) hK (ar_op h)) ha hb).imp fun σ H Q z => bop2_read hst (fun x y H Q r => rb_ar h r) z
theorem cm_op {op : CmpOp} {bo : B} (h : cmOp op = some bo) : (op = .Lt ∧ bo = .lt) ∨ (op = .LtE ∧ bo = .le) ∨ (op = .Gt ∧ bo = .gt) ∨ (op = .GtE ∧ bo = .ge) ∨ (op = .Eq ∧ bo = .eq) ∨ (op = .NotEq ∧ bo = .ne) ∨ (op = .Is ∧ bo = .isN) ∨ (op = .IsNot ∧ bo = .notN) ∨ (op = .In ∧ bo = .inn) ∨ (op = .NotIn ∧ bo = .nin) := by
  cases op <;> cases h <;> simp
abbrev CmR (G : Gi) (bo : B) : R2 := fun x y H Q => RB G (fun ds => match ds with | [a, b] => cmpD bo a b | _ => none) [x, y] H Q
theorem rb_cm {op : CmpOp} {bo : B} (h : cmOp op = some bo) {x y : V} {Q : VK} (r : RB G (bopD bo) [x, y] H Q) : CmR G bo x y H Q := by
  obtain ⟨F, ds, d, fh, vw, hg, out⟩ := r
  refine ⟨F, ds, d, fh, vw, ?_, out⟩
  obtain ⟨a, b, rfl, _, _⟩ := vw.get2
  show cmpD bo a b = some d
  have e : ∀ z : Option D, (match z with | some r => some r | none => none) = z := fun z => by cases z <;> rfl
  cases op <;> cases h <;> exact (e _).symm.trans hg
theorem tv_cm {op : CmpOp} {bo : B} {ma mb : M OV} (hK : X.K = G.K) (gok : GOk G X.w) (hu : X.A.units + 200 < cLine) (h : cmOp op = some bo) (ha : PE X a (TO G W p ma)) (hb : PE X b (TO G W q mb)) (hst : q = true ∨ Stay ma) (hm : behindInMarks op b = false) :
    PE X (.Compare a [op] [b] pos) (TV G W (p && q) (cBop bo (lCons ma (lCons mb lNil)))) :=
  (pe_cmpR (opr_cmp (G := G) hK gok hu (cm_op h)) ha hb hm).imp fun σ H Q z => bop2_read hst (fun x y H Q r => rb_cm h r) z
theorem tb_cm {op : CmpOp} {bo : B} {ma mb : M OV} (hK : X.K = G.K) (gok : GOk G X.w) (hu : X.A.units + 200 < cLine) (h : cmOp op = some bo) (ha : PE X a (TO G W p ma)) (hb : PE X b (TO G W q mb)) (hst : q = true ∨ Stay ma) (hm : behindInMarks op b = false) :
    PT X (.Compare a [op] [b] pos) (TB G W (p && q) (tVal (cBop bo (lCons ma (lCons mb lNil))))) :=
  (pt_cmpR (opr_cmp (G := G) hK gok hu (cm_op h)) ha hb hm).imp fun σ H Q z => bop2_read hst (fun x y H Q r => rb_cm h r) (tval_read z)
/-! ### chains -/
theorem OVs.stay1 {o : OV} {v : V} {ds : List D} {ws : List V} (h : OVs H σ [o] [v] ds ws) (k : Same H H' ∨ ∀ i s, o = .plc i s → s = []) : OVs H' σ [o] [v] ds ws := by
  cases h with
  | tmp r => cases r; exact .tmp .nil
  | plc a b r =>
    cases r
    refine .plc a ?_ .nil
    rcases k with k | k
    · exact pathV_mono k b
    · obtain rfl := k _ _ rfl
      exact b
theorem RepL.split : ∀ {vs ws : List V} {ds es : List D} {f : List Addr}, RepL G F H (vs ++ ws) (ds ++ es) f → vs.length = ds.length → ∃ g1 g2, f = g1 ++ g2 ∧ RepL G F H vs ds g1 ∧ RepL G F H ws es g2
  | [], _, [], _, f, h, _ => ⟨[], f, rfl, .nil, h⟩
  | v :: vs, ws, d :: ds, es, _, .cons (f := f) (g := g) h r, e => by
    obtain ⟨g1, g2, rfl, r1, r2⟩ := RepL.split r (by simpa using e)
    exact ⟨f ++ g1, g2, (List.append_assoc _ _ _).symm, .cons h r1, r2⟩
theorem cmpD_bl {o : B} {x y d : D} (h : cmpD o x y = some d) : ∃ k, d = .bl k := by
  unfold cmpD at h
  split at h <;> first
    | (cases h; exact ⟨_, rfl⟩)
    | (obtain ⟨_, _, rfl⟩ := Option.map_eq_some_iff.mp h; exact ⟨_, rfl⟩)
    | cases h
theorem chain_read {b1 b2 : B} {ma mb mc : M OV} {Q : VK} (h1 : q = true ∨ Stay ma) (h2 : r = true ∨ Stay mb) (h : TV G W (p && (q && r)) (cChain b1 b2 ma mb mc) σ H Q) : tChain (CmR G b1) (CmR G b2) (TO G W p ma) (TO G W q mb) (TO G W r mc) σ H Q := by
  obtain ⟨F, en, fp, fr, h⟩ := h
  refine ⟨F, en, fp, fr, ?_⟩
  unfold cChain at h
  cases e1 : ma en with
  | exc x en1 => rw [e1] at h; exact h
  | stuck => rw [e1] at h; exact h
  | ok oa en1 =>
    rw [e1] at h
    (try dsimp only at h)
    refine fun F1 H1 x t1 d1 fp1 f1 s1 fr1 ov1 => ⟨F1, en1, fp1, fr1.drop, ?_⟩
    cases e2 : mb en1 with
    | exc x en2 => rw [e2] at h; exact Exc.step h s1.slots
    | stuck => rw [e2] at h; exact h
    | ok ob en2 =>
      rw [e2] at h
      (try dsimp only at h)
      refine fun F2 H2 y t2 d2 fp2 f2 s2 fr2 ov2 => ?_
      obtain ⟨fr3, s3⟩ := fr1.keep s2 fr2
      have s13 := s1.trans s3
      have ova : OVs H2 σ [oa] [x] d1 t1 := ov1.stay1 (h1.imp (fun z => s2.pu z) fun z i s e => z en i s en1 (by rw [e1, e]))
      have vw := fr3.views (OVs.app1 ova ov2)
      cases e3 : cmpD b1 (oa.get en2) (ob.get en2) with
      | none => rw [e3] at h; exact h.elim
      | some dk =>
        rw [e3] at h
        obtain ⟨k, rfl⟩ := cmpD_bl e3
        (try dsimp only at h)
        refine ⟨F2, _, .bl k, fr3.fh, vw, e3, fun F4 H4 z f4 sF sH sFH nf new nd rp => ?_⟩
        obtain rfl := rep_bl rp
        refine ⟨k, rfl, ?_⟩
        obtain ⟨fr4, s4⟩ := fr3.grow sF sH sFH nf
        have s14 := s13.trans s4
        cases k with
        | false =>
          rw [if_neg Bool.false_ne_true]
          (try dsimp only at h)
          exact h F4 H4 (.bl false) fp2 [] (s14.slots.any fun z => by
            simp only [Bool.and_eq_true] at z ⊢
            exact ⟨⟨z.1, z.2.1⟩, trivial⟩) ⟨fr4.re, .cons (f := []) (g := []) (.fz (.bl _)) .nil, fr4.drop.nd, fr4.drop.nf, fr4.fh⟩
        | true =>
          rw [if_pos rfl]
          (try dsimp only at h)
          refine ⟨F4, en2, fp2, fr4.drop, ?_⟩
          cases e5 : mc en2 with
          | exc x en5 => rw [e5] at h; exact Exc.step h s14.slots
          | stuck => rw [e5] at h; exact h
          | ok oc en5 =>
            rw [e5] at h
            (try dsimp only at h)
            refine fun F5 H5 w t5 d5 fp5 f5 s5 fr5 ov5 => ?_
            obtain ⟨fr6, s6⟩ := fr4.keep s5 fr5
            have ovb : OVs H5 σ [ob] [y] d2 t2 := ov2.stay1 (h2.imp (fun z => sH.trans (s5.pu z)) fun z i s e => z en1 i s en2 (by rw [e2, e]))
            -- the first operand's temporaries stay beside
            have vw2 : Vws G F5 H5 [y, w] [ob.get en5, oc.get en5] := by
              have frb : ∃ g, Fr G F5 H5 σ en5 (t2 ++ t5) (d2 ++ d5) fp5 g := by
                obtain ⟨re, rl, nd, nf, fh⟩ := fr6
                rw [List.append_assoc, List.append_assoc] at rl
                obtain ⟨g1, g2, e, r1, r2⟩ := rl.split (by
                  have := fr1.rl.len
                  exact this)
                rw [e] at nd nf
                refine ⟨g2, re, r2, ?_, fun b hb => ?_, fh⟩
                · rw [List.append_assoc] at nd
                  exact (nodup_app.mp nd).2.1
                · refine nf b ?_
                  rw [List.append_assoc]
                  exact List.mem_append_right _ hb
              obtain ⟨g, frb⟩ := frb
              exact frb.views (OVs.app1 ovb ov5)
            cases e6 : cmpD b2 (ob.get en5) (oc.get en5) with
            | none => rw [e6] at h; exact h.elim
            | some dk =>
              rw [e6] at h
              obtain ⟨k, rfl⟩ := cmpD_bl e6
              (try dsimp only at h)
              refine ⟨F5, _, .bl k, fr5.fh, vw2, e6, ?_⟩
              refine fr6.out fun F7 H7 v fp7 f7 s7 fr7 => h F7 H7 v fp7 f7 (((s14.trans s6).trans s7).any fun z => ?_) fr7
              simp only [Bool.and_eq_true] at z ⊢
              exact ⟨⟨⟨⟨z.1, z.2.1⟩, trivial⟩, z.2.2⟩, trivial⟩
theorem tv_chain {o1 o2 : CmpOp} {b1 b2 : B} {ma mb mc : M OV} (hK : X.K = G.K) (gok : GOk G X.w) (hu : X.A.units + 200 < cLine) (e1 : cmOp o1 = some b1) (e2 : cmOp o2 = some b2) (ha : PE X a (TO G W p ma)) (hb : PE X b (TO G W q mb)) (hc : PE X c (TO G W r mc)) (h1 : q = true ∨ Stay ma) (h2 : r = true ∨ Stay mb)
    (hm : lastMarks [o1, o2] [b, c] = false) : PE X (.Compare a [o1, o2] [b, c] pos) (TV G W (p && (q && r)) (cChain b1 b2 ma mb mc)) :=
  (pe_chain (opr_cmp (G := G) hK gok hu (cm_op e1)) (opr_cmp (G := G) hK gok hu (cm_op e2)) ha hb hc hm).imp fun σ H Q z => chain_read h1 h2 z
theorem tb_chain {o1 o2 : CmpOp} {b1 b2 : B} {ma mb mc : M OV} (hK : X.K = G.K) (gok : GOk G X.w) (hu : X.A.units + 200 < cLine) (e1 : cmOp o1 = some b1) (e2 : cmOp o2 = some b2) (ha : PE X a (TO G W p ma)) (hb : PE X b (TO G W q mb)) (hc : PE X c (TO G W r mc)) (h1 : q = true ∨ Stay ma) (h2 : r = true ∨ Stay mb)
    (hm : lastMarks [o1, o2] [b, c] = false) : PT X (.Compare a [o1, o2] [b, c] pos) (TB G W (p && (q && r)) (tVal (cChain b1 b2 ma mb mc))) :=
  (pt_chain (opr_cmp (G := G) hK gok hu (cm_op e1)) (opr_cmp (G := G) hK gok hu (cm_op e2)) ha hb hc hm).imp fun σ H Q z => chain_read h1 h2 (tval_read z)
/-! ### items, slices, calls of built-in names -/
theorem tv_idx {ma mb : M OV} (hK : X.K = G.K) (gok : GOk G X.w) (hu : X.A.units + 200 < cLine) (ha : PE X a (TO G W p ma)) (hb : PE X b (TO G W q mb)) (hst : q = true ∨ Stay ma) (hp : PlainIx b) : PE X (.Subscript a b pos) (TV G W (p && q) (cBop .idx (lCons ma (lCons mb lNil)))) :=
  (pe_ix (ixr (G := G) hK gok hu) ha hb hp).imp fun σ H Q z => bop2_read hst (fun x y H Q r => r) z
/-- a part of a slice -/
def TPt (G : Gi) (W : WX) (p : Bool) (m : M (Option Int)) : L2.TO := fun σ H Q => ∃ F en fp, Fr0 G F H σ en fp ∧ Aft G W σ F H fp (m en) fun o en' => ∀ F' H' fp', Step p F H fp F' H' fp' → Fr0 G F' H' σ en' fp' → Q o H'
end
end Dn
end L2
set_option Elab.async false
set_option linter.all false
set_option maxRecDepth 100000
set_option maxHeartbeats 1000000
/-! Slices, calls of built-in names, ranges, raise. -/
namespace L2
namespace Dn
open PySem PySem.Spec PyProof.Rows
theorem _root_.L2.PO.imp {X : Cx} {e : Option Expr} {t u : L2.TO} (h : PO X e t) (k : ∀ σ H Q, u σ H Q → t σ H Q) : PO X e u := ⟨fun pins s σ H Q I q => h.run pins s σ H Q I (k σ H Q q)⟩
section
variable {G : Gi} {W : WX} {X : Cx} {p q r : Bool} {fx : Nat → Prop} {L : List Nat} {σ σ' : St} {F H F' H' : Hp} {f fp fp' : List Addr} {e o a b c i tg : Expr} {es : List Expr} {body : List Stmt} {pos apos cpos p1 p2 p3 : Pos} {lo hi : Option Expr}
theorem tp_none : PO X none (TPt G W true pNone) := po_none.imp fun σ H Q h => by
  obtain ⟨F, en, fp, fr, h⟩ := h
  exact h F H fp Step.refl fr
theorem tp_some {m : M D} (he : PE X e (TV G W p m)) : PO X (some e) (TPt G W p (pInt m)) := (po_some he).imp fun σ H Q h => by
  obtain ⟨F, en, fp, fr, h⟩ := h
  refine ⟨F, en, fp, fr, ?_⟩
  unfold pInt at h
  cases e1 : m en with
  | ok d en1 =>
    rw [e1] at h
    cases d <;> first | exact h.elim | skip
    refine fun F1 H1 v fp1 f1 s1 fr1 => ?_
    obtain rfl := rep_int fr1.one
    exact ⟨_, rfl, h F1 H1 fp1 s1.slots fr1.drop⟩
  | exc x en1 => rw [e1] at h; exact h
  | stuck => rw [e1] at h; exact h
theorem slice_read {mo : M OV} {ml mh : M (Option Int)} {Q : VK} (hst : (q = true ∧ r = true) ∨ Stay mo) (h : TV G W (p && (q && r)) (cSl mo ml mh) σ H Q) : tSl (fun x lo hi H Q => RS3 G x lo hi H Q) (Dn.TO G W p mo) (TPt G W q ml) (TPt G W r mh) σ H Q := by
  obtain ⟨F, en, fp, fr, h⟩ := h
  refine ⟨F, en, fp, fr, ?_⟩
  unfold cSl at h
  cases e1 : mo en with
  | exc x en1 => rw [e1] at h; exact h
  | stuck => rw [e1] at h; exact h
  | ok oa en1 =>
    rw [e1] at h
    (try dsimp only at h)
    refine fun F1 H1 x t1 d1 fp1 f1 s1 fr1 ov1 => ⟨F1, en1, fp1, fr1.drop, ?_⟩
    cases e2 : ml en1 with
    | exc x en2 => rw [e2] at h; exact Exc.step h s1.slots
    | stuck => rw [e2] at h; exact h
    | ok l en2 =>
      rw [e2] at h
      (try dsimp only at h)
      refine fun F2 H2 fp2 s2 fr2 => ⟨F2, en2, fp2, fr2, ?_⟩
      have s12 := s1.slots.trans s2
      cases e3 : mh en2 with
      | exc x en3 => rw [e3] at h; exact Exc.step h s12
      | stuck => rw [e3] at h; exact h
      | ok u en3 =>
        rw [e3] at h
        (try dsimp only at h)
        refine fun F3 H3 fp3 s3 fr3 => ?_
        obtain ⟨fr4, s4⟩ := fr1.keep (g := []) (s2.trans s3) fr3
        simp only [List.append_nil] at fr4 s4
        have ova : OVs H3 σ [oa] [x] d1 t1 := ov1.stay1 (hst.imp (fun z => (s2.pu z.1).trans (s3.pu z.2)) fun z i s e => z en i s en1 (by rw [e1, e]))
        have vw := fr4.views ova
        cases e4 : slcD (oa.get en3) l u with
        | none => rw [e4] at h; exact h.elim
        | some d =>
          rw [e4] at h
          (try dsimp only at h)
          cases vw with
          | cons v1 _ =>
            refine ⟨F3, _, d, fr4.fh, v1, e4, ?_⟩
            refine fr4.out fun F7 H7 v fp7 f7 s7 fr7 => h F7 H7 v fp7 f7 (((s1.trans s4).trans s7).any fun z => ?_) fr7
            simp only [Bool.and_eq_true] at z ⊢
            exact ⟨⟨z.1, z.2⟩, trivial⟩
theorem tv_sl {mo : M OV} {ml mh : M (Option Int)} (hK : X.K = G.K) (hst : (q = true ∧ r = true) ∨ Stay mo) (he : PE X e (Dn.TO G W p mo)) (hl : PO X lo (TPt G W q ml)) (hh : PO X hi (TPt G W r mh)) : PE X (.Subscript e (.Slice lo hi none p2) pos) (TV G W (p && (q && r)) (cSl mo ml mh)) :=
  (pe_slice (slr (G := G) hK) he hl hh).imp fun σ H Q z => slice_read hst z
theorem tv_rev {k : Nat} {mo : M OV} (hK : X.K = G.K) (he : PE X e (Dn.TO G W p mo)) : PE X (.Subscript e (.Slice none none (some (.UnaryOp .USub (.Constant (.int 1) k p1) p2)) p3) pos) (TV G W (p && true) (cBop .rev (lCons mo lNil))) := (pe_revL he).imp fun σ H Q h => by
  have h1 := tos_cons_r (p := p) (q := true) (.inl rfl) (bop_read h)
  obtain ⟨F, en, fp, fr, h1⟩ := h1
  refine ⟨F, en, fp, fr, Aft.step h1 Step.refl fun o en1 e1 h1 F1 H1 v tvs tds fp1 f1 s1 fr1 ov1 => ?_⟩
  obtain ⟨F2, ds, d, fh, vw, hg, out⟩ := tos_nil_r (h1 F1 H1 v tvs tds fp1 f1 s1 fr1 ov1)
  obtain ⟨a, rfl, va⟩ := vw.get1
  cases a <;> first | (cases hg; done) | skip
  rename_i oo xs
  have hg : (if allF xs then some (D.lst true xs.reverse) else none) = some d := hg
  split at hg
  · rename_i ha
    cases hg
    obtain ⟨_, ra⟩ := va (fun z => nomatch z)
    obtain ⟨ad, vs, g, rfl, h1, h2, _⟩ := rep_lst fh ra
    refine ⟨ad, vs, rfl, by rw [hK]; exact SqL.rd h1, fun pp n => out.new fh n fun H2 _ hp => .lst hp ?_⟩
    exact (tups_of h2 ha).reverse.repL
  · cases hg
theorem tv_neg {mo : M OV} (he : PE X e (Dn.TO G W p mo)) : PE X (.UnaryOp .USub e pos) (TV G W (p && true) (cBop .neg (lCons mo lNil))) := (pe_un un_neg he).imp fun σ H Q h => by
  have h1 := tos_cons_r (p := p) (q := true) (.inl rfl) (bop_read h)
  obtain ⟨F, en, fp, fr, h1⟩ := h1
  refine ⟨F, en, fp, fr, Aft.step h1 Step.refl fun o en1 e1 h1 F1 H1 v tvs tds fp1 f1 s1 fr1 ov1 => ?_⟩
  obtain ⟨F2, ds, d, fh, vw, hg, out⟩ := tos_nil_r (h1 F1 H1 v tvs tds fp1 f1 s1 fr1 ov1)
  obtain ⟨a, rfl, va⟩ := vw.get1
  cases a <;> first | (cases hg; done) | skip
  cases hg
  obtain ⟨_, ra⟩ := va (fun z => nomatch z)
  obtain rfl := rep_int ra
  exact ⟨_, rfl, out.fz fh (.int _)⟩
theorem tv_cb {id : String} {bo : B} {ms : M (List OV)} {x : Str} {pn : Pos} (hc : CallR X (.builtin id) (fun vs H Q => RB G (bopD bo) vs H Q)) (hg : Gl X x) (hm : X.mg x = none) (hv : bootBuiltins x = some (.builtin id)) (ha : PA X (e :: es) (TOs G W p ms)) (hn : x ≠ "__name__") (hdb : (x == ("__debug__" : Str)) = false)
    (he : starEach (e :: es) X.env = (false, eval e X.env) :: starEach es X.env) (hpl : (backTo pos (starEach es X.env)).any (·.1) = false) : PE X (.Call (.Name x pn) (e :: es) [] pos) (TV G W p (cBop bo ms)) :=
  (pe_callB hc hg hm hv ha hn hdb he hpl).imp fun σ H Q z => bop_read z
theorem tv_ct {id : String} {bo : B} {ms : M (List OV)} {x : Str} {pn : Pos} (hc : CallR X (.type id) (fun vs H Q => RB G (bopD bo) vs H Q)) (hg : Gl X x) (hm : X.mg x = none) (hv : bootBuiltins x = some (.type id)) (ha : PA X (e :: es) (TOs G W p ms)) (hn : x ≠ "__name__") (hdb : (x == ("__debug__" : Str)) = false)
    (he : starEach (e :: es) X.env = (false, eval e X.env) :: starEach es X.env) (hpl : (backTo pos (starEach es X.env)).any (·.1) = false) : PE X (.Call (.Name x pn) (e :: es) [] pos) (TV G W p (cBop bo ms)) :=
  (pe_callTy hc hg hm hv ha hn hdb he hpl).imp fun σ H Q z => bop_read z
/-! ### ranges -/
theorem lent0 {σ : St} : Lent σ none [] [] := ⟨rfl, rfl⟩
theorem ti_rng1 {m : M D} (hg : Gl X "range") (hm : X.mg "range" = none) (ha : PE X a (TV G W p m)) (hs : starEach [a] X.env = [(false, eval a X.env)]) (hs2 : starEach [a] X.env = (false, eval a X.env) :: starEach [] X.env) : PI X tg (.Call (.Name "range" apos) [a] [] pos) (TId G W (iRng (lCons m lNil))) :=
  (pi_range1 hg hm (pa_cons ha pa_nil hs2) hs).imp fun σ H R h => by
    obtain ⟨F, en, fp, fr, h⟩ := h
    refine ⟨F, en, fp, fr, ?_⟩
    unfold iRng lCons lNil at h
    cases e1 : m en with
    | exc x en1 => rw [e1] at h; exact h
    | stuck => rw [e1] at h; exact h
    | ok d en1 =>
      rw [e1] at h
      cases d <;> first | exact h.elim | skip
      rename_i j
      dsimp only at h
      refine fun F1 H1 v fp1 f1 s1 fr1 => ?_
      obtain rfl := rep_int fr1.one
      split at h
      · rename_i hj
        refine ⟨j, rfl, hj.1, hj.2, ?_⟩
        exact h F1 H1 _ [] [] fp1 [] (s1.slots.any fun z => nomatch z) fr1.drop lent0 (turns_R (by simp))
      · exact h.elim
theorem ti_rng2 {m n : M D} (hg : Gl X "range") (hm : X.mg "range" = none) (ha : PE X a (TV G W p m)) (hb : PE X b (TV G W q n)) (hs : starEach [a, b] X.env = [(false, eval a X.env), (false, eval b X.env)]) (hs2 : starEach [b] X.env = [(false, eval b X.env)])
    (hs3 : starEach [a, b] X.env = (false, eval a X.env) :: starEach [b] X.env) (hs4 : starEach [b] X.env = (false, eval b X.env) :: starEach [] X.env) : PI X tg (.Call (.Name "range" apos) [a, b] [] pos) (TId G W (iRng (lCons m (lCons n lNil)))) :=
  (pi_range2 hg hm (pa_cons ha (pa_cons hb pa_nil hs4) hs3) hs hs2).imp fun σ H R h => by
    obtain ⟨F, en, fp, fr, h⟩ := h
    refine ⟨F, en, fp, fr, ?_⟩
    unfold iRng lCons lNil at h
    cases e1 : m en with
    | exc x en1 => rw [e1] at h; exact h
    | stuck => rw [e1] at h; exact h
    | ok d en1 =>
      rw [e1] at h
      dsimp only at h
      refine fun F1 H1 v fp1 f1 s1 fr1 => ⟨F1, en1, fp1, fr1.drop, ?_⟩
      cases e2 : n en1 with
      | exc x en2 => rw [e2] at h; exact Exc.step h s1.slots
      | stuck => rw [e2] at h; exact h
      | ok d2 en2 =>
        rw [e2] at h
        cases d <;> first | exact h.elim | skip
        cases d2 <;> first | exact h.elim | skip
        rename_i j1 j2
        dsimp only at h
        refine fun F2 H2 v2 fp2 f2 s2 fr2 => ?_
        obtain rfl := rep_int fr1.one
        obtain rfl := rep_int fr2.one
        split at h
        · rename_i hj
          refine ⟨j1, j2, rfl, hj, ?_⟩
          exact h F2 H2 _ [] [] fp2 [] ((s1.slots.trans s2.slots).any fun z => nomatch z) fr2.drop lent0 (turns_R rfl)
        · exact h.elim
/-! ### raise -/
theorem ts_rai {m : M D} {k c : Nat} {fI : Addr} {fd : FuncData} {ps : List Str} {x fn : Str} {CX : CXT} {pn : Pos} (hc : X.calm = true) (tk : Takes X W) (T : Fc.ArC X.K (G.cls c) fI fn) (hfn : G.fnm c = [fn]) (F1 : FnOk X.prog X.w X.K X.mg X.base CX k fI fd ps (Fc.spExc (G.cls c) fn)) (hr : Room (k + 1) X.A) (hb : Binds X.K fd ps [])
    (hx : Passes CX X (fun _ _ _ => False)) (hg : Gl X x) (hm : X.mg x = some (.ref (G.cls c))) (he : PE X e (TV G W p m)) (hdb : (x == ("__debug__" : Str)) = false)
    (hs : starEach [e] X.env = (false, eval e X.env) :: starEach [] X.env) (hpl : (backTo pos (starEach [] X.env)).any (·.1) = false) : PS X (.Raise (some (.Call (.Name x pn) [e] [] pos)) none cpos) (TSd G W fx (sRai c m)) :=
  (ps_raise hc tk (Fc.pmk_ar T F1 hr hb hx hg hm (pa_cons he pa_nil hs) hdb hs hpl)).imp fun E σ H h => by
    obtain ⟨F, en, fp, fr, h⟩ := h
    refine ⟨F, en, fp, fr, ?_⟩
    unfold sRai at h
    cases e1 : m en with
    | exc x en1 => rw [e1] at h; exact ExcS.exc h
    | stuck => rw [e1] at h; exact h
    | ok d en1 =>
      rw [e1] at h
      dsimp only at h
      refine fun F1 H1 v fp1 f1 s1 fr1 => ⟨v, rfl, fun ad n => ?_⟩
      obtain ⟨F2, s2, fr2, z⟩ := fr1.freezeL
      rw [show frzL [d] = [frz d] from rfl] at z
      cases z with
      | cons z _ =>
        have sm : Same H1 (upd H1 ad (.xd [(fn, v)])) := fun b u z => by rw [upd_ne (ne_of_none z n)]; exact z
        obtain ⟨fr3, s3⟩ := fr2.grow (Same.refl F2) sm (fr2.fh.trans sm) fun b z => .inl z
        refine h F2 _ σ fp1 (.ref (G.cls c)) (some ad) (((s1.trans s2).trans s3).any fun z => nomatch z) fr3 Agree.refl ⟨ad, fn, v, rfl, rfl, upd_same, hfn, z⟩
end
end Dn
end L2
set_option Elab.async false
set_option linter.all false
set_option maxRecDepth 100000
set_option maxHeartbeats 1000000
/-! Comprehensions. -/
namespace L2
namespace Dn
open PySem PySem.Spec PyProof.Rows
abbrev WF : WX := fun _ _ _ _ => False
section
variable {G : Gi} {W : WX} {X : Cx} {p q r : Bool} {fx : Nat → Prop} {L : List Nat} {σ σ' : St} {F H F' H' : Hp} {f fp fp' : List Addr} {e o a b c i tg it elt : Expr} {es ifs : List Expr} {body : List Stmt} {pos apos cpos : Pos}
/-- temporaries in front stand beside what the others do -/
theorem Fr.keepG {en : Env} {vs us : List V} {ds es2 : List D} (h : Fr G F H σ en (vs ++ us) (ds ++ es2) fp f) (hl : vs.length = ds.length) : ∃ f1 g, f = f1 ++ g ∧ Fr G F H σ en us es2 fp g ∧
    ∀ {p : Bool} {F' H' : Hp} {σ' : St} {en' : Env} {ws : List V} {es' : List D} {fp' g' : List Addr}, Step p F H (g ++ fp) F' H' (g' ++ fp') → Fr G F' H' σ' en' ws es' fp' g' → Fr G F' H' σ' en' (vs ++ ws) (ds ++ es') fp' (f1 ++ g') ∧ Step p F H (f ++ fp) F' H' ((f1 ++ g') ++ fp') := by
  obtain ⟨re, rl, nd, nf, fh⟩ := h
  obtain ⟨f1, g, rfl, r1, r2⟩ := rl.split hl
  rw [List.append_assoc] at nd nf
  obtain ⟨n1, n2, n3⟩ := nodup_app.mp nd
  refine ⟨f1, g, rfl, ⟨re, r2, n2, fun b hb => nf b (List.mem_append_right _ hb), fh⟩, fun {p F' H' σ' en' ws es' fp' g'} s h' => ?_⟩
  obtain ⟨k1, k2, k3⟩ := s.out (g := f1) r1.dom n3
  have nf' := k3 fun b hb => nf b (List.mem_append_left _ hb)
  refine ⟨⟨h'.re, (r1.move s.ff k1).append h'.rl, ?_, fun b hb => ?_, h'.fh⟩, s.weak (fun b hb => by rw [List.append_assoc]; exact List.mem_append_right _ hb) (fun b hb => ?_) id⟩
  · rw [List.append_assoc]
    exact nodup_app.mpr ⟨n1, h'.nd, k2⟩
  · rw [List.append_assoc] at hb
    exact (List.mem_append.mp hb).elim (nf' b) (h'.nf b)
  · rw [List.append_assoc] at hb
    exact (List.mem_append.mp hb).elim (fun z => .inr (.inl (by rw [List.append_assoc]; exact List.mem_append_left _ z))) .inl
theorem Fr.turn {en : Env} {vs us : List V} {ds es2 : List D} (h : Fr G F H σ en (vs ++ us) (ds ++ es2) fp f) (hl : vs.length = ds.length) : ∃ g, Fr G F H σ en (us ++ vs) (es2 ++ ds) fp g ∧ ∀ b, b ∈ g ++ fp ↔ b ∈ f ++ fp := by
  obtain ⟨re, rl, nd, nf, fh⟩ := h
  obtain ⟨f1, g, rfl, r1, r2⟩ := rl.split hl
  have pm : ((g ++ f1) ++ fp).Perm ((f1 ++ g) ++ fp) := List.Perm.append_right _ List.perm_append_comm
  exact ⟨g ++ f1, ⟨re, r2.append r1, pm.nodup_iff.mpr nd, fun b hb => nf b (pm.mem_iff.mp hb), fh⟩, fun b => pm.mem_iff⟩
/-! ### slots that are forgotten -/
theorem RepE.swap : ∀ {σ σ2 : St} {en : Env} {fp : List Addr}, RepE G F H σ en fp → σ2.length = σ.length → (∀ i, σ2[i]? = σ[i]? ∨ en.at i = .no) → RepE G F H σ2 en fp
  | [], σ2, _, _, .nil, hl, _ => by
    cases σ2 with
    | nil => exact .nil
    | cons _ _ => cases hl
  | o :: σ, σ2, _, _, .cons (d := d) (e := e) (f := f) h r, hl, k => by
    cases σ2 with
    | nil => cases hl
    | cons o2 σ2 =>
      refine .cons ?_ (RepE.swap r (by simpa using hl) fun i => k (i + 1))
      rcases k 0 with z | z
      · cases z
        exact h
      · have z : d = .no := z
        subst z
        have : f = [] := by
          cases h with
          | none => rfl
          | some h => cases h; rfl
        subst this
        cases o2 with
        | none => exact .none
        | some v => exact .some (.fz (.no v))
theorem Fr.swap {en : Env} {vs : List V} {ds : List D} {σ2 : St} (fr : Fr G F H σ en vs ds fp f) (hl : σ2.length = σ.length) (k : ∀ i, σ2[i]? = σ[i]? ∨ en.at i = .no) : Fr G F H σ2 en vs ds fp f :=
  ⟨fr.re.swap hl k, fr.rl, fr.nd, fr.nf, fr.fh⟩
theorem Fr.forget1 {en : Env} {vs : List V} {ds : List D} (fr : Fr G F H σ en vs ds fp f) (i : Nat) : ∃ fp2, Fr G F H σ (en.set i .no) vs ds fp2 f ∧ ∀ b ∈ fp2, b ∈ fp := by
  by_cases hi : i < en.length
  · obtain ⟨o', g, rest, k1, k2, k3, k4⟩ := fr.re.at hi
    have no : RepO G F H o' .no [] := by
      cases o' with
      | none => exact .none
      | some v => exact .some (.fz (.no v))
    obtain ⟨fp2, w1, w2⟩ := k4 F H o' .no [] (Same.refl F) (fun _ _ => rfl) no
    rw [set_self k1] at w2
    have pm : (f ++ fp).Perm ((f ++ fp2) ++ g) := pcount fun a => by
      have a1 := k3.count_eq a
      have a2 := w1.count_eq a
      simp only [List.count_append, List.count_nil] at a1 a2 ⊢
      omega
    exact ⟨fp2, ⟨w2, fr.rl, (List.nodup_append.mp (pm.nodup_iff.mp fr.nd)).1, fun b hb => fr.nf b (pm.mem_iff.mpr (List.mem_append_left _ hb)), fr.fh⟩, fun b hb => k3.mem_iff.mpr (List.mem_append_right _ (by simpa using w1.mem_iff.mp hb))⟩
  · rw [show en.set i .no = en from List.set_eq_of_length_le (by omega)]
    exact ⟨fp, fr, fun _ h => h⟩
theorem Fr.forget {en : Env} {vs : List V} {ds : List D} (fr : Fr G F H σ en vs ds fp f) : ∀ is : List Nat, ∃ fp2, Fr G F H σ (wipeE en is) vs ds fp2 f ∧ ∀ b ∈ fp2, b ∈ fp
  | [] => ⟨fp, fr, fun _ h => h⟩
  | i :: is => by
    obtain ⟨fp2, fr2, h2⟩ := Fr.forget fr is
    obtain ⟨fp3, fr3, h3⟩ := fr2.forget1 i
    exact ⟨fp3, fr3, fun b hb => h2 b (h3 b hb)⟩
theorem at_set {en : Env} {i j : Nat} {d : D} : Env.at (en.set i d) j = if i = j ∧ j < en.length then d else en.at j := by
  unfold Env.at
  rw [List.getD_eq_getElem?_getD, List.getD_eq_getElem?_getD, List.getElem?_set]
  by_cases h : i = j
  · subst h
    by_cases hl : i < en.length
    · simp [hl]
    · simp [hl, List.getElem?_eq_none (show en.length ≤ i by omega)]
  · simp [h]
theorem wipeE_at {en : Env} : ∀ {is : List Nat} {i : Nat}, i ∈ is → (wipeE en is).at i = .no
  | j :: is, i, h => by
    show Env.at ((wipeE en is).set j .no) i = .no
    rw [at_set]
    split
    · rfl
    · rename_i hc
      rcases List.mem_cons.mp h with rfl | h
      · unfold Env.at
        rw [List.getD_eq_getElem?_getD, List.getElem?_eq_none (by
          have : ¬ i < (wipeE en is).length := fun z => hc ⟨rfl, z⟩
          omega)]
        rfl
      · exact wipeE_at h
theorem wipe_get {σ : St} : ∀ {is : List Nat} {i : Nat}, i ∉ is → (wipe σ is)[i]? = σ[i]?
  | [], _, _ => rfl
  | j :: is, i, h => by
    rw [List.mem_cons, not_or] at h
    show ((wipe σ is).set j none)[i]? = _
    rw [List.getElem?_set, if_neg (Ne.symm h.1)]
    exact wipe_get h.2
theorem wipe_in {σ : St} : ∀ {is : List Nat} {i : Nat}, i ∈ is → (wipe σ is)[i]? = if i < σ.length then some none else none
  | j :: is, i, h => by
    show ((wipe σ is).set j none)[i]? = _
    rw [List.getElem?_set, wipe_length]
    by_cases hj : j = i
    · subst hj
      simp
    · rw [if_neg hj]
      rcases List.mem_cons.mp h with rfl | h
      · exact absurd rfl hj
      · exact wipe_in h
theorem wipe_agree {σ σ2 : St} {is : List Nat} (h : Agree (fun i => i ∉ is) (wipe σ is) σ2) : wipe σ2 is = wipe σ is := by
  apply List.ext_getElem?
  intro i
  by_cases hi : i ∈ is
  · rw [wipe_in hi, wipe_in hi, h.1, wipe_length]
  · rw [wipe_get hi, h.2 i hi]
/-- the new list grows -/
theorem Fr.appD {en : Env} {D0 : Addr} {y : V} {acc : List D} {dy : D} {tvs : List V} {tds : List D} (fr : Fr G F H σ en (.ref D0 :: (tvs ++ [y])) (.lst true acc :: (tds ++ [dy])) fp f) : ∃ xs, H D0 = some (.lst xs) ∧ xs.length = acc.length ∧
    ∃ f2, Fr G F (upd H D0 (.lst (xs ++ [y]))) σ en (.ref D0 :: tvs) (.lst true (acc ++ [dy]) :: tds) fp f2 ∧ Step false F H (f ++ fp) F (upd H D0 (.lst (xs ++ [y]))) (f2 ++ fp) := by
  obtain ⟨re, rl, nd, nf, fh⟩ := fr
  cases rl with
  | @cons _ _ _ _ g1 g2 h1 rl =>
    obtain ⟨a, xs, g, e, ha, h2, rfl⟩ := rep_lstT h1
    cases e
    obtain ⟨ws, w, y1, y2, ew, rfl, u1, u2⟩ := rl.snoc_inv
    obtain ⟨rfl, ey⟩ := List.append_inj' ew rfl
    cases ey
    refine ⟨xs, ha, h2.len, ?_⟩
    have dm : D0 ∈ (D0 :: g ++ (y1 ++ y2)) ++ fp := List.mem_append_left _ (List.mem_append_left _ List.mem_cons_self)
    have na : ∀ b ∈ g ++ ((y1 ++ y2) ++ fp), b ≠ D0 := fun b hb z => by
      have nd' : (D0 :: (g ++ ((y1 ++ y2) ++ fp))).Nodup := by simpa [List.append_assoc] using nd
      exact (List.nodup_cons.mp nd').1 (by rw [← z]; exact hb)
    have kk : ∀ b ∈ g ++ ((y1 ++ y2) ++ fp), upd H D0 (.lst (xs ++ [y])) b = H b := fun b hb => upd_ne (na b hb)
    have m1 := h2.move (F' := F) (H' := upd H D0 (.lst (xs ++ [y]))) (Same.refl F) fun b hb => kk b (List.mem_append_left _ hb)
    have m2 := u2.move (F' := F) (H' := upd H D0 (.lst (xs ++ [y]))) (Same.refl F) fun b hb => kk b (List.mem_append_right _ (List.mem_append_left _ (List.mem_append_right _ hb)))
    have m3 := u1.move (F' := F) (H' := upd H D0 (.lst (xs ++ [y]))) (Same.refl F) fun b hb => kk b (List.mem_append_right _ (List.mem_append_left _ (List.mem_append_left _ hb)))
    have m4 := re.move (F' := F) (H' := upd H D0 (.lst (xs ++ [y]))) (Same.refl F) fun b hb => kk b (List.mem_append_right _ (List.mem_append_right _ hb))
    have pm : ((D0 :: g ++ (y1 ++ y2)) ++ fp).Perm (((D0 :: (g ++ (y2 ++ []))) ++ y1) ++ fp) := pcount fun z => by
      simp only [List.count_append, List.count_cons, List.count_nil]
      omega
    have aF : F D0 = none := nf D0 dm
    refine ⟨(D0 :: (g ++ (y2 ++ []))) ++ y1, ⟨m4, .cons (.lst upd_same (m1.append (.cons m2 .nil))) m3, pm.nodup_iff.mp nd, fun b hb => nf b (pm.mem_iff.mpr hb), fun b u z => ?_⟩,
      ⟨Same.refl F, fun b u z n => ?_, fun b hb => .inl (pm.mem_iff.mpr hb), fun b z => .inl z, fun z => nomatch z⟩⟩
    · rw [upd_ne (fun y => by rw [y, aF] at z; cases z)]
      exact fh b u z
    · rw [upd_ne fun y => n (by rw [y]; exact dm)]
      exact z
/-! ### the comprehension -/
theorem _root_.L2.PTs.imp {X : Cx} {e : List Expr} {t u : TT} (h : PTs X e t) (k : ∀ σ H Q, u σ H Q → t σ H Q) : PTs X e u := ⟨fun pins s σ H Q I q => h.run pins s σ H Q I (k σ H Q q)⟩
/-- the tests: a boolean -/
def TBs (G : Gi) (m : M Bool) : TT := TB G WF false m
theorem comp_read {mi : M IV} {g : D → M Unit} {mt : M Bool} {mx : M D} {vs : List Nat} {Q : VK} (hgx : ∀ d en x en1, g d en ≠ .exc x en1) (h : TV G W false (cComp mi g mt mx vs) σ H Q) :
    tLc (TId G W mi) (TGd G WF (fun i => i ∉ vs) g) (TB G WF p mt) (TV G WF q mx) vs σ H Q := by
  obtain ⟨F, en, fp, fr, h⟩ := h
  refine ⟨F, en, fp, fr, ?_⟩
  unfold cComp at h
  cases e1 : mi en with
  | exc x en1 => rw [e1] at h; exact h
  | stuck => rw [e1] at h; exact h
  | ok iv en1 =>
    rw [e1] at h
    (try dsimp only at h)
    refine fun F1 H1 J tvs tds fp1 f1 s1 fr1 hl tn D0 nD => ?_
    have hlen : tvs.length = tds.length := fr1.rl.len
    -- the new list
    have smD : Same H1 (upd H1 D0 (.lst [])) := fun b u z => by rw [upd_ne (ne_of_none z nD)]; exact z
    obtain ⟨fr2, s2⟩ := fr1.grow (Same.refl F1) smD (fr1.fh.trans smD) fun b z => .inl z
    have dom : ∀ b ∈ f1 ++ fp1, H1 b ≠ none := fun b hb => (List.mem_append.mp hb).elim (fr1.rl.dom b) (fr1.re.dom b)
    have nDi : D0 ∉ f1 ++ fp1 := fun hb => dom D0 hb nD
    have fr3 : Fr G F1 (upd H1 D0 (.lst [])) σ en1 (.ref D0 :: tvs) (.lst true [] :: tds) fp1 ([D0] ++ f1) := by
      refine ⟨fr2.re, .cons (.lst (vs := []) upd_same .nil) fr2.rl, ?_, fun b hb => ?_, fr2.fh⟩
      · exact List.nodup_cons.mpr ⟨nDi, fr1.nd⟩
      · rcases List.mem_cons.mp hb with rfl | hb
        · exact fr1.fh.free nD
        · exact fr1.nf b hb
    have s3 : Step false F H fp F1 (upd H1 D0 (.lst [])) (([D0] ++ f1) ++ fp1) := by
      refine (s1.trans s2).weak (q := false) (fun _ z => z) (fun b hb => ?_) fun z => nomatch z
      rcases List.mem_cons.mp hb with rfl | hb
      · cases e : H b with
        | none => exact .inr (.inr rfl)
        | some o =>
          by_cases hm : b ∈ fp
          · exact .inr (.inl hm)
          · have := s1.keep b o e hm
            rw [nD] at this
            cases this
      · exact .inl hb
    obtain ⟨fpw, fr4, hw⟩ := fr3.forget vs
    have fr5 : Fr G F1 (upd H1 D0 (.lst [])) (wipe σ vs) (wipeE en1 vs) (.ref D0 :: tvs) (.lst true [] :: tds) fpw ([D0] ++ f1) := fr4.swap (wipe_length σ vs) fun i => by
      by_cases hi : i ∈ vs
      · exact .inr (wipeE_at hi)
      · exact .inl (wipe_get hi)
    have s5 : Step false F H fp F1 (upd H1 D0 (.lst [])) (([D0] ++ f1) ++ fpw) := s3.weak (fun _ z => z) (fun b hb => .inl ((List.mem_append.mp hb).elim (fun z => List.mem_append_left _ z) fun z => List.mem_append_right _ (hw b z))) fun z => nomatch z
    -- what is left to do
    have kk : ∀ (en' : Env) (acc : List D) (rest : List D) (H' : Hp), Prop := fun en' acc rest H' => ∃ F' fp' f', Step false F H fp F' H' (f' ++ fp') ∧ Same F1 F' ∧ Fr G F' H' (wipe σ vs) en' (.ref D0 :: tvs) (.lst true acc :: tds) fp' f' ∧ (∀ i ∈ vs, en'.at i = .no) ∧
      ∃ ds e2, compD (turnC g mt mx vs) rest en' acc = .ok ds e2
    have hres : ∃ P : List D → Env → Prop, (∀ ds e2, P ds e2 → ∀ F' H' v fp' f, Step false F H fp F' H' (f ++ fp') → Fr G F' H' σ (unlend iv.lent e2) [v] [.lst true ds] fp' f → Q v H') ∧
        (match compD (turnC g mt mx vs) iv.items (wipeE en1 vs) [] with | .ok ds e2 => P ds e2 | _ => False) := by
      refine ⟨fun ds e2 => ∀ F' H' v fp' f, Step false F H fp F' H' (f ++ fp') → Fr G F' H' σ (unlend iv.lent e2) [v] [.lst true ds] fp' f → Q v H', fun ds e2 h => h, ?_⟩
      cases e2 : compD (turnC g mt mx vs) iv.items (wipeE en1 vs) [] with
      | ok ds e3 => rw [e2] at h; exact h
      | exc _ _ => rw [e2] at h; exact h
      | stuck => rw [e2] at h; exact h
    clear kk
    obtain ⟨P, hP, hc⟩ := hres
    refine ⟨fun k m H' => m = iv.items.length - k ∧ k ≤ iv.items.length ∧ ∃ F' en' fp' f' acc, Step false F H fp F' H' (f' ++ fp') ∧ Same F1 F' ∧ Fr G F' H' (wipe σ vs) en' (.ref D0 :: tvs) (.lst true acc :: tds) fp' f' ∧ (∀ i ∈ vs, en'.at i = .no) ∧
      (match compD (turnC g mt mx vs) (iv.items.drop k) en' acc with | .ok ds e2 => P ds e2 | _ => False),
      ⟨_, rfl, Nat.zero_le _, F1, _, fpw, _, [], s5, Same.refl F1, fr5, fun i hi => wipeE_at hi, hc⟩, ?_⟩
    rintro k m H2 ⟨rfl, hk, F2, en2, fp2, f2, acc, s6, sm2, fr6, hno, h2⟩
    obtain ⟨fD, g0, rfl, frs, back⟩ := Fr.keepG (vs := [.ref D0]) (us := tvs) (ds := [.lst true acc]) (es2 := tds) fr6 rfl
    obtain ⟨st, go⟩ := tn F2 H2 (wipe σ vs) en2 fp2 g0 sm2 frs
    by_cases hlt : k < iv.items.length
    · obtain ⟨d, hd⟩ : ∃ d, iv.items[k]? = some d := ⟨_, List.getElem?_eq_getElem hlt⟩
      obtain ⟨g1, yl⟩ := go k d hd
      have hdr : iv.items.drop k = d :: iv.items.drop (k + 1) := by
        obtain ⟨_, e⟩ := List.getElem?_eq_some_iff.mp hd
        rw [List.drop_eq_getElem_cons hlt, e]
      rw [hdr] at h2
      unfold compD turnC at h2
      refine .inr ⟨g1, fun H' => k + 1 ≤ iv.items.length ∧ ∃ F' en' fp' f' acc, Step false F H fp F' H' (f' ++ fp') ∧ Same F1 F' ∧ Fr G F' H' (wipe σ vs) en' (.ref D0 :: tvs) (.lst true acc :: tds) fp' f' ∧ (∀ i ∈ vs, en'.at i = .no) ∧
        (match compD (turnC g mt mx vs) (iv.items.drop (k + 1)) en' acc with | .ok ds e2 => P ds e2 | _ => False), fun H' z => ⟨_, by omega, rfl, z.1, z.2⟩, fun x H3 y => ?_⟩
      obtain ⟨f3, fr7, s7⟩ := yl x H3 y
      refine ⟨F2, en2, fp2, f3, tvs, tds, d, fr7, ?_⟩
      cases e2 : g d en2 with
      | exc x en3 => exact absurd e2 (hgx d en2 x en3)
      | stuck => rw [e2] at h2; exact h2
      | ok u en3 =>
        rw [e2] at h2
        (try dsimp only at h2 ⊢)
        refine fun F4 H4 σ4 fp4 f4 s8 fr8 ag8 => ⟨wipe_agree ag8, ?_⟩
        have s78 := s7.trans s8
        refine ⟨F4, en3, fp4, fr8.drop, ?_⟩
        cases e3 : mt en3 with
        | exc x en4 => rw [e3] at h2; exact h2.elim
        | stuck => rw [e3] at h2; exact h2
        | ok bb en4 =>
          rw [e3] at h2
          refine fun F5 H5 fp5 s9 fr9 => ?_
          obtain ⟨fr10, s10⟩ := fr8.keep (g := []) s9 fr9
          simp only [List.append_nil] at fr10 s10
          have s79 := s78.trans s10
          cases bb with
          | false =>
            (try dsimp only at h2 ⊢)
            rw [if_neg Bool.false_ne_true]
            obtain ⟨fp6, fr11, h11⟩ := fr10.forget vs
            have fr12 := fr11.swap (σ2 := wipe σ vs) (by rw [wipe_length, ag8.1, wipe_length]) fun i => by
              by_cases hi : i ∈ vs
              · exact .inr (wipeE_at hi)
              · exact .inl (ag8.2 i hi).symm
            have s12 : Step false F2 H2 (g0 ++ fp2) F5 H5 (f4 ++ fp6) := s79.weak (fun _ z => z) (fun b hb => .inl ((List.mem_append.mp hb).elim (fun z => List.mem_append_left _ z) fun z => List.mem_append_right _ (h11 b z))) fun z => nomatch z
            obtain ⟨fr13, s13⟩ := back s12 fr12
            exact ⟨hlt, F5, _, fp6, _, acc, (s6.trans s13), sm2.trans s12.ff, fr13, fun i hi => wipeE_at hi, h2⟩
          | true =>
            (try dsimp only at h2 ⊢)
            rw [if_pos rfl]
            refine ⟨F5, en4, fp5, fr10.drop, ?_⟩
            cases e4 : mx en4 with
            | exc x en5 => rw [e4] at h2; exact h2.elim
            | stuck => rw [e4] at h2; exact h2
            | ok dy en5 =>
              rw [e4] at h2
              (try dsimp only at h2 ⊢)
              refine fun F6 H6 yv fp6 f6 s11 fr11 => ?_
              obtain ⟨fr12, s12⟩ := fr10.keep s11 fr11
              obtain ⟨fp7, fr13, h13⟩ := fr12.forget vs
              have fr14 := fr13.swap (σ2 := wipe σ vs) (by rw [wipe_length, ag8.1, wipe_length]) fun i => by
                by_cases hi : i ∈ vs
                · exact .inr (wipeE_at hi)
                · exact .inl (ag8.2 i hi).symm
              have s14 : Step false F2 H2 (g0 ++ fp2) F6 H6 ((f4 ++ f6) ++ fp7) := (s79.trans s12).weak (fun _ z => z) (fun b hb => .inl ((List.mem_append.mp hb).elim (fun z => List.mem_append_left _ z) fun z => List.mem_append_right _ (h13 b z))) fun z => nomatch z
              obtain ⟨fr15, s15⟩ := back s14 fr14
              obtain ⟨xs, hx, hxl, f8, fr16, s16⟩ := fr15.appD
              by_cases hacc : acc.length < LINE
              · rw [if_pos hacc] at h2
                refine ⟨xs, hx, by rw [hxl, ← LINE_le]; exact hacc, ?_⟩
                exact ⟨hlt, F6, _, fp7, f8, acc ++ [dy], (s6.trans s15).trans s16, sm2.trans s14.ff, fr16, fun i hi => wipeE_at hi, h2⟩
              · rw [if_neg hacc] at h2
                exact h2.elim
    · have hkn : k = iv.items.length := by omega
      subst hkn
      rw [List.drop_length] at h2
      unfold compD at h2
      refine .inl ⟨st, ?_⟩
      have fr7 := fr6.swap (σ2 := σ) (wipe_length σ vs).symm fun i => by
        by_cases hi : i ∈ vs
        · exact .inr (hno i hi)
        · exact .inl (wipe_get hi).symm
      obtain ⟨g2, fr8, hm⟩ := Fr.turn (vs := [.ref D0]) (us := tvs) (ds := [.lst true acc]) (es2 := tds) fr7 rfl
      obtain ⟨fp9, f9, fr9, hm9⟩ := fr8.unlend hl
      exact hP acc en2 h2 F2 H2 (.ref D0) fp9 f9 (s6.weak (fun _ z => z) (fun b hb => .inl ((hm b).mp (hm9 b hb))) fun z => nomatch z) fr9
theorem tb_yes : PTs X [] (TB G WF p (tVal fun e => .ok (.bl true) e)) := pts_nil.imp fun σ H Q h => by
  obtain ⟨F, en, fp, fr, h⟩ := h
  exact h F H fp (Step.refl.any fun _ => rfl) fr
end
end Dn
end L2
set_option Elab.async false
set_option linter.all false
set_option maxRecDepth 100000
set_option maxHeartbeats 1000000
/-! Comprehensions as statements; defs. -/
namespace L2
namespace Dn
open PySem PySem.Spec PyProof.Rows
section
variable {G : Gi} {W : WX} {X : Cx} {p q r : Bool} {fx : Nat → Prop} {L : List Nat} {σ σ' : St} {F H F' H' : Hp} {f fp fp' : List Addr} {e o a b c i tg it elt : Expr} {es ifs : List Expr} {body : List Stmt} {pos apos cpos : Pos}
theorem gname_read {i : Nat} {v : V} {Q : St → Hp → Prop} (hfx : ¬ fx i) (h : TGd G W fx (gName_ i) v σ H Q) : gName i v σ H Q := by
  obtain ⟨F, en, fp, f, vs, ds, d, fr, h⟩ := h
  show Q (σ.set i (some v)) H
  have h : ∀ F' H' σ' fp' f', Step false F H (f ++ fp) F' H' (f' ++ fp') → Fr G F' H' σ' (en.set i d) vs ds fp' f' → Agree fx σ σ' → Q σ' H' := h
  obtain ⟨re, rl, nd, nf, fh⟩ := fr
  cases rl with
  | @cons _ _ _ _ g1 g2 h1 rl =>
    by_cases hi : i < en.length
    · obtain ⟨o', g, rest, k1, k2, k3, k4⟩ := re.at hi
      obtain ⟨fp2, w1, w2⟩ := k4 F H (some v) d g1 (Same.refl F) (fun _ _ => rfl) (.some h1)
      have pm : ((g1 ++ g2) ++ fp).Perm ((g2 ++ fp2) ++ g) := pcount fun a => by
        have a1 := k3.count_eq a
        have a2 := w1.count_eq a
        simp only [List.count_append] at a1 a2 ⊢
        omega
      have hm : ∀ b ∈ g2 ++ fp2, b ∈ (g1 ++ g2) ++ fp := fun b hb => pm.mem_iff.mpr (List.mem_append_left _ hb)
      exact h F H _ fp2 g2 (Step.refl.weak (fun _ z => z) (fun b hb => .inl (hm b hb)) fun z => nomatch z) ⟨w2, rl, (List.nodup_append.mp (pm.nodup_iff.mp nd)).1, fun b hb => nf b (hm b hb), fh⟩ (Agree.set hfx)
    · have e1 : en.set i d = en := List.set_eq_of_length_le (by omega)
      have e2 : σ.set i (some v) = σ := List.set_eq_of_length_le (by rw [re.len]; omega)
      rw [e1] at h
      rw [e2]
      have pm : ((g1 ++ g2) ++ fp).Perm ((g2 ++ fp) ++ g1) := pcount fun a => by
        simp only [List.count_append]
        omega
      have hm : ∀ b ∈ g2 ++ fp, b ∈ (g1 ++ g2) ++ fp := fun b hb => pm.mem_iff.mpr (List.mem_append_left _ hb)
      exact h F H σ fp g2 (Step.refl.weak (fun _ z => z) (fun b hb => .inl (hm b hb)) fun z => nomatch z) ⟨re, rl, (List.nodup_append.mp (pm.nodup_iff.mp nd)).1, fun b hb => nf b (hm b hb), fh⟩ Agree.refl
theorem tv_weak {m : M D} {Q Q' : VK} (h : TV G W p m σ H Q) (k : ∀ v H1, Q v H1 → Q' v H1) : TV G W p m σ H Q' := by
  obtain ⟨F, en, fp, fr, h⟩ := h
  exact ⟨F, en, fp, fr, Aft.step h Step.refl fun d en1 _ h F1 H1 v fp1 f1 s1 fr1 => k v H1 (h F1 H1 v fp1 f1 s1 fr1)⟩
variable {own : List (Str × Nat)} {scope : Scope} {mi : M IV} {g : D → M Unit} {mt : M Bool} {mx : M D}
theorem tv_comp (hc : X.calm = true) (hN : X.N.Nodup) (hgx : ∀ d en x en1, g d en ≠ .exc x en1) (hi : PI X tg it (TId G W mi)) (ok : BlkOk X.N X.env.scope scope own)
    (hg : ∀ (s : Shared) (H : Hp) (C : Addr) (cl : List (Str × Addr)) (fp : List Addr), PG (X.blk s H scope (compEnvC scope cl C X.env) fp) tg (TGd G WF (fun i => i ∉ own.map (·.2)) g))
    (ht : ∀ (s : Shared) (H : Hp) (C : Addr) (cl : List (Str × Addr)) (fp : List Addr), PTs (X.blk s H scope (compEnvC scope cl C X.env) fp) ifs (TB G WF p mt))
    (he : ∀ (s : Shared) (H : Hp) (C : Addr) (cl : List (Str × Addr)) (fp : List Addr), PE (X.blk s H scope (compEnvC scope cl C X.env) fp) elt (TV G WF q mx)) (hs : ∀ x, foldedSetIterable it X.env x = pure x) :
    PE X (.ListComp elt [⟨tg, it, ifs, 0⟩] scope pos) (TV G W false (cComp mi g mt mx (own.map (·.2)))) :=
  (pe_lc hc hN hi ok hg ht he hs).imp fun σ H Q h => comp_read hgx h
theorem ts_setc {i : Nat} {y : Str} {py spos : Pos} (hc : X.calm = true) (hN : X.N.Nodup) (hy : X.N[i]? = some y) (hyl : X.env.scope.names.lookup y = some .local) (hfx : ¬ fx i)
    (hsw : swapsWith (.ListComp elt [⟨tg, it, ifs, 0⟩] scope pos) (some (.Name y py)) spos.line X.env = pure true) (hgx : ∀ d en x en1, g d en ≠ .exc x en1) (hi : PI X tg it (TId G W mi)) (ok : BlkOk X.N X.env.scope scope own)
    (hg : ∀ (s : Shared) (H : Hp) (C : Addr) (cl : List (Str × Addr)) (fp : List Addr), PG (X.blk s H scope (compEnvC scope cl C X.env) fp) tg (TGd G WF (fun i => i ∉ own.map (·.2)) g))
    (ht : ∀ (s : Shared) (H : Hp) (C : Addr) (cl : List (Str × Addr)) (fp : List Addr), PTs (X.blk s H scope (compEnvC scope cl C X.env) fp) ifs (TB G WF p mt))
    (he : ∀ (s : Shared) (H : Hp) (C : Addr) (cl : List (Str × Addr)) (fp : List Addr), PE (X.blk s H scope (compEnvC scope cl C X.env) fp) elt (TV G WF q mx)) (hs : ∀ x, foldedSetIterable it X.env x = pure x) :
    PS X (.Assign [.Name y py] (.ListComp elt [⟨tg, it, ifs, 0⟩] scope pos) spos) (TSd G W fx (sAsg (cComp mi g mt mx (own.map (·.2))) (gName_ i))) :=
  (ps_setLc hc hN hy hyl hsw hi ok hg ht he hs).imp fun E σ H h => by
    exact comp_read hgx (tv_weak (asg_read (p := false) h) fun v H1 k => gname_read hfx k)
/-! ### defs -/
theorem start_rep {N : List Str} : ∀ {vs : List V} {ds : List D} {fa : List Addr} (n : Nat), RepL G F H vs ds fa → RepE G F H (vs.map some ++ List.replicate n none) (ds ++ List.replicate n .no) fa
  | _, _, _, 0, .nil => .nil
  | _, _, _, n + 1, .nil => by
    have := start_rep (N := N) n (RepL.nil (G := G) (F := F) (H := H))
    exact RepE.cons (f := []) .none this
  | _, _, _, n, .cons h r => .cons (.some h) (start_rep (N := N) n r)
theorem start_get {N : List Str} {vs : List V} {j : Nat} {v : V} (h : vs[j]? = some v) : (start N vs)[j]? = some (some v) := by
  unfold start
  obtain ⟨hj, e⟩ := List.getElem?_eq_some_iff.mp h
  rw [List.getElem?_append_left (by rw [List.length_map]; exact hj), List.getElem?_map, h]
  rfl
theorem mask_ok {ks : List Nat} : ∀ {σ : St} {e : Env} {fp : List Addr} (vs : List V) (k : Nat), RepE G F H σ e fp → vs.length ≤ e.length → (∀ j v, vs[j]? = some v → k + j ∈ ks → σ[j]? = some (some v)) →
    ∃ g dr, RepL G F H vs (maskF ks k (e.take vs.length)) g ∧ fp.Perm (g ++ dr)
  | _, _, fp, [], k, _, _, _ => ⟨[], fp, .nil, .refl _⟩
  | _, _, _, v :: vs, k, .nil, hl, _ => by simp at hl
  | _, _, _, v :: vs, k, .cons (d := d) (e := e) (f := f1) (g := g1) h r, hl, hk => by
    obtain ⟨g, dr, r1, r2⟩ := mask_ok vs (k + 1) r (by simpa using hl) fun j w hj hm => hk (j + 1) w hj (by rw [show k + (j + 1) = k + 1 + j by omega]; exact hm)
    show ∃ g dr, RepL G F H (v :: vs) ((if k ∈ ks then d else .no) :: maskF ks (k + 1) (e.take vs.length)) g ∧ (f1 ++ g1).Perm (g ++ dr)
    by_cases hm : k ∈ ks
    · rw [if_pos hm]
      have := hk 0 v rfl hm
      cases h with
      | none => cases this
      | some h =>
        cases this
        refine ⟨f1 ++ g, dr, .cons h r1, ?_⟩
        rw [List.append_assoc]
        exact List.Perm.append_left f1 r2
    · rw [if_neg hm]
      refine ⟨[] ++ g, f1 ++ dr, .cons (.fz (.no v)) r1, pcount fun z => ?_⟩
      have := r2.count_eq z
      simp only [List.count_append, List.count_nil] at this ⊢
      omega
/-- the frame's slots, as the caller has them -/
theorem Fr.mask {ks : List Nat} {en : Env} {tvs vs : List V} {tds : List D} (fr : Fr G F H σ en tvs tds fp f) (hl : vs.length ≤ en.length) (hk : ∀ j v, vs[j]? = some v → j ∈ ks → σ[j]? = some (some v)) :
    ∃ g, Fr G F H [] [] (tvs ++ vs) (tds ++ maskF ks 0 (en.take vs.length)) [] g ∧ ∀ b ∈ g, b ∈ f ++ fp := by
  obtain ⟨re, rl, nd, nf, fh⟩ := fr
  obtain ⟨g, dr, r1, r2⟩ := mask_ok (ks := ks) vs 0 re hl fun j v h m => hk j v h (by simpa using m)
  have pm : (f ++ fp).Perm ((f ++ g) ++ dr) := pcount fun z => by
    have := r2.count_eq z
    simp only [List.count_append] at this ⊢
    omega
  have hm : ∀ b ∈ f ++ g, b ∈ f ++ fp := fun b hb => pm.mem_iff.mpr (List.mem_append_left _ hb)
  exact ⟨f ++ g, ⟨.nil, rl.append r1, by rw [List.append_nil]; exact (List.nodup_append.mp (pm.nodup_iff.mp nd)).1, fun b hb => nf b (hm b (by rwa [List.append_nil] at hb)), fh⟩, hm⟩
theorem body_read {N : List Str} {Pg : Prog} {n fi : Nat} {fn : Fn} {vs : List V} {Q : VK} {E : XK} (hfn : Pg.fn fi = some fn) (hns : fn.ns = N.length) (h : spDn G (denFn Pg (n + 1)) fi vs H Q E) (hvs : vs.length = fn.np) (hle : fn.np ≤ N.length) :
    TSd G (fun cls d _ H => E cls d H) (fun k => k ∈ fn.fx) (denSs Pg (denFn Pg n) fn.body) { nx := fun _ H' => Q .non H', rt := Q } (start N vs) H := by
  obtain ⟨F, ds, fa, fr, h⟩ := h
  obtain ⟨re, rl, nd, nf, fh⟩ := fr
  cases re
  rw [List.append_nil] at nd nf
  have hlen := rl.len
  have f0 : Fr0 G F H (start N vs) (ds ++ List.replicate (fn.ns - fn.np) .no) fa := by
    refine ⟨?_, .nil, nd, nf, fh⟩
    unfold start
    rw [hns, ← hvs]
    exact start_rep (N := N) _ rl
  refine ⟨F, _, fa, f0, ?_⟩
  unfold denFn at h
  rw [hfn] at h
  dsimp only at h
  rw [if_pos (by omega)] at h
  have key : ∀ {F' H' : Hp} {σ' : St} {e : Env} {tvs : List V} {tds : List D} {fp' f' : List Addr}, Fr G F' H' σ' e tvs tds fp' f' → Agree (fun k => k ∈ fn.fx) (start N vs) σ' →
      ∃ g, Fr G F' H' [] [] (tvs ++ vs) (tds ++ maskF fn.fx 0 (e.take fn.np)) [] g ∧ ∀ b ∈ g, b ∈ f' ++ fp' := fun {F' H' σ' e tvs tds fp' f'} fr ag => by
    rw [← hvs]
    refine fr.mask (ks := fn.fx) ?_ fun j v hj hm => ?_
    · rw [← fr.re.len, ag.1]
      unfold start
      rw [List.length_append, List.length_map]
      omega
    · rw [ag.2 j hm]
      exact start_get hj
  cases e1 : denSs Pg (denFn Pg n) fn.body (ds ++ List.replicate (fn.ns - fn.np) .no) with
  | nxt e =>
    rw [e1] at h
    refine fun F' H' σ' fp' s fr ag => ?_
    obtain ⟨g, k1, k2⟩ := key fr ag
    have k3 : Fr G F' H' [] [] (.non :: vs) (.non :: maskF fn.fx 0 (e.take fn.np)) [] g := ⟨k1.re, .cons (f := []) (.fz .non) k1.rl, k1.nd, k1.nf, k1.fh⟩
    exact h F' H' .non g (s.weak (fun _ z => z) (fun b hb => .inl (by simpa using k2 b hb)) id) k3
  | ret d e =>
    rw [e1] at h
    refine fun F' H' v σ' fp' f' s fr ag => ?_
    obtain ⟨g, k1, k2⟩ := key fr ag
    exact h F' H' v g (s.weak (fun _ z => z) (fun b hb => .inl (k2 b hb)) id) k1
  | exc x e =>
    rw [e1] at h
    refine fun F' H' σ' fp' cls dx s fr ag xr => ?_
    obtain ⟨g, k1, k2⟩ := key fr ag
    exact h F' H' g cls dx (s.weak (fun _ z => z) (fun b hb => .inl (by simpa using k2 b hb)) id) k1 xr
  | brk e => rw [e1] at h; exact h.elim
  | cnt e => rw [e1] at h; exact h.elim
  | stuck => rw [e1] at h; exact h
end
end Dn
end L2
set_option Elab.async false
set_option linter.all false
set_option maxRecDepth 100000
set_option maxHeartbeats 1000000
/-! Items as places. -/
namespace L2
namespace Dn
open PySem PySem.Spec PyProof.Rows
section
variable {G : Gi} {W : WX} {X : Cx} {p q r : Bool} {σ σ' : St} {F H F' H' : Hp} {f fp fp' : List Addr} {e o a b c i : Expr} {pos : Pos}
def rIxD : R2 := fun x y H Q => ∃ a w, x = .ref a ∧ DGet H a y (some w) ∧ Q w H
theorem ix_dct (hu : X.A.units + 200 < cLine) : IxR X rIxD := by
  intro value slice pins s σ H x y v u Q I rx ry h hs
  obtain ⟨a, w, rfl, g, q⟩ := h
  cases rx
  exact tail_any (dict_typeIs I g) slot_dict_getitem.lookup (d_getItem (by omega) I g ry fun w' s3 I3 rw' => ⟨w, H, I3, rw', q⟩) hs
abbrev RPl (K : PySem.W.Frag) : R2 := fun x y H Q => (rIxL K x y H Q ∨ rIxT K x y H Q) ∨ rIxD x y H Q
theorem ix_pl (hu : X.A.units + 200 < cLine) : IxR X (RPl X.K) := (ix_list.or ix_tup).or (ix_dct hu)
theorem rep_tupT {v : V} {ds : List D} (h : Rep G F H v (.tup true ds) f) : ∃ a vs g, v = .ref a ∧ H a = some (.tup vs) ∧ RepL G F H vs ds g ∧ f = a :: g := by
  cases h with
  | fz h => cases h
  | tup h r => exact ⟨_, _, _, rfl, h, r, rfl⟩
theorem tp_ix {mp : M (Nat × Path)} {ma : M D} (hK : X.K = G.K) (hu : X.A.units + 200 < cLine) (ho : PE X o (TP G W p mp)) (hi : PE X i (TV G W true ma)) (hp : PlainIx i) : PE X (.Subscript o i pos) (TP G W p (pIx mp ma)) := (pe_ix (ix_pl hu) ho hi hp).imp fun σ H Q h => by
  obtain ⟨F, en, fp, fr, h⟩ := h
  refine ⟨F, en, fp, fr, ?_⟩
  unfold pIx at h
  cases e1 : mp en with
  | exc x en1 => rw [e1] at h; exact h
  | stuck => rw [e1] at h; exact h
  | ok ip en1 =>
    obtain ⟨n, s⟩ := ip
    rw [e1] at h
    dsimp only at h
    refine fun F1 H1 x fp1 s1 sm1 fr1 ⟨v0, k1, k2⟩ => ⟨F1, en1, fp1, fr1, ?_⟩
    cases e2 : ma en1 with
    | exc y en2 => rw [e2] at h; exact Exc.step h s1
    | stuck => rw [e2] at h; exact h
    | ok kd en2 =>
      rw [e2] at h
      dsimp only at h
      refine fun F3 H3 w fp3 f3 s3 fr3 => ?_
      have k3 : pathV H3 v0 s = some x := pathV_mono (s3.pu rfl) k2
      have s13 : Step p F H fp F3 H3 fp3 := (s1.trans s3.slots).any fun z => by rw [z]; rfl
      have sm3 : Same H H3 := sm1.trans (s3.pu rfl)
      cases ow : (getD (en2.at n) s).own with
      | false => rw [ow] at h; exact h.elim
      | true =>
        rw [ow] at h
        cases e3 : stepOf (getD (en2.at n) s) kd with
        | none => rw [e3] at h; exact h.elim
        | some st =>
          rw [e3] at h
          dsimp only at h
          cases e4 : stepIx (getD (en2.at n) s) st with
          | none => rw [e4] at h; exact h.elim
          | some j =>
            rw [e4] at h
            dsimp only at h
            obtain ⟨v0', v', g, p1, p2, p3, _⟩ := fr3.place (i := n) (s := s) (by intro z; rw [z] at ow; cases ow)
            rw [k1] at p1
            cases p1
            rw [k3] at p2
            cases p2
            have fin : ∀ w0, pathV H3 x [st] = some w0 → Q w0 H3 := fun w0 hw => h F3 H3 w0 fp3 s13 sm3 fr3.drop ⟨v0, k1, by rw [pathV_app k3]; exact hw⟩
            have rw0 := fr3.one
            generalize hd : getD (en2.at n) s = dd at ow e3 e4 p3
            unfold stepOf at e3
            split at e3
            · rename_i oo ds m
              cases e3
              obtain rfl : oo = true := ow
              obtain ⟨a, xs, gg, rfl, hax, hr, _⟩ := rep_lstT p3
              obtain rfl := rep_int rw0
              obtain ⟨vj, _, _, z1, _⟩ := hr.at (getD_get (ixN_lt (show ixN ds.length m = some j from e4)))
              have e5 : ixN xs.length m = some j := by rw [hr.len]; exact e4
              exact .inl (.inl ⟨a, xs, m, vj, rfl, rfl, by rw [hK]; exact SqL.of hax, atI_of e5 z1, fin vj (by simp only [pathV, hax]; rw [e5]; simp only [Option.bind_some]; rw [z1]; rfl)⟩)
            · rename_i oo ds m
              cases e3
              obtain rfl : oo = true := ow
              obtain ⟨a, xs, gg, rfl, hax, hr, _⟩ := rep_tupT p3
              obtain rfl := rep_int rw0
              obtain ⟨vj, _, _, z1, _⟩ := hr.at (getD_get (ixN_lt (show ixN ds.length m = some j from e4)))
              have e5 : ixN xs.length m = some j := by rw [hr.len]; exact e4
              exact .inl (.inr ⟨a, xs, m, vj, rfl, rfl, by rw [hK]; exact SqT.of hax, atI_of e5 z1, fin vj (by simp only [pathV, hax]; rw [e5]; simp only [Option.bind_some]; rw [z1]; rfl)⟩)
            · rename_i oo t ks ds
              split at e3
              · rename_i kx hk
                split at e3
                · rename_i hf
                  cases e3
                  obtain ⟨hf', ht⟩ := Bool.and_eq_true_iff.mp hf
                  have ht : t = false := by simpa using ht
                  subst ht
                  obtain rfl : oo = true := ow
                  obtain ⟨a, kvs, gg, rfl, hax, rfl, hr, _⟩ := rep_dKT p3
                  obtain ⟨k', rfl, ey⟩ := key_flat hk hf' rw0
                  have e5 : keyIx (kvs.map fun q => KD.k q.1) (.k k') = some j := e4
                  have hj := keyIx_lt e5
                  rw [List.length_map] at hj
                  obtain ⟨kv, hkv⟩ : ∃ kv, kvs[j]? = some kv := ⟨_, List.getElem?_eq_getElem hj⟩
                  have hv : valV kvs k' = some kv.2 := by
                    rw [(keyIx_some KD.k kdk_inj kvs k').2 j e5, hkv]
                    rfl
                  have g : DGet H3 a w (some kv.2) := .inl ⟨kvs, k', .inl hax, ey, hv.symm⟩
                  exact .inr ⟨a, kv.2, rfl, g, fin kv.2 (by simp only [pathV, hax]; rw [e5]; simp only [Option.bind_some]; rw [hkv]; rfl)⟩
                · cases e3
              · cases e3
            · cases e3
theorem tv_frz {m : M D} (he : PE X e (TV G W p m)) : PE X e (TV G W p (cFrz m)) := he.imp fun σ H Q h => by
  obtain ⟨F, en, fp, fr, h⟩ := h
  refine ⟨F, en, fp, fr, ?_⟩
  unfold cFrz at h
  cases e1 : m en with
  | ok d en1 =>
    rw [e1] at h
    refine fun F1 H1 v fp1 f1 s1 fr1 => ?_
    obtain ⟨F2, s2, fr2, z⟩ := fr1.freezeL
    rw [show frzL [d] = [frz d] from rfl] at z
    cases z with
    | cons z _ => exact h F2 H1 v fp1 [] ((s1.trans s2).any fun z => by rw [z]; rfl) ⟨fr2.re, .cons (f := []) (g := []) (.fz z) .nil, fr2.nd, fr2.nf, fr2.fh⟩
  | exc x en1 => rw [e1] at h; exact h
  | stuck => rw [e1] at h; exact h
end
end Dn
end L2
set_option Elab.async false
set_option linter.all false
set_option maxRecDepth 100000
set_option maxHeartbeats 1000000
/-! x[i] by an own __getitem__. -/
namespace L2
namespace Dn
open PySem PySem.Spec PyProof.Rows
open PySem.W (Frag InstAt findIn fnIn isFn looks_findIn special_fn entry_sub)
theorem sub_own {prog : Program} {w : World} {A : Around} {E : Value → Shared → Prop} {s : Shared} {K : Frag} {x C g : Addr} {ox : Obj} {od : Option Obj} {va sl : Expr} {iv : Value} {Q : Value → Shared → Prop} (kin : K.In s.heap) (J : InstAt s.heap x ox C od)
    (hs : findIn K (.ref C) "__getitem__" = some (some (.ref g))) (hf : fnIn K g = true) (hfn : isFn K (.ref g) = true) (h : wpAny (model prog w) A.in1 (call (.ref g) [.ref x, iv]) Q E s)
    (hsl : subscripted sl true (.ref x) iv = runValue (.builtin "lifetime.subscript" ⟨[.ref x, iv], []⟩)) : wpAny (model prog w) A (subscriptTail va sl (.ref x) iv) Q E s := by
  unfold fnIn at hf
  split at hf
  case h_2 => cases hf
  rename_i hk
  unfold subscriptTail getitemInPython
  refine wpAny_bind (wpAny_bind (wpAny_bind (J.type.here ((looks_findIn kin hs).here ?_))))
  dsimp only
  refine wpAny_bind (wpAny_load (kin _ _ hk) (wpAny_pure ?_))
  dsimp only
  rw [hsl]
  refine wpAny_bind (wpAny_runValue (codeAny_builtin entry_sub ?_))
  unfold Builtin.«lifetime.subscript»
  refine wpAny_bind (special_fn kin J hs (beq_iff_eq.mp hfn) (wpAny_mono h (fun r s2 z => wpAny_pure ?_) fun _ _ z => z))
  show wpAny (model prog w) A (letTemporaryGo va (.ref x) r >>= fun _ => pure r) Q E s2
  exact wpAny_bind (wpAny_letTemporaryGo (wpAny_pure z))
section
variable {G : Gi} {W : WX} {X : Cx} {p q r : Bool} {σ σ' : St} {F H F' H' : Hp} {f fp fp' : List Addr} {e o a b c i : Expr} {pos : Pos}
/-- a call below a builtin's own frame -/
theorem run_in1 {k : Nat} {g : Addr} {fd : FuncData} {ps : List Str} {sp : Sp} {us : List Value} {vs : List V} {Q : VK} {pins : List (Addr × Obj)} {s : Shared} (Fk : FnOk X.prog X.w X.K X.mg X.base (L2.CX X.prog X.w) k g fd ps sp) (hr : Room (k + 1) X.A) (hb : Binds X.K fd ps []) (tk : Takes X W)
    (I : Inv X pins σ H s) (rv : Vals vs us) (h : sp vs H Q (WE W σ)) : wpAny (model X.prog X.w) X.A.in1 (call (.ref g) us) (EP X pins σ Q) X.xe s := by
  have hl : us.length = ps.length := by rw [← rv.length]; exact Fk.len _ _ _ _ h
  have hb' := hb s us I.kIn (by rw [List.append_nil]; exact hl)
  rw [List.append_nil] at hb'
  refine wpAny_call (codeAny_mono (Fk.run X.A.in1 X.stack s H ⟨us, []⟩ us vs Q (WE W σ) hr.in1 I.env0.in1 hb' rv h) fun r s' hq => ?_)
  cases r with
  | error er => exact passAt tk σ pins H s er s' I hq
  | ok fl =>
    cases fl with
    | ret u => exact I.after hq
    | next => exact False.elim hq
    | brk => exact False.elim hq
    | cont => exact False.elim hq
def tGI (C : Addr) (sp : Sp) (W : WX) (to ti : TE) : TE := fun σ H Q => to σ H fun x H1 => ti σ H1 fun y H2 => ∃ a dx fs, x = .ref a ∧ H2 a = some (.ins C dx fs) ∧ sp [x, y] H2 Q (WE W σ)
theorem pe_gi {k : Nat} {C : Addr} {sp : Sp} {to ti : TE} (ho : PE X o to) (hi : PE X i ti) (c : MethOk X k C "__getitem__" sp) (hf : ∀ g, findIn X.K (.ref C) "__getitem__" = some (some (.ref g)) → fnIn X.K g = true) (tk : Takes X W) (hr : Room (k + 1) X.A)
    (hsl : ∀ x y, subscripted i true x y = runValue (.builtin "lifetime.subscript" ⟨[x, y], []⟩)) : PE X (.Subscript o i pos) (tGI C sp W to ti) := by
  obtain ⟨g, fd, ps, Fk, hm, b⟩ := c.ex
  refine ⟨fun pins s σ H Q I h => ?_⟩
  refine Subscript_ (thn (ho.run pins s σ H _ I h) fun u s1 ⟨x, H1, I1, rx, q1⟩ => thn (hi.run pins s1 σ H1 _ I1 q1) fun u2 s2 ⟨y, H2, I2, ry, a, dx, fs, ex, ea, q2⟩ => ?_)
  subst ex
  obtain rfl : u = Value.ref a := rx
  obtain ⟨mA, O, _⟩ := ins_get I2.hok ea
  obtain ⟨od, J, _⟩ := O.look
  exact sub_own I2.kIn J hm.at_ (hf g hm.at_) hm.fn (run_in1 (vs := [V.ref a, y]) Fk hr b tk I2 (.cons rfl (.cons ry .nil)) q2) (hsl _ _)
theorem to_same {m : M OV} {Q : VK} (h : TO G W true m σ H Q) : TO G W true m σ H fun v H' => Same H H' ∧ Q v H' := by
  obtain ⟨F, en, fp, fr, h⟩ := h
  exact ⟨F, en, fp, fr, Aft.step h Step.refl fun d en1 _ h F1 H1 v tvs tds fp1 f1 s1 fr1 ov => ⟨s1.pu rfl, h F1 H1 v tvs tds fp1 f1 s1 fr1 ov⟩⟩
theorem to_weak {m : M OV} {Q Q' : VK} (h : TO G W p m σ H Q) (k : ∀ v H1, Q v H1 → Q' v H1) : TO G W p m σ H Q' := by
  obtain ⟨F, en, fp, fr, h⟩ := h
  exact ⟨F, en, fp, fr, Aft.step h Step.refl fun d en1 _ h F1 H1 v tvs tds fp1 f1 s1 fr1 ov => k v H1 (h F1 H1 v tvs tds fp1 f1 s1 fr1 ov)⟩
theorem tv_gi {P : Prog} {call : Call} {fn c k : Nat} {mo mi : M OV} (hK : X.K = G.K) (ho : PE X o (TO G W p mo)) (hi : PE X i (TO G W true mi)) (mk : MethOk X k (G.cls c) "__getitem__" (spDn G call fn)) (hf : ∀ g, findIn X.K (.ref (G.cls c)) "__getitem__" = some (some (.ref g)) → fnIn X.K g = true) (tk : Takes X W) (hr : Room (k + 1) X.A)
    (hsl : ∀ x y, subscripted i true x y = runValue (.builtin "lifetime.subscript" ⟨[x, y], []⟩)) : PE X (.Subscript o i pos) (TV G W false (cCall P call fn (lCons (oChk c mo) (lCons mi lNil)))) :=
  (pe_gi ho hi mk hf tk hr hsl).imp fun σ H Q h => by
    have h1 := tos_cons_r (p := p) (q := true) (.inl rfl) (call_read (p := p && true) h)
    have h2 := chk_read hK h1
    refine to_weak h2 fun x H1 ⟨⟨a, dx, fs, e1, e2, _⟩, h3⟩ => ?_
    have h4 := tos_cons_r (p := true) (q := true) (.inl rfl) h3
    refine to_weak (to_same h4) fun y H2 ⟨sm, h5⟩ => ⟨a, dx, fs, e1, sm _ _ e2, tos_nil_r h5⟩
/-- a function as a value -/
structure FunV (G : Gi) (X : Cx) (f k : Nat) (sp : Sp) : Prop where
  ex : ∃ (g : Addr) (fd : FuncData) (ps : List Str), FnOk X.prog X.w X.K X.mg X.base (L2.CX X.prog X.w) k g fd ps sp ∧ G.gv (1000 + f) = .ref g ∧ PySem.W.keepIn X.K (.ref g) = true ∧ Binds X.K fd ps []
theorem tv_callv {P : Prog} {call : Call} {fs : List Nat} {n : Nat} {x : Str} {pn : Pos} {es : List Expr} {ms : M (List OV)} (hv : PE X (.Name x pn) (tVar n)) (fv : ∀ f ∈ fs, ∃ k, FunV G X f k (spDn G call f) ∧ Room k X.A) (tk : Takes X W) (ha : PA X (e :: es) (TOs G W p ms))
    (he : starEach (e :: es) X.env = (false, eval e X.env) :: starEach es X.env) (hpl : (backTo pos (starEach es X.env)).any (·.1) = false) : PE X (.Call (.Name x pn) (e :: es) [] pos) (TV G W false (cCallv P call fs n ms)) := by
  refine ⟨fun pins s σ H Q I h => ?_⟩
  obtain ⟨F, en, fp, fr, h⟩ := h
  unfold cCallv at h
  cases hd : en.at n <;> rw [hd] at h <;> first | exact h.elim | skip
  rename_i g
  dsimp only at h
  by_cases hg : 1000 ≤ g ∧ g - 1000 ∈ fs
  · rw [if_pos hg] at h
    obtain ⟨k, fv, hr⟩ := fv _ hg.2
    obtain ⟨ga, fd, ps, Fk, e1, hk, b⟩ := fv.ex
    rw [show 1000 + (g - 1000) = g by omega] at e1
    obtain ⟨v, fpv, hσ, rp, _⟩ := fr.at (i := n) (by rw [hd]; exact fun z => nomatch z)
    rw [hd] at rp
    have ev := rep_gl rp
    rw [e1] at ev
    subst ev
    have rd := call_read (p := p) (⟨F, en, fp, fr, h⟩ : TV G W false (cCall P call (g - 1000) ms) σ H Q)
    refine wpAny_Call_Name_kw (thn (hv.run pins s σ H (fun v H1 => v = .ref ga ∧ H1 = H) I ⟨_, hσ, rfl, rfl⟩) fun u s1 ⟨y, H1, I1, r1, ey, eH⟩ => ?_)
    subst ey eH
    obtain rfl : u = Value.ref ga := r1
    refine PySem.W.callWith_K (h₀ := X.base) I1.ok.mod.kin hk (thn (ha.run pos pins s1 σ _ _ I1 rd) fun us s2 ⟨vs, H2, I2, r, q⟩ => ⟨I2.kIn, ?_⟩) he hpl
    exact run_fnSD (E := fun σ => WE W σ) Fk hr b .nil (passAt tk σ) I2 r (by rw [List.append_nil]; exact q)
  · rw [if_neg hg] at h
    exact h.elim
end
end Dn
end L2
set_option Elab.async false
set_option linter.all false
set_option maxRecDepth 100000
set_option maxHeartbeats 1000000
/-! The program's text against the small language: what is compared, and what is known of a context. -/
namespace L2
namespace Dn
open PySem PySem.Spec PyProof.Rows
structure SC where
  N : List Str
  sc : Scope
  fns : List (Str × Nat)
  cls : List (Str × Nat)
  mes : List ((Nat × Str) × Nat)
  exs : List (Str × Nat)
  gls : List (Str × Nat)
  tys : List (Str × Nat)
  fnm : List (Nat × List Str)
  blt : List Str
  /-- functions that stand as values -/
  fva : List Nat
  /-- may a name that is a cell be stored to -/
  cok : Bool
  /-- classes of clauses -/
  exh : List (Str × Nat) := []
  /-- the field of an exception's class -/
  exf : List (Nat × Str) := []
def notDbg (x : Str) : Bool := !(x == ("__debug__" : Str)) && !(x == ("__classdict__" : Str))
def isVis : Option NameKind → Bool | some .local => true | some .cell => true | some .free => true | _ => false
def isLoc (c : Bool) : Option NameKind → Bool | some .local => true | some .cell => c | _ => false
def isGl : Option NameKind → Bool | some .globalImplicit => true | _ => false
def SC.vis (S : SC) (i : Nat) (x : Str) : Bool := decide (S.N[i]? = some x) && isVis (S.sc.names.lookup x) && notDbg x
def SC.loc (S : SC) (i : Nat) (x : Str) : Bool := decide (S.N[i]? = some x) && isLoc S.cok (S.sc.names.lookup x)
def SC.gl (S : SC) (x : Str) : Bool := isGl (S.sc.names.lookup x) && notDbg x
def SC.bl (S : SC) (x : Str) : Bool := S.gl x && S.blt.contains x && !(x == ("__name__" : Str))
theorem isVis_vis {sc : Scope} {x : Str} (h : isVis (sc.names.lookup x) = true) : Vis sc x := by
  unfold Vis
  cases e : sc.names.lookup x with
  | none => rw [e] at h; cases h
  | some k =>
    rw [e] at h
    cases k <;> first | exact absurd h Bool.false_ne_true | simp
theorem isLoc_loc {c : Bool} {sc : Scope} {x : Str} (h : isLoc c (sc.names.lookup x) = true) : sc.names.lookup x = some .local ∨ (sc.names.lookup x = some .cell ∧ c = true) := by
  cases e : sc.names.lookup x with
  | none => rw [e] at h; cases h
  | some k =>
    rw [e] at h
    cases k <;> first | exact absurd h Bool.false_ne_true | exact .inl rfl | exact .inr ⟨rfl, h⟩
/-! ### forms of expressions -/
def plainE : Expr → Bool | .Starred _ _ => false | _ => true
def plainEs (es : List Expr) : Bool := es.all plainE
theorem star_cons {env : PySem.Env} {e : Expr} {es : List Expr} (h : plainE e = true) : starEach (e :: es) env = (false, eval e env) :: starEach es env := by
  cases e <;> first | rfl | cases h
theorem star_no {env : PySem.Env} {pos : Pos} : ∀ {es : List Expr}, plainEs es = true → (backTo pos (starEach es env)).any (·.1) = false ∧ (backTo pos (starEach es env)).all (fun x => !x.1) = true
  | [], _ => ⟨rfl, rfl⟩
  | e :: es, h => by
    unfold plainEs at h
    rw [List.all_cons, Bool.and_eq_true] at h
    obtain ⟨a, b⟩ := star_no (env := env) (pos := pos) (es := es) h.2
    rw [star_cons h.1]
    unfold backTo at a b ⊢
    simp only [List.map_cons, List.any_cons, List.all_cons, a, b]
    exact ⟨rfl, rfl⟩
def notCall : Expr → Bool | .Call .. => false | _ => true
theorem base_of {env : PySem.Env} {o : Expr} {n : Str} (h : notCall o = true) : attributeBase o n env (eval o env) = eval o env := by
  cases o <;> first | rfl | cases h
def plainT : Expr → Bool | .UnaryOp .Not _ _ => false | .BoolOp .. => false | .IfExp .. => false | .Compare .. => false | _ => true
theorem tru_of {env : PySem.Env} {e : Expr} (h : plainT e = true) (whole : Sem Value) : isTrue e env whole = (do let v ← whole; standAt e.pos; holding [v] (truthy v)) := by
  cases e <;> first | rfl | (cases h; done) | skip
  rename_i op x p
  cases op <;> first | rfl | cases h
def notSlice : Expr → Bool | .Slice .. => false | _ => true
theorem ix_of {e : Expr} (h : notSlice e = true) : PlainIx e := by
  intro o i
  cases e <;> first | rfl | cases h
theorem own_of {i : Expr} (h : notSlice i = true) (x y : Value) : subscripted i true x y = runValue (.builtin "lifetime.subscript" ⟨[x, y], []⟩) := by
  cases i <;> first | (with_unfolding_all rfl) | cases h
theorem sub_of {env : PySem.Env} {o i : Expr} {pos : Pos} (h : notSlice i = true) (v : Value) : assign (.Subscript o i pos) env v = (do
      let ov ← holding [v] (eval o env)
      let iv ← holding [v, ov] (eval i env)
      standAt pos
      holding [v, ov, iv] (setItem ov iv v)
      release [v, ov, iv] []) := by
  cases i <;> first | rfl | cases h
def notComp : Expr → Bool | .ListComp .. => false | .SetComp .. => false | .DictComp .. => false | _ => true
theorem swap_of {env : PySem.Env} {e : Expr} {t : Option Expr} {l : Nat} (h : notComp e = true) : swapsWith e t l env = pure false := by
  cases e <;> first | rfl | cases h
theorem sole_of {env : PySem.Env} {e t : Expr} {l : Nat} (h : notComp e = true) : swapsWithSole [t] e l env = pure false := swap_of h
def notTup : Expr → Bool | .Tuple .. => false | .List .. => false | _ => true
theorem stores_of {env : PySem.Env} {e t : Expr} (h : (notTup t || notTup e) = true) : swappedStores [t] e env = pure none := by
  cases t <;> cases e <;> first | rfl | cases h
theorem each_of {env : PySem.Env} {t : Expr} (h : plainE t = true) : (assignEach [t] env).map (·.2) = [assign t env] := by
  cases t <;> first | rfl | cases h
theorem each_cons {env : PySem.Env} {t : Expr} {ts : List Expr} (h : plainE t = true) : (assignEach (t :: ts) env).map (·.2) = assign t env :: (assignEach ts env).map (·.2) ∧ assignEach (t :: ts) env = (false, assign t env) :: assignEach ts env := by
  cases t <;> first | exact ⟨rfl, rfl⟩ | cases h
theorem each_no {env : PySem.Env} : ∀ {ts : List Expr}, plainEs ts = true → (assignEach ts env).length = ts.length ∧ (assignEach ts env).findIdx? (·.1) = none
  | [], _ => ⟨rfl, rfl⟩
  | t :: ts, h => by
    unfold plainEs at h
    rw [List.all_cons, Bool.and_eq_true] at h
    obtain ⟨a, b⟩ := each_no (env := env) (ts := ts) h.2
    rw [(each_cons h.1).2]
    refine ⟨by rw [List.length_cons, List.length_cons, a], ?_⟩
    rw [List.findIdx?_cons, b]
    rfl
def notSet : Expr → Bool | .Set .. => false | _ => true
theorem fold_of {env : PySem.Env} {e : Expr} (h : notSet e = true) (x : Value) : foldedSetIterable e env x = pure x := by
  cases e <;> first | rfl | cases h
theorem marks_of {op : CmpOp} {e : Expr} (h : notSet e = true) : behindInMarks op e = false := by
  cases e <;> first | rfl | cases h
/-! ### contexts -/
structure ExD (G : Gi) (Pg : Prog) (X : Cx) (x : Str) (c : Nat) : Prop where
  ex : ∃ (k : Nat) (fI : Addr) (fd : FuncData) (ps : List Str) (fn : Str), Fc.ArC X.K (G.cls c) fI fn ∧ G.fnm c = [fn] ∧ FnOk X.prog X.w X.K X.mg X.base (L2.CX X.prog X.w) k fI fd ps (Fc.spExc (G.cls c) fn) ∧ Room (k + 1) X.A ∧ Binds X.K fd ps [] ∧ X.mg x = some (.ref (G.cls c))
/-- what is known of a context -/
structure Ctx (G : Gi) (Pg : Prog) (call : Call) (S : SC) (X : Cx) : Prop where
  hK : X.K = G.K
  calm : X.calm = true
  gok : GOk G X.w
  hu : X.A.units + 200 < cLine
  N : X.N = S.N
  nd : X.N.Nodup
  sc : X.env.scope = S.sc
  kind : S.sc.kind = .function
  fnl : S.cok = true → ∀ x, X.fn x = true
  fns : ∀ x f, S.fns.lookup x = some f → ∃ k, Callee X k x (spDn G call f) ∧ Room k X.A
  fva : ∀ f ∈ S.fva, ∃ k, FunV G X f k (spDn G call f) ∧ Room k X.A
  cls : ∀ x c, S.cls.lookup x = some c → ∃ k, MakeOk X k (G.cls c) x (spDn G call (Pg.init c)) ∧ PySem.W.keepIn X.K (.ref (G.cls c)) = true ∧ Room (k + 1) X.A
  mes : ∀ c m f, S.mes.lookup (c, m) = some f → ∃ k, MethOk X k (G.cls c) m (spDn G call f) ∧ Room (k + 1) X.A ∧ m ∉ G.fnm c
  fnm : ∀ c ns, S.fnm.lookup c = some ns → ClsOk G c ∧ G.fnm c = ns
  gi : ∀ c f, S.mes.lookup (c, ("__getitem__" : Str)) = some f → ∀ g, PySem.W.findIn X.K (.ref (G.cls c)) "__getitem__" = some (some (.ref g)) → PySem.W.fnIn X.K g = true
  exf : ∀ c f, S.exf.lookup c = some f → G.fnm c = [f]
  exs : ∀ x c, S.exs.lookup x = some c → ExD G Pg X x c
  gls : ∀ x g, S.gls.lookup x = some g → ∃ v u, X.mg x = some u ∧ RelV v u ∧ ∀ F, Fz G F v (Pg.gd g)
  tys : ∀ x g, S.tys.lookup x = some g → ∃ v u, X.mg x = none ∧ bootBuiltins x = some u ∧ RelV v u ∧ ∀ F, Fz G F v (Pg.gd g)
  blt : ∀ x ∈ S.blt, X.mg x = none
  stk : S.cok = true → X.stack = X.env :: X.outer ∧ X.env.frame = some X.env.locals
  exh : ∀ x c, S.exh.lookup x = some c → X.mg x = some (.ref (G.cls c)) ∧ ∀ d b, Pg.sub d c = some b → PySem.W.exmOne X.K (.ref (G.cls d)) (.ref (G.cls c)) = some b
/-- the scope of a comprehension's block -/
def relS (scope sc : Scope) : Scope := { scope with names := scope.names.map fun (n, k) => if (k == .free && sc.kind == .function && sc.names.lookup n == some .cell) then (n, .cell) else (n, k) }
def SC.blk (S : SC) (scope : Scope) : SC := { S with sc := relS scope S.sc, cok := false }
theorem Ctx.blk {G : Gi} {Pg : Prog} {call : Call} {S : SC} {X : Cx} (c : Ctx G Pg call S X) {scope : Scope} (hk : scope.kind = .function) (s : Shared) (H : Hp) (C : Addr) (cl : List (Str × Addr)) (fp : List Addr) : Ctx G Pg call (S.blk scope) (X.blk s H scope (compEnvC scope cl C X.env) fp) where
  hK := c.hK
  calm := c.calm
  gok := c.gok
  hu := c.hu
  N := c.N
  nd := c.nd
  sc := by
    show relS scope X.env.scope = relS scope S.sc
    rw [c.sc]
  kind := hk
  fnl := fun z => nomatch z
  fns := fun x f h => let ⟨k, a, b⟩ := c.fns x f h; ⟨k, ⟨a.ex⟩, b⟩
  fva := fun f h => let ⟨k, a, b⟩ := c.fva f h; ⟨k, ⟨a.ex⟩, b⟩
  cls := fun x f h => let ⟨k, a, b⟩ := c.cls x f h; ⟨k, ⟨a.ex⟩, b⟩
  mes := fun x m f h => let ⟨k, a, b⟩ := c.mes x m f h; ⟨k, ⟨a.ex⟩, b⟩
  fnm := c.fnm
  gi := c.gi
  exf := c.exf
  exs := fun x f h => ⟨(c.exs x f h).ex⟩
  gls := c.gls
  tys := c.tys
  blt := c.blt
  stk := fun z => nomatch z
  exh := c.exh
theorem Ctx.tr {G : Gi} {Pg : Prog} {call : Call} {S : SC} {X : Cx} (c : Ctx G Pg call S X) (pn : List (Addr × Obj)) (xe : Value → Shared → Prop) : Ctx G Pg call S (X.tr pn xe) where
  hK := c.hK
  calm := c.calm
  gok := c.gok
  hu := c.hu
  N := c.N
  nd := c.nd
  sc := c.sc
  kind := c.kind
  fnl := c.fnl
  fns := fun x f h => let ⟨k, a, b⟩ := c.fns x f h; ⟨k, ⟨a.ex⟩, b⟩
  fva := fun f h => let ⟨k, a, b⟩ := c.fva f h; ⟨k, ⟨a.ex⟩, b⟩
  cls := fun x f h => let ⟨k, a, b⟩ := c.cls x f h; ⟨k, ⟨a.ex⟩, b⟩
  mes := fun x m f h => let ⟨k, a, b⟩ := c.mes x m f h; ⟨k, ⟨a.ex⟩, b⟩
  fnm := c.fnm
  gi := c.gi
  exf := c.exf
  exs := fun x cl h => ⟨(c.exs x cl h).ex⟩
  gls := c.gls
  tys := c.tys
  blt := c.blt
  stk := c.stk
  exh := c.exh
section
variable {G : Gi} {Pg : Prog} {call : Call} {S : SC} {W : WX} {X : Cx} {p q r : Bool} {i : Nat} {x : Str} {pos : Pos} {e : Expr}
theorem Ctx.var (c : Ctx G Pg call S X) (h : S.vis i x = true) : PE X (.Name x pos) (tVar i) := by
  unfold SC.vis notDbg at h
  simp only [Bool.and_eq_true, decide_eq_true_eq, Bool.not_eq_true'] at h
  exact pe_var (by rw [c.N]; exact h.1.1) (by rw [c.sc]; exact isVis_vis h.1.2) h.2.1 h.2.2
theorem Ctx.gl (c : Ctx G Pg call S X) (h : S.gl x = true) : Gl X x ∧ (x == ("__debug__" : Str)) = false := by
  unfold SC.gl notDbg at h
  simp only [Bool.and_eq_true, Bool.not_eq_true'] at h
  refine ⟨?_, h.2.1⟩
  show X.env.scope.names.lookup x = some .globalImplicit
  rw [c.sc]
  cases e : S.sc.names.lookup x with
  | none => rw [e] at h; exact absurd h.1 Bool.false_ne_true
  | some k => rw [e] at h; cases k <;> first | rfl | exact absurd h.1 Bool.false_ne_true
theorem Ctx.bl (c : Ctx G Pg call S X) (h : S.bl x = true) : Gl X x ∧ (x == ("__debug__" : Str)) = false ∧ X.mg x = none ∧ x ≠ "__name__" := by
  unfold SC.bl at h
  simp only [Bool.and_eq_true, Bool.not_eq_true'] at h
  obtain ⟨a, b⟩ := c.gl h.1.1
  exact ⟨a, b, c.blt x (List.contains_iff_mem.mp h.1.2), by have := h.2; intro z; rw [z] at this; simp at this⟩
theorem Ctx.loc (c : Ctx G Pg call S X) (h : S.loc i x = true) : X.N[i]? = some x ∧ Loc X.env.scope x ∧ (X.fn x = true ∨ X.env.scope.names.lookup x = some .local) := by
  unfold SC.loc at h
  simp only [Bool.and_eq_true, decide_eq_true_eq] at h
  have l := isLoc_loc h.2
  rw [← c.sc] at l
  exact ⟨by rw [c.N]; exact h.1, l.imp id (·.1), l.elim .inr fun z => .inl (c.fnl z.2 x)⟩
theorem Ctx.gv (c : Ctx G Pg call S X) {g : Nat} (h : S.gl x = true) (hg : S.gls.lookup x = some g) : PE X (.Name x pos) (TV G W true fun en => .ok (Pg.gd g) en) := by
  obtain ⟨a, b⟩ := c.gl h
  obtain ⟨v, u, h1, h2, h3⟩ := c.gls x g hg
  exact tv_c (pe_glob a h1 h2 b) h3
theorem Ctx.ty (c : Ctx G Pg call S X) {g : Nat} (h : S.bl x = true) (hg : S.tys.lookup x = some g) : PE X (.Name x pos) (TV G W true fun en => .ok (Pg.gd g) en) := by
  obtain ⟨a, b, _, d⟩ := c.bl h
  obtain ⟨v, u, h1, h2, h3, h4⟩ := c.tys x g hg
  exact tv_c (pe_bltn a h1 h2 h3 d b) h4
theorem TVw {m : M D} (h : q = true → p = true) (k : PE X e (TV G W p m)) : PE X e (TV G W q m) := k.imp fun σ H Q z => by
  obtain ⟨F, en, fp, fr, z⟩ := z
  exact ⟨F, en, fp, fr, Aft.step z Step.refl fun d en1 _ z F1 H1 v fp1 f1 s1 fr1 => z F1 H1 v fp1 f1 (s1.any h) fr1⟩
theorem TPw {m : M (Nat × Path)} (h : q = true → p = true) (k : PE X e (TP G W p m)) : PE X e (TP G W q m) := k.imp fun σ H Q z => by
  obtain ⟨F, en, fp, fr, z⟩ := z
  exact ⟨F, en, fp, fr, Aft.step z Step.refl fun d en1 _ z F1 H1 v fp1 s1 => z F1 H1 v fp1 (s1.any h)⟩
theorem TBw {m : M Bool} (h : q = true → p = true) (k : PT X e (TB G W p m)) : PT X e (TB G W q m) := k.imp fun σ H Q z => by
  obtain ⟨F, en, fp, fr, z⟩ := z
  exact ⟨F, en, fp, fr, Aft.step z Step.refl fun d en1 _ z F1 H1 fp1 s1 => z F1 H1 fp1 (s1.any h)⟩
end
end Dn
end L2
set_option Elab.async false
set_option linter.all false
set_option maxRecDepth 100000
set_option maxHeartbeats 2000000
/-! The program's text against the small language: expressions. -/
namespace L2
namespace Dn
open PySem PySem.Spec PyProof.Rows
inductive Md where
  | v | t | i
  deriving DecidableEq
def isPl : Ex → Bool | .ref _ => true | .fld _ _ _ => true | .ix _ _ => true | _ => false
def isRef : Ex → Bool | .ref _ => true | _ => false
/-- an operand that nothing moves: a name, or no place at all -/
def stB (e : Ex) : Bool := isRef e || !isPl e
mutual
def pur : Ex → Bool
  | .lit _ => true | .gl _ => true | .ref _ => true | .fld p _ _ => pur p | .ix p _ => pur p | .rd p => pur p | .mov _ => true | .fldv a _ _ => pur a | .frz a => pur a
  | .tup es => purs es | .lst es => purs es | .dct _ _ _ => true | .bop _ es => purs es | .sl _ _ a l h => pur a && (pur l && pur h)
  | .ife t a b => pur t && (pur a && pur b) | .and a b => pur a && pur b | .or a b => pur a && pur b | .not a => pur a | .chain _ _ a b c => pur a && (pur b && pur c)
  | .tru a => pur a | _ => false
def purs : Exs → Bool
  | .nil => true | .cons e es => pur e && purs es
end
def litOk : D → Const → Bool
  | .non, .none => true
  | .bl b, .bool c => b == c
  | .int i, .int j => decide (i = j)
  | .str x, .str y => decide (x = y)
  | _, _ => false
def SC.fd (S : SC) (c j : Nat) (n : Str) : Bool := match S.fnm.lookup c with
  | some ns => decide (ns[j]? = some n)
  | none => false
def modeOk (k : Md) (e : Expr) : Bool := match k with | .t => plainT e | _ => true
/-- a built-in name that is called: its operation -/
def cbOp : Str → Option B := fun x => if x = "len" then some .len else if x = "isinstance" then some .isi else if x = "all" then some .all1 else if x = "sum" then some .sum1 else none
def ctOp : Str → Option B := fun x => if x = "int" then some .int1 else if x = "list" then some .list1 else if x = "tuple" then some .tuple1 else if x = "dict" then some .dict1 else none
mutual
/-- targets of names alone, their slots among vs -/
def mN (S : SC) (vs : List Nat) : Tg → Expr → Bool
  | .nm i => fun e => match e with | .Name x _ => S.loc i x && vs.contains i | _ => false
  | .tp ts => fun e => match e with | .Tuple es _ _ => plainEs es && decide (es.length = ts.len) && mNs S vs ts es | _ => false
  | .fld _ _ _ => fun _ => false
  | .ix _ _ => fun _ => false
def mNs (S : SC) (vs : List Nat) : Tgs → List Expr → Bool
  | .nil => fun es => es.isEmpty
  | .cons t ts => fun es => match es with | y :: ys => plainE y && mN S vs t y && mNs S vs ts ys | [] => false
end
def isAnd : Ex → Bool | .and _ _ => true | _ => false
def isOr : Ex → Bool | .or _ _ => true | _ => false
def isYes : Ex → Bool | .lit (.bl true) => true | _ => false
def isTupE : Expr → Bool | .Tuple .. => true | _ => false
def ownOf (S : SC) (vs : List Nat) : List (Str × Nat) := vs.map fun i => (S.N.getD i "", i)
def isEn : Ex → Bool | .itE _ => true | _ => false
mutual
def mE (S : SC) : Ex → Md → Expr → Bool
  | .lit d => fun k e => modeOk k e && match e with | .Constant c _ _ => litOk d c | _ => false
  | .gl g => fun k e => modeOk k e && match e with
    | .Name x _ => (S.gl x && decide (S.gls.lookup x = some g)) || (S.bl x && decide (S.tys.lookup x = some g))
    | _ => false
  | .ref i => fun k e => k != .t && match e with | .Name x _ => S.vis i x | _ => false
  | .fld p c j => fun k e => k != .t && isPl p && match e with | .Attribute o n _ => mE S p .v o && notCall o && S.fd c j n | _ => false
  | .ix p a => fun k e => k != .t && isPl p && !isPl a && pur a && match e with | .Subscript o i _ => mE S p .v o && mE S a .v i && notSlice i | _ => false
  | .rd p => fun k e => modeOk k e && isPl p && mE S p .v e
  | .mov i => fun k e => modeOk k e && match e with | .Name x _ => S.vis i x | _ => false
  | .fldv a c j => fun k e => modeOk k e && !isPl a && match e with | .Attribute o n _ => mE S a .v o && notCall o && S.fd c j n | _ => false
  | .frz a => fun k e => modeOk k e && !isPl a && mE S a .v e
  | .tup es => fun k e => modeOk k e && match e with | .Tuple xs _ _ => mVs S es xs | _ => false
  | .lst es => fun k e => modeOk k e && match e with | .List xs _ => mVs S es xs | _ => false
  | .dct _ ks vs => fun k e => modeOk k e && match ks, vs, e with | .nil, .nil, .Dict [] [] _ => true | _, _, _ => false
  | .bop b es => fun k e => mB S b es k e
  | .sl bl bh a l h => fun k e => modeOk k e && !isPl l && !isPl h && (stB a || (pur l && pur h)) && match e with
    | .Subscript o (.Slice lo hi none _) _ => mE S a .v o && (match lo with | some x => bl && mE S l .v x | none => !bl) && (match hi with | some x => bh && mE S h .v x | none => !bh)
    | _ => false
  | .ife t a b => fun k e => modeOk k e && !isPl a && !isPl b && match e with | .IfExp c x y _ => mE S t .t c && mE S a .v x && mE S b .v y | _ => false
  | .and a b => fun k e => (k == .t || (!isPl a && !isPl b)) && match e with
    | .BoolOp .And (x :: y :: r) p => mE S a (if k = .t then .t else .v) x && (match r with | [] => mE S b (if k = .t then .t else .v) y | _ => isAnd b && mE S b (if k = .t then .t else .v) (.BoolOp .And (y :: r) p))
    | _ => false
  | .or a b => fun k e => (k == .t || (!isPl a && !isPl b)) && match e with
    | .BoolOp .Or (x :: y :: r) p => mE S a (if k = .t then .t else .v) x && (match r with | [] => mE S b (if k = .t then .t else .v) y | _ => isOr b && mE S b (if k = .t then .t else .v) (.BoolOp .Or (y :: r) p))
    | _ => false
  | .not a => fun k e => (k == .t || !isPl a) && match e with | .UnaryOp .Not x _ => mE S a (if k = .t then .t else .v) x | _ => false
  | .chain o1 o2 a b c => fun k e => (pur b || stB a) && (pur c || stB b) && match e with
    | .Compare x [p1, p2] [y, z] _ => decide (cmOp p1 = some o1) && decide (cmOp p2 = some o2) && notSet y && notSet z && mE S a .v x && mE S b .v y && mE S c .v z
    | _ => false
  | .tru a => fun k e => k == .t && plainT e && mE S a .v e
  | .call f es => fun k e => modeOk k e && match e with
    | .Call (.Name x _) xs [] _ => S.gl x && decide (S.fns.lookup x = some f) && plainEs xs && mOs S es xs
    | _ => false
  | .callv fs i es => fun k e => modeOk k e && fs.all S.fva.contains && match e with
    | .Call (.Name x _) (y :: xs) [] _ => S.vis i x && plainEs (y :: xs) && mOs S es (y :: xs)
    | _ => false
  | .mk c es => fun k e => modeOk k e && match e with
    | .Call (.Name x _) (y :: xs) [] _ => S.gl x && decide (S.cls.lookup x = some c) && plainEs (y :: xs) && mOs S es (y :: xs)
    | _ => false
  | .mth m c a es => fun k e => modeOk k e && (purs es || stB a) && match e with
    | .Call (.Attribute o n ap) xs [] cp => decide (S.mes.lookup (c, n) = some m) && (S.fnm.lookup c).isSome && notCall o && mE S a .v o && plainEs xs && mOs S es xs && (ap.endLine == cp.line) && decide (xs.length < 28)
    | .Subscript o i _ => decide (S.mes.lookup (c, ("__getitem__" : Str)) = some m) && notSlice i && purs es && mE S a .v o && mOs S es [i]
    | _ => false
  | .mut l b p es => fun k e => modeOk k e && isPl p && (l || purs es || isRef p) && decide (b ≠ .insert) && match e with
    | .Call (.Attribute o n ap) xs [] cp => decide (n = mbName b) && notCall o && (ap.endLine == cp.line) && mE S p .v o && plainEs xs && decide (xs.length < 29) && mVs S es xs
    | _ => false
  | .comp x tg vs it cond => fun k e => modeOk k e && !isPl x && match e with
    | .ListComp elt [⟨t, iter, ifs, 0⟩] scope _ => mN (S.blk scope) vs tg t && (!isEn it || isTupE t) && mE S it .i iter && notSet iter && blkC S.N S.sc scope (ownOf S vs) && mE (S.blk scope) x .v elt &&
        (match ifs with | [] => isYes cond | [c] => mE (S.blk scope) cond .t c | _ => false)
    | _ => false
  | .itE a => fun k e => k == .i && match e with | .Call (.Name x _) [y] [] _ => decide (x = "enumerate") && S.bl x && plainE y && mE S a .v y | _ => false
  | .itR es => fun k e => k == .i && match e with | .Call (.Name x _) xs [] _ => decide (x = "range") && S.bl x && plainEs xs && (xs.length == 1 || xs.length == 2) && mVs S es xs | _ => false
  | .itZ _ _ => fun _ _ => false
  | .itRev a => fun k e => k == .i && match e with | .Call (.Name x _) [y] [] _ => decide (x = "reversed") && S.bl x && plainE y && mE S a .v y | _ => false
  | .itK _ => fun _ _ => false
  | .itI _ => fun _ _ => false
  | .itV _ => fun _ _ => false
def mB (S : SC) (b : B) : Exs → Md → Expr → Bool
  | .cons x (.cons y .nil) => fun k e => match e with
    | .BinOp l op r _ => decide (arOp op = some b) && (pur y || stB x) && mE S x .v l && mE S y .v r
    | .Compare l [op] [r] _ => decide (cmOp op = some b) && notSet r && (pur y || stB x) && mE S x .v l && mE S y .v r
    | .Subscript l r _ => modeOk k e && decide (b = .idx) && notSlice r && (pur y || stB x) && mE S x .v l && mE S y .v r
    | .Call (.Name n _) [l, r] [] _ => modeOk k e && S.bl n && decide (cbOp n = some b ∨ ctOp n = some b) && plainE l && plainE r && (pur y || stB x) && mE S x .v l && mE S y .v r
    | _ => false
  | .cons x .nil => fun k e => match e with
    | .Subscript l (.Slice none none (some (.UnaryOp .USub (.Constant (.int 1) _ _) _)) _) _ => modeOk k e && decide (b = .rev) && mE S x .v l
    | .UnaryOp .USub l _ => modeOk k e && decide (b = .neg) && mE S x .v l
    | .Call (.Name n _) [l] [] _ => modeOk k e && S.bl n && decide (cbOp n = some b ∨ ctOp n = some b) && plainE l && mE S x .v l
    | _ => false
  | _ => fun _ _ => false
def mVs (S : SC) : Exs → List Expr → Bool
  | .nil => fun es => es.isEmpty
  | .cons x xs => fun es => !isPl x && match es with | y :: ys => plainE y && mE S x .v y && mVs S xs ys | [] => false
def mOs (S : SC) : Exs → List Expr → Bool
  | .nil => fun es => es.isEmpty
  | .cons x xs => fun es => (purs xs || stB x) && match es with | y :: ys => plainE y && mE S x .v y && mOs S xs ys | [] => false
end
end Dn
end L2
set_option Elab.async false
set_option linter.all false
set_option maxRecDepth 100000
set_option maxHeartbeats 4000000
/-! The text that fits the small language means what its evaluator says: expressions. -/
namespace L2
namespace Dn
open PySem PySem.Spec PyProof.Rows
def isIt : Ex → Bool | .itE _ => true | .itR _ => true | .itZ _ _ => true | .itRev _ => true | .itK _ => true | .itI _ => true | .itV _ => true | _ => false
section
variable {G : Gi} {Pg : Prog} {call : Call}
theorem den_o1 {e : Ex} (h : isPl e = true) : (den Pg call e).o = oPlc (den Pg call e).p ∧ (den Pg call e).i = iPlain (oPlc (den Pg call e).p) := by
  cases e <;> first | exact ⟨rfl, rfl⟩ | cases h
theorem den_o2 {e : Ex} (h : isPl e = false) (h2 : isIt e = false) : (den Pg call e).o = oTmp (den Pg call e).e ∧ (den Pg call e).i = iPlain (oTmp (den Pg call e).e) := by
  cases e <;> first | exact ⟨rfl, rfl⟩ | (cases h2; done) | (cases h; done)
theorem ref_stay {e : Ex} (h : isRef e = true) : Stay (den Pg call e).o ∧ ∀ en i s en', (den Pg call e).p en = .ok (i, s) en' → s = [] := by
  cases e <;> first | (cases h; done) | skip
  rename_i j
  have hp : ∀ en i s en', (den Pg call (.ref j)).p en = .ok (i, s) en' → s = [] := fun en i s en' z => by
    have z : pRef j en = .ok (i, s) en' := z
    unfold pRef at z
    split at z
    · cases z
    · cases z; rfl
  refine ⟨fun en i s en' z => ?_, hp⟩
  have z : oPlc (den Pg call (.ref j)).p en = .ok (.plc i s) en' := z
  unfold oPlc at z
  cases e1 : (den Pg call (.ref j)).p en with
  | ok ip en1 =>
    obtain ⟨i', s'⟩ := ip
    rw [e1] at z
    dsimp only at z
    split at z
    · cases z
    · cases z
      exact hp _ _ _ _ e1
  | exc _ _ => rw [e1] at z; cases z
  | stuck => rw [e1] at z; cases z
theorem st_stay {e : Ex} (h : stB e = true) : Stay (den Pg call e).o := by
  rcases (Bool.or_eq_true _ _).mp h with z | z
  · exact (ref_stay z).1
  · have z : isPl e = false := by simpa using z
    intro en i s en' k
    cases hi : isIt e with
    | false =>
      rw [(den_o2 z hi).1] at k
      unfold oTmp at k
      cases e1 : (den Pg call e).e en with
      | ok d en2 => rw [e1] at k; cases k
      | exc _ _ => rw [e1] at k; cases k
      | stuck => rw [e1] at k; cases k
    | true => cases e <;> first | (cases hi; done) | (have k : (R.stuck : R OV) = _ := k; cases k)
def Jv (G : Gi) (Pg : Prog) (call : Call) (W : WX) (X : Cx) (e : Ex) (pe : Expr) : Prop :=
  (isPl e = true → PE X pe (TP G W (pur e) (den Pg call e).p)) ∧ (isPl e = false → PE X pe (TV G W (pur e) (den Pg call e).e)) ∧ isIt e = false
def Jt (G : Gi) (Pg : Prog) (call : Call) (W : WX) (X : Cx) (e : Ex) (pe : Expr) : Prop :=
  PT X pe (TB G W (pur e) (den Pg call e).t) ∧ ∀ op vs p, pe = .BoolOp op vs p → PW X pe (TB G W (pur e) (den Pg call e).t)
def Ji (G : Gi) (Pg : Prog) (call : Call) (W : WX) (X : Cx) (e : Ex) (pe : Expr) : Prop :=
  ∀ tg, (isEn e = true → ∃ elts kk tp, tg = .Tuple elts kk tp) → PI X tg pe (TId G W (den Pg call e).i)
def J3 (G : Gi) (Pg : Prog) (call : Call) (W : WX) (X : Cx) (e : Ex) (k : Md) (pe : Expr) : Prop := (k = .v → Jv G Pg call W X e pe) ∧ (k = .t → Jt G Pg call W X e pe) ∧ (k = .i → Ji G Pg call W X e pe)
variable {S : SC} {W : WX} {X : Cx} {p q r : Bool} {e : Ex} {k : Md} {pe : Expr} {es : Exs}
theorem Jv.o (j : Jv G Pg call W X e pe) : PE X pe (TO G W (pur e) (den Pg call e).o) := by
  cases h : isPl e with
  | true => rw [(den_o1 h).1]; exact to_plc (j.1 h)
  | false => rw [(den_o2 h j.2.2).1]; exact to_tmp (j.2.1 h)
theorem J3.val {m : M D} (hd : den Pg call e = DX.val m) (hp : isPl e = false) (hi : isIt e = false) (hK : X.K = G.K) (hm : modeOk k pe = true) (V : PE X pe (TV G W (pur e) m)) : J3 G Pg call W X e k pe := by
  refine ⟨fun _ => ⟨(fun z => by rw [hp] at z; cases z), (fun _ => by rw [hd]; exact V), hi⟩, fun z => ?_, fun _ tg _ => ?_⟩
  · subst z
    have hm : plainT pe = true := hm
    exact ⟨(by rw [hd]; exact tb_val V (tru_of hm)), fun op vs p z => by rw [z] at hm; cases hm⟩
  · rw [hd]
    exact ti_plain hK (to_tmp V)
theorem J3.plc {m : M (Nat × Path)} (hd : den Pg call e = DX.plc m) (hp : isPl e = true) (hi : isIt e = false) (hK : X.K = G.K) (hm : (k != .t) = true) (V : PE X pe (TP G W (pur e) m)) : J3 G Pg call W X e k pe := by
  refine ⟨fun _ => ⟨(fun _ => by rw [hd]; exact V), (fun z => by rw [hp] at z; cases z), hi⟩, (fun z => by subst z; cases hm), fun _ tg _ => ?_⟩
  rw [hd]
  exact ti_plain hK (to_plc V)
theorem lit_ok {d : D} {c : Const} {n : Nat} {pos : Pos} (h : litOk d c = true) : PE X (.Constant c n pos) (TV G W true fun e => .ok d e) := by
  unfold litOk at h
  split at h
  · exact tv_c pe_non fun _ => .non
  · have h := beq_iff_eq.mp h
    subst h
    exact tv_c pe_bl fun _ => .bl _
  · have h := of_decide_eq_true h
    subst h
    exact tv_c pe_int fun _ => .int _
  · have h := of_decide_eq_true h
    subst h
    exact tv_c pe_str fun _ => .str _
  · cases h
theorem Ctx.fd (c : Ctx G Pg call S X) {cl j : Nat} {n : Str} (h : S.fd cl j n = true) : ClsOk G cl ∧ (G.fnm cl)[j]? = some n := by
  unfold SC.fd at h
  split at h
  · rename_i ns hn
    obtain ⟨a, b⟩ := c.fnm cl ns hn
    exact ⟨a, by rw [b]; exact of_decide_eq_true h⟩
  · cases h
theorem cb_call {n : Str} {b : B} (c : Ctx G Pg call S X) (h : S.bl n = true) (hb : cbOp n = some b ∨ ctOp n = some b) {y : Expr} {ys : List Expr} {ms : M (List OV)} {pn pos : Pos} (ha : PA X (y :: ys) (TOs G W p ms)) (hy : plainE y = true) (hys : plainEs ys = true) : PE X (.Call (.Name n pn) (y :: ys) [] pos) (TV G W p (cBop b ms)) := by
  obtain ⟨h1, h2, h3, h4⟩ := c.bl h
  rcases hb with hb | hb
  · unfold cbOp at hb
    split at hb
    · rename_i e; subst e; cases hb
      exact tv_cb (cr_len c.hK) h1 h3 PySem.boot_len ha h4 h2 (star_cons hy) (star_no hys).1
    · split at hb
      · rename_i e; subst e; cases hb
        exact tv_cb (cr_isi c.hK c.gok) h1 h3 (by decide +kernel) ha h4 h2 (star_cons hy) (star_no hys).1
      · split at hb
        · rename_i e; subst e; cases hb
          exact tv_cb (cr_allD c.calm) h1 h3 (by decide +kernel) ha h4 h2 (star_cons hy) (star_no hys).1
        · split at hb
          · rename_i e; subst e; cases hb
            exact tv_cb (cr_sumD c.calm) h1 h3 (by decide +kernel) ha h4 h2 (star_cons hy) (star_no hys).1
          · cases hb
  · unfold ctOp at hb
    split at hb
    · rename_i e; subst e; cases hb
      exact tv_ct cr_int h1 h3 (by decide +kernel) ha h4 h2 (star_cons hy) (star_no hys).1
    · split at hb
      · rename_i e; subst e; cases hb
        exact tv_ct (cr_list c.hK) h1 h3 (by decide +kernel) ha h4 h2 (star_cons hy) (star_no hys).1
      · split at hb
        · rename_i e; subst e; cases hb
          exact tv_ct (cr_tuple c.hK) h1 h3 (by decide +kernel) ha h4 h2 (star_cons hy) (star_no hys).1
        · split at hb
          · rename_i e; subst e; cases hb
            exact tv_ct cr_dict h1 h3 (by decide +kernel) ha h4 h2 (star_cons hy) (star_no hys).1
          · cases hb
end
end Dn
end L2
set_option Elab.async false
set_option linter.all false
set_option maxRecDepth 100000
set_option maxHeartbeats 4000000
/-! The text that fits the small language means what its evaluator says: expressions, by cases. -/
namespace L2
namespace Dn
open PySem PySem.Spec PyProof.Rows
section
variable {G : Gi} {Pg : Prog} {call : Call} {S : SC} {W : WX} {X : Cx} {p q r : Bool} {e a b : Ex} {k : Md} {pe : Expr} {es : Exs}
theorem stay_of {y : Bool} {x : Ex} (h : (y || stB x) = true) : y = true ∨ Stay (den Pg call x).o := by
  rcases (Bool.or_eq_true _ _).mp h with z | z
  · exact .inl z
  · exact .inr (st_stay z)
/-- what the parts of an operation give -/
theorem two_ops {x y : Ex} {l r : Expr} (hst : (pur y || stB x) = true) (jx : Jv G Pg call W X x l) (jy : Jv G Pg call W X y r) (hl : plainE l = true) (hr : plainE r = true) : PA X [l, r] (TOs G W (pur x && (pur y && true)) (lCons (den Pg call x).o (lCons (den Pg call y).o lNil))) :=
  to_cons jx.o (to_cons jy.o to_nil (star_cons hr) (.inl rfl)) (star_cons hl) ((stay_of hst).imp (fun z => by rw [z]; rfl) id)
theorem bop_ok {bo : B} (c : Ctx G Pg call S X) (tk : Takes X W) (hes : ∀ x y, es = .cons x (.cons y .nil) → (∀ {l}, mE S x .v l = true → Jv G Pg call W X x l) ∧ (∀ {r}, mE S y .v r = true → Jv G Pg call W X y r)) (he1 : ∀ x, es = .cons x .nil → (∀ {l}, mE S x .v l = true → Jv G Pg call W X x l)) (h : mB S bo es k pe = true) : J3 G Pg call W X (.bop bo es) k pe := by
  have val : ∀ {fl : Bool}, (pur (.bop bo es) = true → fl = true) → modeOk k pe = true → PE X pe (TV G W fl (cBop bo (denOs Pg call es))) → J3 G Pg call W X (.bop bo es) k pe := fun {fl} hf hm V =>
    J3.val (m := cBop bo (denOs Pg call es)) rfl rfl rfl c.hK hm (TVw hf V)
  match es, h with
  | .nil, h => cases h
  | .cons x .nil, h =>
    have jx := fun {l} => he1 x rfl (l := l)
    have hp : pur (.bop bo (.cons x .nil)) = true → (pur x && true) = true := fun z => z
    simp only [mB] at h
    split at h
    · simp only [Bool.and_eq_true, decide_eq_true_eq] at h
      obtain ⟨⟨h1, rfl⟩, h3⟩ := h
      exact val hp h1 (tv_rev c.hK (jx h3).o)
    · simp only [Bool.and_eq_true, decide_eq_true_eq] at h
      obtain ⟨⟨h1, rfl⟩, h3⟩ := h
      exact val hp h1 (tv_neg (jx h3).o)
    · simp only [Bool.and_eq_true, decide_eq_true_eq] at h
      obtain ⟨⟨⟨⟨h1, h2⟩, h3⟩, h4⟩, h5⟩ := h
      exact val hp h1 (cb_call c h2 h3 (to_cons (jx h5).o to_nil (star_cons h4) (.inl rfl)) h4 rfl)
    · cases h
  | .cons x (.cons y .nil), h =>
    obtain ⟨jx, jy⟩ := hes x y rfl
    have hp : pur (.bop bo (.cons x (.cons y .nil))) = true → (pur x && (pur y && true)) = true := fun z => z
    have hp2 : pur (.bop bo (.cons x (.cons y .nil))) = true → (pur x && pur y) = true := fun z => by
      have := hp z
      rwa [Bool.and_true] at this
    simp only [mB] at h
    split at h
    · simp only [Bool.and_eq_true, decide_eq_true_eq] at h
      obtain ⟨⟨⟨h1, h2⟩, h3⟩, h4⟩ := h
      exact val hp2 (by cases k <;> rfl) (tv_ar c.hK h1 (jx h3).o (jy h4).o (stay_of h2))
    · simp only [Bool.and_eq_true, decide_eq_true_eq] at h
      obtain ⟨⟨⟨⟨h1, h2⟩, h3⟩, h4⟩, h5⟩ := h
      have V := fun pos => tv_cm (pos := pos) c.hK c.gok c.hu h1 (jx h4).o (jy h5).o (stay_of h3) (marks_of h2)
      refine ⟨fun _ => ⟨(fun z => nomatch z), (fun _ => TVw hp2 (V _)), rfl⟩, (fun _ => ⟨?_, (fun _ _ _ z => nomatch z)⟩), fun _ tg _ => ti_plain c.hK (to_tmp (V _))⟩
      exact TBw hp2 (tb_cm (pos := _) c.hK c.gok c.hu h1 (jx h4).o (jy h5).o (stay_of h3) (marks_of h2))
    · simp only [Bool.and_eq_true, decide_eq_true_eq] at h
      obtain ⟨⟨⟨⟨⟨h1, rfl⟩, h3⟩, h4⟩, h5⟩, h6⟩ := h
      exact val hp2 h1 (tv_idx c.hK c.gok c.hu (jx h5).o (jy h6).o (stay_of h4) (ix_of h3))
    · simp only [Bool.and_eq_true, decide_eq_true_eq] at h
      obtain ⟨⟨⟨⟨⟨⟨⟨h1, h2⟩, h3⟩, h4⟩, h5⟩, h6⟩, h7⟩, h8⟩ := h
      exact val hp h1 (cb_call c h2 h3 (two_ops h6 (jx h7) (jy h8) h4 h5) h4 (by simp only [plainEs, List.all_cons, List.all_nil, h5]; rfl))
    · cases h
  | .cons x (.cons y (.cons z zs)), h => cases h
end
end Dn
end L2
set_option Elab.async false
set_option linter.all false
set_option maxRecDepth 100000
set_option maxHeartbeats 4000000
/-! The text that fits the small language means what its evaluator says: all expressions. -/
namespace L2
namespace Dn
open PySem PySem.Spec PyProof.Rows
section
variable {G : Gi} {Pg : Prog} {call : Call} {p q r : Bool}
theorem few_of {env : PySem.Env} {cpos : Pos} {e : Expr} {es : List Expr} (h : plainEs (e :: es) = true) (hl : es.length < 28) : ((backTo cpos (starEach (e :: es) env)).all (fun x => !x.1) && (backToKw cpos (keywordEach [] env)).all (fun x => x.1.isSome)
      && decide ((e :: es).length + ([] : List Keyword).length + (if ([] : List Keyword).isEmpty then 0 else 1) < 30)) = true := by
  rw [(star_no h).2]
  simp only [Bool.true_and, List.length_cons, List.length_nil, Bool.and_eq_true, decide_eq_true_eq]
  refine ⟨rfl, ?_⟩
  simp
  omega
theorem meth_ht {env : PySem.Env} {o : Expr} {m : Str} {es : List Expr} {apos pos : Pos} (hb : attributeBase o m env (eval o env) = eval o env) (hf : plainEs es = true) (hn : es.length < 28) (hl : (apos.endLine == pos.line) = true) :
    eval (.Call (.Attribute o m apos) es [] pos) env = (do
      let ov ← eval o env
      standAt apos.atName
      let (f, first) ← holding [ov] (getMethod ov m (do return (← importBound o env).getD true))
      callWith pos f first (backTo pos (starEach es env)) (backToKw pos (keywordEach [] env))) := by
  have hpos : methodCallPos true o env apos pos = pure pos := by unfold methodCallPos; simp [hl]
  have hform : methodCallForm (es.length + ([] : List Keyword).length) (backTo pos (starEach es env)) (backToKw pos (keywordEach [] env)) = true := by
    unfold methodCallForm
    rw [(star_no hf).2]
    simp only [Bool.true_and, Bool.and_eq_true, decide_eq_true_eq]
    refine ⟨rfl, ?_⟩
    simp
    split <;> omega
  rw [arm_eval_Call, hb]
  unfold methodCall
  rw [hform, hpos]
  rfl
theorem own_vs {S : SC} {vs : List Nat} : (ownOf S vs).map (·.2) = vs := by
  unfold ownOf
  rw [List.map_map]
  exact List.map_id vs
theorem yes_of {e : Ex} (h : isYes e = true) : e = .lit (.bl true) := by
  unfold isYes at h
  split at h
  · rfl
  · cases h
mutual
theorem okN : ∀ (t : Tg) {e : Expr} {S : SC} {X : Cx} {W : WX} {vs : List Nat} {fx : Nat → Prop}, Ctx G Pg call S X → mN S vs t e = true → (∀ i ∈ vs, ¬ fx i) → PG X e (TGd G W fx (denG Pg call t))
  | .nm i, e, S, X, W, vs, fx, c, h, hf => by
    simp only [mN] at h
    split at h
    · simp only [Bool.and_eq_true] at h
      obtain ⟨a, b, d⟩ := c.loc h.1
      exact tg_name c.nd a b d (hf i (List.contains_iff_mem.mp h.2))
    · cases h
  | .tp ts, e, S, X, W, vs, fx, c, h, hf => by
    simp only [mN] at h
    split at h
    · simp only [Bool.and_eq_true, decide_eq_true_eq] at h
      obtain ⟨a, b⟩ := each_no (env := X.env) h.1.1
      exact tg_tup c.hK c.calm (okNs ts c h.2 hf) (by rw [a]; exact h.1.2) b
    · cases h
  | .fld _ _ _, e, S, X, W, vs, fx, c, h, hf => by cases h
  | .ix _ _, e, S, X, W, vs, fx, c, h, hf => by cases h
theorem okNs : ∀ (ts : Tgs) {es : List Expr} {S : SC} {X : Cx} {W : WX} {vs : List Nat} {fx : Nat → Prop}, Ctx G Pg call S X → mNs S vs ts es = true → (∀ i ∈ vs, ¬ fx i) → PGs X es (TGsd G W fx (denGs Pg call ts))
  | .nil, es, S, X, W, vs, fx, c, h, hf => by
    cases es with
    | nil => exact tgs_nil
    | cons _ _ => cases h
  | .cons t ts, es, S, X, W, vs, fx, c, h, hf => by
    cases es with
    | nil => cases h
    | cons y ys =>
      simp only [mNs, Bool.and_eq_true] at h
      exact tgs_cons (okN t c h.1.2 hf) (okNs ts c h.2 hf) (each_cons h.1.1).1
end
mutual
theorem okN_x : ∀ {t : Tg} {S : SC} {vs : List Nat} {e : Expr}, mN S vs t e = true → ∀ d en x en1, denG Pg call t d en ≠ .exc x en1
  | .nm i, S, vs, e, h, d, en, x, en1, z => nomatch z
  | .tp ts, S, vs, e, h, d, en, x, en1, z => by
    simp only [mN] at h
    split at h
    · simp only [Bool.and_eq_true] at h
      have z : gTup_ ts.len (denGs Pg call ts) d en = .exc x en1 := z
      unfold gTup_ at z
      split at z
      · split at z
        · exact okNs_x h.2 _ _ _ _ z
        · cases z
      · cases z
    · cases h
  | .fld _ _ _, S, vs, e, h, d, en, x, en1, z => by cases h
  | .ix _ _, S, vs, e, h, d, en, x, en1, z => by cases h
theorem okNs_x : ∀ {ts : Tgs} {S : SC} {vs : List Nat} {es : List Expr}, mNs S vs ts es = true → ∀ ds en x en1, denGs Pg call ts ds en ≠ .exc x en1
  | .nil, S, vs, es, h, ds, en, x, en1, z => by
    have z : gsNil ds en = .exc x en1 := z
    cases ds <;> cases z
  | .cons t ts, S, vs, es, h, ds, en, x, en1, z => by
    cases es with
    | nil => cases h
    | cons y ys =>
      simp only [mNs, Bool.and_eq_true] at h
      have z : gsCons (denG Pg call t) (denGs Pg call ts) ds en = .exc x en1 := z
      cases ds with
      | nil => cases z
      | cons d ds =>
        unfold gsCons at z
        dsimp only at z
        cases e1 : denG Pg call t d en with
        | ok _ en2 => rw [e1] at z; exact okNs_x h.2 _ _ _ _ z
        | exc y2 en2 => exact okN_x h.1.2 _ _ _ _ e1
        | stuck => rw [e1] at z; cases z
end
mutual
theorem okE : ∀ (e : Ex) {k : Md} {pe : Expr} {S : SC} {X : Cx} {W : WX}, Ctx G Pg call S X → Takes X W → mE S e k pe = true → J3 G Pg call W X e k pe
  | .lit d, k, pe, S, X, W, c, tk, h => by
    simp only [mE, Bool.and_eq_true] at h
    obtain ⟨h1, h2⟩ := h
    split at h2
    · exact J3.val rfl rfl rfl c.hK h1 (lit_ok h2)
    · cases h2
  | .gl g, k, pe, S, X, W, c, tk, h => by
    simp only [mE, Bool.and_eq_true] at h
    obtain ⟨h1, h2⟩ := h
    split at h2
    · simp only [Bool.or_eq_true, Bool.and_eq_true, decide_eq_true_eq] at h2
      rcases h2 with h2 | h2
      · exact J3.val rfl rfl rfl c.hK h1 (c.gv h2.1 h2.2)
      · exact J3.val rfl rfl rfl c.hK h1 (c.ty h2.1 h2.2)
    · cases h2
  | .ref i, k, pe, S, X, W, c, tk, h => by
    simp only [mE, Bool.and_eq_true] at h
    obtain ⟨h1, h2⟩ := h
    split at h2
    · exact J3.plc rfl rfl rfl c.hK h1 (tp_ref (c.var h2))
    · cases h2
  | .fld a cl j, k, pe, S, X, W, c, tk, h => by
    simp only [mE, Bool.and_eq_true] at h
    obtain ⟨⟨h1, h2⟩, h3⟩ := h
    split at h3
    · simp only [Bool.and_eq_true] at h3
      obtain ⟨⟨h4, h5⟩, h6⟩ := h3
      obtain ⟨ok, hn⟩ := c.fd h6
      exact J3.plc rfl rfl rfl c.hK h1 (tp_fld (((okE a c tk h4).1 rfl).1 h2) c.hK ok hn (base_of h5))
    · cases h3
  | .ix a b, k, pe, S, X, W, c, tk, h => by
    simp only [mE, Bool.and_eq_true, Bool.not_eq_true'] at h
    obtain ⟨⟨⟨⟨h1, h2⟩, h3⟩, h4⟩, h5⟩ := h
    split at h5
    · simp only [Bool.and_eq_true] at h5
      obtain ⟨⟨h6, h7⟩, h8⟩ := h5
      have ib := ((okE b c tk h7).1 rfl).2.1 h3
      rw [h4] at ib
      exact J3.plc rfl rfl rfl c.hK h1 (tp_ix c.hK c.hu (((okE a c tk h6).1 rfl).1 h2) ib (ix_of h8))
    · cases h5
  | .rd a, k, pe, S, X, W, c, tk, h => by
    simp only [mE, Bool.and_eq_true] at h
    obtain ⟨⟨h1, h2⟩, h3⟩ := h
    exact J3.val rfl rfl rfl c.hK h1 (tv_rd (((okE a c tk h3).1 rfl).1 h2))
  | .mov i, k, pe, S, X, W, c, tk, h => by
    simp only [mE, Bool.and_eq_true] at h
    obtain ⟨h1, h2⟩ := h
    split at h2
    · exact J3.val rfl rfl rfl c.hK h1 (tv_mov (c.var h2))
    · cases h2
  | .fldv a cl j, k, pe, S, X, W, c, tk, h => by
    simp only [mE, Bool.and_eq_true, Bool.not_eq_true'] at h
    obtain ⟨⟨h1, h2⟩, h3⟩ := h
    split at h3
    · simp only [Bool.and_eq_true] at h3
      obtain ⟨⟨h4, h5⟩, h6⟩ := h3
      obtain ⟨ok, hn⟩ := c.fd h6
      exact J3.val rfl rfl rfl c.hK h1 (tv_fldv (((okE a c tk h4).1 rfl).2.1 h2) c.hK ok hn (base_of h5))
    · cases h3
  | .frz a, k, pe, S, X, W, c, tk, h => by
    simp only [mE, Bool.and_eq_true, Bool.not_eq_true'] at h
    obtain ⟨⟨h1, h2⟩, h3⟩ := h
    exact J3.val rfl rfl rfl c.hK h1 (tv_frz (((okE a c tk h3).1 rfl).2.1 h2))
  | .tup es, k, pe, S, X, W, c, tk, h => by
    simp only [mE, Bool.and_eq_true] at h
    obtain ⟨h1, h2⟩ := h
    split at h2
    · exact J3.val rfl rfl rfl c.hK h1 (tv_tup (okVs es c tk h2))
    · cases h2
  | .lst es, k, pe, S, X, W, c, tk, h => by
    simp only [mE, Bool.and_eq_true] at h
    obtain ⟨h1, h2⟩ := h
    split at h2
    · exact J3.val rfl rfl rfl c.hK h1 (tv_lst (okVs es c tk h2))
    · cases h2
  | .dct t ks vs, k, pe, S, X, W, c, tk, h => by
    simp only [mE, Bool.and_eq_true] at h
    obtain ⟨h1, h2⟩ := h
    split at h2
    · cases t with
      | false => exact J3.val rfl rfl rfl c.hK h1 tv_dnK
      | true => exact J3.val rfl rfl rfl c.hK h1 tv_dnT
    · cases h2
  | .bop b .nil, k, pe, S, X, W, c, tk, h => by cases h
  | .bop b (.cons x .nil), k, pe, S, X, W, c, tk, h =>
    bop_ok c tk (fun _ _ z => nomatch z) (fun x' z => by cases z; exact fun h => (okE x c tk h).1 rfl) h
  | .bop b (.cons x (.cons y .nil)), k, pe, S, X, W, c, tk, h =>
    bop_ok c tk (fun x' y' z => by cases z; exact ⟨fun h => (okE x c tk h).1 rfl, fun h => (okE y c tk h).1 rfl⟩) (fun _ z => nomatch z) h
  | .bop b (.cons x (.cons y (.cons z zs))), k, pe, S, X, W, c, tk, h => by cases h
  | .sl bl bh a l hi, k, pe, S, X, W, c, tk, h => by
    simp only [mE, Bool.and_eq_true, Bool.not_eq_true'] at h
    obtain ⟨⟨⟨⟨h1, h2⟩, h3⟩, h4⟩, h5⟩ := h
    split at h5
    · rename_i o lo hh p2 pos
      simp only [Bool.and_eq_true] at h5
      obtain ⟨⟨h6, h7⟩, h8⟩ := h5
      have jo := ((okE a c tk h6).1 rfl).o
      have hst : (pur l = true ∧ pur hi = true) ∨ Stay (den Pg call a).o := by
        rcases (Bool.or_eq_true _ _).mp h4 with z | z
        · exact .inr (st_stay z)
        · exact .inl ((Bool.and_eq_true _ _).mp z)
      have PL : ∃ fl, (pur l = true → fl = true) ∧ (fl = true ∨ fl = pur l) ∧ PO X lo (TPt G W fl (if bl then pInt (den Pg call l).e else pNone)) := by
        cases lo with
        | none =>
          simp only [Bool.not_eq_true'] at h7
          subst h7
          exact ⟨true, fun _ => rfl, .inl rfl, tp_none⟩
        | some x =>
          simp only [Bool.and_eq_true] at h7
          obtain ⟨rfl, h7⟩ := h7
          exact ⟨pur l, id, .inr rfl, tp_some (((okE l c tk h7).1 rfl).2.1 h2)⟩
      have PH : ∃ fl, (pur hi = true → fl = true) ∧ (fl = true ∨ fl = pur hi) ∧ PO X hh (TPt G W fl (if bh then pInt (den Pg call hi).e else pNone)) := by
        cases hh with
        | none =>
          simp only [Bool.not_eq_true'] at h8
          subst h8
          exact ⟨true, fun _ => rfl, .inl rfl, tp_none⟩
        | some x =>
          simp only [Bool.and_eq_true] at h8
          obtain ⟨rfl, h8⟩ := h8
          exact ⟨pur hi, id, .inr rfl, tp_some (((okE hi c tk h8).1 rfl).2.1 h3)⟩
      obtain ⟨f1, a1, _, PL⟩ := PL
      obtain ⟨f2, b1, _, PH⟩ := PH
      refine J3.val (m := cSl (den Pg call a).o (if bl then pInt (den Pg call l).e else pNone) (if bh then pInt (den Pg call hi).e else pNone)) rfl rfl rfl c.hK h1 (TVw ?_ (tv_sl c.hK (hst.imp (fun z => ⟨a1 z.1, b1 z.2⟩) id) jo PL PH))
      intro z
      have z : (pur a && (pur l && pur hi)) = true := z
      simp only [Bool.and_eq_true] at z ⊢
      exact ⟨z.1, a1 z.2.1, b1 z.2.2⟩
    · cases h5
  | .ife t a b, k, pe, S, X, W, c, tk, h => by
    simp only [mE, Bool.and_eq_true, Bool.not_eq_true'] at h
    obtain ⟨⟨⟨h1, h2⟩, h3⟩, h4⟩ := h
    split at h4
    · simp only [Bool.and_eq_true] at h4
      obtain ⟨⟨h5, h6⟩, h7⟩ := h4
      exact J3.val rfl rfl rfl c.hK h1 (tv_ife ((okE t c tk h5).2.1 rfl).1 (((okE a c tk h6).1 rfl).2.1 h2) (((okE b c tk h7).1 rfl).2.1 h3))
    · cases h4
  | .and a b, k, pe, S, X, W, c, tk, h => by
    simp only [mE, Bool.and_eq_true, Bool.or_eq_true, Bool.not_eq_true'] at h
    obtain ⟨h1, h2⟩ := h
    split at h2
    · rename_i x y r pos
      simp only [Bool.and_eq_true] at h2
      obtain ⟨h3, h4⟩ := h2
      have val : k ≠ .t → PE X (.BoolOp .And (x :: y :: r) pos) (TV G W (pur a && pur b) (cAnd (den Pg call a).e (den Pg call b).e)) := fun hk => by
        rw [if_neg hk] at h3
        have hp : isPl a = false ∧ isPl b = false := by
          rcases h1 with z | z
          · exact absurd (beq_iff_eq.mp z) hk
          · exact z
        have ja := ((okE a c tk h3).1 rfl).2.1 hp.1
        cases r with
        | nil =>
          rw [if_neg hk] at h4
          exact tv_and ja (pe_one (((okE b c tk h4).1 rfl).2.1 hp.2))
        | cons z zs =>
          simp only [Bool.and_eq_true] at h4
          rw [if_neg hk] at h4
          exact tv_and ja (((okE b c tk h4.2).1 rfl).2.1 hp.2)
      have tst : k = .t → PW X (.BoolOp .And (x :: y :: r) pos) (TB G W (pur a && pur b) (tAndD (den Pg call a).t (den Pg call b).t)) := fun hk => by
        rw [if_pos hk] at h3
        have ja := ((okE a c tk h3).2.1 rfl).1
        cases r with
        | nil =>
          rw [if_pos hk] at h4
          exact tb_and ja (pw_and1 ((okE b c tk h4).2.1 rfl).1)
        | cons z zs =>
          simp only [Bool.and_eq_true] at h4
          rw [if_pos hk] at h4
          exact tb_and ja (((okE b c tk h4.2).2.1 rfl).2 _ _ _ rfl)
      refine ⟨fun hk => ⟨(fun z => nomatch z), (fun _ => val (by rw [hk]; exact fun z => nomatch z)), rfl⟩, fun hk => ⟨(tst hk).pt, fun _ _ _ z => tst hk⟩, fun hk tg _ => ti_plain c.hK (to_tmp (val (by rw [hk]; exact fun z => nomatch z)))⟩
    · cases h2
  | .or a b, k, pe, S, X, W, c, tk, h => by
    simp only [mE, Bool.and_eq_true, Bool.or_eq_true, Bool.not_eq_true'] at h
    obtain ⟨h1, h2⟩ := h
    split at h2
    · rename_i x y r pos
      simp only [Bool.and_eq_true] at h2
      obtain ⟨h3, h4⟩ := h2
      have val : k ≠ .t → PE X (.BoolOp .Or (x :: y :: r) pos) (TV G W (pur a && pur b) (cOr (den Pg call a).e (den Pg call b).e)) := fun hk => by
        rw [if_neg hk] at h3
        have hp : isPl a = false ∧ isPl b = false := by
          rcases h1 with z | z
          · exact absurd (beq_iff_eq.mp z) hk
          · exact z
        have ja := ((okE a c tk h3).1 rfl).2.1 hp.1
        cases r with
        | nil =>
          rw [if_neg hk] at h4
          exact tv_or ja (pe_one (((okE b c tk h4).1 rfl).2.1 hp.2))
        | cons z zs =>
          simp only [Bool.and_eq_true] at h4
          rw [if_neg hk] at h4
          exact tv_or ja (((okE b c tk h4.2).1 rfl).2.1 hp.2)
      have tst : k = .t → PW X (.BoolOp .Or (x :: y :: r) pos) (TB G W (pur a && pur b) (tOrD (den Pg call a).t (den Pg call b).t)) := fun hk => by
        rw [if_pos hk] at h3
        have ja := ((okE a c tk h3).2.1 rfl).1
        cases r with
        | nil =>
          rw [if_pos hk] at h4
          exact tb_or ja (pw_or1 ((okE b c tk h4).2.1 rfl).1)
        | cons z zs =>
          simp only [Bool.and_eq_true] at h4
          rw [if_pos hk] at h4
          exact tb_or ja (((okE b c tk h4.2).2.1 rfl).2 _ _ _ rfl)
      refine ⟨fun hk => ⟨(fun z => nomatch z), (fun _ => val (by rw [hk]; exact fun z => nomatch z)), rfl⟩, fun hk => ⟨(tst hk).pt, fun _ _ _ z => tst hk⟩, fun hk tg _ => ti_plain c.hK (to_tmp (val (by rw [hk]; exact fun z => nomatch z)))⟩
    · cases h2
  | .not a, k, pe, S, X, W, c, tk, h => by
    simp only [mE, Bool.and_eq_true, Bool.or_eq_true, Bool.not_eq_true'] at h
    obtain ⟨h1, h2⟩ := h
    split at h2
    · rename_i x pos
      have val : k ≠ .t → PE X (.UnaryOp .Not x pos) (TV G W (pur a) (cNot (den Pg call a).e)) := fun hk => by
        rw [if_neg hk] at h2
        have hp : isPl a = false := by
          rcases h1 with z | z
          · exact absurd (beq_iff_eq.mp z) hk
          · exact z
        exact tv_not (((okE a c tk h2).1 rfl).2.1 hp)
      refine ⟨fun hk => ⟨(fun z => nomatch z), (fun _ => val (by rw [hk]; exact fun z => nomatch z)), rfl⟩, fun hk => ⟨?_, (fun _ _ _ z => nomatch z)⟩, fun hk tg _ => ti_plain c.hK (to_tmp (val (by rw [hk]; exact fun z => nomatch z)))⟩
      rw [if_pos hk] at h2
      exact tb_not ((okE a c tk h2).2.1 rfl).1
    · cases h2
  | .chain o1 o2 a b d, k, pe, S, X, W, c, tk, h => by
    simp only [mE, Bool.and_eq_true] at h
    obtain ⟨⟨h1, h2⟩, h3⟩ := h
    split at h3
    · rename_i x p1 p2 y z pos
      simp only [Bool.and_eq_true, decide_eq_true_eq] at h3
      obtain ⟨⟨⟨⟨⟨⟨h4, h5⟩, h6⟩, h7⟩, h8⟩, h9⟩, h10⟩ := h3
      have ja := ((okE a c tk h8).1 rfl).o
      have jb := ((okE b c tk h9).1 rfl).o
      have jd := ((okE d c tk h10).1 rfl).o
      have hm : lastMarks [p1, p2] [y, z] = false := marks_of h7
      have V := tv_chain (pos := pos) c.hK c.gok c.hu h4 h5 ja jb jd (stay_of h1) (stay_of h2) hm
      refine ⟨fun _ => ⟨(fun z => nomatch z), (fun _ => V), rfl⟩, (fun _ => ⟨?_, (fun _ _ _ z => nomatch z)⟩), fun _ tg _ => ti_plain c.hK (to_tmp V)⟩
      exact tb_chain (pos := pos) c.hK c.gok c.hu h4 h5 ja jb jd (stay_of h1) (stay_of h2) hm
    · cases h3
  | .tru a, k, pe, S, X, W, c, tk, h => by
    simp only [mE, Bool.and_eq_true] at h
    obtain ⟨⟨h1, h2⟩, h3⟩ := h
    have hk := beq_iff_eq.mp h1
    subst hk
    refine ⟨(fun z => nomatch z), (fun _ => ⟨tb_tru c.hK ((okE a c tk h3).1 rfl).o (tru_of h2), fun op vs p z => ?_⟩), (fun z => nomatch z)⟩
    rw [z] at h2
    cases h2
  | .call f es, k, pe, S, X, W, c, tk, h => by
    simp only [mE, Bool.and_eq_true] at h
    obtain ⟨h1, h2⟩ := h
    split at h2
    · rename_i x pn xs pos
      simp only [Bool.and_eq_true, decide_eq_true_eq] at h2
      obtain ⟨⟨⟨h3, h4⟩, h5⟩, h6⟩ := h2
      obtain ⟨g1, g2⟩ := c.gl h3
      obtain ⟨kk, ce, hr⟩ := c.fns x f h4
      refine J3.val rfl rfl rfl c.hK h1 ?_
      cases xs with
      | nil =>
        cases es with
        | nil => exact tv_call0 ce tk hr g1 g2
        | cons _ _ =>
          simp only [mOs, Bool.and_false] at h6
          cases h6
      | cons y ys =>
        simp only [plainEs, List.all_cons, Bool.and_eq_true] at h5
        exact tv_call ce tk hr g1 (okOs es c tk h6) g2 (star_cons h5.1) (star_no h5.2).1
    · cases h2
  | .callv fs i es, k, pe, S, X, W, c, tk, h => by
    simp only [mE, Bool.and_eq_true] at h
    obtain ⟨⟨h1, h2⟩, h3⟩ := h
    split at h3
    · simp only [Bool.and_eq_true] at h3
      obtain ⟨⟨h4, h5⟩, h6⟩ := h3
      simp only [plainEs, List.all_cons, Bool.and_eq_true] at h5
      refine J3.val rfl rfl rfl c.hK h1 (tv_callv (c.var h4) (fun f hf => c.fva f ?_) tk (okOs es c tk h6) (star_cons h5.1) (star_no h5.2).1)
      exact List.contains_iff_mem.mp (List.all_eq_true.mp h2 f hf)
    · cases h3
  | .mk cl es, k, pe, S, X, W, c, tk, h => by
    simp only [mE, Bool.and_eq_true] at h
    obtain ⟨h1, h2⟩ := h
    split at h2
    · rename_i x pn y ys pos
      simp only [Bool.and_eq_true, decide_eq_true_eq] at h2
      obtain ⟨⟨⟨h3, h4⟩, h5⟩, h6⟩ := h2
      obtain ⟨g1, g2⟩ := c.gl h3
      obtain ⟨kk, ce, kp, hr⟩ := c.cls x cl h4
      simp only [plainEs, List.all_cons, Bool.and_eq_true] at h5
      exact J3.val rfl rfl rfl c.hK h1 (tv_mk ce kp tk hr g1 (okOs es c tk h6) g2 (star_cons h5.1) (star_no h5.2).1)
    · cases h2
  | .mth m cl a es, k, pe, S, X, W, c, tk, h => by
    simp only [mE, Bool.and_eq_true] at h
    obtain ⟨⟨h1, h2⟩, h3⟩ := h
    split at h3
    · rename_i o n ap xs pos
      simp only [Bool.and_eq_true, decide_eq_true_eq] at h3
      obtain ⟨⟨⟨⟨⟨⟨⟨h4, h5⟩, h6⟩, h7⟩, h8⟩, h9⟩, h10⟩, h11⟩ := h3
      have ht := meth_ht (env := X.env) (m := n) (base_of h6) h8 h11 h10
      obtain ⟨kk, ce, hr, hm⟩ := c.mes cl n m h4
      obtain ⟨ns, hns⟩ := Option.isSome_iff_exists.mp h5
      obtain ⟨cok, _⟩ := c.fnm cl ns hns
      have jo := ((okE a c tk h7).1 rfl).o
      refine J3.val rfl rfl rfl c.hK h1 ?_
      cases xs with
      | nil =>
        cases es with
        | nil => exact tv_meth0 c.hK cok hm jo ce tk (hr.mono (by omega)) ht
        | cons _ _ =>
          simp only [mOs, Bool.and_false] at h9
          cases h9
      | cons y ys =>
        simp only [plainEs, List.all_cons, Bool.and_eq_true] at h8
        exact tv_meth c.hK cok hm jo ce tk (hr.mono (by omega)) (okOs es c tk h9) (stay_of h2) (star_cons h8.1) (star_no h8.2).1 ht
    · simp only [Bool.and_eq_true, decide_eq_true_eq] at h3
      obtain ⟨⟨⟨⟨h4, h5⟩, h6⟩, h7⟩, h8⟩ := h3
      obtain ⟨kk, ce, hr, hm⟩ := c.mes cl _ m h4
      have jo := ((okE a c tk h7).1 rfl).o
      refine J3.val rfl rfl rfl c.hK h1 ?_
      match es, h6, h8 with
      | .nil, h6, h8 => cases h8
      | .cons x .nil, h6, h8 =>
        simp only [mOs, Bool.and_eq_true] at h8
        simp only [purs, Bool.and_eq_true] at h6
        have jx := ((okE x c tk h8.2.1.2).1 rfl).o
        rw [h6.1] at jx
        exact tv_gi c.hK jo jx ce (fun g hg => c.gi cl _ h4 g hg) tk hr (own_of h5)
      | .cons x (.cons y ys), h6, h8 =>
        simp [mOs] at h8
    · cases h3
  | .mut l b a es, k, pe, S, X, W, c, tk, h => by
    simp only [mE, Bool.and_eq_true, Bool.or_eq_true, decide_eq_true_eq] at h
    obtain ⟨⟨⟨⟨h1, h2⟩, h3⟩, h4⟩, h5⟩ := h
    split at h5
    · rename_i o n ap xs cp
      simp only [Bool.and_eq_true, decide_eq_true_eq] at h5
      obtain ⟨⟨⟨⟨⟨⟨rfl, h6⟩, h7⟩, h8⟩, h9⟩, h10⟩, h11⟩ := h5
      have jo := ((okE a c tk h8).1 rfl).1 h2
      refine J3.val rfl rfl rfl c.hK h1 ?_
      cases xs with
      | nil =>
        cases es with
        | nil => exact tv_mut0 c.hK h4 jo (base_of h6) h7
        | cons _ _ =>
          simp only [mVs, Bool.and_false] at h11
          cases h11
      | cons y ys =>
        refine tv_mut c.hK h4 jo (okVs es c tk h11) ?_ (base_of h6) (few_of h9 (by rw [List.length_cons] at h10; omega)) h7 (star_cons ?_) (star_no ?_).1
        · rcases h3 with (z | z) | z
          · exact .inl z
          · exact .inr (.inl z)
          · exact .inr (.inr (ref_stay z).2)
        · simp only [plainEs, List.all_cons, Bool.and_eq_true] at h9
          exact h9.1
        · simp only [plainEs, List.all_cons, Bool.and_eq_true] at h9
          exact h9.2
    · cases h5
  | .comp x tg vs it cond, k, pe, S, X, W, c, tk, h => by
    simp only [mE, Bool.and_eq_true, Bool.not_eq_true'] at h
    obtain ⟨⟨h1, h2⟩, h3⟩ := h
    split at h3
    · rename_i elt t iter ifs scope pos
      simp only [Bool.and_eq_true] at h3
      obtain ⟨⟨⟨⟨⟨⟨h4, h5⟩, h6⟩, h7⟩, h8⟩, h9⟩, h10⟩ := h3
      have bk := blkOk_by h8
      have hv : (ownOf S vs).map (·.2) = vs := own_vs
      have cb := fun s H C cl fp => c.blk (scope := scope) bk.kind s H C cl fp
      have ji := (okE it c tk h6).2.2 rfl t (fun z => by
        rcases (Bool.or_eq_true _ _).mp h5 with y | y
        · rw [z] at y; cases y
        · cases t <;> first | exact ⟨_, _, _, rfl⟩ | cases y)
      have V := tv_comp (G := G) (W := W) (X := X) (pos := pos) (elt := elt) (ifs := ifs) (g := denG Pg call tg) (mt := (den Pg call cond).t) (mx := (den Pg call x).e) (mi := (den Pg call it).i) (p := false) (q := pur x) c.calm c.nd (okN_x (S := S.blk scope) h4) ji (by rw [c.N, c.sc]; exact bk)
        (fun s H C cl fp => okN tg (cb s H C cl fp) h4 (fun i hi => by rw [hv]; exact fun z => z hi))
        (fun s H C cl fp => by
          cases ifs with
          | nil =>
            have hy : cond = .lit (.bl true) := yes_of h10
            rw [hy]
            exact tb_yes
          | cons a r =>
            cases r with
            | nil => exact pts_one (TBw (fun z => nomatch z) ((okE cond (cb s H C cl fp) takes0 h10).2.1 rfl).1)
            | cons _ _ => cases h10)
        (fun s H C cl fp => ((okE x (cb s H C cl fp) takes0 h9).1 rfl).2.1 h2) (fun z => fold_of h7 z)
      rw [hv] at V
      exact J3.val rfl rfl rfl c.hK h1 (TVw (fun z => nomatch z) V)
    · cases h3
  | .itE a, k, pe, S, X, W, c, tk, h => by
    simp only [mE, Bool.and_eq_true] at h
    obtain ⟨h1, h2⟩ := h
    have hk := beq_iff_eq.mp h1
    subst hk
    split at h2
    · simp only [Bool.and_eq_true, decide_eq_true_eq] at h2
      obtain ⟨⟨⟨rfl, h3⟩, h4⟩, h5⟩ := h2
      obtain ⟨g1, g2, g3, g4⟩ := c.bl h3
      refine ⟨(fun z => nomatch z), (fun z => nomatch z), fun _ tg ht => ?_⟩
      obtain ⟨elts, kk, tp, rfl⟩ := ht rfl
      exact ti_enum c.hK g1 g3 ((okE a c tk h5).1 rfl).o (star_cons h4) (star_cons h4)
    · cases h2
  | .itR es, k, pe, S, X, W, c, tk, h => by
    simp only [mE, Bool.and_eq_true] at h
    obtain ⟨h1, h2⟩ := h
    have hk := beq_iff_eq.mp h1
    subst hk
    refine ⟨(fun z => nomatch z), (fun z => nomatch z), fun _ tg ht => ?_⟩
    split at h2
    · rename_i x pn xs pos
      simp only [Bool.and_eq_true, decide_eq_true_eq] at h2
      obtain ⟨⟨⟨⟨rfl, h3⟩, h4⟩, h5⟩, h6⟩ := h2
      obtain ⟨g1, g2, g3, g4⟩ := c.bl h3
      match es, xs, h4, h5, h6 with
      | .nil, [], h4, h5, h6 => simp at h5
      | .nil, _ :: _, h4, h5, h6 => simp [mVs] at h6
      | .cons a es, [], h4, h5, h6 => simp at h5
      | .cons a .nil, [y], h4, h5, h6 =>
        simp only [mVs, Bool.and_eq_true, Bool.not_eq_true'] at h6
        exact ti_rng1 g1 g3 (((okE a c tk h6.2.1.2).1 rfl).2.1 h6.1) (star_cons h6.2.1.1) (star_cons h6.2.1.1)
      | .cons a (.cons b es), [y], h4, h5, h6 => simp [mVs] at h6
      | .cons a .nil, y :: z :: zs, h4, h5, h6 => simp [mVs] at h6
      | .cons a (.cons b .nil), [y, z], h4, h5, h6 =>
        simp only [mVs, Bool.and_eq_true, Bool.not_eq_true'] at h6
        obtain ⟨h7, ⟨h8, h9⟩, h10, ⟨h11, h12⟩, _⟩ := h6
        exact ti_rng2 g1 g3 (((okE a c tk h9).1 rfl).2.1 h7) (((okE b c tk h12).1 rfl).2.1 h10) (by rw [star_cons h8, star_cons h11]; rfl) (star_cons h11) (star_cons h8) (star_cons h11)
      | .cons a (.cons b (.cons d es)), [y, z], h4, h5, h6 => simp [mVs] at h6
      | .cons a (.cons b es), y :: z :: w :: ws, h4, h5, h6 => simp at h5
    · cases h2
  | .itZ _ _, k, pe, S, X, W, c, tk, h => by cases h
  | .itRev a, k, pe, S, X, W, c, tk, h => by
    simp only [mE, Bool.and_eq_true] at h
    obtain ⟨h1, h2⟩ := h
    have hk := beq_iff_eq.mp h1
    subst hk
    split at h2
    · simp only [Bool.and_eq_true, decide_eq_true_eq] at h2
      obtain ⟨⟨⟨rfl, h3⟩, h4⟩, h5⟩ := h2
      obtain ⟨g1, g2, g3, g4⟩ := c.bl h3
      exact ⟨(fun z => nomatch z), (fun z => nomatch z), fun _ tg ht => ti_rev c.hK g1 g3 ((okE a c tk h5).1 rfl).o (star_cons h4)⟩
    · cases h2
  | .itK _, k, pe, S, X, W, c, tk, h => by cases h
  | .itI _, k, pe, S, X, W, c, tk, h => by cases h
  | .itV _, k, pe, S, X, W, c, tk, h => by cases h
theorem okVs : ∀ (es : Exs) {xs : List Expr} {S : SC} {X : Cx} {W : WX}, Ctx G Pg call S X → Takes X W → mVs S es xs = true → PA X xs (TL G W (purs es) (denEs Pg call es))
  | .nil, xs, S, X, W, c, tk, h => by
    cases xs with
    | nil => exact tl_nil
    | cons _ _ => cases h
  | .cons e es, xs, S, X, W, c, tk, h => by
    cases xs with
    | nil => simp only [mVs, Bool.and_false] at h; cases h
    | cons y ys =>
      simp only [mVs, Bool.and_eq_true, Bool.not_eq_true'] at h
      obtain ⟨h1, ⟨h2, h3⟩, h4⟩ := h
      exact tl_cons (((okE e c tk h3).1 rfl).2.1 h1) (okVs es c tk h4) (star_cons h2)
theorem okOs : ∀ (es : Exs) {xs : List Expr} {S : SC} {X : Cx} {W : WX}, Ctx G Pg call S X → Takes X W → mOs S es xs = true → PA X xs (TOs G W (purs es) (denOs Pg call es))
  | .nil, xs, S, X, W, c, tk, h => by
    cases xs with
    | nil => exact to_nil
    | cons _ _ => cases h
  | .cons e es, xs, S, X, W, c, tk, h => by
    cases xs with
    | nil => simp only [mOs, Bool.and_false] at h; cases h
    | cons y ys =>
      simp only [mOs, Bool.and_eq_true] at h
      obtain ⟨h1, ⟨h2, h3⟩, h4⟩ := h
      exact to_cons ((okE e c tk h3).1 rfl).o (okOs es c tk h4) (star_cons h2) (stay_of h1)
end
end
end Dn
end L2
set_option Elab.async false
set_option linter.all false
set_option maxRecDepth 100000
set_option maxHeartbeats 4000000
/-! The text that fits the small language means what its evaluator says: statements. -/
namespace L2
namespace Dn
open PySem PySem.Spec PyProof.Rows
def stHs : Hs → List Nat
  | .nil => [] | .cons _ i j _ hs => (match i with | some i => [i] | none => []) ++ (j :: stHs hs)
mutual
/-- the slots that are stored to -/
def stT : Tg → List Nat
  | .nm i => [i] | .tp ts => stTs ts | _ => []
def stTs : Tgs → List Nat
  | .nil => [] | .cons t ts => stT t ++ stTs ts
end
mutual
def stS : Sm → List Nat
  | .asg t _ => stT t | .ife _ a b => stSs a ++ stSs b | .whl _ b => stSs b | .for_ t _ b => stT t ++ stSs b
  | .try_ b hs => stSs b ++ stHs hs | _ => []
def stSs : Sms → List Nat
  | .nil => [] | .cons s ss => stS s ++ stSs ss
end
mutual
def mG (S : SC) : Tg → Expr → Bool
  | .nm i => fun e => match e with | .Name x _ => S.loc i x | _ => false
  | .tp ts => fun e => match e with | .Tuple es _ _ => plainEs es && decide (es.length = ts.len) && mGs S ts es | _ => false
  | .fld p c j => fun e => isPl p && match e with | .Attribute o n _ => mE S p .v o && S.fd c j n | _ => false
  | .ix p a => fun e => isPl p && !isPl a && (pur a || isRef p) && match e with | .Subscript o i _ => mE S p .v o && mE S a .v i && notSlice i | _ => false
def mGs (S : SC) : Tgs → List Expr → Bool
  | .nil => fun es => es.isEmpty
  | .cons t ts => fun es => match es with | y :: ys => plainE y && mG S t y && mGs S ts ys | [] => false
end
/-- the slots that may be lent by what is walked -/
def itL : Ex → List Nat
  | .ref i => [i] | .itE (.ref i) => [i] | .itRev (.ref i) => [i] | _ => []
def notName : Expr → Bool | .Name .. => false | _ => true
/-- a comprehension that is stored to a name behind its own end -/
def setOk (S : SC) (t : Tg) (a : Ex) (tg v : Expr) : Bool := match t, a, tg, v with
  | .nm i, .comp _ _ _ _ _, .Name x p, .ListComp _ [⟨_, _, _, 0⟩] scope q => decide (S.N[i]? = some x) && decide (S.sc.names.lookup x = some .local) && (p.line == q.line) && !(scope.names.any fun (n, k) => n == x && (k == .local || k == .cell)) && mE S a .v v
  | _, _, _, _ => false
/-- two names of locals, two values -/
def parOk (S : SC) (t : Tg) (a : Ex) (tg v : Expr) : Bool := match t, a, tg, v with
  | .tp (.cons (.nm i) (.cons (.nm j) .nil)), .tup (.cons x (.cons y .nil)), .Tuple [.Name n p, .Name m q] _ _, .Tuple [u, w] _ _ =>
    decide (S.N[i]? = some n) && decide (S.N[j]? = some m) && decide (i ≠ j) && decide (n ≠ m) && decide (S.sc.names.lookup n = some .local) && decide (S.sc.names.lookup m = some .local) && (p.line == q.line) && plainE u && plainE w &&
      !([u, w].all (foldedForSure 8)) && !([u, w].all (constantsAlone 8)) && !isPl x && !isPl y && mE S x .v u && mE S y .v w
  | _, _, _, _ => false
/-- a clause's suite: one name is stored to -/
def mHvF (S : SC) (c : Nat) (x : Str) (s : Nat) : Expr → Bool
  | .Attribute (.Name n _) f _ => S.vis s n && decide (S.exs.lookup x = some c) && decide (S.exf.lookup c = some f)
  | _ => false
def mHvL (d : D) : Expr → Bool
  | .Constant k _ _ => litOk d k
  | _ => false
def mHv (S : SC) (c : Nat) (x : Str) (i : Option Nat) (v : HV) (e : Expr) : Bool := match v with
  | .lit d => mHvL d e
  | .fld => match i with
    | some s => mHvF S c x s e
    | none => false
def mHn (S : SC) (j : Nat) : Option Nat → Option Str → Bool
  | none, none => true
  | some s, some n => decide (S.N[s]? = some n) && decide (S.sc.names.lookup n = some .local) && decide (s ≠ j)
  | _, _ => false
def mH (S : SC) : Hs → List ExceptHandler → Bool
  | .nil, l => l.isEmpty
  | .cons c i j v hs, .ExceptHandler (some (.Name x _)) nm [.Assign [.Name y _] e _] _ :: l => decide (S.exh.lookup x = some c) && S.gl x && S.loc j y && mHn S j i nm && mHv S c x i v e && mH S hs l
  | _, _ => false
mutual
def mS (S : SC) : Sm → Stmt → Bool
  | .asg t a => fun s => match s with
    | .Assign [tg] v pos => (!isPl a && mE S a .v v && mG S t tg && plainE tg && ((notComp v && (notTup tg || notTup v)) || (notName tg && notTup v))) || setOk S t a tg v || parOk S t a tg v
    | _ => false
  | .ex a => fun s => match s with | .Expr v _ => !isPl a && mE S a .v v && notComp v | _ => false
  | .ret a => fun s => match s with | .Return (some v) _ => !isPl a && mE S a .v v | _ => false
  | .ife t a b => fun s => match s with | .If c xs ys _ => mE S t .t c && mSs S a xs && mSs S b ys | _ => false
  | .whl t b => fun s => match s with | .While c xs [] _ => mE S t .t c && mSs S b xs | _ => false
  | .for_ t it b => fun s => match s with
    | .For tg iter xs [] _ => mN S (stT t) t tg && (!isEn it || isTupE tg) && mE S it .i iter && notSet iter && (itL it).all (fun i => !(stT t).contains i && !(stSs b).contains i) && mSs S b xs
    | _ => false
  | .brk => fun s => match s with | .Break _ => true | _ => false
  | .cnt => fun s => match s with | .Continue _ => true | _ => false
  | .pas => fun s => match s with | .Pass _ => true | _ => false
  | .rai c a => fun s => match s with
    | .Raise (some (.Call (.Name x _) [v] [] _)) none _ => !isPl a && mE S a .v v && S.gl x && decide (S.exs.lookup x = some c) && plainE v
    | _ => false
  | .try_ b hs => fun s => match s with | .Try body (h1 :: hl) [] [] _ => S.cok && mSs S b body && mH S hs (h1 :: hl) | _ => false
  | .delS _ _ _ => fun _ => false
def mSs (S : SC) : Sms → List Stmt → Bool
  | .nil => fun ss => ss.isEmpty
  | .cons s ss => fun xs => match xs with | y :: ys => mS S s y && mSs S ss ys | [] => false
end
section
variable {G : Gi} {Pg : Prog} {call : Call} {p q r : Bool} {W : WX} {X : Cx} {fx : Nat → Prop} {σ : St} {H : Hp}
theorem lent_in {e : Ex} {k : Md} {pe : Expr} {S : SC} : ∀ {en iv en1}, (den Pg call e).i en = .ok iv en1 → ∀ i d, iv.lent = some (i, d) → i ∈ itL e := by
  have wk : ∀ {lo : Bool} {o : OV} {en en' : Env} {ds : List D} {l : Option (Nat × D)}, walkO lo o en = some (ds, l, en') → ∀ i d, l = some (i, d) → o = .plc i [] := fun {lo o en en' ds l} h i d e => by
    subst e
    cases o with
    | tmp x =>
      simp only [walkO] at h
      split at h
      · cases h
      · split at h <;> cases h
      · cases h
    | plc n s =>
      simp only [walkO] at h
      split at h
      · cases h
      · split at h <;> cases h
      · split at h
        · rename_i hc
          cases h
          rw [Bool.and_eq_true] at hc
          rw [List.isEmpty_iff.mp hc.1]
        · cases h
      · cases h
  have walk : ∀ {lo : Bool} {o : M OV} {g : List D → List D} {en iv en1}, iWalk lo o g en = .ok iv en1 → ∀ i d, iv.lent = some (i, d) → ∃ en2, o en = .ok (.plc i []) en2 := fun {lo o g en iv en1} h i d e => by
    unfold iWalk at h
    cases e1 : o en with
    | ok ov en2 =>
      rw [e1] at h
      dsimp only at h
      cases e2 : walkO lo ov en2 with
      | none => rw [e2] at h; cases h
      | some r =>
        obtain ⟨ds, l, en3⟩ := r
        rw [e2] at h
        cases h
        rw [wk e2 i d e]
        exact ⟨en2, rfl⟩
    | exc _ _ => rw [e1] at h; cases h
    | stuck => rw [e1] at h; cases h
  have opl : ∀ {m : M (Nat × Path)} {en en2 : Env} {i : Nat}, oPlc m en = .ok (.plc i []) en2 → ∃ en3, m en = .ok (i, []) en3 := fun {m en en2 i} h => by
    unfold oPlc at h
    cases e1 : m en with
    | ok ip en3 =>
      obtain ⟨n, s⟩ := ip
      rw [e1] at h
      dsimp only at h
      split at h
      · cases h
      · cases h; exact ⟨_, rfl⟩
    | exc _ _ => rw [e1] at h; cases h
    | stuck => rw [e1] at h; cases h
  have otm : ∀ {m : M D} {en en2 : Env} {i : Nat}, oTmp m en = .ok (.plc i []) en2 → False := fun {m en en2 i} h => by
    unfold oTmp at h
    cases e1 : m en with
    | ok d en3 => rw [e1] at h; cases h
    | exc _ _ => rw [e1] at h; cases h
    | stuck => rw [e1] at h; cases h
  -- where a place without steps comes from
  have own : ∀ {x : Ex} {en en2 : Env} {i : Nat}, (den Pg call x).o en = .ok (.plc i []) en2 → x = .ref i := fun {x en en2 i} h => by
    cases hp : isPl x with
    | false =>
      cases hi : isIt x with
      | false => rw [(den_o2 hp hi).1] at h; exact (otm h).elim
      | true => cases x <;> first | (cases hi; done) | (have h : (R.stuck : R OV) = _ := h; cases h)
    | true =>
      rw [(den_o1 hp).1] at h
      obtain ⟨en3, h⟩ := opl h
      cases x <;> first | (cases hp; done) | skip
      · rename_i n _
        have h : pRef n en = .ok (i, []) en3 := h
        unfold pRef at h
        split at h
        · cases h
        · cases h; rfl
      · rename_i a c j _
        have h : pFld (den Pg call a).p c j en = .ok (i, []) en3 := h
        unfold pFld at h
        cases e1 : (den Pg call a).p en with
        | ok ip en4 =>
          obtain ⟨n, s⟩ := ip
          rw [e1] at h
          dsimp only at h
          split at h
          · split at h
            · simp at h
            · cases h
          · cases h
        | exc _ _ => rw [e1] at h; cases h
        | stuck => rw [e1] at h; cases h
      · rename_i a b _
        have h : pIx (den Pg call a).p (den Pg call b).e en = .ok (i, []) en3 := h
        unfold pIx at h
        cases e1 : (den Pg call a).p en with
        | ok ip en4 =>
          obtain ⟨n, s⟩ := ip
          rw [e1] at h
          dsimp only at h
          cases e2 : (den Pg call b).e en4 with
          | ok k en5 =>
            rw [e2] at h
            dsimp only at h
            split at h
            · split at h
              · simp at h
              · cases h
            · cases h
          | exc _ _ => rw [e2] at h; cases h
          | stuck => rw [e2] at h; cases h
        | exc _ _ => rw [e1] at h; cases h
        | stuck => rw [e1] at h; cases h
  intro en iv en1 h i d e1
  cases hi : isIt e with
  | false =>
    have h : iPlain (den Pg call e).o en = .ok iv en1 := by
      cases hp : isPl e with
      | true => rw [(den_o1 hp).1, ← (den_o1 hp).2]; exact h
      | false => rw [(den_o2 hp hi).1, ← (den_o2 hp hi).2]; exact h
    unfold iPlain at h
    cases e3 : (den Pg call e).o en with
    | exc _ _ => rw [e3] at h; cases h
    | stuck => rw [e3] at h; cases h
    | ok ov en2 =>
      rw [e3] at h
      dsimp only at h
      split at h
      · cases h
        cases e1
      · cases e2 : walkO false ov en2 with
        | none => rw [e2] at h; cases h
        | some r =>
          obtain ⟨ds, l, en3⟩ := r
          rw [e2] at h
          cases h
          rw [wk e2 i d e1] at e3
          rw [own e3]
          exact List.mem_singleton.mpr rfl
  | true =>
    cases e <;> first | (cases hi; done) | skip
    · obtain ⟨en2, h2⟩ := walk h i d e1
      rw [own h2]
      exact List.mem_singleton.mpr rfl
    · exfalso
      rename_i es
      have h : iRng (denEs Pg call es) en = .ok iv en1 := h
      unfold iRng at h
      split at h
      · split at h <;> cases h
        cases e1
      · split at h <;> cases h
        cases e1
      · cases h
      · cases h
      · cases h
    · have h : (R.stuck : R IV) = _ := h
      cases h
    · obtain ⟨en2, h2⟩ := walk h i d e1
      rw [own h2]
      exact List.mem_singleton.mpr rfl
    · have h : (R.stuck : R IV) = _ := h
      cases h
    · have h : (R.stuck : R IV) = _ := h
      cases h
    · have h : (R.stuck : R IV) = _ := h
      cases h
end
end Dn
end L2
set_option Elab.async false
set_option linter.all false
set_option maxRecDepth 100000
set_option maxHeartbeats 4000000
/-! try: clauses whose suite stores a literal or the exception's field. -/
namespace L2
namespace Dn
open PySem PySem.Spec PyProof.Rows
section
variable {G : Gi} {Pg : Prog} {call : Call} {W : WX} {X : Cx} {fx : Nat → Prop} {σ : St} {F H : Hp} {S : SC} {fp : List Addr}
/-- a slot gets what is frozen, or nothing -/
theorem Fr.put {en : Env} {o2 : Option V} {d2 : D} {i : Nat} (fr : Fr0 G F H σ en fp) (h : RepO G F H o2 d2 []) : ∃ fp2, Fr0 G F H (σ.set i o2) (en.set i d2) fp2 ∧ Step false F H fp F H fp2 := by
  obtain ⟨re, rl, nd, nf, fh⟩ := fr
  by_cases hi : i < en.length
  · obtain ⟨o', g, rest, k1, k2, k3, k4⟩ := re.at hi
    obtain ⟨fp2, w1, w2⟩ := k4 F H o2 d2 [] (Same.refl F) (fun _ _ => rfl) h
    rw [List.nil_append] at w1
    have hm : ∀ b ∈ fp2, b ∈ fp := fun b hb => k3.mem_iff.mpr (List.mem_append_right _ (w1.mem_iff.mp hb))
    have nd2 : fp2.Nodup := w1.nodup_iff.mpr (List.nodup_append.mp (k3.nodup_iff.mp nd)).2.1
    exact ⟨fp2, ⟨w2, .nil, nd2, fun b hb => nf b (hm b hb), fh⟩, Step.refl.weak (fun _ z => z) (fun b hb => .inl (hm b hb)) fun z => nomatch z⟩
  · have e1 : en.set i d2 = en := List.set_eq_of_length_le (by omega)
    have e2 : σ.set i o2 = σ := List.set_eq_of_length_le (by rw [re.len]; omega)
    rw [e1, e2]
    exact ⟨fp, ⟨re, .nil, nd, nf, fh⟩, Step.refl.any fun z => nomatch z⟩
theorem lit_c {d : D} {c : Const} {n : Nat} {pos : Pos} (h : litOk d c = true) : ∃ v, (∀ Y : Cx, PE Y (.Constant c n pos) (tC v)) ∧ ∀ F, Fz G F v d := by
  unfold litOk at h
  split at h
  · exact ⟨_, fun Y => pe_non, fun _ => .non⟩
  · have h := beq_iff_eq.mp h
    subst h
    exact ⟨_, fun Y => pe_bl, fun _ => .bl _⟩
  · have h := of_decide_eq_true h
    subst h
    exact ⟨_, fun Y => pe_int, fun _ => .int _⟩
  · have h := of_decide_eq_true h
    subst h
    exact ⟨_, fun Y => pe_str, fun _ => .str _⟩
  · cases h
/-- what a suite needs -/
def tHv (C : Addr) (f : Str) (v : V) (s j : Nat) : HV → Addr → Value → Option Addr → TS
  | .lit _, _, _, _ => tAsg (tC v) (gName j)
  | .fld, a, cls, d => tAsg (tXf a cls d C f (tVar s)) (gName j)
theorem okH : ∀ (hs : Hs) (hl : List ExceptHandler), Ctx G Pg call S X → mH S hs hl = true → (∀ i ∈ stHs hs, ¬ fx i) → ∃ l, Fc.Cls2 X hl l ∧
    ∀ (E : Ends) (σ : St) (F H : Hp) (fp : List Addr) (x : Dn.X) (e1 : Env) (cls : Value) (dx : Option Addr), Fr0 G F H σ e1 fp → XR G F H x cls dx → Aft2 G W fx σ F H fp E (denH Pg hs x e1) → Fc.wCl X.K W E l cls dx σ H
  | .nil, hl, c, h, hf => by
    cases hl with
    | nil =>
      refine ⟨[], .nil, fun E σ F H fp x e1 cls dx fr xr h => ?_⟩
      exact h F H σ fp cls dx (Step.refl.any fun z => nomatch z) fr Agree.refl xr
    | cons _ _ => cases h
  | .cons c0 i j v hs, hl, c, h, hf => by
    unfold mH at h
    split at h
    · rename_i a b
      first | (cases a; done) | (cases b; done) | contradiction
    · rename_i c0' i' j' v' hs' x px nm y py e pe ph l heq
      cases heq
      simp only [Bool.and_eq_true, decide_eq_true_eq] at h
      obtain ⟨⟨⟨⟨⟨h1, h2⟩, h3⟩, h4⟩, h5⟩, h6⟩ := h
      obtain ⟨g1, g2⟩ := c.gl h2
      obtain ⟨m1, m2⟩ := c.exh x c0 h1
      obtain ⟨y1, y2, y3⟩ := c.loc h3
      have hj : ¬ fx j := hf j (List.mem_append_right _ List.mem_cons_self)
      obtain ⟨l2, L2, k2⟩ := okH hs l c h6 fun q hq => hf q (List.mem_append_right _ (List.mem_cons_of_mem _ hq))
      have nmx : Names X x (.ref (G.cls c0)) := ⟨g1, g2, .inl m1⟩
      -- what the suite's text needs
      have suite : ∃ (f : Str) (vv : V) (s : Nat), (∀ (a : Addr) (oe : Obj) (cls : Value) (d : Option Addr) (pn : List (Addr × Obj)), Zc cls d oe → (∃ vs, oe.data = .fields vs) → PSs (X.suite a ((a, oe) :: pn)) [.Assign [.Name y py] e pe] (tHv (G.cls c0) f vv s j v a cls d)) ∧
          (∀ d, v = .lit d → ∀ F, Fz G F vv d) ∧ (v = .fld → i = some s ∧ G.fnm c0 = [f]) := by
        cases v with
        | lit d =>
          have h5 : mHvL d e = true := h5
          unfold mHvL at h5
          split at h5
          · obtain ⟨vv, p1, p2⟩ := lit_c (G := G) h5
            exact ⟨"", vv, 0, fun a oe cls d pn hz hd => pss_one (ps_set c.nd y1 y2 (p1 _) rfl y3), fun d' hd' => (by cases hd'; exact p2), fun z => (by cases z)⟩
          · cases h5
        | fld =>
          cases i with
          | none => cases h5
          | some s =>
            have h5 : mHvF S c0 x s e = true := h5
            unfold mHvF at h5
            split at h5
            · rename_i n pn f pf _
              simp only [Bool.and_eq_true, decide_eq_true_eq] at h5
              obtain ⟨⟨v1, v2⟩, v3⟩ := h5
              obtain ⟨k, fI, fd, ps, fn, a1, a2, _⟩ := (c.exs x c0 v2).ex
              have ef := c.exf c0 _ v3
              have hfn : fn = f := by
                rw [ef] at a2
                cases a2
                rfl
              subst hfn
              unfold SC.vis at v1
              simp only [Bool.and_eq_true, decide_eq_true_eq] at v1
              have vis := isVis_vis v1.1.2
              rw [← c.sc] at vis
              have nd := v1.2
              unfold notDbg at nd
              simp only [Bool.and_eq_true, Bool.not_eq_true'] at nd
              exact ⟨fn, .non, s, fun a oe cls d pn hz hd => pss_one (ps_set c.nd y1 y2 (pe_xf a1.xf a1.nf hz hd (pe_var (by rw [c.N]; exact v1.1.1) vis nd.1 nd.2)) rfl y3), fun d' hd' => (by cases hd'), fun _ => ⟨rfl, ef⟩⟩
            · cases h5
      obtain ⟨f, vv, s, hsu, hv1, hv2⟩ := suite
      cases i with
      | none =>
        cases nm with
        | some _ => cases h4
        | none =>
          refine ⟨(.ref (G.cls c0), none, tHv (G.cls c0) f vv s j v) :: l2, .bare nmx hsu L2, fun E σ F H fp x e1 cls dx fr xr h => ?_⟩
          obtain ⟨dd, f0, v0, q1, q2, q3, q4, q5⟩ := xr.ex
          unfold denH at h
          split at h
          · rename_i hsub
            refine ⟨true, by rw [q1]; exact m2 _ _ hsub, fun _ a na => ?_, fun z => nomatch z⟩
            cases v with
            | lit d =>
              obtain ⟨fp2, fr2, st2⟩ := fr.put (i := j) (o2 := some vv) (d2 := d) (.some (.fz (hv1 d rfl F)))
              exact h F H _ fp2 st2 fr2 (Agree.set hj)
            | fld => exact absurd (hv2 rfl).1 (by simp)
          · rename_i hsub
            exact ⟨false, by rw [q1]; exact m2 _ _ hsub, fun z => (nomatch z), fun _ => k2 E σ F H fp x e1 cls dx fr xr h⟩
          · exact h.elim
      | some s0 =>
        cases nm with
        | none => cases h4
        | some n =>
          simp only [mHn, Bool.and_eq_true, decide_eq_true_eq] at h4
          obtain ⟨⟨n1, n2⟩, n3⟩ := h4
          have hs0 : ¬ fx s0 := hf s0 (List.mem_append_left _ List.mem_cons_self)
          have kn : X.env.kindOf n = some .local := by
            show X.env.scope.names.lookup n = _
            rw [c.sc]
            exact n2
          refine ⟨(.ref (G.cls c0), some s0, tHv (G.cls c0) f vv s j v) :: l2, .named nmx (by rw [c.N]; exact n1) kn hsu L2, fun E σ F H fp x e1 cls dx fr xr h => ?_⟩
          obtain ⟨dd, f0, v0, q1, q2, q3, q4, q5⟩ := xr.ex
          unfold denH at h
          split at h
          · rename_i hsub
            refine ⟨true, by rw [q1]; exact m2 _ _ hsub, fun _ a na => ?_, fun z => nomatch z⟩
            -- behind the suite
            have done : ∀ (w : V) (d : D), Fz G F w d → Aft2 G W fx σ F H fp E (.nxt ((e1.set s0 .no).set j d)) → E.nx (((σ.set s0 (some (.ref a))).set j (some w)).set s0 none) H := fun w d fz h => by
              obtain ⟨fp1, fr1, st1⟩ := fr.put (i := s0) (o2 := none) (d2 := .no) .none
              obtain ⟨fp2, fr2, st2⟩ := fr1.put (i := j) (o2 := some w) (d2 := d) (.some (.fz fz))
              have e : ((σ.set s0 (some (.ref a))).set j (some w)).set s0 none = (σ.set s0 none).set j (some w) := by
                have z := List.set_comm (some w) none (l := σ.set s0 (some (.ref a))) (Ne.symm n3)
                rw [z, List.set_set]
              rw [e]
              exact h F H _ fp2 ((st1.trans st2).any fun z => nomatch z) fr2 ((Agree.set hs0).trans (Agree.set hj))
            cases v with
            | lit d => exact done vv d (hv1 d rfl F) h
            | fld =>
              obtain ⟨w1, w2⟩ := hv2 rfl
              have w1 := Option.some.inj w1
              subst w1
              dsimp only at h
              split at h
              · rename_i hx
                have hlen : s0 < σ.length := by rw [fr.re.len]; exact hx.2
                refine ⟨.ref a, by rw [List.getElem?_set_self hlen], rfl, by rw [q1, hx.1], dd, _, v0, q2, q3, ?_, done v0 x.val q5 h⟩
                rw [hx.1, w2] at q4
                cases q4
                simp
              · exact h.elim
          · rename_i hsub
            exact ⟨false, by rw [q1]; exact m2 _ _ hsub, fun z => (nomatch z), fun _ => k2 E σ F H fp x e1 cls dx fr xr h⟩
          · exact h.elim
    · cases h
theorem ts_try {b : Sms} {hs : Hs} {body : List Stmt} {h1 : ExceptHandler} {hl : List ExceptHandler} {pos : Pos} (c : Ctx G Pg call S X) (ck : S.cok = true) (tk : Takes X W)
    (hb : ∀ (W2 : WX) (pn : List (Addr × Obj)) (xe : Value → Shared → Prop), Takes (X.tr pn xe) W2 → PassesOwn (model X.prog X.w) X.A X.env xe → PSs (X.tr pn xe) body (TSd G W2 fx (denSs Pg call b)))
    (h : mH S hs (h1 :: hl) = true) (hf : ∀ i ∈ stHs hs, ¬ fx i) : PS X (.Try body (h1 :: hl) [] [] pos) (TSd G W fx (sTry (denSs Pg call b) (denH Pg hs))) := by
  obtain ⟨l, hL, k⟩ := okH (W := W) hs (h1 :: hl) c h hf
  refine (Fc.ps_try2 (tb := fun W2 => TSd G W2 fx (denSs Pg call b)) ?_ ?_ c.nd tk hb hL).imp fun E σ H z => ?_
  · exact (c.stk ck).1
  · exact (c.stk ck).2
  · obtain ⟨F, en, fp, fr, z⟩ := z
    refine ⟨F, en, fp, fr, ?_⟩
    unfold sTry at z
    cases e1 : denSs Pg call b en with
    | nxt e => rw [e1] at z; exact z
    | brk e => rw [e1] at z; exact z
    | cnt e => rw [e1] at z; exact z
    | ret d e => rw [e1] at z; exact z
    | stuck => rw [e1] at z; exact z
    | exc x e =>
      rw [e1] at z
      exact fun F' H' σ' fp' cls dx st fr2 ag xr => k E σ' F' H' fp' x e cls dx fr2 xr (Aft2.step z st ag)
end
end Dn
end L2
set_option Elab.async false
set_option linter.all false
set_option maxRecDepth 100000
set_option maxHeartbeats 4000000
/-! The text that fits the small language means what its evaluator says: all statements. -/
namespace L2
namespace Dn
open PySem PySem.Spec PyProof.Rows
section
variable {G : Gi} {Pg : Prog} {call : Call} {p q r : Bool} {W : WX} {X : Cx} {fx : Nat → Prop} {σ : St} {H : Hp} {S : SC}
mutual
theorem okG : ∀ (t : Tg) {e : Expr} {S : SC} {X : Cx} {W : WX} {fx : Nat → Prop}, Ctx G Pg call S X → Takes X W → mG S t e = true → (∀ i ∈ stT t, ¬ fx i) → PG X e (TGd G W fx (denG Pg call t))
  | .nm i, e, S, X, W, fx, c, tk, h, hf => by
    simp only [mG] at h
    split at h
    · obtain ⟨a, b, d⟩ := c.loc h
      exact tg_name c.nd a b d (hf i (List.mem_singleton.mpr rfl))
    · cases h
  | .tp ts, e, S, X, W, fx, c, tk, h, hf => by
    simp only [mG] at h
    split at h
    · simp only [Bool.and_eq_true, decide_eq_true_eq] at h
      obtain ⟨a, b⟩ := each_no (env := X.env) h.1.1
      exact tg_tup c.hK c.calm (okGs ts c tk h.2 hf) (by rw [a]; exact h.1.2) b
    · cases h
  | .fld a cl j, e, S, X, W, fx, c, tk, h, hf => by
    simp only [mG, Bool.and_eq_true] at h
    obtain ⟨h1, h2⟩ := h
    split at h2
    · simp only [Bool.and_eq_true] at h2
      obtain ⟨ok, hn⟩ := c.fd h2.2
      exact tg_fld (((okE a c tk h2.1).1 rfl).1 h1) c.hK ok hn
    · cases h2
  | .ix a b, e, S, X, W, fx, c, tk, h, hf => by
    simp only [mG, Bool.and_eq_true, Bool.not_eq_true'] at h
    obtain ⟨⟨⟨h1, h2⟩, h3⟩, h4⟩ := h
    split at h4
    · simp only [Bool.and_eq_true] at h4
      refine tg_ix c.hK (((okE a c tk h4.1.1).1 rfl).1 h1) (((okE b c tk h4.1.2).1 rfl).2.1 h2) ?_ (by have := c.hu; omega) (sub_of h4.2)
      rcases (Bool.or_eq_true _ _).mp h3 with z | z
      · exact .inl z
      · exact .inr (ref_stay z).2
    · cases h4
theorem okGs : ∀ (ts : Tgs) {es : List Expr} {S : SC} {X : Cx} {W : WX} {fx : Nat → Prop}, Ctx G Pg call S X → Takes X W → mGs S ts es = true → (∀ i ∈ stTs ts, ¬ fx i) → PGs X es (TGsd G W fx (denGs Pg call ts))
  | .nil, es, S, X, W, fx, c, tk, h, hf => by
    cases es with
    | nil => exact tgs_nil
    | cons _ _ => cases h
  | .cons t ts, es, S, X, W, fx, c, tk, h, hf => by
    cases es with
    | nil => cases h
    | cons y ys =>
      simp only [mGs, Bool.and_eq_true] at h
      exact tgs_cons (okG t c tk h.1.2 fun i hi => hf i (List.mem_append_left _ hi)) (okGs ts c tk h.2 fun i hi => hf i (List.mem_append_right _ hi)) (each_cons h.1.1).1
end
theorem swap_no {env : PySem.Env} {e t : Expr} {l : Nat} (h : notName t = true) : swapsWith e (some t) l env = pure false := by
  cases e <;> first | rfl | skip
  all_goals cases t <;> first | rfl | cases h
theorem par_read {i j : Nat} {ms : M (List D)} {E : Ends} (hi : ¬ fx i) (hj : ¬ fx j) (h : TSd G W fx (sAsg (cTup ms) (gTup_ 2 (gsCons (gName_ i) (gsCons (gName_ j) gsNil)))) E σ H) : tPar i j (TL G W p ms) E σ H := by
  obtain ⟨F, en, fp, fr, h⟩ := h
  refine ⟨F, en, fp, fr, ?_⟩
  unfold sAsg cTup at h
  cases e1 : ms en with
  | exc x en1 => rw [e1] at h; exact ExcS.exc h
  | stuck => rw [e1] at h; exact h
  | ok ds en1 =>
    rw [e1] at h
    dsimp only at h
    refine fun F1 H1 vs fp1 f1 s1 fr1 => ?_
    split at h
    · rename_i d en2 e2
      split at e2
      case isFalse => cases e2
      cases e2
      unfold gTup_ at h
      dsimp only at h
      by_cases hl : ds.length = 2
      · rw [if_pos hl] at h
        obtain ⟨d1, d2, rfl⟩ : ∃ a b, ds = [a, b] := match ds, hl with
          | [a, b], _ => ⟨a, b, rfl⟩
        obtain ⟨v, w, rfl⟩ : ∃ a b, vs = [a, b] := match vs, fr1.rl.len with
          | [a, b], _ => ⟨a, b, rfl⟩
        refine ⟨v, w, rfl, ?_⟩
        have h : Nx G fx σ F H fp E.nx ((en1.set i d1).set j d2) := h
        show gName i v σ H1 fun σ' H' => gName j w σ' H' E.nx
        refine gname_read (G := G) (W := W) hi ⟨F1, en1, fp1, f1, [w], [d2], d1, fr1, ?_⟩
        show ∀ F' H' σ' fp' f', Step false F1 H1 (f1 ++ fp1) F' H' (f' ++ fp') → Fr G F' H' σ' (en1.set i d1) [w] [d2] fp' f' → Agree fx σ σ' → gName j w σ' H' E.nx
        refine fun F2 H2 σ2 fp2 f2 s2 fr2 ag2 => gname_read (G := G) (W := W) hj ⟨F2, _, fp2, f2, [], [], d2, fr2, ?_⟩
        show ∀ F' H' σ' fp' f', Step false F2 H2 (f2 ++ fp2) F' H' (f' ++ fp') → Fr G F' H' σ' ((en1.set i d1).set j d2) [] [] fp' f' → Agree fx σ2 σ' → E.nx σ' H'
        refine fun F3 H3 σ3 fp3 f3 s3 fr3 ag3 => ?_
        obtain ⟨re, rl, nd, nf, fh⟩ := fr3
        cases rl
        exact h F3 H3 σ3 fp3 (((s1.trans s2).trans s3).any (q := false) (fun z => nomatch z)) ⟨re, .nil, nd, nf, fh⟩ (ag2.trans ag3)
      · rw [if_neg hl] at h
        exact h.elim
    · rename_i x en2 e2
      split at e2 <;> cases e2
    · rename_i e2
      exact h.elim
theorem par_sw {env : PySem.Env} {n m : Str} {pp pq ptt : Pos} {u w : Expr} {kt k2 : Nat} {pt2 : Pos} (hk : env.scope.kind = .function) (hn : env.scope.names.lookup n = some .local) (hm : env.scope.names.lookup m = some .local) (hne : n ≠ m) (hl : (pp.line == pq.line) = true) (hu : plainE u = true) (hw : plainE w = true)
    (h1 : [u, w].all (foldedForSure 8) = false) (h2 : [u, w].all (constantsAlone 8) = false) : swappedStores [.Tuple [.Name n pp, .Name m pq] kt ptt] (.Tuple [u, w] k2 pt2) env = pure (some [n, m]) := by
  have kn : env.kindOf n = some .local := hn
  have km : env.kindOf m = some .local := hm
  have hb : env.blockKind = .function := by unfold Env.blockKind; rw [hk]; rfl
  have hl' : (pq.line == pp.line) = true := by rw [beq_iff_eq] at hl ⊢; exact hl.symm
  have ed : ([n, m] : List Str).eraseDups.length = 2 := by
    simp [List.eraseDups_cons, hne, Ne.symm hne]
  unfold swappedStores
  simp only [hb, h1, h2, kn, km, Expr.pos, hl', List.filterMap, List.head?, Option.map, Option.getD, List.length, ed]
  simp
  rw [if_neg (by
    intro z
    rcases z with z | z
    · cases u <;> first | (cases hu; done) | exact absurd z Bool.false_ne_true
    · cases w <;> first | (cases hw; done) | exact absurd z Bool.false_ne_true), if_pos ed]
/-- the pieces of a comprehension -/
theorem comp_pieces {x : Ex} {tg : Tg} {vs : List Nat} {it cond : Ex} {elt t iter : Expr} {ifs : List Expr} {scope : Scope} {pos : Pos} (c : Ctx G Pg call S X) (tk : Takes X W) (h : mE S (.comp x tg vs it cond) .v (.ListComp elt [⟨t, iter, ifs, 0⟩] scope pos) = true) :
    (∀ d en x en1, denG Pg call tg d en ≠ .exc x en1) ∧ PI X t iter (TId G W (den Pg call it).i) ∧ BlkOk X.N X.env.scope scope (ownOf S vs) ∧
    (∀ (s : Shared) (H : Hp) (C : Addr) (cl : List (Str × Addr)) (fp : List Addr), PG (X.blk s H scope (compEnvC scope cl C X.env) fp) t (TGd G WF (fun i => i ∉ (ownOf S vs).map (·.2)) (denG Pg call tg))) ∧
    (∀ (s : Shared) (H : Hp) (C : Addr) (cl : List (Str × Addr)) (fp : List Addr), PTs (X.blk s H scope (compEnvC scope cl C X.env) fp) ifs (TB G WF false (den Pg call cond).t)) ∧
    (∀ (s : Shared) (H : Hp) (C : Addr) (cl : List (Str × Addr)) (fp : List Addr), PE (X.blk s H scope (compEnvC scope cl C X.env) fp) elt (TV G WF (pur x) (den Pg call x).e)) ∧ ∀ z, foldedSetIterable iter X.env z = pure z := by
  simp only [mE, Bool.and_eq_true, Bool.not_eq_true'] at h
  obtain ⟨⟨h1, h2⟩, ⟨⟨⟨⟨⟨⟨h4, h5⟩, h6⟩, h7⟩, h8⟩, h9⟩, h10⟩⟩ := h
  have bk := blkOk_by h8
  have hv : (ownOf S vs).map (·.2) = vs := own_vs
  have cb := fun s H C cl fp => c.blk (scope := scope) bk.kind s H C cl fp
  have ji := (okE it c tk h6).2.2 rfl t (fun z => by
    rcases (Bool.or_eq_true _ _).mp h5 with y | y
    · rw [z] at y; cases y
    · cases t <;> first | exact ⟨_, _, _, rfl⟩ | cases y)
  refine ⟨okN_x (S := S.blk scope) h4, ji, by rw [c.N, c.sc]; exact bk, fun s H C cl fp => okN tg (cb s H C cl fp) h4 (fun i hi => by rw [hv]; exact fun z => z hi), fun s H C cl fp => ?_, fun s H C cl fp => ((okE x (cb s H C cl fp) takes0 h9).1 rfl).2.1 h2, fun z => fold_of h7 z⟩
  cases ifs with
  | nil =>
    have hy : cond = .lit (.bl true) := yes_of h10
    rw [hy]
    exact tb_yes
  | cons a r =>
    cases r with
    | nil => exact pts_one (TBw (fun z => nomatch z) ((okE cond (cb s H C cl fp) takes0 h10).2.1 rfl).1)
    | cons _ _ => cases h10
mutual
theorem okS : ∀ (s : Sm) {st : Stmt} {S : SC} {X : Cx} {W : WX} {fx : Nat → Prop}, Ctx G Pg call S X → Takes X W → PassesOwn (model X.prog X.w) X.A X.env X.xe → mS S s st = true → (∀ i ∈ stS s, ¬ fx i) → PS X st (TSd G W fx (denS Pg call s))
  | .asg t a, st, S, X, W, fx, c, tk, hp, h, hf => by
    simp only [mS] at h
    split at h
    · rename_i tg v pos
      simp only [Bool.or_eq_true] at h
      rcases h with (h | h) | h
      · simp only [Bool.and_eq_true, Bool.or_eq_true, Bool.not_eq_true'] at h
        obtain ⟨⟨⟨⟨h1, h2⟩, h3⟩, h4⟩, h5⟩ := h
        have V := ((okE a c tk h2).1 rfl).2.1 h1
        rcases h5 with ⟨h5, h6⟩ | ⟨h5, h6⟩
        · exact ts_asg V (okG t c tk h3 hf) (sole_of h5) (stores_of (by simpa using h6)) (each_of h4)
        · exact ts_asg V (okG t c tk h3 hf) (swap_no h5) (stores_of (by simp [h6])) (each_of h4)
      · unfold setOk at h
        split at h
        · simp only [Bool.and_eq_true, decide_eq_true_eq, Bool.not_eq_true'] at h
          obtain ⟨⟨⟨⟨h1, h2⟩, h3⟩, h4⟩, h5⟩ := h
          obtain ⟨g1, g2, g3, g4, g5, g6, g7⟩ := comp_pieces c tk h5
          have Z := fun sp => ts_setc (G := G) (W := W) (fx := fx) (spos := sp) c.calm c.nd (by rw [c.N]; exact h1) (by rw [c.sc]; exact h2) (hf _ (List.mem_singleton.mpr rfl)) (sw_true (by rw [c.sc]; exact c.kind) (by rw [c.sc]; exact h2) h3 h4) g1 g2 g3 g4 g5 g6 g7
          simp only [own_vs] at Z
          exact Z _
        · cases h
      · unfold parOk at h
        split at h
        · simp only [Bool.and_eq_true, decide_eq_true_eq, Bool.not_eq_true'] at h
          obtain ⟨⟨⟨⟨⟨⟨⟨⟨⟨⟨⟨⟨⟨⟨h1, h2⟩, h3⟩, h4⟩, h5⟩, h6⟩, h7⟩, h8⟩, h9⟩, h10⟩, h11⟩, h12⟩, h13⟩, h14⟩, h15⟩ := h
          have hx := h5
          have hy := h6
          rw [← c.sc] at hx hy
          refine (ps_par c.calm c.nd (by rw [c.N]; exact h1) (by rw [c.N]; exact h2) h3 hx hy (tl_cons (((okE _ c tk h14).1 rfl).2.1 h12) (tl_cons (((okE _ c tk h15).1 rfl).2.1 h13) tl_nil (star_cons h9)) (star_cons h8))
            (par_sw (by rw [c.sc]; exact c.kind) hx hy h4 h7 h8 h9 h10 h11) rfl).imp fun E σ H z => par_read (hf _ List.mem_cons_self) (hf _ (List.mem_cons_of_mem _ List.mem_cons_self)) z
        · cases h
    · cases h
  | .ex a, st, S, X, W, fx, c, tk, hp, h, hf => by
    simp only [mS] at h
    split at h
    · simp only [Bool.and_eq_true, Bool.not_eq_true'] at h
      exact ts_ex (((okE a c tk h.1.2).1 rfl).2.1 h.1.1) (swap_of h.2)
    · cases h
  | .ret a, st, S, X, W, fx, c, tk, hp, h, hf => by
    simp only [mS] at h
    split at h
    · simp only [Bool.and_eq_true, Bool.not_eq_true'] at h
      exact ts_ret (((okE a c tk h.2).1 rfl).2.1 h.1)
    · cases h
  | .ife t a b, st, S, X, W, fx, c, tk, hp, h, hf => by
    simp only [mS] at h
    split at h
    · simp only [Bool.and_eq_true] at h
      exact ts_if ((okE t c tk h.1.1).2.1 rfl).1 (okSs a c tk hp h.1.2 fun i hi => hf i (List.mem_append_left _ hi)) (okSs b c tk hp h.2 fun i hi => hf i (List.mem_append_right _ hi))
    · cases h
  | .whl t b, st, S, X, W, fx, c, tk, hp, h, hf => by
    simp only [mS] at h
    split at h
    · simp only [Bool.and_eq_true] at h
      exact ts_whl hp ((okE t c tk h.1).2.1 rfl).1 (okSs b c tk hp h.2 hf)
    · cases h
  | .for_ t it b, st, S, X, W, fx, c, tk, hp, h, hf => by
    simp only [mS] at h
    split at h
    · rename_i tg iter xs pos
      simp only [Bool.and_eq_true, List.all_eq_true, Bool.not_eq_true'] at h
      obtain ⟨⟨⟨⟨⟨h1, h2⟩, h3⟩, h4⟩, h5⟩, h6⟩ := h
      have nf : ∀ {l : List Nat}, (∀ i ∈ l, ¬ fx i) → (∀ i ∈ itL it, l.contains i = false) → ∀ i ∈ l, ¬ orL (itL it) fx i := fun {l} a b i hi z => by
        rcases z with z | z
        · have := b i z
          rw [List.contains_iff_mem.mpr hi] at this
          cases this
        · exact a i hi z
      refine ts_for (L := itL it) hp c.calm ((okE it c tk h3).2.2 rfl tg fun z => ?_) (okN t c h1 (nf (fun i hi => hf i (List.mem_append_left _ hi)) fun i hi => (h5 i hi).1)) (okSs b c tk hp h6 (nf (fun i hi => hf i (List.mem_append_right _ hi)) fun i hi => (h5 i hi).2)) (okN_x h1) (fun en iv en1 => lent_in (k := .i) (pe := iter) (S := S)) (fun z => fold_of h4 z)
      rcases (Bool.or_eq_true _ _).mp h2 with y | y
      · rw [z] at y; cases y
      · cases tg <;> first | exact ⟨_, _, _, rfl⟩ | cases y
    · cases h
  | .brk, st, S, X, W, fx, c, tk, hp, h, hf => by
    simp only [mS] at h
    split at h
    · exact ts_brk
    · cases h
  | .cnt, st, S, X, W, fx, c, tk, hp, h, hf => by
    simp only [mS] at h
    split at h
    · exact ts_cnt
    · cases h
  | .pas, st, S, X, W, fx, c, tk, hp, h, hf => by
    simp only [mS] at h
    split at h
    · exact ts_pas
    · cases h
  | .rai cl a, st, S, X, W, fx, c, tk, hp, h, hf => by
    simp only [mS] at h
    split at h
    · simp only [Bool.and_eq_true, decide_eq_true_eq, Bool.not_eq_true'] at h
      obtain ⟨⟨⟨⟨h1, h2⟩, h3⟩, h4⟩, h5⟩ := h
      obtain ⟨k, fI, fd, ps, fn, a1, a2, a3, a4, a5, a6⟩ := (c.exs _ cl h4).ex
      obtain ⟨g1, g2⟩ := c.gl h3
      exact ts_rai c.calm tk a1 a2 a3 a4 a5 passL g1 a6 (((okE a c tk h2).1 rfl).2.1 h1) g2 (star_cons h5) rfl
    · cases h
  | .try_ b hs, st, S, X, W, fx, c, tk, hp, h, hf => by
    simp only [mS] at h
    split at h
    · rename_i body h1 hl pos
      simp only [Bool.and_eq_true] at h
      exact ts_try c h.1.1 tk (fun W2 pn xe tk2 hp2 => okSs b (c.tr pn xe) tk2 hp2 h.1.2 fun i hi => hf i (List.mem_append_left _ hi)) h.2 fun i hi => hf i (List.mem_append_right _ hi)
    · cases h
  | .delS _ _ _, st, S, X, W, fx, c, tk, hp, h, hf => by cases h
theorem okSs : ∀ (ss : Sms) {sts : List Stmt} {S : SC} {X : Cx} {W : WX} {fx : Nat → Prop}, Ctx G Pg call S X → Takes X W → PassesOwn (model X.prog X.w) X.A X.env X.xe → mSs S ss sts = true → (∀ i ∈ stSs ss, ¬ fx i) → PSs X sts (TSd G W fx (denSs Pg call ss))
  | .nil, sts, S, X, W, fx, c, tk, hp, h, hf => by
    cases sts with
    | nil => exact tss_nil
    | cons _ _ => cases h
  | .cons s ss, sts, S, X, W, fx, c, tk, hp, h, hf => by
    cases sts with
    | nil => cases h
    | cons y ys =>
      simp only [mSs, Bool.and_eq_true] at h
      exact tss_cons (okS s c tk hp h.1 fun i hi => hf i (List.mem_append_left _ hi)) (okSs ss c tk hp h.2 fun i hi => hf i (List.mem_append_right _ hi))
end
end
end Dn
end L2
set_option Elab.async false
set_option linter.all false
set_option maxRecDepth 100000
set_option maxHeartbeats 4000000
/-! All defs of a program that fits, by the depth of its calls. -/
namespace L2
namespace Dn
open PySem PySem.Spec PyProof.Rows
/-- one def as it stands -/
structure FnL (K : PySem.W.Frag) (S0 : SC) (fn : Fn) (f : Addr) (fd : FuncData) (ps : List Str) : Prop where
  ex : ∃ (x qual : Str) (st : Stmt) (N : List Str), Fun K x qual st f fd ∧ FnScope N ps (defScope st) ∧ fn.np = ps.length ∧ fn.ns = N.length ∧
    mSs { S0 with N := N, sc := defScope st, cok := true } fn.body (defBody st) = true ∧ (stSs fn.body).all (fun i => !fn.fx.contains i) = true
  bd : Binds K fd ps []
/-- the program as it stands -/
structure Lk (G : Gi) (Pg : Prog) (P : Program) (w : World) (mg : Str → Option Value) (base : Heap) (S0 : SC) (fnA : Nat → Addr) (fd : Nat → FuncData) (ps : Nat → List Str) : Prop where
  gok : GOk G w
  fn : ∀ i fn, Pg.fn i = some fn → FnL G.K S0 fn (fnA i) (fd i) (ps i)
  fns : ∀ x f, S0.fns.lookup x = some f → (Pg.fn f).isSome = true ∧ mg x = some (.ref (fnA f))
  fva : ∀ f ∈ S0.fva, (Pg.fn f).isSome = true ∧ G.gv (1000 + f) = .ref (fnA f)
  cls : ∀ x c, S0.cls.lookup x = some c → (Pg.fn (Pg.init c)).isSome = true ∧ Mk G.K (G.cls c) (fnA (Pg.init c)) ∧ mg x = some (.ref (G.cls c)) ∧ PySem.W.keepIn G.K (.ref (G.cls c)) = true
  mes : ∀ c m f, S0.mes.lookup (c, m) = some f → (Pg.fn f).isSome = true ∧ Meth G.K (G.cls c) m (fnA f) ∧ m ∉ G.fnm c
  fnm : ∀ c ns, S0.fnm.lookup c = some ns → ClsOk G c ∧ G.fnm c = ns
  gi : ∀ c f, S0.mes.lookup (c, ("__getitem__" : Str)) = some f → ∀ g, PySem.W.findIn G.K (.ref (G.cls c)) "__getitem__" = some (some (.ref g)) → PySem.W.fnIn G.K g = true
  exf : ∀ c f, S0.exf.lookup c = some f → G.fnm c = [f]
  exs : ∀ x c, S0.exs.lookup x = some c → ∃ (fI : Addr) (fd : FuncData) (ps : List Str) (fn : Str), Fc.ArC G.K (G.cls c) fI fn ∧ G.fnm c = [fn] ∧ FnOk P w G.K mg base (L2.CX P w) 1 fI fd ps (Fc.spExc (G.cls c) fn) ∧ Binds G.K fd ps [] ∧ mg x = some (.ref (G.cls c))
  gls : ∀ x g, S0.gls.lookup x = some g → ∃ v u, mg x = some u ∧ RelV v u ∧ ∀ F, Fz G F v (Pg.gd g)
  tys : ∀ x g, S0.tys.lookup x = some g → ∃ v u, mg x = none ∧ bootBuiltins x = some u ∧ RelV v u ∧ ∀ F, Fz G F v (Pg.gd g)
  blt : ∀ x ∈ S0.blt, mg x = none
  exh : ∀ x c, S0.exh.lookup x = some c → mg x = some (.ref (G.cls c)) ∧ ∀ d b, Pg.sub d c = some b → PySem.W.exmOne G.K (.ref (G.cls d)) (.ref (G.cls c)) = some b
section
variable {G : Gi} {Pg : Prog} {P : Program} {w : World} {mg : Str → Option Value} {base : Heap} {S0 : SC} {fnA : Nat → Addr} {fd : Nat → FuncData} {ps : Nat → List Str}
def lev (n : Nat) : Nat := 2 * n + 2
theorem sp_len {n i : Nat} {fn : Fn} (hf : Pg.fn i = some fn) (hp : fn.np = (ps i).length) {vs : List V} {H : Hp} {Q : VK} {E : XK} (h : spDn G (denFn Pg n) i vs H Q E) : vs.length = (ps i).length := by
  obtain ⟨F, ds, fa, fr, h⟩ := h
  cases n with
  | zero => exact h.elim
  | succ n =>
    unfold denFn at h
    rw [hf] at h
    dsimp only at h
    by_cases hl : ds.length = fn.np
    · rw [fr.rl.len, hl, hp]
    · rw [if_neg hl] at h
      exact h.elim
theorem Lk.ctx (L : Lk G Pg P w mg base S0 fnA fd ps) {n : Nat} (ih : ∀ i fn, Pg.fn i = some fn → FnOk P w G.K mg base (L2.CX P w) (lev n) (fnA i) (fd i) (ps i) (spDn G (denFn Pg n) i))
    {N : List Str} {qual : Str} {sc : Scope} {f : Addr} {cdv : Value} {A : Around} {outer : List PySem.Env} {s : Shared} {H : Hp} {E : XK} {pp : List Str} (S : FnScope N pp sc) (hr : Room (lev n + 1) (A.deeper (envOfC qual sc s.heap.objs.size f cdv))) :
    Ctx G Pg (denFn Pg n) { S0 with N := N, sc := sc, cok := true } (cxOf (L2.CX P w) P w G.K mg base N qual sc f cdv A outer s H E) where
  hK := rfl
  calm := rfl
  gok := L.gok
  hu := by
    have := hr.un
    show (A.deeper _).units + 200 < cLine
    omega
  N := rfl
  nd := S.nd
  sc := rfl
  kind := S.kind
  fnl := fun _ _ => rfl
  fns := fun x f h => by
    obtain ⟨h1, h2⟩ := L.fns x f h
    obtain ⟨fn, hfn⟩ := Option.isSome_iff_exists.mp h1
    have l := L.fn f fn hfn
    obtain ⟨_, _, _, _, hF, _⟩ := l.ex
    exact ⟨lev n, ⟨_, _, _, ih f fn hfn, h2, hF.kp, l.bd⟩, hr.mono (by omega)⟩
  fva := fun f h => by
    obtain ⟨h1, h2⟩ := L.fva f h
    obtain ⟨fn, hfn⟩ := Option.isSome_iff_exists.mp h1
    have l := L.fn f fn hfn
    obtain ⟨_, _, _, _, hF, _⟩ := l.ex
    exact ⟨lev n, ⟨_, _, _, ih f fn hfn, h2, hF.kp, l.bd⟩, hr.mono (by omega)⟩
  cls := fun x c h => by
    obtain ⟨h1, h2, h3, h4⟩ := L.cls x c h
    obtain ⟨fn, hfn⟩ := Option.isSome_iff_exists.mp h1
    have l := L.fn _ fn hfn
    exact ⟨lev n, ⟨_, _, _, ih _ fn hfn, h2, h3, l.bd⟩, h4, hr⟩
  mes := fun c m f h => by
    obtain ⟨h1, h2, h3⟩ := L.mes c m f h
    obtain ⟨fn, hfn⟩ := Option.isSome_iff_exists.mp h1
    have l := L.fn f fn hfn
    exact ⟨lev n, ⟨_, _, _, ih f fn hfn, h2, l.bd⟩, hr, h3⟩
  fnm := L.fnm
  gi := L.gi
  exf := L.exf
  exs := fun x c h => by
    obtain ⟨fI, fd, ps, fn, a1, a2, a3, a4, a5⟩ := L.exs x c h
    exact ⟨1, fI, fd, ps, fn, a1, a2, a3, hr.mono (by unfold lev; omega), a4, a5⟩
  gls := L.gls
  tys := L.tys
  blt := L.blt
  stk := fun _ => ⟨rfl, rfl⟩
  exh := L.exh
/-- every def keeps what its evaluator says -/
theorem Lk.all (L : Lk G Pg P w mg base S0 fnA fd ps) : ∀ n i fn, Pg.fn i = some fn → FnOk P w G.K mg base (L2.CX P w) (lev n) (fnA i) (fd i) (ps i) (spDn G (denFn Pg n) i)
  | 0, i, fn, hf => ⟨fun vs H Q E h => let ⟨_, _, _, _, z⟩ := h; z.elim, fun A outer s H args us vs Q E _ _ _ _ h => let ⟨_, _, _, _, z⟩ := h; z.elim⟩
  | n + 1, i, fn, hf => by
    have l := L.fn i fn hf
    obtain ⟨x, qual, st, N, hF, hS, hp, hn, hm, hfx⟩ := l.ex
    refine Fun.okX (k := lev n + 1) hF hS (fun vs H Q E h => sp_len hf hp h) fun cdv A outer s H vs Q E hr hsp => ?_
    have c := L.ctx (Lk.all L n) (qual := qual) (f := fnA i) (cdv := cdv) (A := A) (outer := outer) (s := s) (H := H) (E := E) hS hr
    have tk : Takes (cxOf (L2.CX P w) P w G.K mg base N qual (defScope st) (fnA i) cdv A outer s H E) (fun cls d _ H => E cls d H) := takes_of rfl rfl rfl rfl
    refine ⟨_, okSs (W := fun cls d _ H => E cls d H) (fx := fun k => k ∈ fn.fx) fn.body c tk (passes_of rfl) hm (fun j hj z => ?_), ?_⟩
    · have := List.all_eq_true.mp hfx j hj
      rw [List.contains_iff_mem.mpr z] at this
      cases this
    · have hvs := sp_len hf hp hsp
      refine body_read hf hn hsp (by rw [hvs, hp]) ?_
      have := congrArg List.length hS.pre
      rw [List.length_take] at this
      omega
end
end Dn
end L2
set_option Elab.async false
set_option linter.all false
set_option maxRecDepth 100000
set_option maxHeartbeats 4000000
/-! What the top has written, as data; an instance of Lk. -/
namespace L2
namespace Dn
open PySem PySem.Spec PyProof.Rows
def litsF (f : Value → Option D) : List Value → Option (List D)
  | [] => some []
  | u :: us => match f u, litsF f us with
    | some d, some ds => some (d :: ds)
    | _, _ => none
def litT (K : PySem.W.Frag) (f : Value → Option D) (a : Addr) : Option D := match K.lookup a with
  | some ⟨.type c, _, .seq its _, _⟩ => (match decide (c = "tuple") && decide (its.size ≤ 100) with
    | true => (litsF f its.toList).map (D.tup false)
    | false => none)
  | _ => none
def litW (K : PySem.W.Frag) : Nat → Value → Option D
  | 0, u => match u with
    | .none => some .non
    | .bool b => some (.bl b)
    | .int i _ => some (.int i)
    | .str x _ => some (.str x)
    | _ => none
  | n + 1, u => match u with
    | .none => some .non
    | .bool b => some (.bl b)
    | .int i _ => some (.int i)
    | .str x _ => some (.str x)
    | .ref a => litT K (litW K n) a
    | _ => none
variable {G : Gi}
theorem lits_of {f : Value → Option D} (h : ∀ u d, f u = some d → ∃ v, RelV v u ∧ ∀ F, Fz G F v d) : ∀ us ds, litsF f us = some ds → ∃ vs, Vals vs us ∧ ∀ F, FzL G F vs ds
  | [], ds, e => by cases e; exact ⟨[], .nil, fun _ => .nil⟩
  | u :: us, ds, e => by
    unfold litsF at e
    split at e
    · rename_i d es e1 e2
      cases e
      obtain ⟨v, r, z⟩ := h u d e1
      obtain ⟨vs, rs, zs⟩ := lits_of h us es e2
      exact ⟨v :: vs, .cons r rs, fun F => .cons (z F) (zs F)⟩
    · cases e
theorem litT_of {f : Value → Option D} (h : ∀ u d, f u = some d → ∃ v, RelV v u ∧ ∀ F, Fz G F v d) {a : Addr} {d : D} (e : litT G.K f a = some d) : ∀ F, Fz G F (.ref a) d := by
  unfold litT at e
  split at e
  · rename_i cn od its n sl q
    split at e
    · rename_i z
      obtain ⟨z1, z2⟩ := Bool.and_eq_true_iff.mp z
      have ec : cn = "tuple" := of_decide_eq_true z1
      subst ec
      obtain ⟨ds, e1, rfl⟩ := Option.map_eq_some_iff.mp e
      obtain ⟨vs, r, zs⟩ := lits_of h _ ds e1
      exact fun F => .tup (.inr ⟨_, its, n, q, rfl, rfl, Nat.le_trans (of_decide_eq_true z2) (by decide), r⟩) (zs F)
    · cases e
  · cases e
theorem lit_of : ∀ n u d, litW G.K n u = some d → ∃ v, RelV v u ∧ ∀ F, Fz G F v d
  | 0, u, d, e => by
    unfold litW at e
    split at e <;> first | (cases e; done) | skip
    · cases e; exact ⟨.non, rfl, fun _ => .non⟩
    · cases e; exact ⟨.bl _, rfl, fun _ => .bl _⟩
    · cases e; exact ⟨.int _, ⟨_, rfl⟩, fun _ => .int _⟩
    · cases e; exact ⟨.str _, ⟨_, rfl⟩, fun _ => .str _⟩
  | n + 1, u, d, e => by
    unfold litW at e
    split at e <;> first | (cases e; done) | skip
    · cases e; exact ⟨.non, rfl, fun _ => .non⟩
    · cases e; exact ⟨.bl _, rfl, fun _ => .bl _⟩
    · cases e; exact ⟨.int _, ⟨_, rfl⟩, fun _ => .int _⟩
    · cases e; exact ⟨.str _, ⟨_, rfl⟩, fun _ => .str _⟩
    · exact ⟨.ref _, rfl, litT_of (lit_of n) e⟩
/-! dicts -/
def vD : D → V | .int i => .int i | .str x => .str x | _ => .non
def prD (e : DictEntry) : Option (Str × D) := match e.key, e.val with
  | .str x _, .int i _ => some (x, .int i)
  | .str x _, .str y _ => some (x, .str y)
  | _, _ => none
def prDW (K : PySem.W.Frag) (a : Addr) : Option (List (Option (Str × D))) := match K.lookup a with
  | some ⟨_, _, .dict es _, _⟩ => some (es.toList.map prD)
  | _ => none
theorem prd_find (z : Str) : ∀ {l : List DictEntry} {ps : List (Str × D)}, l.map prD = ps.map some →
    ∃ r, (match l.find? (·.key.isStr z) with | some e => some (some e.val) | none => if l.any (·.refKey) then none else some none) = some r ∧ RelO (((ps.map (·.1)).findIdx? fun y => decide (y = z)).bind fun j => (ps.map fun p => vD p.2)[j]?) r
  | [], [], _ => ⟨none, rfl, trivial⟩
  | [], _ :: _, h => by cases h
  | _ :: _, [], h => by cases h
  | e :: l, p :: ps, h => by
    rw [List.map_cons, List.map_cons] at h
    injection h with h1 h2
    obtain ⟨r0, q1, q2⟩ := prd_find z h2
    have key : ∃ x t, e.key = .str x t ∧ p.1 = x ∧ RelV (vD p.2) e.val := by
      unfold prD at h1
      split at h1
      · rename_i x t i u q1 q2
        cases h1
        exact ⟨x, t, q1, rfl, by rw [q2]; exact ⟨u, rfl⟩⟩
      · rename_i x t y u q1 q2
        cases h1
        exact ⟨x, t, q1, rfl, by rw [q2]; exact ⟨u, rfl⟩⟩
      · cases h1
    obtain ⟨x, t, k1, k2, k3⟩ := key
    have e1 : e.key.isStr z = (x == z) := by rw [k1]; rfl
    have e2 : e.refKey = false := by
      unfold DictEntry.refKey
      rw [k1]
    rw [List.find?_cons, e1, List.map_cons, List.map_cons, List.findIdx?_cons, k2]
    by_cases hx : x = z
    · rw [hx, decide_eq_true rfl, if_pos rfl]
      have : (z == z) = true := beq_self_eq_true z
      rw [this]
      exact ⟨_, rfl, k3⟩
    · rw [decide_eq_false hx, if_neg Bool.false_ne_true]
      have : (x == z) = false := beq_false_of_ne hx
      rw [this]
      dsimp only
      rw [List.any_cons, e2, Bool.false_or]
      refine ⟨r0, q1, ?_⟩
      have e3 : ∀ o : Option Nat, ((o.map (· + 1)).bind fun j => (vD p.2 :: ps.map fun p => vD p.2)[j]?) = o.bind fun j => (ps.map fun p => vD p.2)[j]? := fun o => by
        cases o <;> rfl
      rw [e3]
      exact q2
/-- the top's things, by their addresses -/
def mkG (K : PySem.W.Frag) (cl fn : Nat → Addr) (fm : Nat → List Str) (wds : List (Addr × List (Str × D))) : Gi where
  K := K
  cls := fun c => if c < 980 then cl c else fn (c - 980)
  fnm := fm
  gv := fun g => match tyName g with
    | some n => .ty n
    | none => if 20 ≤ g then .ref (if g - 20 < 980 then cl (g - 20) else fn (g - 20 - 980)) else .ref 0
  wd := fun a ks vs => ∃ ps, (a, ps) ∈ wds ∧ ks = ps.map (·.1) ∧ vs = ps.map fun p => vD p.2
theorem mkG_ok {K : PySem.W.Frag} {cl fn : Nat → Addr} {fm : Nat → List Str} {wds : List (Addr × List (Str × D))} {w : World}
    (h : ∀ p ∈ wds, He.dicW K p.1 = some (He.keysIn w.params (p.2.map (·.1))) ∧ prDW K p.1 = some (p.2.map some)) : GOk (mkG K cl fn fm wds) w where
  wd a ks vs hw := by
    obtain ⟨ps, hm, rfl, rfl⟩ := hw
    obtain ⟨h1, h2⟩ := h _ hm
    refine ⟨by rw [List.length_map, List.length_map], He.dicW_ok h1, fun z => ?_⟩
    dsimp only at h2
    unfold prDW at h2
    show ∃ r, PySem.W.nsIn K a z = some r ∧ _
    unfold PySem.W.nsIn
    split at h2
    · rename_i oc od es n sl q
      rw [q]
      exact prd_find z (Option.some.inj h2)
    · cases h2
  ty g n e := by
    show (match tyName g with | some n => V.ty n | none => _) = _
    rw [e]
  gn g z := by
    have z : (match tyName g with | some n => V.ty n | none => if 20 ≤ g then .ref (if g - 20 < 980 then cl (g - 20) else fn (g - 20 - 980)) else .ref 0) = V.non := z
    split at z
    · cases z
    · split at z <;> cases z
  cv c := by
    have : tyName (c + 20) = none := rfl
    show (match tyName (c + 20) with | some n => V.ty n | none => if 20 ≤ c + 20 then V.ref (if c + 20 - 20 < 980 then cl (c + 20 - 20) else fn (c + 20 - 20 - 980)) else .ref 0) = V.ref (if c < 980 then cl c else fn (c - 980))
    rw [this]
    dsimp only
    rw [if_pos (Nat.le_add_left 20 c), Nat.add_sub_cancel]
theorem wdt_of {K : PySem.W.Frag} {cl fn : Nat → Addr} {fm : Nat → List Str} {wds : List (Addr × List (Str × D))} {a : Addr} {ps : List (Str × D)} (hm : (a, ps) ∈ wds) (hp : ∀ p ∈ ps, ∀ F, Fz (mkG K cl fn fm wds) F (vD p.2) p.2) (F : Hp) :
    Fz (mkG K cl fn fm wds) F (.ref a) (.wdt (ps.map (·.1)) (ps.map (·.2))) := by
  refine .wdt (vs := ps.map fun p => vD p.2) ⟨ps, hm, rfl, rfl⟩ ?_
  clear hm
  induction ps with
  | nil => exact .nil
  | cons p ps ih => exact .cons (hp p List.mem_cons_self F) (ih fun q hq => hp q (List.mem_cons_of_mem _ hq))
/-! tables of names -/
def allL {κ β : Type} : List (κ × β) → (κ → β → Prop) → Prop
  | [], _ => True
  | (x, f) :: r, C => C x f ∧ allL r C
theorem allL_of {κ β : Type} [BEq κ] [LawfulBEq κ] {C : κ → β → Prop} : ∀ {l : List (κ × β)}, allL l C → ∀ x f, l.lookup x = some f → C x f
  | [], _, x, f, e => by cases e
  | (y, g) :: r, h, x, f, e => by
    rw [List.lookup_cons] at e
    by_cases z : x = y
    · rw [z, beq_self_eq_true] at e
      cases e
      rw [z]
      exact h.1
    · rw [beq_false_of_ne z] at e
      exact allL_of h.2 x f e
def allM {α : Type} : List α → (α → Prop) → Prop
  | [], _ => True
  | x :: r, C => C x ∧ allM r C
theorem allM_of {α : Type} {C : α → Prop} : ∀ {l : List α}, allM l C → ∀ x ∈ l, C x
  | y :: r, h, x, e => by
    rcases List.mem_cons.mp e with z | z
    · rw [z]; exact h.1
    · exact allM_of h.2 x z
/-- an exception's own __init__ -/
theorem ok_exc {P : Program} {w : World} {K : PySem.W.Frag} {mg : Str → Option Value} {base : Heap} {C fI : Addr} {fd : FuncData} {x qual p fl : Str} {st : Stmt} {q1 q2 q3 q4 : Pos} (T : Fc.ArC K C fI fl) (Fn : Fun K x qual st fI fd) (S : FnScope ["self", p] ["self", p] (defScope st))
    (hb : defBody st = [.Assign [.Attribute (.Name "self" q1) fl q2] (.Name p q3) q4]) (h0 : (defScope st).names.lookup ("self" : Str) = some .local) (h1 : (defScope st).names.lookup p = some .local) (d1 : (p == ("__debug__" : Str)) = false) (d2 : (p == ("__classdict__" : Str)) = false) :
    FnOk P w K mg base (L2.CX P w) 1 fI fd ["self", p] (Fc.spExc C fl) := by
  refine Fun.okX Fn S (fun vs H Q E h => ?_) fun cdv A outer s H vs Q E hr h => ?_
  · obtain ⟨a, y, rfl, _⟩ := h
    rfl
  · obtain ⟨a, y, rfl, ha, k⟩ := h
    rw [hb]
    exact ⟨_, pss_one (Fc.ps_arset (pe_var (i := 0) rfl (.inl h0)) (pe_var (i := 1) rfl (.inl h1) d1 d2)), _, rfl, _, rfl, a, C, fI, rfl, T, ha, k⟩
/-- the law, for every script -/
def spLaw (K : PySem.W.Frag) : Sp := fun vs H Q E => ∃ (a : Addr) (ns : List Int), vs = [.ref a] ∧ SqL K H a (ns.map V.int) ∧ ∀ H', Q (.bl true) H'
theorem law_sp {call : Call} {f : Nat} (h : ∀ ns : List Int, ∃ ds, call f [.wls (ns.map D.int)] = .ok (.bl true) ds) : ∀ vs H Q E, spLaw G.K vs H Q E → spDn G call f vs H Q E := by
  intro vs H Q E h1
  obtain ⟨a, ns, rfl, hs, hq⟩ := h1
  obtain ⟨ds, e⟩ := h ns
  have fz : ∀ ns : List Int, FzL G H (ns.map V.int) (ns.map D.int) := fun ns => by
    induction ns with
    | nil => exact .nil
    | cons n ns ih => exact .cons (.int n) ih
  refine ⟨H, [.wls (ns.map D.int)], [], ⟨.nil, .cons (f := []) (g := []) (.fz (.wls hs (fz ns))) .nil, List.nodup_nil, fun b hb => (nomatch hb), Same.refl H⟩, ?_⟩
  rw [e]
  intro F' H' v f' _ fr
  obtain ⟨_, rl, _, _, _⟩ := fr
  cases rl with
  | cons h1 _ =>
    cases h1 with
    | fz z =>
      cases z
      exact hq H'
end Dn
end L2
set_option Elab.async false
set_option linter.all false
set_option maxRecDepth 100000
/-! Statements as trees, numbered in preorder; what stands at a number. -/
namespace L2
namespace Dn
open PySem
inductive Hd where
  | do_ (x : Str) | call (x : Str) | ife (x : Str) | whl (x : Str) | seq | brk (k : Nat) | cnt (k : Nat) | ret | rai | try_ | fin
inductive T where
  | nd (h : Hd) (ts : List T)
def T.hd : T → Hd | .nd h _ => h
def T.ts : T → List T | .nd _ ts => ts
mutual
def T.size : T → Nat
  | .nd _ ts => 1 + sizeL ts
def sizeL : List T → Nat
  | [] => 0
  | t :: ts => t.size + sizeL ts
end
theorem T.size_pos (t : T) : 0 < t.size := by
  cases t with
  | nd h ts => unfold T.size; omega
theorem sizeL_app : ∀ a b, sizeL (a ++ b) = sizeL a + sizeL b
  | [], b => by simp [sizeL]
  | t :: a, b => by simp [sizeL, sizeL_app a b]; omega
def Hd.isW : Hd → Bool | .whl _ => true | _ => false
def Hd.isF : Hd → Bool | .fin => true | _ => false
/-- begins with its first part -/
def Hd.ent : Hd → Bool | .seq => true | .try_ => true | .fin => true | _ => false
def Hd.less : Hd → Bool | .seq => true | .try_ => true | _ => false
def Hd.asks : Hd → Bool | .call _ => true | .ife _ => true | .whl _ => true | _ => false
def Hd.wh (h : Hd) (n : Nat) : Nat := if h.isW then n + 1 else n
def Hd.ar : Hd → Nat → Bool
  | .ife _, n => n == 2 | .whl _, n => n == 1 | .seq, n => decide (0 < n) | .try_, n => n == 2 | .fin, n => n == 2 | _, n => n == 0
def layK (h : Hd) (j : Nat) (lay : List Nat) (n : Nat) : List Nat := if h.isF && j == 1 then lay ++ [n] else lay
structure Pos where
  (t : T) (par : Option Nat) (lev wh : Nat) (lay : List Nat) (sib : Option Nat)
mutual
def flat : T → Nat → Option Nat → Nat → Nat → List Nat → Option Nat → List Pos
  | .nd h ts, i, par, lev, wh, lay, sib => ⟨.nd h ts, par, lev, wh, lay, sib⟩ :: flatL h ts (i + 1) i 0 (lev + 1) (h.wh wh) lay
def flatL (h : Hd) : List T → Nat → Nat → Nat → Nat → Nat → List Nat → List Pos
  | [], _, _, _, _, _, _ => []
  | t :: ts, i, p, j, lev, wh, lay => flat t i (some p) lev wh (layK h j lay p) (if ts.isEmpty then none else some (i + t.size)) ++ flatL h ts (i + t.size) p (j + 1) lev wh lay
end
mutual
theorem flat_len : ∀ t i par lev wh lay sib, (flat t i par lev wh lay sib).length = t.size
  | .nd h ts, i, par, lev, wh, lay, sib => by unfold flat T.size; rw [List.length_cons, flatL_len]; omega
theorem flatL_len : ∀ h ts i p j lev wh lay, (flatL h ts i p j lev wh lay).length = sizeL ts
  | h, [], i, p, j, lev, wh, lay => by unfold flatL sizeL; rfl
  | h, t :: ts, i, p, j, lev, wh, lay => by unfold flatL sizeL; rw [List.length_append, flat_len, flatL_len]
end
inductive At (t0 : T) : Nat → Pos → Prop
  | root : At t0 0 ⟨t0, none, 1, 0, [], none⟩
  | kid {n : Nat} {h : Hd} {a : List T} {c : T} {b : List T} {par : Option Nat} {lev wh : Nat} {lay : List Nat} {sib : Option Nat} :
      At t0 n ⟨.nd h (a ++ c :: b), par, lev, wh, lay, sib⟩ →
      At t0 (n + 1 + sizeL a) ⟨c, some n, lev + 1, h.wh wh, layK h a.length lay n, if b.isEmpty then none else some (n + 1 + sizeL a + c.size)⟩
def flatP (p : Pos) (n : Nat) : List Pos := flat p.t n p.par p.lev p.wh p.lay p.sib
def allP (t0 : T) : List Pos := flatP ⟨t0, none, 1, 0, [], none⟩ 0
theorem flatL_seg (h : Hd) : ∀ (a : List T) (c : T) (b : List T) (i p j lev wh : Nat) (lay : List Nat), ∃ pre post,
    flatL h (a ++ c :: b) i p j lev wh lay = pre ++ flat c (i + sizeL a) (some p) lev wh (layK h (j + a.length) lay p) (if b.isEmpty then none else some (i + sizeL a + c.size)) ++ post ∧ pre.length = sizeL a
  | [], c, b, i, p, j, lev, wh, lay => by
    refine ⟨[], flatL h b (i + c.size) p (j + 1) lev wh lay, ?_, rfl⟩
    simp only [List.nil_append, flatL, sizeL, Nat.add_zero, List.length_nil]
  | t :: a, c, b, i, p, j, lev, wh, lay => by
    obtain ⟨pre, post, e, l⟩ := flatL_seg h a c b (i + t.size) p (j + 1) lev wh lay
    refine ⟨flat t i (some p) lev wh (layK h j lay p) (if (a ++ c :: b).isEmpty then none else some (i + t.size)) ++ pre, post, ?_, ?_⟩
    · rw [List.cons_append, flatL, e]
      simp only [sizeL, List.length_cons, List.append_assoc]
      rw [show i + t.size + sizeL a = i + (t.size + sizeL a) by omega, show j + 1 + a.length = j + (a.length + 1) by omega]
    · rw [List.length_append, flat_len, l, sizeL]
theorem At.seg {t0 : T} {n : Nat} {p : Pos} (h : At t0 n p) : ∃ pre post, allP t0 = pre ++ flatP p n ++ post ∧ pre.length = n := by
  induction h with
  | root => exact ⟨[], [], by simp [allP], rfl⟩
  | @kid n h a c b par lev wh lay sib _ ih =>
    obtain ⟨pre, post, e, l⟩ := ih
    obtain ⟨pre2, post2, e2, l2⟩ := flatL_seg h a c b (n + 1) n 0 (lev + 1) (h.wh wh) lay
    refine ⟨pre ++ (⟨.nd h (a ++ c :: b), par, lev, wh, lay, sib⟩ :: pre2), post2 ++ post, ?_, ?_⟩
    · rw [e]
      unfold flatP
      dsimp only
      rw [flat, e2, Nat.zero_add]
      simp only [List.append_assoc, List.cons_append]
    · rw [List.length_append, List.length_cons, l, l2]; omega
theorem flatP_head (p : Pos) (n : Nat) : ∃ r, flatP p n = p :: r := by
  obtain ⟨⟨h, ts⟩, par, lev, wh, lay, sib⟩ := p
  exact ⟨_, by unfold flatP flat; rfl⟩
theorem At.get {t0 : T} {n : Nat} {p : Pos} (h : At t0 n p) : (allP t0)[n]? = some p := by
  obtain ⟨pre, post, e, l⟩ := h.seg
  obtain ⟨r, e2⟩ := flatP_head p n
  rw [e, e2, List.append_assoc, List.getElem?_append_right (by omega), l, Nat.sub_self]
  rfl
theorem At.uniq {t0 : T} {n : Nat} {p q : Pos} (h : At t0 n p) (k : At t0 n q) : p = q := Option.some.inj (h.get.symm.trans k.get)
theorem allP_len (t0 : T) : (allP t0).length = t0.size := flat_len ..
theorem At.lt {t0 : T} {n : Nat} {p : Pos} (h : At t0 n p) : n + p.t.size ≤ t0.size := by
  obtain ⟨pre, post, e, l⟩ := h.seg
  have := congrArg List.length e
  rw [allP_len, List.length_append, List.length_append, flatP, flat_len, l] at this
  omega
theorem At.lt' {t0 : T} {n : Nat} {p : Pos} (h : At t0 n p) : n < t0.size := by
  have := h.lt
  have := p.t.size_pos
  omega
mutual
theorem flat_at {t0 : T} : ∀ (t : T) (n : Nat) (par : Option Nat) (lev wh : Nat) (lay : List Nat) (sib : Option Nat), At t0 n ⟨t, par, lev, wh, lay, sib⟩ → ∀ k, k < t.size → ∃ p, At t0 (n + k) p
  | .nd h ts, n, par, lev, wh, lay, sib, hA, k, hk => by
    cases k with
    | zero => exact ⟨_, hA⟩
    | succ k =>
      unfold T.size at hk
      obtain ⟨p, hp⟩ := flatL_at h ts [] n par lev wh lay sib hA k (by omega)
      refine ⟨p, ?_⟩
      rw [sizeL, Nat.add_zero, Nat.add_assoc, Nat.add_comm 1 k] at hp
      exact hp
theorem flatL_at {t0 : T} : ∀ (h : Hd) (ts a : List T) (n : Nat) (par : Option Nat) (lev wh : Nat) (lay : List Nat) (sib : Option Nat), At t0 n ⟨.nd h (a ++ ts), par, lev, wh, lay, sib⟩ → ∀ k, k < sizeL ts → ∃ p, At t0 (n + 1 + sizeL a + k) p
  | h, [], a, n, par, lev, wh, lay, sib, hA, k, hk => by
    unfold sizeL at hk
    exact absurd hk (Nat.not_lt_zero _)
  | h, t :: ts, a, n, par, lev, wh, lay, sib, hA, k, hk => by
    unfold sizeL at hk
    by_cases hc : k < t.size
    · exact flat_at t _ _ _ _ _ _ (At.kid hA) k hc
    · obtain ⟨p, hp⟩ := flatL_at h ts (a ++ [t]) n par lev wh lay sib (by rw [List.append_assoc]; exact hA) (k - t.size) (by omega)
      refine ⟨p, ?_⟩
      rw [sizeL_app, sizeL, sizeL] at hp
      rw [show n + 1 + sizeL a + k = n + 1 + (sizeL a + (t.size + 0)) + (k - t.size) by omega]
      exact hp
end
theorem at_of {t0 : T} {n : Nat} (h : n < t0.size) : ∃ p, At t0 n p := by
  obtain ⟨p, hp⟩ := flat_at t0 0 none 1 0 [] none .root n h
  exact ⟨p, by rw [Nat.zero_add] at hp; exact hp⟩
theorem at_get {t0 : T} {n : Nat} {p : Pos} (h : (allP t0)[n]? = some p) : At t0 n p := by
  have hl := (List.getElem?_eq_some_iff.mp h).1
  rw [allP_len] at hl
  obtain ⟨q, hq⟩ := at_of hl
  rw [Option.some.inj (h.symm.trans hq.get)]
  exact hq

/-! ### well made -/
mutual
def T.wf (ok : Str → Bool) : T → Nat → Bool
  | .nd h ts, n => h.ar ts.length && (match h with
    | .do_ x => ok x | .call x => ok x | .ife x => ok x | .whl x => ok x | .brk k => decide (1 ≤ k ∧ k ≤ n) | .cnt k => decide (1 ≤ k ∧ k ≤ n) | _ => true) && wfL ok ts (h.wh n)
def wfL (ok : Str → Bool) : List T → Nat → Bool
  | [], _ => true
  | t :: ts, n => t.wf ok n && wfL ok ts n
end
theorem wfL_mem {ok : Str → Bool} : ∀ {ts : List T} {n : Nat}, wfL ok ts n = true → ∀ t ∈ ts, t.wf ok n = true
  | t :: ts, n, h, u, hu => by
    unfold wfL at h
    rw [Bool.and_eq_true] at h
    rcases List.mem_cons.mp hu with e | e
    · rw [e]; exact h.1
    · exact wfL_mem h.2 u e
theorem At.wf {ok : Str → Bool} {t0 : T} {n : Nat} {p : Pos} (h : At t0 n p) (w : t0.wf ok 0 = true) : p.t.wf ok p.wh = true := by
  induction h with
  | root => exact w
  | @kid n h a c b par lev wh lay sib _ ih =>
    dsimp only at ih ⊢
    unfold T.wf at ih
    rw [Bool.and_eq_true, Bool.and_eq_true] at ih
    exact wfL_mem ih.2 c (by simp)

/-! ### the part that a number is of -/
theorem At.up {t0 : T} {n : Nat} {p : Pos} (hA : At t0 n p) (hn : 0 < n) : ∃ o h a b par lev lay sib wh, At t0 o ⟨.nd h (a ++ p.t :: b), par, lev, wh, lay, sib⟩ ∧ n = o + 1 + sizeL a ∧
    p.par = some o ∧ p.wh = h.wh wh ∧ p.lay = layK h a.length lay o ∧ p.sib = if b.isEmpty then none else some (n + p.t.size) := by
  cases hA with
  | root => cases hn
  | @kid n h a c b par lev wh lay sib h0 => exact ⟨n, h, a, b, par, lev, lay, sib, wh, h0, rfl, rfl, rfl, rfl, rfl⟩
theorem At.next {t0 : T} {o : Nat} {h : Hd} {a b : List T} {c d : T} {par : Option Nat} {lev wh : Nat} {lay : List Nat} {sib : Option Nat} (hA : At t0 o ⟨.nd h (a ++ c :: d :: b), par, lev, wh, lay, sib⟩) :
    At t0 (o + 1 + sizeL a + c.size) ⟨d, some o, lev + 1, h.wh wh, layK h (a.length + 1) lay o, if b.isEmpty then none else some (o + 1 + sizeL a + c.size + d.size)⟩ := by
  have := At.kid (a := a ++ [c]) (c := d) (b := b) (t0 := t0) (n := o) (h := h) (par := par) (lev := lev) (wh := wh) (lay := lay) (sib := sib) (by rw [List.append_assoc]; exact hA)
  rw [sizeL_app, sizeL, sizeL, List.length_append, Nat.add_zero, ← Nat.add_assoc] at this
  exact this
/-! ### the entry -/
def T.entry : T → Nat
  | .nd h (t :: _) => if h.ent then 1 + t.entry else 0
  | .nd _ [] => 0
theorem layK_zero (h : Hd) (lay : List Nat) (n : Nat) : layK h 0 lay n = lay := by
  unfold layK
  rw [if_neg]
  simp
theorem At.first {t0 : T} {n : Nat} {h : Hd} {c : T} {b : List T} {par : Option Nat} {lev wh : Nat} {lay : List Nat} {sib : Option Nat} (hA : At t0 n ⟨.nd h (c :: b), par, lev, wh, lay, sib⟩) :
    At t0 (n + 1) ⟨c, some n, lev + 1, h.wh wh, lay, if b.isEmpty then none else some (n + 1 + c.size)⟩ := by
  have := At.kid (a := []) hA
  rw [List.length_nil, layK_zero, sizeL, Nat.add_zero] at this
  exact this
theorem At.entry {ok : Str → Bool} {t0 : T} (w : t0.wf ok 0 = true) : ∀ (t : T) {n : Nat} {par : Option Nat} {lev wh : Nat} {lay : List Nat} {sib : Option Nat}, At t0 n ⟨t, par, lev, wh, lay, sib⟩ →
    ∃ q, At t0 (n + t.entry) q ∧ q.t.hd.ent = false ∧ q.lay = lay
  | .nd h [], n, par, lev, wh, lay, sib, hA => by
    have := hA.wf w
    refine ⟨_, hA, ?_, rfl⟩
    cases h <;> first | rfl | (simp [T.wf, Hd.ar] at this)
  | .nd h (t :: ts), n, par, lev, wh, lay, sib, hA => by
    unfold T.entry
    cases he : h.ent with
    | false => exact ⟨_, hA, he, rfl⟩
    | true =>
      obtain ⟨q, hq, e1, e2⟩ := At.entry w t hA.first
      refine ⟨q, ?_, e1, e2⟩
      rw [if_pos rfl, ← Nat.add_assoc]
      exact hq
/-! ### the order of places -/
def endrank (S n e : Nat) : Nat := e * (S + 2) + (S - n)
/-- a final comes behind all that stands in it -/
def rank (S n : Nat) (t : T) : Nat := if t.hd.isF then endrank S n (n + t.size) else n * (S + 2) + (S + 1)
theorem endrank_up {S o n e e' : Nat} (h1 : o < n) (h2 : n ≤ S) (h3 : e ≤ e') : endrank S n e < endrank S o e' := by
  unfold endrank
  have := Nat.mul_le_mul_right (S + 2) h3
  omega
theorem rank_le {S n : Nat} {t : T} (h : n ≤ S) : rank S n t ≤ endrank S n (n + t.size) := by
  unfold rank
  split
  · exact Nat.le_refl _
  · unfold endrank
    have := Nat.mul_le_mul_right (S + 2) (show n + 1 ≤ n + t.size from Nat.add_le_add_left t.size_pos n)
    rw [Nat.add_mul, Nat.one_mul] at this
    omega
theorem endrank_lt {S n m q : Nat} {t : T} (h : m ≤ q) (ht : t.hd.isF = false) : endrank S n m < rank S q t := by
  unfold rank endrank
  rw [ht, if_neg Bool.false_ne_true]
  have := Nat.mul_le_mul_right (S + 2) h
  omega
theorem rank_lt {S n : Nat} {t : T} (h : n + t.size ≤ S) : rank S n t < (S + 1) * (S + 2) := by
  refine Nat.lt_of_le_of_lt (rank_le (by have := t.size_pos; omega)) ?_
  unfold endrank
  have := Nat.mul_le_mul_right (S + 2) h
  rw [Nat.add_mul S 1, Nat.one_mul]
  omega
end Dn
end L2
set_option Elab.async false
set_option linter.all false
set_option maxRecDepth 100000
/-! Numbers of parts, of siblings; what is known of them when so many numbers are given. -/
namespace L2
namespace Dn
open PySem
def offs : Nat → List T → List Nat
  | _, [] => []
  | i, t :: ts => i :: offs (i + t.size) ts
theorem offs_app : ∀ (i : Nat) (a b : List T), offs i (a ++ b) = offs i a ++ offs (i + sizeL a) b
  | i, [], b => by simp [offs, sizeL]
  | i, t :: a, b => by
    rw [List.cons_append, offs, offs, offs_app, sizeL, List.cons_append, Nat.add_assoc]
theorem offs_rng : ∀ (i : Nat) (a : List T), ∀ m ∈ offs i a, i ≤ m ∧ m < i + sizeL a
  | i, t :: a, m, h => by
    unfold offs at h
    unfold sizeL
    have := t.size_pos
    rcases List.mem_cons.mp h with e | e
    · omega
    · have := offs_rng _ a m e
      omega
theorem offs_len : ∀ (i : Nat) (a : List T), (offs i a).length = a.length
  | i, [] => rfl
  | i, t :: a => by rw [offs, List.length_cons, List.length_cons, offs_len]
theorem offs_last (i : Nat) (a : List T) (c : T) : (offs i (a ++ [c])).getLast? = some (i + sizeL a) := by
  rw [offs_app, offs, offs, List.getLast?_concat]
theorem offs_mem : ∀ (i : Nat) (ts : List T) (m : Nat), m ∈ offs i ts → ∃ a c b, ts = a ++ c :: b ∧ m = i + sizeL a
  | i, t :: ts, m, h => by
    unfold offs at h
    rcases List.mem_cons.mp h with e | e
    · exact ⟨[], t, ts, rfl, by rw [sizeL, Nat.add_zero]; exact e⟩
    · obtain ⟨a, c, b, e1, e2⟩ := offs_mem _ ts m e
      exact ⟨t :: a, c, b, by rw [e1]; rfl, by rw [e2, sizeL]; omega⟩
theorem pref_eq : ∀ (a b c d : List T), a ++ b = c ++ d → sizeL a = sizeL c → a = c
  | [], b, [], d, _, _ => rfl
  | [], b, t :: c, d, _, e => by
    unfold sizeL at e
    have := t.size_pos
    omega
  | t :: a, b, [], d, _, e => by
    have e : sizeL (t :: a) = 0 := e
    unfold sizeL at e
    have := t.size_pos
    omega
  | t :: a, b, u :: c, d, h, e => by
    rw [List.cons_append, List.cons_append, List.cons.injEq] at h
    obtain ⟨h1, h2⟩ := h
    subst h1
    unfold sizeL at e
    rw [pref_eq a b c d h2 (by omega)]
def Pos.kids (p : Pos) (n : Nat) : List Nat := offs (n + 1) p.t.ts
/-- the parts that have a number below N -/
def Pos.kidsB (p : Pos) (n N : Nat) : List Nat := (p.kids n).filter fun m => decide (m < N)
def Pos.sibB (p : Pos) (N : Nat) : Option Nat := match p.sib with | some m => if m < N then some m else none | none => none
variable {t0 : T}
theorem kids_all {n : Nat} {p : Pos} (h : At t0 n p) {N : Nat} (hN : t0.size ≤ N) : p.kidsB n N = p.kids n := by
  unfold Pos.kidsB
  rw [List.filter_eq_self]
  intro m hm
  have := offs_rng _ _ m hm
  have l := h.lt
  have : p.t.size = 1 + sizeL p.t.ts := by
    cases p.t
    rfl
  exact decide_eq_true (by omega)
theorem At.sib_lt {n : Nat} {p : Pos} (h : At t0 n p) {m : Nat} (e : p.sib = some m) : m < t0.size ∧ n < m ∧ ∃ o h a c d b par lev lay sib wh, At t0 o ⟨.nd h (a ++ c :: d :: b), par, lev, wh, lay, sib⟩ ∧ n = o + 1 + sizeL a ∧ c = p.t ∧ m = n + c.size ∧ p.par = some o ∧ p.wh = h.wh wh ∧ p.lay = layK h a.length lay o := by
  by_cases hn : 0 < n
  · obtain ⟨o, hd, a, b, par, lev, lay, sib, wh, h0, e1, e2, e3, e4, e5⟩ := h.up hn
    rw [e] at e5
    cases b with
    | nil => cases e5
    | cons d b =>
      have e5 := Option.some.inj e5
      have l := h0.next.lt'
      have := p.t.size_pos
      exact ⟨by omega, by omega, o, hd, a, p.t, d, b, par, lev, lay, sib, wh, h0, e1, rfl, e5, e2, e3, e4⟩
  · have : n = 0 := by omega
    subst this
    have := h.uniq .root
    rw [this] at e
    cases e
theorem sib_all {n : Nat} {p : Pos} (h : At t0 n p) {N : Nat} (hN : t0.size ≤ N) : p.sibB N = p.sib := by
  unfold Pos.sibB
  split
  · rename_i m e
    rw [if_pos (Nat.lt_of_lt_of_le (h.sib_lt e).1 hN), e]
  · rename_i e
    rw [e]
theorem kids_new {n N : Nat} {p : Pos} (h : N ≤ n + 1) : p.kidsB n N = [] := by
  unfold Pos.kidsB
  rw [List.filter_eq_nil_iff]
  intro m hm
  have := offs_rng _ _ m hm
  simp only [decide_eq_true_eq]
  omega
theorem sib_new {n : Nat} {p : Pos} (h : At t0 n p) {N : Nat} (e : N ≤ n + 1) : p.sibB N = none := by
  unfold Pos.sibB
  split
  · rename_i m e1
    have := (h.sib_lt e1).2.1
    rw [if_neg (by omega)]
  · rfl
/-- the parts of the one around, when a part gets its number -/
theorem kids_par {o : Nat} {h : Hd} {a b : List T} {c : T} {par : Option Nat} {lev wh : Nat} {lay : List Nat} {sib : Option Nat} :
    (Pos.mk (.nd h (a ++ c :: b)) par lev wh lay sib).kidsB o (o + 1 + sizeL a) = offs (o + 1) a ∧
    (Pos.mk (.nd h (a ++ c :: b)) par lev wh lay sib).kidsB o (o + 1 + sizeL a + 1) = offs (o + 1) a ++ [o + 1 + sizeL a] := by
  unfold Pos.kidsB Pos.kids T.ts
  dsimp only
  rw [offs_app, offs]
  have ha : ∀ N, o + 1 + sizeL a ≤ N → (offs (o + 1) a).filter (fun m => decide (m < N)) = offs (o + 1) a := fun N hN => by
    rw [List.filter_eq_self]
    intro m hm
    have := offs_rng _ _ m hm
    exact decide_eq_true (by omega)
  have hb : ∀ N, N ≤ o + 1 + sizeL a + 1 → (offs (o + 1 + sizeL a + c.size) b).filter (fun m => decide (m < N)) = [] := fun N hN => by
    rw [List.filter_eq_nil_iff]
    intro m hm
    have := offs_rng _ _ m hm
    have := c.size_pos
    simp only [decide_eq_true_eq]
    omega
  constructor
  · rw [List.filter_append, ha _ (Nat.le_refl _), List.filter_cons_of_neg (by simp), hb _ (by omega), List.append_nil]
  · rw [List.filter_append, ha _ (by omega), List.filter_cons_of_pos (by simp), hb _ (by omega)]
theorem filter_le {l : List Nat} {N : Nat} (h : N ∉ l) : l.filter (fun m => decide (m < N + 1)) = l.filter (fun m => decide (m < N)) := by
  apply List.filter_congr
  intro m hm
  have : m ≠ N := fun e => h (e ▸ hm)
  rw [decide_eq_decide]
  omega
theorem kids_oth {n N : Nat} {p q : Pos} (h : At t0 n p) (hN : At t0 N q) (e : q.par ≠ some n) : p.kidsB n (N + 1) = p.kidsB n N := by
  unfold Pos.kidsB
  apply filter_le
  intro hm
  obtain ⟨a, c, b, e1, e2⟩ := offs_mem _ _ _ hm
  obtain ⟨⟨hd, ts⟩, par, lev, wh, lay, sib⟩ := p
  have e1 : ts = _ := e1
  subst e1
  have := (At.kid h).uniq (e2 ▸ hN)
  rw [← this] at e
  exact e rfl
theorem sib_oth {n N : Nat} {p : Pos} (e : p.sib ≠ some N) : p.sibB (N + 1) = p.sibB N := by
  unfold Pos.sibB
  split
  · rename_i m e1
    have : m ≠ N := fun z => e (z ▸ e1)
    by_cases hm : m < N
    · rw [if_pos hm, if_pos (by omega)]
    · rw [if_neg hm, if_neg (by omega)]
  · rfl
/-- the part ahead of a part -/
theorem sib_of {o : Nat} {h : Hd} {a b : List T} {x c : T} {par : Option Nat} {lev wh : Nat} {lay : List Nat} {sib : Option Nat} (hA : At t0 o ⟨.nd h (a ++ x :: c :: b), par, lev, wh, lay, sib⟩) :
    ∃ p, At t0 (o + 1 + sizeL a) p ∧ p.sib = some (o + 1 + sizeL a + x.size) := ⟨_, hA.kid, rfl⟩
theorem sib_only {n o : Nat} {h : Hd} {a b : List T} {c : T} {par : Option Nat} {lev wh : Nat} {lay : List Nat} {sib : Option Nat} {p : Pos} (hA : At t0 o ⟨.nd h (a ++ c :: b), par, lev, wh, lay, sib⟩)
    (hn : At t0 n p) (e : p.sib = some (o + 1 + sizeL a)) : ∃ a' x, a = a' ++ [x] ∧ n = o + 1 + sizeL a' := by
  obtain ⟨_, _, o', h', a', c', d', b', par', lev', lay', sib', wh', h0, e1, e2, e3, _⟩ := hn.sib_lt e
  have hm := At.kid hA
  have hm' := h0.next
  rw [← e1, ← e3] at hm'
  have z := hm.uniq hm'
  have zo := congrArg Pos.par z
  have zo := Option.some.inj zo
  subst zo
  have z2 := hA.uniq h0
  have z3 := congrArg (fun p => p.t.ts) z2
  have z3 : a ++ c :: b = a' ++ c' :: d' :: b' := z3
  refine ⟨a', c', pref_eq a (c :: b) (a' ++ [c']) (d' :: b') (by rw [z3]; simp) (by rw [sizeL_app, sizeL, sizeL]; omega), e1⟩
end Dn
end L2
set_option Elab.async false
set_option linter.all false
set_option maxRecDepth 100000
/-! Steps of the evaluator, for simp. -/
namespace L2
namespace Dn
open PySem
def bd {α β : Type} (r : R α) (f : α → Env → R β) : R β := match r with
  | .ok a e => f a e
  | .exc x e => .exc x e
  | .stuck => .stuck
theorem bd_ok {α β : Type} (a : α) (e : Env) (f : α → Env → R β) : bd (.ok a e) f = f a e := rfl
/-- what comes behind, out of simp's sight -/
class Kn (γ : Type) where
  f : γ
def bdC {α β : Type} (r : R α) [k : Kn (α → Env → R β)] : R β := bd r k.f
@[simp ↓] theorem bd_c {α β : Type} (r : R α) (f : α → Env → R β) : bd r f = @bdC α β r ⟨f⟩ := rfl
@[simp] theorem bdC_ok {α β : Type} (a : α) (e : Env) (f : α → Env → R β) : @bdC α β (.ok a e) ⟨f⟩ = f a e := rfl
@[simp] theorem bdC_exc {α β : Type} (x : X) (e : Env) (f : α → Env → R β) : @bdC α β (.exc x e) ⟨f⟩ = .exc x e := rfl
/-! environments -/
@[simp] theorem at0 (a : D) (e : Env) : Env.at (a :: e) 0 = a := rfl
@[simp] theorem atS (a : D) (e : Env) (n : Nat) : Env.at (a :: e) (n + 1) = Env.at e n := rfl
/-! what an expression is -/
section
variable (P : Prog) (call : Call)
@[simp] theorem de_lit (d : D) : den P call (.lit d) = .val fun e => .ok d e := rfl
@[simp] theorem de_gl (g : Nat) : den P call (.gl g) = .val fun e => .ok (P.gd g) e := rfl
@[simp] theorem de_ref (i : Nat) : den P call (.ref i) = .plc (pRef i) := rfl
@[simp] theorem de_fld (p : Ex) (c j : Nat) : den P call (.fld p c j) = .plc (pFld (den P call p).p c j) := rfl
@[simp] theorem de_ix (p a : Ex) : den P call (.ix p a) = .plc (pIx (den P call p).p (den P call a).e) := rfl
@[simp] theorem de_rd (p : Ex) : den P call (.rd p) = .val (cRd (den P call p).p) := rfl
@[simp] theorem de_mov (i : Nat) : den P call (.mov i) = .val (cMov i) := rfl
@[simp] theorem de_fldv (a : Ex) (c j : Nat) : den P call (.fldv a c j) = .val (cFldv (den P call a).e c j) := rfl
@[simp] theorem de_frz (a : Ex) : den P call (.frz a) = .val (cFrz (den P call a).e) := rfl
@[simp] theorem de_tup (es : Exs) : den P call (.tup es) = .val (cTup (denEs P call es)) := rfl
@[simp] theorem de_lst (es : Exs) : den P call (.lst es) = .val (cLst (denEs P call es)) := rfl
@[simp] theorem de_dct (t : Bool) (a b : Exs) : den P call (.dct t a b) = .val fun e => .ok (.dct true t [] []) e := rfl
@[simp] theorem de_bop (b : B) (es : Exs) : den P call (.bop b es) = .val (cBop b (denOs P call es)) := rfl
@[simp] theorem de_slt (a l : Ex) (h : Ex) : den P call (.sl true false a l h) = .val (cSl (den P call a).o (pInt (den P call l).e) pNone) := rfl
@[simp] theorem de_slf (a l : Ex) (h : Ex) : den P call (.sl false true a l h) = .val (cSl (den P call a).o pNone (pInt (den P call h).e)) := rfl
@[simp] theorem de_slb (a l : Ex) (h : Ex) : den P call (.sl true true a l h) = .val (cSl (den P call a).o (pInt (den P call l).e) (pInt (den P call h).e)) := rfl
@[simp] theorem de_ife (t a b : Ex) : den P call (.ife t a b) = .val (cIfe (den P call t).t (den P call a).e (den P call b).e) := rfl
@[simp] theorem de_and (a b : Ex) : den P call (.and a b) = .tst (cAnd (den P call a).e (den P call b).e) (tAndD (den P call a).t (den P call b).t) := rfl
@[simp] theorem de_or (a b : Ex) : den P call (.or a b) = .tst (cOr (den P call a).e (den P call b).e) (tOrD (den P call a).t (den P call b).t) := rfl
@[simp] theorem de_not (a : Ex) : den P call (.not a) = .tst (cNot (den P call a).e) (tNotD (den P call a).t) := rfl
@[simp] theorem de_chain (o1 o2 : B) (a b c : Ex) : den P call (.chain o1 o2 a b c) = .val (cChain o1 o2 (den P call a).o (den P call b).o (den P call c).o) := rfl
@[simp] theorem de_tru (a : Ex) : den P call (.tru a) = .tst mStuck (tTru (den P call a).o) := rfl
@[simp] theorem de_call (f : Nat) (es : Exs) : den P call (.call f es) = .val (cCall P call f (denOs P call es)) := rfl
@[simp] theorem de_callv (fs : List Nat) (i : Nat) (es : Exs) : den P call (.callv fs i es) = .val (cCallv P call fs i (denOs P call es)) := rfl
@[simp] theorem de_mk (c : Nat) (es : Exs) : den P call (.mk c es) = .val (cMk P call c (denOs P call es)) := rfl
@[simp] theorem de_mth (m c : Nat) (a : Ex) (es : Exs) : den P call (.mth m c a es) = .val (cCall P call m (lCons (oChk c (den P call a).o) (denOs P call es))) := rfl
@[simp] theorem de_mut (l : Bool) (b : MB) (p : Ex) (es : Exs) : den P call (.mut l b p es) = .val (cMut l b (den P call p).p (denEs P call es)) := rfl
@[simp] theorem de_comp (x : Ex) (tg : Tg) (vs : List Nat) (it cond : Ex) : den P call (.comp x tg vs it cond) = .val (cComp (den P call it).i (denG P call tg) (den P call cond).t (den P call x).e vs) := rfl
@[simp] theorem de_itE (a : Ex) : den P call (.itE a) = .itr (iWalk true (den P call a).o fun ds => enumD ds 0) := rfl
@[simp] theorem de_itR (es : Exs) : den P call (.itR es) = .itr (iRng (denEs P call es)) := rfl
@[simp] theorem de_itRev (a : Ex) : den P call (.itRev a) = .itr (iWalk false (den P call a).o List.reverse) := rfl
@[simp] theorem dEs_nil : denEs P call .nil = lNil := rfl
@[simp] theorem dEs_cons (a : Ex) (as : Exs) : denEs P call (.cons a as) = lCons (den P call a).e (denEs P call as) := rfl
@[simp] theorem dOs_nil : denOs P call .nil = lNil := rfl
@[simp] theorem dOs_cons (a : Ex) (as : Exs) : denOs P call (.cons a as) = lCons (den P call a).o (denOs P call as) := rfl
@[simp] theorem dG_nm (i : Nat) : denG P call (.nm i) = gName_ i := rfl
@[simp] theorem dG_tp (ts : Tgs) : denG P call (.tp ts) = gTup_ ts.len (denGs P call ts) := rfl
@[simp] theorem dG_fld (p : Ex) (c j : Nat) : denG P call (.fld p c j) = gFld (den P call p).p c j := rfl
@[simp] theorem dG_ix (p a : Ex) : denG P call (.ix p a) = gIx (den P call p).p (den P call a).e := rfl
@[simp] theorem dGs_nil : denGs P call .nil = gsNil := rfl
@[simp] theorem dGs_cons (t : Tg) (ts : Tgs) : denGs P call (.cons t ts) = gsCons (denG P call t) (denGs P call ts) := rfl
@[simp] theorem Tgs_len0 : Tgs.len .nil = 0 := rfl
@[simp] theorem Tgs_lenS (t : Tg) (ts : Tgs) : Tgs.len (.cons t ts) = ts.len + 1 := rfl
@[simp] theorem dS_asg (t : Tg) (a : Ex) : denS P call (.asg t a) = sAsg (den P call a).e (denG P call t) := rfl
@[simp] theorem dS_ex (a : Ex) : denS P call (.ex a) = sEx (den P call a).e := rfl
@[simp] theorem dS_ret (a : Ex) : denS P call (.ret a) = sRet (den P call a).e := rfl
@[simp] theorem dS_ife (t : Ex) (a b : Sms) : denS P call (.ife t a b) = sIf (den P call t).t (denSs P call a) (denSs P call b) := rfl
@[simp] theorem dS_whl (t : Ex) (b : Sms) : denS P call (.whl t b) = whlD (den P call t).t (denSs P call b) BIG := rfl
@[simp] theorem dS_for (t : Tg) (it : Ex) (b : Sms) : denS P call (.for_ t it b) = sFor (den P call it).i (denG P call t) (denSs P call b) := rfl
@[simp] theorem dS_brk : denS P call .brk = fun e => .brk e := rfl
@[simp] theorem dS_cnt : denS P call .cnt = fun e => .cnt e := rfl
@[simp] theorem dS_pas : denS P call .pas = fun e => .nxt e := rfl
@[simp] theorem dS_rai (c : Nat) (a : Ex) : denS P call (.rai c a) = sRai c (den P call a).e := rfl
@[simp] theorem dS_try (b : Sms) (hs : Hs) : denS P call (.try_ b hs) = sTry (denSs P call b) (denH P hs) := rfl
@[simp] theorem dSs_nil : denSs P call .nil = fun e => .nxt e := rfl
@[simp] theorem dSs_cons (s : Sm) (ss : Sms) : denSs P call (.cons s ss) = sSeq (denS P call s) (denSs P call ss) := rfl
end
section
variable (a : M D) (p : M (Nat × Path)) (t : M Bool) (i : M IV)
@[simp] theorem val_e : (DX.val a).e = a := rfl
@[simp] theorem val_o : (DX.val a).o = oTmp a := rfl
@[simp] theorem val_t : (DX.val a).t = tVal a := rfl
@[simp] theorem val_i : (DX.val a).i = iPlain (oTmp a) := rfl
@[simp] theorem plc_p : (DX.plc p).p = p := rfl
@[simp] theorem plc_o : (DX.plc p).o = oPlc p := rfl
@[simp] theorem plc_i : (DX.plc p).i = iPlain (oPlc p) := rfl
@[simp] theorem tst_e : (DX.tst a t).e = a := rfl
@[simp] theorem tst_o : (DX.tst a t).o = oTmp a := rfl
@[simp] theorem tst_t : (DX.tst a t).t = t := rfl
@[simp] theorem tst_i : (DX.tst a t).i = iPlain (oTmp a) := rfl
@[simp] theorem itr_i : (DX.itr i).i = i := rfl
end
/-! applied: one step each -/
section
variable (e : Env)
@[simp] theorem k_lNil {α : Type} : (lNil : M (List α)) e = .ok [] e := rfl
@[simp] theorem k_lCons {α : Type} (a : M α) (as : M (List α)) : lCons a as e = bd (a e) fun o e1 => bd (as e1) fun os e2 => .ok (o :: os) e2 := by
  unfold lCons bd
  cases a e with
  | ok o e1 => dsimp only; cases as e1 <;> rfl
  | exc _ _ => rfl
  | stuck => rfl
@[simp] theorem k_oTmp (a : M D) : oTmp a e = bd (a e) fun d e1 => .ok (.tmp d) e1 := by
  unfold oTmp bd
  cases a e <;> rfl
@[simp] theorem k_oPlc (p : M (Nat × Path)) : oPlc p e = bd (p e) fun ip e1 => if (getD (e1.at ip.1) ip.2).isNo then .stuck else .ok (.plc ip.1 ip.2) e1 := by
  unfold oPlc bd
  cases p e <;> rfl
@[simp] theorem k_pRef (i : Nat) : pRef i e = if (e.at i).isNo then .stuck else .ok (i, []) e := rfl
@[simp] theorem k_pFld (p : M (Nat × Path)) (c j : Nat) : pFld p c j e = bd (p e) fun ip e1 => match getD (e1.at ip.1) ip.2 with
    | .obj _ c' ds => if c' = c ∧ j < ds.length then .ok (ip.1, ip.2 ++ [.f j]) e1 else .stuck
    | _ => .stuck := by
  unfold pFld bd
  cases p e <;> rfl
@[simp] theorem k_pIx (p : M (Nat × Path)) (a : M D) : pIx p a e = bd (p e) fun ip e1 => bd (a e1) fun x e2 => match (getD (e2.at ip.1) ip.2).own, stepOf (getD (e2.at ip.1) ip.2) x with
      | true, some st => match stepIx (getD (e2.at ip.1) ip.2) st with
        | some _ => .ok (ip.1, ip.2 ++ [st]) e2
        | none => .stuck
      | _, _ => .stuck := by
  unfold pIx bd
  cases p e with
  | ok ip e1 => dsimp only; cases a e1 <;> rfl
  | exc _ _ => rfl
  | stuck => rfl
@[simp] theorem k_cRd (p : M (Nat × Path)) : cRd p e = bd (p e) fun ip e1 => if (getD (e1.at ip.1) ip.2).isNo then .stuck else
    if (getD (e1.at ip.1) ip.2).own then .ok (frz (getD (e1.at ip.1) ip.2)) (e1.set ip.1 (setD (e1.at ip.1) ip.2 (frz (getD (e1.at ip.1) ip.2)))) else .ok (getD (e1.at ip.1) ip.2) e1 := by
  unfold cRd bd
  cases p e <;> rfl
@[simp] theorem k_cMov (i : Nat) : cMov i e = if (e.at i).isNo then .stuck else .ok (e.at i) (e.set i .no) := rfl
@[simp] theorem k_cFrz (a : M D) : cFrz a e = bd (a e) fun d e1 => .ok (Dn.frz d) e1 := by
  unfold cFrz bd
  cases a e <;> rfl
@[simp] theorem k_cTup (es : M (List D)) : cTup es e = bd (es e) fun ds e1 => if ds.length ≤ LINE then .ok (.tup (!allF ds) ds) e1 else .stuck := by
  unfold cTup bd
  cases es e <;> rfl
@[simp] theorem k_cLst (es : M (List D)) : cLst es e = bd (es e) fun ds e1 => if ds.length ≤ LINE then .ok (.lst true ds) e1 else .stuck := by
  unfold cLst bd
  cases es e <;> rfl
def opt {α : Type} (o : Option α) (e : Env) : R α := match o with | some d => .ok d e | none => .stuck
@[simp] theorem opt_some {α : Type} (d : α) : opt (some d) e = .ok d e := rfl
@[simp] theorem k_cBop (b : B) (os : M (List OV)) : cBop b os e = bd (os e) fun ovs e1 => opt (bopD b (ovs.map (OV.get e1))) e1 := by
  unfold cBop bd opt
  cases os e with
  | ok ovs e1 => dsimp only; cases bopD b (ovs.map (OV.get e1)) <;> rfl
  | exc _ _ => rfl
  | stuck => rfl
@[simp] theorem k_pNone : pNone e = .ok none e := rfl
@[simp] theorem k_pInt (a : M D) : pInt a e = bd (a e) fun d e1 => match d with | .int i => .ok (some i) e1 | _ => .stuck := by
  unfold pInt bd
  cases a e with
  | ok d _ => cases d <;> rfl
  | exc _ _ => rfl
  | stuck => rfl
@[simp] theorem k_cSl (o : M OV) (l h : M (Option Int)) : cSl o l h e = bd (o e) fun ov e1 => bd (l e1) fun lo e2 => bd (h e2) fun hi e3 => opt (slcD (ov.get e3) lo hi) e3 := by
  unfold cSl bd opt
  cases o e with
  | ok ov e1 =>
    dsimp only
    cases l e1 with
    | ok lo e2 =>
      dsimp only
      cases h e2 with
      | ok hi e3 => dsimp only; cases slcD (ov.get e3) lo hi <;> rfl
      | exc _ _ => rfl
      | stuck => rfl
    | exc _ _ => rfl
    | stuck => rfl
  | exc _ _ => rfl
  | stuck => rfl
@[simp] theorem k_cIfe {α : Type} (t : M Bool) (a b : M α) : cIfe t a b e = bd (t e) fun c e1 => if c then a e1 else b e1 := by
  unfold cIfe bd
  cases t e with
  | ok c _ => cases c <;> rfl
  | exc _ _ => rfl
  | stuck => rfl
@[simp] theorem k_cAnd (a b : M D) : cAnd a b e = bd (a e) fun d e1 => match d with | .bl true => b e1 | .bl false => .ok (.bl false) e1 | _ => .stuck := by
  unfold cAnd bd
  cases a e with
  | ok d _ => cases d with
    | bl c => cases c <;> rfl
    | _ => rfl
  | exc _ _ => rfl
  | stuck => rfl
@[simp] theorem k_cOr (a b : M D) : cOr a b e = bd (a e) fun d e1 => match d with | .bl true => .ok (.bl true) e1 | .bl false => b e1 | _ => .stuck := by
  unfold cOr bd
  cases a e with
  | ok d _ => cases d with
    | bl c => cases c <;> rfl
    | _ => rfl
  | exc _ _ => rfl
  | stuck => rfl
@[simp] theorem k_cNot (a : M D) : cNot a e = bd (a e) fun d e1 => match d with | .bl b => .ok (.bl (!b)) e1 | _ => .stuck := by
  unfold cNot bd
  cases a e with
  | ok d _ => cases d <;> rfl
  | exc _ _ => rfl
  | stuck => rfl
def chk (o : Option D) (e : Env) (k : R D) : R D := match o with | some (.bl true) => k | some (.bl false) => .ok (.bl false) e | _ => .stuck
def chkC (o : Option D) (e : Env) [k : Kn (R D)] : R D := chk o e k.f
@[simp ↓] theorem chk_c (o : Option D) (k : R D) : chk o e k = @chkC o e ⟨k⟩ := rfl
@[simp] theorem chkC_t (k : R D) : @chkC (some (.bl true)) e ⟨k⟩ = k := rfl
@[simp] theorem chkC_f (k : R D) : @chkC (some (.bl false)) e ⟨k⟩ = .ok (.bl false) e := rfl
def blo (o : Option D) (e : Env) : R D := match o with | some (.bl r) => .ok (.bl r) e | _ => .stuck
@[simp] theorem blo_b (r : Bool) : blo (some (.bl r)) e = .ok (.bl r) e := rfl
@[simp] theorem k_cChain (o1 o2 : B) (a b c : M OV) : cChain o1 o2 a b c e = bd (a e) fun oa e1 => bd (b e1) fun ob e2 => chk (cmpD o1 (oa.get e2) (ob.get e2)) e2 (bd (c e2) fun oc e3 => blo (cmpD o2 (ob.get e3) (oc.get e3)) e3) := by
  unfold cChain bd chk
  cases a e with
  | ok oa e1 =>
    dsimp only
    cases b e1 with
    | ok ob e2 =>
      dsimp only
      generalize cmpD o1 (oa.get e2) (ob.get e2) = z
      cases z with
      | none => rfl
      | some d =>
        cases d with
        | bl q =>
          cases q with
          | false => rfl
          | true =>
            dsimp only
            cases c e2 with
            | ok oc e3 =>
              dsimp only
              unfold blo
              generalize cmpD o2 (ob.get e3) (oc.get e3) = y
              cases y with
              | none => rfl
              | some d => cases d <;> rfl
            | exc _ _ => rfl
            | stuck => rfl
        | _ => rfl
    | exc _ _ => rfl
    | stuck => rfl
  | exc _ _ => rfl
  | stuck => rfl
/-- a call with its arguments fetched -/
def doCall (call : Call) (f : Nat) (r : Option (List D × Env × List (Nat × Path × D × Nat))) : R D := match r with
  | some (ds, e2, bs) => match call f ds with
    | .ok d ds' => .ok d (giveB bs ds' e2)
    | .exc x ds' => .exc x (giveB bs ds' e2)
    | .stuck => .stuck
  | none => .stuck
def callR (r : CR) (bs : List (Nat × Path × D × Nat)) (e2 : Env) : R D := match r with
    | .ok d ds' => .ok d (giveB bs ds' e2)
    | .exc x ds' => .exc x (giveB bs ds' e2)
    | .stuck => .stuck
@[simp] theorem callR_ok (d : D) (ds' : List D) (bs : List (Nat × Path × D × Nat)) : callR (.ok d ds') bs e = .ok d (giveB bs ds' e) := rfl
@[simp] theorem callR_exc (x : X) (ds' : List D) (bs : List (Nat × Path × D × Nat)) : callR (.exc x ds') bs e = .exc x (giveB bs ds' e) := rfl
@[simp] theorem doCall_some (call : Call) (f : Nat) (ds : List D) (bs : List (Nat × Path × D × Nat)) : doCall call f (some (ds, e, bs)) = callR (call f ds) bs e := rfl
theorem k_cCall {P : Prog} {call : Call} {f : Nat} {fn : Fn} (hf : P.fn f = some fn) (os : M (List OV)) : cCall P call f os e = bd (os e) fun ovs e1 => if ovs.length = fn.np then doCall call f (fetchA fn.fx 0 ovs e1) else .stuck := by
  unfold cCall bd
  cases os e with
  | ok ovs e1 =>
    dsimp only
    rw [hf]
    dsimp only
    split
    · unfold doCall
      cases fetchA fn.fx 0 ovs e1 with
      | none => rfl
      | some r => obtain ⟨a, b, c⟩ := r; rfl
    · rfl
  | exc _ _ => rfl
  | stuck => rfl
@[simp] theorem k_cCallv (P : Prog) (call : Call) (fs : List Nat) (i : Nat) (os : M (List OV)) : cCallv P call fs i os e = match e.at i with | .gl g => if 1000 ≤ g ∧ g - 1000 ∈ fs then cCall P call (g - 1000) os e else .stuck | _ => .stuck := rfl
def mkR (r : CR) (bs : List (Nat × Path × D × Nat)) (e2 : Env) : R D := match r with
  | .ok .non ds' => .ok (ds'.getD 0 .no) (giveB bs ds' e2)
  | .ok _ _ => .stuck
  | .exc x ds' => .exc x (giveB bs ds' e2)
  | .stuck => .stuck
@[simp] theorem mkR_ok (ds' : List D) (bs : List (Nat × Path × D × Nat)) : mkR (.ok .non ds') bs e = .ok (ds'.getD 0 .no) (giveB bs ds' e) := rfl
@[simp] theorem mkR_exc (x : X) (ds' : List D) (bs : List (Nat × Path × D × Nat)) : mkR (.exc x ds') bs e = .exc x (giveB bs ds' e) := rfl
def doMk (call : Call) (f c : Nat) (r : Option (List D × Env × List (Nat × Path × D × Nat))) : R D := match r with
  | some (ds, e2, bs) => mkR (call f (.obj true c [] :: ds)) bs e2
  | none => .stuck
@[simp] theorem doMk_some (call : Call) (f c : Nat) (ds : List D) (bs : List (Nat × Path × D × Nat)) : doMk call f c (some (ds, e, bs)) = mkR (call f (.obj true c [] :: ds)) bs e := rfl
theorem k_cMk {P : Prog} {call : Call} {c f : Nat} {fn : Fn} (hi : P.init c = f) (hf : P.fn f = some fn) (os : M (List OV)) : cMk P call c os e = bd (os e) fun ovs e1 => if ovs.length + 1 = fn.np ∧ 0 ∈ fn.fx then doMk call f c (fetchA fn.fx 1 ovs e1) else .stuck := by
  unfold cMk bd
  cases os e with
  | ok ovs e1 =>
    dsimp only
    rw [hi, hf]
    dsimp only
    split
    · unfold doMk
      cases fetchA fn.fx 1 ovs e1 with
      | none => rfl
      | some r =>
        obtain ⟨a, b, z⟩ := r
        dsimp only
        unfold mkR
        cases call f (.obj true c [] :: a) with
        | ok d ds => cases d <;> rfl
        | exc _ _ => rfl
        | stuck => rfl
    · rfl
  | exc _ _ => rfl
  | stuck => rfl
@[simp] theorem k_oChk (c : Nat) (o : M OV) : oChk c o e = bd (o e) fun ov e1 => match ov.get e1 with | .obj _ c' _ => if c' = c then .ok ov e1 else .stuck | _ => .stuck := by
  unfold oChk bd
  cases o e <;> rfl
@[simp] theorem k_cMut (l : Bool) (b : MB) (p : M (Nat × Path)) (es : M (List D)) : cMut l b p es e = bd (p e) fun ip e1 => if (getD (e1.at ip.1) ip.2).lstOwn then
      bd (es (if l then e1.set ip.1 .no else e1)) fun ds e2 => bd (opt (mutD b (getD (if l then e1.at ip.1 else e2.at ip.1) ip.2) ds) e2) fun rd _ => .ok rd.1 (e2.set ip.1 (setD (if l then e1.at ip.1 else e2.at ip.1) ip.2 rd.2))
    else .stuck := by
  unfold cMut bd
  cases p e with
  | ok ip e1 =>
    dsimp only
    split
    · cases es (if l then e1.set ip.1 .no else e1) with
      | ok ds e2 => dsimp only; unfold opt; split <;> rename_i h <;> rw [h]
      | exc _ _ => rfl
      | stuck => rfl
    · rfl
  | exc _ _ => rfl
  | stuck => rfl
def excS {α : Type} (r : R α) : R α := match r with | .ok a e => .ok a e | _ => .stuck
@[simp] theorem excS_ok {α : Type} (a : α) : excS (.ok a e) = .ok a e := rfl
@[simp] theorem k_cComp (i : M IV) (g : D → M Unit) (t : M Bool) (x : M D) (vs : List Nat) : cComp i g t x vs e = bd (i e) fun iv e1 => bd (excS (compD (turnC g t x vs) iv.items (wipeE e1 vs) [])) fun ds e2 => .ok (.lst true ds) (unlend iv.lent e2) := by
  unfold cComp bd
  cases i e with
  | ok iv e1 => dsimp only; unfold excS; cases compD (turnC g t x vs) iv.items (wipeE e1 vs) [] <;> rfl
  | exc _ _ => rfl
  | stuck => rfl
@[simp] theorem k_turnC (g : D → M Unit) (t : M Bool) (x : M D) (vs : List Nat) (d : D) : turnC g t x vs d e = bd (g d e) fun _ e3 => bd (t e3) fun c e4 => if c then bd (x e4) fun y e5 => .ok (some y) (wipeE e5 vs) else .ok none (wipeE e4 vs) := by
  unfold turnC bd
  cases g d e with
  | ok _ e3 =>
    dsimp only
    cases t e3 with
    | ok c e4 =>
      cases c with
      | true => dsimp only; cases x e4 <;> rfl
      | false => rfl
    | exc _ _ => rfl
    | stuck => rfl
  | exc _ _ => rfl
  | stuck => rfl
@[simp] theorem k_tVal (a : M D) : tVal a e = bd (a e) fun d e1 => match d with | .bl b => .ok b e1 | _ => .stuck := by
  unfold tVal bd
  cases a e with
  | ok d _ => cases d <;> rfl
  | exc _ _ => rfl
  | stuck => rfl
@[simp] theorem k_tTru (a : M OV) : tTru a e = bd (a e) fun o e1 => opt (o.get e1).truth e1 := by
  unfold tTru bd opt
  cases a e with
  | ok o e1 => dsimp only; cases (o.get e1).truth <;> rfl
  | exc _ _ => rfl
  | stuck => rfl
@[simp] theorem k_tAnd (a b : M Bool) : tAndD a b e = bd (a e) fun c e1 => if c then b e1 else .ok false e1 := by
  unfold tAndD bd
  cases a e with
  | ok c _ => cases c <;> rfl
  | exc _ _ => rfl
  | stuck => rfl
@[simp] theorem k_tOr (a b : M Bool) : tOrD a b e = bd (a e) fun c e1 => if c then .ok true e1 else b e1 := by
  unfold tOrD bd
  cases a e with
  | ok c _ => cases c <;> rfl
  | exc _ _ => rfl
  | stuck => rfl
@[simp] theorem k_tNot (a : M Bool) : tNotD a e = bd (a e) fun c e1 => .ok (!c) e1 := by
  unfold tNotD bd
  cases a e <;> rfl
@[simp] theorem k_iRng (es : M (List D)) : iRng es e = bd (es e) fun ds e1 => match ds with
    | [.int j] => if -(2 ^ 62) ≤ j ∧ j < 2 ^ 62 then .ok ⟨rangeD 0 j, none⟩ e1 else .stuck
    | [.int i, .int j] => if -(2 ^ 62) ≤ i ∧ i < 2 ^ 62 ∧ -(2 ^ 62) ≤ j ∧ j < 2 ^ 62 then .ok ⟨rangeD i j, none⟩ e1 else .stuck
    | _ => .stuck := by
  unfold iRng bd
  cases es e with
  | ok ds e1 =>
    dsimp only
    split
    · rename_i h; cases h; rfl
    · rename_i h; cases h; rfl
    · rename_i h1 h2 h; cases h; split
      · exact (h1 _ rfl).elim
      · exact (h2 _ _ rfl).elim
      · rfl
    · rename_i h; cases h
    · rename_i h; cases h
  | exc _ _ => rfl
  | stuck => rfl
@[simp] theorem k_iWalk (lo : Bool) (a : M OV) (f : List D → List D) : iWalk lo a f e = bd (a e) fun o e1 => bd (opt (walkO lo o e1) e1) fun r _ => .ok ⟨f r.1, r.2.1⟩ r.2.2 := by
  unfold iWalk bd
  cases a e with
  | ok o e1 => dsimp only; unfold opt; split <;> rename_i h <;> rw [h]
  | exc _ _ => rfl
  | stuck => rfl
def plainD (o : OV) (e : Env) (d : D) : R IV := match d with
  | .str z => .ok ⟨chD z, none⟩ e
  | _ => bd (opt (walkO false o e) e) fun r _ => .ok ⟨r.1, r.2.1⟩ r.2.2
@[simp] theorem plainD_str (o : OV) (z : Str) : plainD o e (.str z) = .ok ⟨chD z, none⟩ e := rfl
@[simp] theorem plainD_lst (o : OV) (b : Bool) (ds : List D) : plainD o e (.lst b ds) = bd (opt (walkO false o e) e) fun r _ => .ok ⟨r.1, r.2.1⟩ r.2.2 := rfl
@[simp] theorem plainD_tup (o : OV) (b : Bool) (ds : List D) : plainD o e (.tup b ds) = bd (opt (walkO false o e) e) fun r _ => .ok ⟨r.1, r.2.1⟩ r.2.2 := rfl
@[simp] theorem k_iPlain (a : M OV) : iPlain a e = bd (a e) fun o e1 => plainD o e1 (o.get e1) := by
  unfold iPlain bd plainD
  cases a e with
  | ok o e1 =>
    dsimp only
    unfold opt
    cases o.get e1 with
    | str z => rfl
    | _ => dsimp only; cases walkO false o e1 <;> rfl
  | exc _ _ => rfl
  | stuck => rfl
@[simp] theorem k_gName (i : Nat) (d : D) : gName_ i d e = .ok () (e.set i d) := rfl
@[simp] theorem k_gTup (n : Nat) (ts : List D → M Unit) (o : Bool) (ds : List D) : gTup_ n ts (.tup o ds) e = if ds.length = n then ts ds e else .stuck := rfl
@[simp] theorem k_gFld (p : M (Nat × Path)) (c j : Nat) (d : D) : gFld p c j d e = bd (p e) fun ip e1 => bd (opt (setFld (getD (e1.at ip.1) ip.2) c j d) e1) fun x _ => .ok () (e1.set ip.1 (setD (e1.at ip.1) ip.2 x)) := by
  unfold gFld bd
  cases p e with
  | ok ip e1 => dsimp only; unfold opt; split <;> rename_i h <;> rw [h]
  | exc _ _ => rfl
  | stuck => rfl
@[simp] theorem k_gIx (p : M (Nat × Path)) (a : M D) (d : D) : gIx p a d e = bd (p e) fun ip e1 => bd (a e1) fun k e2 => bd (opt (setIx (getD (e2.at ip.1) ip.2) k d) e2) fun x _ => .ok () (e2.set ip.1 (setD (e2.at ip.1) ip.2 x)) := by
  unfold gIx bd
  cases p e with
  | ok ip e1 =>
    dsimp only
    cases a e1 with
    | ok k e2 => dsimp only; unfold opt; split <;> rename_i h <;> rw [h]
    | exc _ _ => rfl
    | stuck => rfl
  | exc _ _ => rfl
  | stuck => rfl
@[simp] theorem k_gsNil : gsNil [] e = .ok () e := rfl
@[simp] theorem k_gsCons (t : D → M Unit) (ts : List D → M Unit) (d : D) (ds : List D) : gsCons t ts (d :: ds) e = bd (t d e) fun _ e1 => ts ds e1 := by
  unfold gsCons bd
  dsimp only
  cases t d e <;> rfl
/-! statements: what follows an expression -/
def rS {α : Type} (r : R α) (f : α → Env → RS) : RS := match r with | .ok a e => f a e | .exc x e => .exc x e | .stuck => .stuck
theorem rS_ok {α : Type} (a : α) (f : α → Env → RS) : rS (.ok a e) f = f a e := rfl
def rSC {α : Type} (r : R α) [k : Kn (α → Env → RS)] : RS := rS r k.f
@[simp ↓] theorem rS_c {α : Type} (r : R α) (f : α → Env → RS) : rS r f = @rSC α r ⟨f⟩ := rfl
@[simp] theorem rSC_ok {α : Type} (a : α) (f : α → Env → RS) : @rSC α (.ok a e) ⟨f⟩ = f a e := rfl
@[simp] theorem rSC_exc {α : Type} (x : X) (f : α → Env → RS) : @rSC α (.exc x e) ⟨f⟩ = .exc x e := rfl
def sq (r : RS) (f : Env → RS) : RS := match r with | .nxt e => f e | r => r
def sqC (r : RS) [k : Kn (Env → RS)] : RS := sq r k.f
@[simp ↓] theorem sq_c (r : RS) (f : Env → RS) : sq r f = @sqC r ⟨f⟩ := rfl
@[simp] theorem sqC_nxt (f : Env → RS) : @sqC (.nxt e) ⟨f⟩ = f e := rfl
@[simp] theorem sqC_brk (f : Env → RS) : @sqC (.brk e) ⟨f⟩ = .brk e := rfl
@[simp] theorem sqC_cnt (f : Env → RS) : @sqC (.cnt e) ⟨f⟩ = .cnt e := rfl
@[simp] theorem sqC_ret (d : D) (f : Env → RS) : @sqC (.ret d e) ⟨f⟩ = .ret d e := rfl
@[simp] theorem sqC_exc (x : X) (f : Env → RS) : @sqC (.exc x e) ⟨f⟩ = .exc x e := rfl
@[simp] theorem k_sAsg (a : M D) (g : D → M Unit) : sAsg a g e = rS (a e) fun d e1 => rS (g d e1) fun _ e2 => .nxt e2 := by
  unfold sAsg rS
  cases a e with
  | ok d e1 => dsimp only; cases g d e1 <;> rfl
  | exc _ _ => rfl
  | stuck => rfl
@[simp] theorem k_sEx (a : M D) : sEx a e = rS (a e) fun _ e1 => .nxt e1 := by
  unfold sEx rS
  cases a e <;> rfl
@[simp] theorem k_sRet (a : M D) : sRet a e = rS (a e) fun d e1 => .ret d e1 := by
  unfold sRet rS
  cases a e <;> rfl
@[simp] theorem k_sIf (t : M Bool) (a b : MS) : sIf t a b e = rS (t e) fun c e1 => if c then a e1 else b e1 := by
  unfold sIf rS
  cases t e with
  | ok c _ => cases c <;> rfl
  | exc _ _ => rfl
  | stuck => rfl
@[simp] theorem k_sFor (i : M IV) (g : D → M Unit) (b : MS) : sFor i g b e = rS (i e) fun iv e1 => (forD (sTurn g b) iv.items e1).map (unlend iv.lent) := by
  unfold sFor rS
  cases i e <;> rfl
@[simp] theorem k_sTurn (g : D → M Unit) (b : MS) (d : D) : sTurn g b d e = rS (g d e) fun _ e3 => b e3 := by
  unfold sTurn rS
  cases g d e <;> rfl
@[simp] theorem k_sRai (c : Nat) (a : M D) : sRai c a e = rS (a e) fun d e1 => .exc ⟨c, Dn.frz d⟩ e1 := by
  unfold sRai rS
  cases a e <;> rfl
@[simp] theorem k_sSeq (a b : MS) : sSeq a b e = sq (a e) b := by
  unfold sSeq sq
  cases a e <;> rfl
def trR (r : RS) (h : X → Env → RS) : RS := match r with | .exc x e1 => h x e1 | r => r
@[simp] theorem trR_nxt (h : X → Env → RS) : trR (.nxt e) h = .nxt e := rfl
@[simp] theorem trR_brk (h : X → Env → RS) : trR (.brk e) h = .brk e := rfl
@[simp] theorem trR_cnt (h : X → Env → RS) : trR (.cnt e) h = .cnt e := rfl
@[simp] theorem trR_ret (d : D) (h : X → Env → RS) : trR (.ret d e) h = .ret d e := rfl
@[simp] theorem trR_exc (x : X) (h : X → Env → RS) : trR (.exc x e) h = h x e := rfl
@[simp] theorem k_sTry (b : MS) (h : X → Env → RS) : sTry b h e = trR (b e) h := by
  unfold sTry trR
  cases b e <;> rfl
@[simp] theorem map_nxt (f : Env → Env) : (RS.nxt e).map f = .nxt (f e) := rfl
@[simp] theorem map_brk (f : Env → Env) : (RS.brk e).map f = .brk (f e) := rfl
@[simp] theorem map_cnt (f : Env → Env) : (RS.cnt e).map f = .cnt (f e) := rfl
@[simp] theorem map_ret (d : D) (f : Env → Env) : (RS.ret d e).map f = .ret d (f e) := rfl
@[simp] theorem map_exc (x : X) (f : Env → Env) : (RS.exc x e).map f = .exc x (f e) := rfl
end
/-- what a body's end is for the caller -/
def fin (fn : Fn) (r : RS) : CR := match r with
  | .nxt e => .ok .non (maskF fn.fx 0 (e.take fn.np))
  | .ret d e => .ok d (maskF fn.fx 0 (e.take fn.np))
  | .exc x e => .exc x (maskF fn.fx 0 (e.take fn.np))
  | _ => .stuck
theorem fn_is {P : Prog} {n f : Nat} {fn : Fn} {ds : List D} (hf : P.fn f = some fn) (hl : ds.length = fn.np) :
    denFn P (n + 1) f ds = fin fn (denSs P (denFn P n) fn.body (ds ++ List.replicate (fn.ns - fn.np) .no)) := by
  unfold denFn
  rw [hf]
  dsimp only
  rw [if_pos hl]
  unfold fin
  rfl
@[simp] theorem fin_nxt (fn : Fn) (e : Env) : fin fn (.nxt e) = .ok .non (maskF fn.fx 0 (e.take fn.np)) := rfl
@[simp] theorem fin_ret (fn : Fn) (d : D) (e : Env) : fin fn (.ret d e) = .ok d (maskF fn.fx 0 (e.take fn.np)) := rfl
@[simp] theorem fin_exc (fn : Fn) (x : X) (e : Env) : fin fn (.exc x e) = .exc x (maskF fn.fx 0 (e.take fn.np)) := rfl
end Dn
end L2
set_option Elab.async false
set_option linter.all false
set_option maxRecDepth 100000
/-! Trees, ways and codes as data. -/
namespace L2
namespace Dn
open PySem
def Hd.kind : Hd → Str
  | .do_ _ => "do" | .call _ => "call" | .ife _ => "if" | .whl _ => "while" | .seq => "seq" | .brk _ => "break" | .cnt _ => "continue" | .ret => "return" | .rai => "raise" | .try_ => "try" | .fin => "final"
def encHd : Hd → List D → List D
  | .do_ x, _ => [.str "do", .str x]
  | .call x, _ => [.str "call", .str x]
  | .ife x, ds => .str "if" :: .str x :: ds
  | .whl x, ds => .str "while" :: .str x :: ds
  | .seq, ds => [.str "seq", .tup false ds]
  | .brk k, _ => [.str "break", .int k]
  | .cnt k, _ => [.str "continue", .int k]
  | .ret, _ => [.str "return"]
  | .rai, _ => [.str "raise"]
  | .try_, ds => .str "try" :: ds
  | .fin, ds => .str "final" :: ds
mutual
def encT : T → D
  | .nd h ts => .tup false (encHd h (encL ts))
def encL : List T → List D
  | [] => []
  | t :: ts => encT t :: encL ts
end
theorem encL_map : ∀ ts, encL ts = ts.map encT
  | [] => rfl
  | t :: ts => by rw [encL, encL_map ts]; rfl
def headOf : Hd → Nat → List D
  | .do_ x, _ => [.str "do", .str x]
  | .call x, _ => [.str "call", .str x]
  | .ife x, _ => [.str "if", .str x]
  | .whl x, _ => [.str "while", .str x]
  | .seq, n => [.str "seq", .int n]
  | .brk k, _ => [.str "break", .int k]
  | .cnt k, _ => [.str "continue", .int k]
  | .ret, _ => [.str "return"]
  | .rai, _ => [.str "raise"]
  | .try_, _ => [.str "try"]
  | .fin, _ => [.str "final"]
def encH (h : Hd) (n : Nat) : D := .tup false (headOf h n)
def optN : Option Nat → D | some n => .int n | none => .non
def encNs (l : List Nat) : List D := l.map fun (n : Nat) => D.int n
def encSpot (p : Pos) : D := .tup false [encT p.t, optN p.par, .int p.lev, .int p.wh, .lst false (encNs p.lay)]
@[simp] theorem own_encT (t : T) : (encT t).own = false := by cases t; rfl
@[simp] theorem isNo_encT (t : T) : (encT t).isNo = false := by cases t; rfl
@[simp] theorem own_encH (h : Hd) (n : Nat) : (encH h n).own = false := rfl
@[simp] theorem isNo_encH (h : Hd) (n : Nat) : (encH h n).isNo = false := rfl
@[simp] theorem own_optN (n : Option Nat) : (optN n).own = false := by cases n <;> rfl
@[simp] theorem isNo_optN (n : Option Nat) : (optN n).isNo = false := by cases n <;> rfl
@[simp] theorem frz_optN (n : Option Nat) : frz (optN n) = optN n := by cases n <;> rfl
theorem frz_encH (h : Hd) (n : Nat) : frz (encH h n) = encH h n := by cases h <;> rfl
mutual
theorem frz_encT : ∀ t, frz (encT t) = encT t
  | .nd h ts => by
    have := frzL_encL ts
    rw [encT, frz]
    cases h <;> simp [encHd, frzL, frz, this]
theorem frzL_encL : ∀ ts, frzL (encL ts) = encL ts
  | [] => rfl
  | t :: ts => by rw [encL, frzL, frz_encT t, frzL_encL ts]
end
@[simp] theorem frz_encT' (t : T) : frz (encT t) = encT t := frz_encT t
@[simp] theorem frz_encH' (h : Hd) (n : Nat) : frz (encH h n) = encH h n := frz_encH h n
@[simp] theorem frzL_encL' (ts : List T) : frzL (encL ts) = encL ts := frzL_encL ts
@[simp] theorem frzL_ns (l : List Nat) : frzL (encNs l) = encNs l := by
  rw [frzL_eq]
  unfold encNs
  rw [List.map_map]
  rfl
theorem allF_map {α : Type} (f : α → D) (h : ∀ a, (f a).own = false) (l : List α) : allF (l.map f) = true := by
  unfold allF
  rw [List.all_eq_true]
  intro d hd
  obtain ⟨a, _, e⟩ := List.mem_map.mp hd
  rw [← e, h a]
  rfl
@[simp] theorem allF_ns (l : List Nat) : allF (encNs l) = true := allF_map _ (fun _ => rfl) l
@[simp] theorem allF_encL (l : List T) : allF (encL l) = true := by rw [encL_map]; exact allF_map _ own_encT l
@[simp] theorem allF_nil : allF [] = true := rfl
@[simp] theorem allF_cons (d : D) (ds : List D) : allF (d :: ds) = (!d.own && allF ds) := rfl
@[simp] theorem allF_app (a b : List D) : allF (a ++ b) = (allF a && allF b) := by
  unfold allF
  rw [List.all_append]
@[simp] theorem frzL_nil : frzL [] = [] := rfl
@[simp] theorem frzL_cons (d : D) (ds : List D) : frzL (d :: ds) = frz d :: frzL ds := rfl
@[simp] theorem frz_int (i : Int) : frz (.int i) = .int i := rfl
@[simp] theorem frz_str (i : Str) : frz (.str i) = .str i := rfl
@[simp] theorem frz_bl (i : Bool) : frz (.bl i) = .bl i := rfl
@[simp] theorem frz_non : frz .non = .non := rfl
@[simp] theorem frz_gl (g : Nat) : frz (.gl g) = .gl g := rfl
@[simp] theorem frz_lst (o : Bool) (ds : List D) : frz (.lst o ds) = .lst false (frzL ds) := rfl
@[simp] theorem frz_tup (o : Bool) (ds : List D) : frz (.tup o ds) = .tup false (frzL ds) := rfl
@[simp] theorem frz_obj (o : Bool) (c : Nat) (ds : List D) : frz (.obj o c ds) = .obj false c (frzL ds) := rfl
@[simp] theorem frz_dct (o t : Bool) (ks : List KD) (ds : List D) : frz (.dct o t ks ds) = .dct false t ks (frzL ds) := rfl
@[simp] theorem own_int (i : Int) : (D.int i).own = false := rfl
@[simp] theorem own_str (i : Str) : (D.str i).own = false := rfl
@[simp] theorem own_bl (i : Bool) : (D.bl i).own = false := rfl
@[simp] theorem own_non : D.non.own = false := rfl
@[simp] theorem own_gl (g : Nat) : (D.gl g).own = false := rfl
@[simp] theorem own_wls (ds : List D) : (D.wls ds).own = false := rfl
@[simp] theorem isNo_wls (ds : List D) : (D.wls ds).isNo = false := rfl
@[simp] theorem frz_wls (ds : List D) : frz (.wls ds) = .wls ds := rfl
@[simp] theorem own_tup (o : Bool) (ds : List D) : (D.tup o ds).own = o := rfl
@[simp] theorem own_lst (o : Bool) (ds : List D) : (D.lst o ds).own = o := rfl
@[simp] theorem own_obj (o : Bool) (c : Nat) (ds : List D) : (D.obj o c ds).own = o := rfl
@[simp] theorem own_dct (o t : Bool) (ks : List KD) (ds : List D) : (D.dct o t ks ds).own = o := rfl
@[simp] theorem isNo_int (i : Int) : (D.int i).isNo = false := rfl
@[simp] theorem isNo_str (i : Str) : (D.str i).isNo = false := rfl
@[simp] theorem isNo_bl (i : Bool) : (D.bl i).isNo = false := rfl
@[simp] theorem isNo_non : D.non.isNo = false := rfl
@[simp] theorem isNo_gl (g : Nat) : (D.gl g).isNo = false := rfl
@[simp] theorem isNo_tup (o : Bool) (ds : List D) : (D.tup o ds).isNo = false := rfl
@[simp] theorem isNo_lst (o : Bool) (ds : List D) : (D.lst o ds).isNo = false := rfl
@[simp] theorem isNo_obj (o : Bool) (c : Nat) (ds : List D) : (D.obj o c ds).isNo = false := rfl
@[simp] theorem isNo_dct (o t : Bool) (ks : List KD) (ds : List D) : (D.dct o t ks ds).isNo = false := rfl
@[simp] theorem lstOwn_lst (o : Bool) (ds : List D) : (D.lst o ds).lstOwn = o := by cases o <;> rfl
@[simp] theorem get_tmp (d : D) (e : Env) : OV.get e (.tmp d) = d := rfl
@[simp] theorem get_plc (i : Nat) (p : Path) (e : Env) : OV.get e (.plc i p) = getD (e.at i) p := rfl
@[simp] theorem getD_nil (d : D) : getD d [] = d := rfl
@[simp] theorem getD_f (o : Bool) (c j : Nat) (ds : List D) (r : Path) : getD (.obj o c ds) (.f j :: r) = if j < ds.length then getD (ds.getD j .no) r else .no := by
  show (if true || o then (match (if j < ds.length then some j else none) with | some j => getD (ds.getD j .no) r | none => .no) else .no) = _
  rw [Bool.true_or, if_pos rfl]
  by_cases h : j < ds.length
  · rw [if_pos h, if_pos h]
  · rw [if_neg h, if_neg h]
@[simp] theorem setD_nil (d x : D) : setD d [] x = x := by cases d <;> rfl
@[simp] theorem setD_f (o : Bool) (c j : Nat) (ds : List D) (r : Path) (x : D) : setD (.obj o c ds) (.f j :: r) x = if j < ds.length then .obj o c (ds.set j (setD (ds.getD j .no) r x)) else .obj o c ds := by
  show (match (if j < ds.length then some j else none) with | some j => D.obj o c (ds.set j (setD (ds.getD j .no) r x)) | none => .obj o c ds) = _
  by_cases h : j < ds.length
  · rw [if_pos h, if_pos h]
  · rw [if_neg h, if_neg h]
theorem getD_i {ds : List D} {n : Int} {j : Nat} (h : ixN ds.length n = some j) (r : Path) : getD (.lst true ds) (.i n :: r) = getD (ds.getD j .no) r := by
  show (if false || true then (match ixN ds.length n with | some j => getD (ds.getD j .no) r | none => .no) else .no) = _
  rw [h]
  rfl
theorem setD_i {o : Bool} {ds : List D} {n : Int} {j : Nat} (h : ixN ds.length n = some j) (r : Path) (x : D) : setD (.lst o ds) (.i n :: r) x = .lst o (ds.set j (setD (ds.getD j .no) r x)) := by
  show (match ixN ds.length n with | some j => D.lst o (ds.set j (setD (ds.getD j .no) r x)) | none => .lst o ds) = _
  rw [h]
theorem ixN_of {n j : Nat} (h : j < n) : ixN n (j : Int) = some j := by
  unfold ixN
  rw [if_pos (by omega), if_pos (by omega), Int.toNat_natCast]
@[simp] theorem stepOf_lst (o : Bool) (ds : List D) (n : Int) : stepOf (.lst o ds) (.int n) = some (.i n) := rfl
@[simp] theorem stepIx_lst (o : Bool) (ds : List D) (n : Int) : stepIx (.lst o ds) (.i n) = ixN ds.length n := rfl
/-! fetching -/
@[simp] theorem fe_nil (fx : List Nat) (k : Nat) (e : Env) : fetchA fx k [] e = some ([], e, []) := rfl
def feT (d : D) (r : Option (List D × Env × List (Nat × Path × D × Nat))) : Option (List D × Env × List (Nat × Path × D × Nat)) := match r with
  | some (ds, e', bs) => some (d :: ds, e', bs)
  | none => none
@[simp] theorem feT_some (d : D) (ds : List D) (e : Env) (bs : List (Nat × Path × D × Nat)) : feT d (some (ds, e, bs)) = some (d :: ds, e, bs) := rfl
def feP (d : D) (b : Nat × Path × D × Nat) (r : Option (List D × Env × List (Nat × Path × D × Nat))) : Option (List D × Env × List (Nat × Path × D × Nat)) := match r with
  | some (ds, e', bs) => some (d :: ds, e', b :: bs)
  | none => none
@[simp] theorem feP_some (d : D) (b : Nat × Path × D × Nat) (ds : List D) (e : Env) (bs : List (Nat × Path × D × Nat)) : feP d b (some (ds, e, bs)) = some (d :: ds, e, b :: bs) := rfl
@[simp] theorem fe_tmp (fx : List Nat) (k : Nat) (d : D) (r : List OV) (e : Env) : fetchA fx k (.tmp d :: r) e = feT d (fetchA fx (k + 1) r e) := by
  show (match fetchA fx (k + 1) r e with | some (ds, e', bs) => some (d :: ds, e', bs) | none => none) = _
  cases fetchA fx (k + 1) r e with
  | none => rfl
  | some x => obtain ⟨a, b, c⟩ := x; rfl
@[simp] theorem fe_plc (fx : List Nat) (k i : Nat) (p : Path) (r : List OV) (e : Env) : fetchA fx k (.plc i p :: r) e = if (getD (e.at i) p).isNo then none else if (getD (e.at i) p).own then
        (if k ∈ fx then feP (getD (e.at i) p) (i, p, e.at i, k) (fetchA fx (k + 1) r (e.set i .no)) else none)
      else feT (getD (e.at i) p) (fetchA fx (k + 1) r e) := by
  rw [fetchA]
  split
  · rfl
  · split
    · split
      · cases fetchA fx (k + 1) r (e.set i .no) with
        | none => rfl
        | some x => obtain ⟨a, b, c⟩ := x; rfl
      · rfl
    · cases fetchA fx (k + 1) r e with
      | none => rfl
      | some x => obtain ⟨a, b, c⟩ := x; rfl
@[simp] theorem giveB_nil (ds : List D) (e : Env) : giveB [] ds e = e := rfl
@[simp] theorem giveB_cons (i : Nat) (p : Path) (rt : D) (k : Nat) (bs : List (Nat × Path × D × Nat)) (ds : List D) (e : Env) : giveB ((i, p, rt, k) :: bs) ds e = (giveB bs ds e).set i (setD rt p (ds.getD k .no)) := rfl
@[simp] theorem maskF_nil (fx : List Nat) (k : Nat) : maskF fx k [] = [] := rfl
@[simp] theorem maskF_cons (fx : List Nat) (k : Nat) (d : D) (ds : List D) : maskF fx k (d :: ds) = (if k ∈ fx then d else .no) :: maskF fx (k + 1) ds := rfl
/-! operations -/
@[simp] theorem b_lt (i j : Int) : bopD .lt [.int i, .int j] = some (.bl (decide (i < j))) := rfl
@[simp] theorem b_le (i j : Int) : bopD .le [.int i, .int j] = some (.bl (decide (i ≤ j))) := rfl
@[simp] theorem b_gt (i j : Int) : bopD .gt [.int i, .int j] = some (.bl (decide (j < i))) := rfl
@[simp] theorem b_ge (i j : Int) : bopD .ge [.int i, .int j] = some (.bl (decide (j ≤ i))) := rfl
@[simp] theorem c_lt (i j : Int) : cmpD .lt (.int i) (.int j) = some (.bl (decide (i < j))) := rfl
@[simp] theorem c_le (i j : Int) : cmpD .le (.int i) (.int j) = some (.bl (decide (i ≤ j))) := rfl
@[simp] theorem b_add (i j : Int) : bopD .add [.int i, .int j] = some (.int (i + j)) := rfl
@[simp] theorem b_sub (i j : Int) : bopD .sub [.int i, .int j] = some (.int (i - j)) := rfl
@[simp] theorem b_neg (i : Int) : bopD .neg [.int i] = some (.int (-i)) := rfl
@[simp] theorem b_int1 (i : Int) : bopD .int1 [.int i] = some (.int i) := rfl
@[simp] theorem b_int1b (i : Bool) : bopD .int1 [.bl i] = some (.int (if i then 1 else 0)) := rfl
@[simp] theorem b_lenl (o : Bool) (ds : List D) : bopD .len [.lst o ds] = some (.int ds.length) := rfl
@[simp] theorem b_lenw (ds : List D) : bopD .len [.wls ds] = some (.int ds.length) := rfl
@[simp] theorem b_lent (o : Bool) (ds : List D) : bopD .len [.tup o ds] = some (.int ds.length) := rfl
@[simp] theorem b_isN (d : D) (h : d.nonB = some true) : bopD .isN [d, .non] = some (.bl true) := by
  show (match (d.nonB.map D.bl) with | some r => some r | none => _) = _
  rw [h]; rfl
theorem eqD_is {a b : D} {x y : PyData} (ha : a.py = some x) (hb : b.py = some y) (hd : min x.depth y.depth ≤ 190) : eqD a b = some (PyData.eqv x y) := by
  unfold eqD
  rw [ha, hb]
  dsimp only
  rw [if_pos hd]
theorem b_eq {a b : D} {r : Bool} (h : eqD a b = some r) : bopD .eq [a, b] = some (.bl r) := by
  show (match ((eqD a b).map D.bl) with | some r => some r | none => _) = _
  rw [h]; rfl
theorem b_ne {a b : D} {r : Bool} (h : eqD a b = some r) : bopD .ne [a, b] = some (.bl (!r)) := by
  show (match ((eqD a b).map fun r => D.bl (!r)) with | some r => some r | none => _) = _
  rw [h]; rfl
theorem b_in {a c : D} {r : Bool} (h : inD a c = some r) : bopD .inn [a, c] = some (.bl r) := by
  show (match ((inD a c).map D.bl) with | some r => some r | none => _) = _
  rw [h]; rfl
theorem b_nin {a c : D} {r : Bool} (h : inD a c = some r) : bopD .nin [a, c] = some (.bl (!r)) := by
  show (match ((inD a c).map fun r => D.bl (!r)) with | some r => some r | none => _) = _
  rw [h]; rfl
theorem eqD_int (i j : Int) : eqD (.int i) (.int j) = some (decide (i = j)) := by
  rw [eqD_is (x := .int i) (y := .int j) rfl rfl (by simp [PyData.depth]), PyData.eqv]
  rfl
theorem eqD_str (i j : Str) : eqD (.str i) (.str j) = some (decide (i = j)) := by
  rw [eqD_is (x := .str i) (y := .str j) rfl rfl (by simp [PyData.depth]), PyData.eqv]
  rfl
@[simp] theorem b_eqi (i j : Int) : bopD .eq [.int i, .int j] = some (.bl (decide (i = j))) := b_eq (eqD_int i j)
@[simp] theorem b_nei (i j : Int) : bopD .ne [.int i, .int j] = some (.bl (!decide (i = j))) := b_ne (eqD_int i j)
theorem b_eqs (i j : Str) : bopD .eq [.str i, .str j] = some (.bl (decide (i = j))) := b_eq (eqD_str i j)
theorem b_nes (i j : Str) : bopD .ne [.str i, .str j] = some (.bl (!decide (i = j))) := b_ne (eqD_str i j)
theorem b_idx {x i d : D} (h : idxD x i = some d) (ho : d.own = false) : bopD .idx [x, i] = some d := by
  show (match idxD x i with | some d => if d.own then none else some d | none => none) = _
  rw [h]
  dsimp only
  rw [ho]
  rfl
theorem idx_lst {o : Bool} {ds : List D} {j : Nat} {d : D} (h : ds[j]? = some d) : idxD (.lst o ds) (.int j) = some d := by
  show (ixN ds.length (j : Int)).bind (fun j => ds[j]?) = _
  rw [ixN_of (List.getElem?_eq_some_iff.mp h).1]
  exact h
theorem idx_tup {o : Bool} {ds : List D} {j : Nat} {d : D} (h : ds[j]? = some d) : idxD (.tup o ds) (.int j) = some d := by
  show (ixN ds.length (j : Int)).bind (fun j => ds[j]?) = _
  rw [ixN_of (List.getElem?_eq_some_iff.mp h).1]
  exact h
@[simp] theorem LINE_is : LINE = 16777216 := rfl
@[simp] theorem b_list1 (o : Bool) (a : List D) : bopD .list1 [.lst o a] = if allF a then some (.lst true a) else none := rfl
@[simp] theorem b_list1t (o : Bool) (a : List D) : bopD .list1 [.tup o a] = if allF a then some (.lst true a) else none := rfl
@[simp] theorem b_tuple1 (o : Bool) (a : List D) : bopD .tuple1 [.lst o a] = if allF a then some (.tup false a) else none := rfl
@[simp] theorem b_dict1 (o : Bool) (ks : List KD) (a : List D) : bopD .dict1 [.dct o false ks a] = if allF a then some (.dct true false ks a) else none := rfl
@[simp] theorem isi_0n  : bopD .isi [.non, .gl 0] = some (.bl false) := rfl
@[simp] theorem isi_1n  : bopD .isi [.non, .gl 1] = some (.bl false) := rfl
@[simp] theorem isi_2n  : bopD .isi [.non, .gl 2] = some (.bl false) := rfl
@[simp] theorem isi_3n  : bopD .isi [.non, .gl 3] = some (.bl false) := rfl
@[simp] theorem isi_4n  : bopD .isi [.non, .gl 4] = some (.bl false) := rfl
@[simp] theorem isi_5n  : bopD .isi [.non, .gl 5] = some (.bl false) := rfl
@[simp] theorem isi_0b (b : Bool) : bopD .isi [.bl b, .gl 0] = some (.bl true) := rfl
@[simp] theorem isi_1b (b : Bool) : bopD .isi [.bl b, .gl 1] = some (.bl true) := rfl
@[simp] theorem isi_2b (b : Bool) : bopD .isi [.bl b, .gl 2] = some (.bl false) := rfl
@[simp] theorem isi_3b (b : Bool) : bopD .isi [.bl b, .gl 3] = some (.bl false) := rfl
@[simp] theorem isi_4b (b : Bool) : bopD .isi [.bl b, .gl 4] = some (.bl false) := rfl
@[simp] theorem isi_5b (b : Bool) : bopD .isi [.bl b, .gl 5] = some (.bl false) := rfl
@[simp] theorem isi_0i (i : Int) : bopD .isi [.int i, .gl 0] = some (.bl true) := rfl
@[simp] theorem isi_1i (i : Int) : bopD .isi [.int i, .gl 1] = some (.bl false) := rfl
@[simp] theorem isi_2i (i : Int) : bopD .isi [.int i, .gl 2] = some (.bl false) := rfl
@[simp] theorem isi_3i (i : Int) : bopD .isi [.int i, .gl 3] = some (.bl false) := rfl
@[simp] theorem isi_4i (i : Int) : bopD .isi [.int i, .gl 4] = some (.bl false) := rfl
@[simp] theorem isi_5i (i : Int) : bopD .isi [.int i, .gl 5] = some (.bl false) := rfl
@[simp] theorem isi_0s (x : Str) : bopD .isi [.str x, .gl 0] = some (.bl false) := rfl
@[simp] theorem isi_1s (x : Str) : bopD .isi [.str x, .gl 1] = some (.bl false) := rfl
@[simp] theorem isi_2s (x : Str) : bopD .isi [.str x, .gl 2] = some (.bl true) := rfl
@[simp] theorem isi_3s (x : Str) : bopD .isi [.str x, .gl 3] = some (.bl false) := rfl
@[simp] theorem isi_4s (x : Str) : bopD .isi [.str x, .gl 4] = some (.bl false) := rfl
@[simp] theorem isi_5s (x : Str) : bopD .isi [.str x, .gl 5] = some (.bl false) := rfl
@[simp] theorem isi_0t (o : Bool) (ds : List D) : bopD .isi [.tup o ds, .gl 0] = some (.bl false) := rfl
@[simp] theorem isi_1t (o : Bool) (ds : List D) : bopD .isi [.tup o ds, .gl 1] = some (.bl false) := rfl
@[simp] theorem isi_2t (o : Bool) (ds : List D) : bopD .isi [.tup o ds, .gl 2] = some (.bl false) := rfl
@[simp] theorem isi_3t (o : Bool) (ds : List D) : bopD .isi [.tup o ds, .gl 3] = some (.bl true) := rfl
@[simp] theorem isi_4t (o : Bool) (ds : List D) : bopD .isi [.tup o ds, .gl 4] = some (.bl false) := rfl
@[simp] theorem isi_5t (o : Bool) (ds : List D) : bopD .isi [.tup o ds, .gl 5] = some (.bl false) := rfl
@[simp] theorem isi_0l (o : Bool) (ds : List D) : bopD .isi [.lst o ds, .gl 0] = some (.bl false) := rfl
@[simp] theorem isi_1l (o : Bool) (ds : List D) : bopD .isi [.lst o ds, .gl 1] = some (.bl false) := rfl
@[simp] theorem isi_2l (o : Bool) (ds : List D) : bopD .isi [.lst o ds, .gl 2] = some (.bl false) := rfl
@[simp] theorem isi_3l (o : Bool) (ds : List D) : bopD .isi [.lst o ds, .gl 3] = some (.bl false) := rfl
@[simp] theorem isi_4l (o : Bool) (ds : List D) : bopD .isi [.lst o ds, .gl 4] = some (.bl true) := rfl
@[simp] theorem isi_5l (o : Bool) (ds : List D) : bopD .isi [.lst o ds, .gl 5] = some (.bl false) := rfl
@[simp] theorem isi_0d (o t : Bool) (ks : List KD) (ds : List D) : bopD .isi [.dct o t ks ds, .gl 0] = some (.bl false) := rfl
@[simp] theorem isi_1d (o t : Bool) (ks : List KD) (ds : List D) : bopD .isi [.dct o t ks ds, .gl 1] = some (.bl false) := rfl
@[simp] theorem isi_2d (o t : Bool) (ks : List KD) (ds : List D) : bopD .isi [.dct o t ks ds, .gl 2] = some (.bl false) := rfl
@[simp] theorem isi_3d (o t : Bool) (ks : List KD) (ds : List D) : bopD .isi [.dct o t ks ds, .gl 3] = some (.bl false) := rfl
@[simp] theorem isi_4d (o t : Bool) (ks : List KD) (ds : List D) : bopD .isi [.dct o t ks ds, .gl 4] = some (.bl false) := rfl
@[simp] theorem isi_5d (o t : Bool) (ks : List KD) (ds : List D) : bopD .isi [.dct o t ks ds, .gl 5] = some (.bl true) := rfl
/-! lazily: what comes first -/
end Dn
end L2
set_option Elab.async false
set_option linter.all false
set_option maxRecDepth 100000
/-! A code as data. -/
namespace L2
namespace Dn
open PySem
def noPos : Pos := ⟨.nd .ret [], none, 0, 0, [], none⟩
def posAt (t0 : T) (n : Nat) : Pos := ((allP t0)[n]?).getD noPos
theorem At.pos {t0 : T} {n : Nat} {p : Pos} (h : At t0 n p) : posAt t0 n = p := by
  unfold posAt
  rw [h.get]
  rfl
def stL (t0 : T) (N : Nat) : List D := (List.range N).map fun n => encT (posAt t0 n).t
def hdL (t0 : T) (N : Nat) : List D := (List.range N).map fun n => encH (posAt t0 n).t.hd (posAt t0 n).t.ts.length
def paL (t0 : T) (N : Nat) : List D := (List.range N).map fun n => optN (posAt t0 n).par
def ptL (o : Bool) (t0 : T) (N : Nat) : List D := (List.range N).map fun n => .lst o (encNs ((posAt t0 n).kidsB n N))
def siL (t0 : T) (N : Nat) : List D := (List.range N).map fun n => optN ((posAt t0 n).sibB N)
def laL (t0 : T) (N : Nat) : List D := (List.range N).map fun n => .lst false (encNs (posAt t0 n).lay)
def codeAt (o : Bool) (c : Nat) (t0 : T) (N : Nat) : D := .obj o c [.lst o (stL t0 N), .lst o (hdL t0 N), .lst o (paL t0 N), .lst o (ptL o t0 N), .lst o (siL t0 N), .lst o (laL t0 N)]
def codeD (c : Nat) (t0 : T) : D := codeAt false c t0 t0.size
@[simp] theorem stL_len (t0 : T) (N : Nat) : (stL t0 N).length = N := by simp [stL]
@[simp] theorem hdL_len (t0 : T) (N : Nat) : (hdL t0 N).length = N := by simp [hdL]
@[simp] theorem paL_len (t0 : T) (N : Nat) : (paL t0 N).length = N := by simp [paL]
@[simp] theorem ptL_len (o : Bool) (t0 : T) (N : Nat) : (ptL o t0 N).length = N := by simp [ptL]
@[simp] theorem siL_len (t0 : T) (N : Nat) : (siL t0 N).length = N := by simp [siL]
@[simp] theorem laL_len (t0 : T) (N : Nat) : (laL t0 N).length = N := by simp [laL]
theorem rng_get {α : Type} (f : Nat → α) {N n : Nat} (h : n < N) : ((List.range N).map f)[n]? = some (f n) := by
  rw [List.getElem?_map, List.getElem?_range h]
  rfl
section
variable {t0 : T} {n : Nat} {p : Pos}
theorem ix_st (h : At t0 n p) (o : Bool) : bopD .idx [.lst o (stL t0 t0.size), .int n] = some (encT p.t) :=
  b_idx (idx_lst (by rw [stL, rng_get _ h.lt', h.pos])) (own_encT _)
theorem ix_hd (h : At t0 n p) (o : Bool) : bopD .idx [.lst o (hdL t0 t0.size), .int n] = some (encH p.t.hd p.t.ts.length) :=
  b_idx (idx_lst (by rw [hdL, rng_get _ h.lt', h.pos])) rfl
theorem ix_pa (h : At t0 n p) (o : Bool) : bopD .idx [.lst o (paL t0 t0.size), .int n] = some (optN p.par) :=
  b_idx (idx_lst (by rw [paL, rng_get _ h.lt', h.pos])) (own_optN _)
theorem ix_pt (h : At t0 n p) (o : Bool) : bopD .idx [.lst o (ptL false t0 t0.size), .int n] = some (.lst false (encNs (p.kids n))) :=
  b_idx (idx_lst (by rw [ptL, rng_get _ h.lt', h.pos, kids_all h (Nat.le_refl _)])) rfl
theorem ix_si (h : At t0 n p) (o : Bool) : bopD .idx [.lst o (siL t0 t0.size), .int n] = some (optN p.sib) :=
  b_idx (idx_lst (by rw [siL, rng_get _ h.lt', h.pos, sib_all h (Nat.le_refl _)])) (own_optN _)
theorem ix_la (h : At t0 n p) (o : Bool) : bopD .idx [.lst o (laL t0 t0.size), .int n] = some (.lst false (encNs p.lay)) :=
  b_idx (idx_lst (by rw [laL, rng_get _ h.lt', h.pos])) rfl
theorem ix_kind (h : Hd) (m : Nat) : bopD .idx [encH h m, .int 0] = some (.str h.kind) := by cases h <;> rfl
end
@[simp] theorem encNs_app (a b : List Nat) : encNs (a ++ b) = encNs a ++ encNs b := List.map_append
@[simp] theorem encNs_one (a : Nat) : encNs [a] = [.int a] := rfl
@[simp] theorem encNs_nil : encNs [] = [] := rfl
@[simp] theorem encNs_len (a : List Nat) : (encNs a).length = a.length := List.length_map ..
@[simp] theorem optN_some (m : Nat) : optN (some m) = .int m := rfl
@[simp] theorem optN_none : optN none = .non := rfl
@[simp] theorem b_notNi (i : Int) : bopD .notN [.int i, .non] = some (.bl true) := rfl
@[simp] theorem b_notNn : bopD .notN [.non, .non] = some (.bl false) := rfl
/-! kinds -/
def Hd.isSeq : Hd → Bool | .seq => true | _ => false
def Hd.isTry : Hd → Bool | .try_ => true | _ => false
def Hd.isDo : Hd → Bool | .do_ _ => true | _ => false
def Hd.isCall : Hd → Bool | .call _ => true | _ => false
def Hd.isIf : Hd → Bool | .ife _ => true | _ => false
theorem s_ne {a b : Str} (h : decide (a = b) = false) : ¬ a = b := of_decide_eq_false h
def kdec (x y : Str) : Bool := decide (x = y)
theorem kd_seq (h : Hd) : decide (h.kind = ("seq" : Str)) = h.isSeq := by
  show kdec h.kind "seq" = _
  cases h <;> (dsimp only [Hd.kind, Hd.isSeq]; decide +kernel)
theorem kd_try (h : Hd) : decide (h.kind = ("try" : Str)) = h.isTry := by
  show kdec h.kind "try" = _
  cases h <;> (dsimp only [Hd.kind, Hd.isTry]; decide +kernel)
theorem kd_fin (h : Hd) : decide (h.kind = ("final" : Str)) = h.isF := by
  show kdec h.kind "final" = _
  cases h <;> (dsimp only [Hd.kind, Hd.isF]; decide +kernel)
theorem kd_whl (h : Hd) : decide (h.kind = ("while" : Str)) = h.isW := by
  show kdec h.kind "while" = _
  cases h <;> (dsimp only [Hd.kind, Hd.isW]; decide +kernel)
theorem kd_do (h : Hd) : decide (h.kind = ("do" : Str)) = h.isDo := by
  show kdec h.kind "do" = _
  cases h <;> (dsimp only [Hd.kind, Hd.isDo]; decide +kernel)
theorem kd_call (h : Hd) : decide (h.kind = ("call" : Str)) = h.isCall := by
  show kdec h.kind "call" = _
  cases h <;> (dsimp only [Hd.kind, Hd.isCall]; decide +kernel)
theorem kd_if (h : Hd) : decide (h.kind = ("if" : Str)) = h.isIf := by
  show kdec h.kind "if" = _
  cases h <;> (dsimp only [Hd.kind, Hd.isIf]; decide +kernel)
@[simp] theorem k_seq (h : Hd) : bopD .eq [.str h.kind, .str "seq"] = some (.bl h.isSeq) := by rw [b_eqs, kd_seq]
@[simp] theorem k_try (h : Hd) : bopD .eq [.str h.kind, .str "try"] = some (.bl h.isTry) := by rw [b_eqs, kd_try]
@[simp] theorem k_fin (h : Hd) : bopD .eq [.str h.kind, .str "final"] = some (.bl h.isF) := by rw [b_eqs, kd_fin]
@[simp] theorem k_whl (h : Hd) : bopD .eq [.str h.kind, .str "while"] = some (.bl h.isW) := by rw [b_eqs, kd_whl]
@[simp] theorem k_do (h : Hd) : bopD .eq [.str h.kind, .str "do"] = some (.bl h.isDo) := by rw [b_eqs, kd_do]
@[simp] theorem k_call (h : Hd) : bopD .eq [.str h.kind, .str "call"] = some (.bl h.isCall) := by rw [b_eqs, kd_call]
@[simp] theorem k_if (h : Hd) : bopD .eq [.str h.kind, .str "if"] = some (.bl h.isIf) := by rw [b_eqs, kd_if]
@[simp] theorem k_nwhl (h : Hd) : bopD .ne [.str h.kind, .str "while"] = some (.bl (!h.isW)) := by rw [b_nes, kd_whl]
def opB (o : Option D) (b : Bool) : Bool := match o with | some (.bl c) => b == c | _ => false
theorem opB_is {o : Option D} {b : Bool} (h : opB o b = true) : o = some (.bl b) := by
  unfold opB at h
  split at h
  · rw [beq_iff_eq] at h; rw [h]
  · cases h
@[simp] theorem k_ent (h : Hd) : bopD .inn [.str h.kind, .tup false [.str "seq", .str "try", .str "final"]] = some (.bl h.ent) := by
  apply opB_is; cases h <;> (dsimp only [Hd.kind, Hd.ent]; decide +kernel)
@[simp] theorem k_less (h : Hd) : bopD .inn [.str h.kind, .tup false [.str "seq", .str "try"]] = some (.bl h.less) := by
  apply opB_is; cases h <;> (dsimp only [Hd.kind, Hd.less]; decide +kernel)
@[simp] theorem k_asks (h : Hd) : bopD .inn [.str h.kind, .tup false [.str "call", .str "if", .str "while"]] = some (.bl h.asks) := by
  apply opB_is; cases h <;> (dsimp only [Hd.kind, Hd.asks]; decide +kernel)
/-! ways -/
inductive Wy where
  | nor | rai | ret | brk (k : Nat) | cnt (k : Nat)
def encW : Wy → D
  | .nor => .tup false [.str "normal"]
  | .rai => .tup false [.str "raise"]
  | .ret => .tup false [.str "return"]
  | .brk k => .tup false [.str "break", .int k]
  | .cnt k => .tup false [.str "continue", .int k]
@[simp] theorem own_encW (w : Wy) : (encW w).own = false := by cases w <;> rfl
@[simp] theorem isNo_encW (w : Wy) : (encW w).isNo = false := by cases w <;> rfl
@[simp] theorem frz_encW (w : Wy) : frz (encW w) = encW w := by cases w <;> rfl
def Wy.isN : Wy → Bool | .nor => true | _ => false
def Wy.isR : Wy → Bool | .rai => true | _ => false
def Wy.isJ : Wy → Bool | .brk _ => true | .cnt _ => true | _ => false
def Wy.again : Wy → Bool | .nor => true | .cnt k => k == 1 | _ => false
def Wy.num : Wy → Nat | .brk k => k | .cnt k => k | _ => 0
def Wy.key : Wy → Str | .nor => "normal" | .rai => "raise" | .ret => "return" | .brk _ => "break" | .cnt _ => "continue"
def Wy.ok (n : Nat) (w : Wy) : Bool := !w.isJ || decide (1 ≤ w.num ∧ w.num ≤ n)
/-- the way in which a while is left when its body is left by a jump -/
def Wy.out : Wy → Wy
  | .brk k => if k = 1 then .nor else .brk (k - 1)
  | .cnt k => if k = 1 then .nor else .cnt (k - 1)
  | w => w
theorem py1 (x : Str) : (D.tup false [.str x]).py = some (.tuple [.str x]) := rfl
theorem py2 (x : Str) (k : Int) : (D.tup false [.str x, .int k]).py = some (.tuple [.str x, .int k]) := rfl
theorem w_nor (w : Wy) : eqD (encW w) (.tup false [.str "normal"]) = some w.isN := by
  have d : ∀ x : PyData, min x.depth (PyData.tuple [.str "normal"]).depth ≤ 190 := fun x => Nat.le_trans (Nat.min_le_right ..) (by simp [PyData.depth, PyData.depthAll])
  cases w with
  | brk k => rw [encW, eqD_is (py2 ..) (py1 _) (d _)]; simp [PyData.eqv, PyData.eqvAll, Wy.isN]
  | cnt k => rw [encW, eqD_is (py2 ..) (py1 _) (d _)]; simp [PyData.eqv, PyData.eqvAll, Wy.isN]
  | _ =>
    rw [encW, eqD_is (py1 _) (py1 _) (d _)]
    simp only [PyData.eqv, PyData.eqvAll, Wy.isN, Bool.and_true]
    decide +kernel
theorem w_rai (w : Wy) : eqD (encW w) (.tup false [.str "raise"]) = some w.isR := by
  have d : ∀ x : PyData, min x.depth (PyData.tuple [.str "raise"]).depth ≤ 190 := fun x => Nat.le_trans (Nat.min_le_right ..) (by simp [PyData.depth, PyData.depthAll])
  cases w with
  | brk k => rw [encW, eqD_is (py2 ..) (py1 _) (d _)]; simp [PyData.eqv, PyData.eqvAll, Wy.isR]
  | cnt k => rw [encW, eqD_is (py2 ..) (py1 _) (d _)]; simp [PyData.eqv, PyData.eqvAll, Wy.isR]
  | _ =>
    rw [encW, eqD_is (py1 _) (py1 _) (d _)]
    simp only [PyData.eqv, PyData.eqvAll, Wy.isR, Bool.and_true]
    decide +kernel
@[simp] theorem w_nor' (w : Wy) : bopD .eq [encW w, .tup false [.str "normal"]] = some (.bl w.isN) := b_eq (w_nor w)
@[simp] theorem w_rai' (w : Wy) : bopD .eq [encW w, .tup false [.str "raise"]] = some (.bl w.isR) := b_eq (w_rai w)
@[simp] theorem w_again (w : Wy) : bopD .inn [encW w, .tup false [.tup false [.str "normal"], .tup false [.str "continue", .int 1]]] = some (.bl w.again) := by
  apply b_in
  have e : pyL [.tup false [.str "normal"], .tup false [.str "continue", .int 1]] = some [.tuple [.str "normal"], .tuple [.str "continue", .int 1]] := rfl
  have d : ∀ n : Nat, min (PyData.depthAll [.tuple [.str "normal"], .tuple [.str "continue", .int 1]]) n ≤ 190 := fun n => Nat.le_trans (Nat.min_le_left ..) (by simp [PyData.depth, PyData.depthAll])
  have n1 : ((("normal" : Str) == ("continue" : Str)) = false) := by decide +kernel
  have n2 : ((("continue" : Str) == ("continue" : Str)) = true) := by decide +kernel
  have n3 : ((("continue" : Str) == ("break" : Str)) = false) := by decide +kernel
  have n4 : ((("normal" : Str) == ("normal" : Str)) = true) := by decide +kernel
  have n5 : ((("normal" : Str) == ("raise" : Str)) = false) := by decide +kernel
  have n6 : ((("normal" : Str) == ("return" : Str)) = false) := by decide +kernel
  unfold inD
  dsimp only
  rw [e]
  cases w with
  | brk k => rw [encW, py2]; dsimp only; rw [if_pos (d _)]; simp only [List.any_cons, List.any_nil, PyData.eqv, PyData.eqvAll, Wy.again, n3, Bool.and_false, Bool.false_and, Bool.or_false]
  | cnt k =>
    rw [encW, py2]; dsimp only; rw [if_pos (d _)]; simp only [List.any_cons, List.any_nil, PyData.eqv, PyData.eqvAll, Wy.again, n2, Bool.and_false, Bool.false_and, Bool.or_false, Bool.false_or, Bool.true_and, Bool.and_true]
    congr 1
    rw [Bool.eq_iff_iff, beq_iff_eq, beq_iff_eq]
    omega
  | nor => rw [encW, py1]; dsimp only; rw [if_pos (d _)]; simp only [List.any_cons, List.any_nil, PyData.eqv, PyData.eqvAll, Wy.again, n4, Bool.and_false, Bool.true_and, Bool.or_false]
  | rai => rw [encW, py1]; dsimp only; rw [if_pos (d _)]; simp only [List.any_cons, List.any_nil, PyData.eqv, PyData.eqvAll, Wy.again, n5, Bool.and_false, Bool.false_and, Bool.or_false]
  | ret => rw [encW, py1]; dsimp only; rw [if_pos (d _)]; simp only [List.any_cons, List.any_nil, PyData.eqv, PyData.eqvAll, Wy.again, n6, Bool.and_false, Bool.false_and, Bool.or_false]
@[simp] theorem w_key (w : Wy) : bopD .idx [encW w, .int 0] = some (.str w.key) := by cases w <;> rfl
theorem w_num {w : Wy} (h : w.isJ = true) : bopD .idx [encW w, .int 1] = some (.int w.num) := by cases w <;> first | rfl | cases h
@[simp] theorem w_jump (w : Wy) : bopD .nin [.str w.key, .tup false [.str "break", .str "continue"]] = some (.bl (!w.isJ)) := by
  apply opB_is; cases w <;> (dsimp only [Wy.key, Wy.isJ]; decide +kernel)
/-- the text of the end -/
def Wy.endS : Wy → Str | .nor => "end" | .ret => "return" | _ => "raise"
theorem w_end {w : Wy} (h : w.isJ = false) : bopD .idx [.wdt ["normal", "return", "raise"] [.str "end", .str "return", .str "raise"], .str w.key] = some (.str w.endS) := by
  have : ∀ (o : Option D) (x : Str), (match o with | some (.str y) => decide (x = y) | _ => false) = true → o = some (.str x) := fun o x e => by
    split at e
    · rw [of_decide_eq_true e]
    · cases e
  cases w <;> first | (cases h; done) | (apply this; dsimp only [Wy.key, Wy.endS]; decide +kernel)
end Dn
end L2
set_option Elab.async false
set_option linter.all false
set_option maxRecDepth 100000
/-! Loops; how a way goes outward. -/
namespace L2
namespace Dn
open PySem
section
variable {t : Env → R Bool} {b : MS} {n : Nat} {e e1 e2 : Env}
theorem whl_f (h : t e = .ok false e1) : whlD t b (n + 1) e = .nxt e1 := by rw [whlD, h]
theorem whl_n (h : t e = .ok true e1) (h2 : b e1 = .nxt e2) : whlD t b (n + 1) e = whlD t b n e2 := by rw [whlD, h]; dsimp only; rw [h2]
theorem whl_c (h : t e = .ok true e1) (h2 : b e1 = .cnt e2) : whlD t b (n + 1) e = whlD t b n e2 := by rw [whlD, h]; dsimp only; rw [h2]
theorem whl_b (h : t e = .ok true e1) (h2 : b e1 = .brk e2) : whlD t b (n + 1) e = .nxt e2 := by rw [whlD, h]; dsimp only; rw [h2]
theorem whl_r {d : D} (h : t e = .ok true e1) (h2 : b e1 = .ret d e2) : whlD t b (n + 1) e = .ret d e2 := by rw [whlD, h]; dsimp only; rw [h2]
theorem whl_x {x : X} (h : t e = .ok true e1) (h2 : b e1 = .exc x e2) : whlD t b (n + 1) e = .exc x e2 := by rw [whlD, h]; dsimp only; rw [h2]
end
section
variable {f : D → Env → RS} {d : D} {ds : List D} {e e2 : Env}
theorem for_nil : forD f [] e = .nxt e := rfl
theorem for_n (h : f d e = .nxt e2) : forD f (d :: ds) e = forD f ds e2 := by rw [forD, h]
theorem for_r {x : D} (h : f d e = .ret x e2) : forD f (d :: ds) e = .ret x e2 := by rw [forD, h]
theorem for_x {x : X} (h : f d e = .exc x e2) : forD f (d :: ds) e = .exc x e2 := by rw [forD, h]
theorem comp_nil {f : D → Env → R (Option D)} {acc : List D} : compD f [] e acc = .ok acc e := rfl
theorem comp_y {f : D → Env → R (Option D)} {acc : List D} {x : D} (h : f d e = .ok (some x) e2) (hl : acc.length < LINE) : compD f (d :: ds) e acc = compD f ds e2 (acc ++ [x]) := by
  rw [compD, h]
  dsimp only
  rw [if_pos hl]
theorem comp_n {f : D → Env → R (Option D)} {acc : List D} (h : f d e = .ok none e2) : compD f (d :: ds) e acc = compD f ds e2 acc := by
  rw [compD, h]
end
/-- whether the next part begins -/
def begins (h : Hd) (w : Wy) : Bool := if h.isSeq then w.isN else if h.isTry then w.isR else h.isF
def back (h : Hd) (w : Wy) : Bool := if h.isW then w.again else h.isF && w.isN
def outside (h : Hd) (w : Wy) : Wy := if h.isW then w.out else w
theorem outside_ok {h : Hd} {w : Wy} {n : Nat} (hw : w.ok (h.wh n) = true) (hb : back h w = false) : (outside h w).ok n = true := by
  unfold outside
  unfold Hd.wh at hw
  unfold back at hb
  split
  · rename_i hh
    rw [if_pos hh] at hw hb
    cases w with
    | brk k =>
      unfold Wy.out
      dsimp only
      split
      · rfl
      · rename_i hk
        unfold Wy.ok Wy.isJ Wy.num at hw ⊢
        rw [Bool.not_true, Bool.false_or, decide_eq_true_eq] at hw ⊢
        dsimp only at hw ⊢
        omega
    | cnt k =>
      unfold Wy.out
      dsimp only
      split
      · rfl
      · rename_i hk
        unfold Wy.ok Wy.isJ Wy.num at hw ⊢
        rw [Bool.not_true, Bool.false_or, decide_eq_true_eq] at hw ⊢
        dsimp only at hw ⊢
        omega
    | _ => rfl
  · rename_i hh
    rw [if_neg hh] at hw
    exact hw
/-- the layers of a place -/
def Pos.lays (p : Pos) (k : Nat) : List Nat := if p.t.hd.isF then p.lay ++ [k] else p.lay
/-- what is known of where a run goes on -/
structure Good (t0 : T) (n : Nat) (p : Pos) (f : Option Nat) (w : Wy) (g : Option Nat) : Prop where
  stop : g = none → f = none ∧ w.isJ = false
  goal : ∀ q, g = some q → ∃ pq, At t0 q pq ∧ pq.t.hd.less = false ∧ (∀ l ∈ pq.lays q, l ∈ p.lay ∨ f = some l) ∧ (pq.t.hd.isW = true ∨ endrank t0.size n (n + p.t.size) < rank t0.size q pq.t)
  fin : ∀ o, f = some o → ∃ po, At t0 o po ∧ w.ok po.wh = true
section
variable {t0 : T} {n o : Nat} {h : Hd} {a b : List T} {p : Pos} {par : Option Nat} {lev wh : Nat} {lay : List Nat} {sib : Option Nat}
theorem sub_lay (e : p.lay = layK h a.length lay o) : ∀ l ∈ lay, l ∈ p.lay := fun l hl => by
  rw [e]
  unfold layK
  split
  · exact List.mem_append_left _ hl
  · exact hl
theorem Good.up {f : Option Nat} {w : Wy} {g : Option Nat} (hn : At t0 n p) (ho : At t0 o ⟨.nd h (a ++ p.t :: b), par, lev, wh, lay, sib⟩) (e : n = o + 1 + sizeL a) (el : p.lay = layK h a.length lay o)
    (G : Good t0 o ⟨.nd h (a ++ p.t :: b), par, lev, wh, lay, sib⟩ f w g) : Good t0 n p f w g where
  stop := G.stop
  goal q hq := by
    obtain ⟨pq, h1, h2, h3, h4⟩ := G.goal q hq
    refine ⟨pq, h1, h2, fun l hl => ?_, ?_⟩
    · rcases h3 l hl with z | z
      · exact .inl (sub_lay el l z)
      · exact .inr z
    · rcases h4 with z | z
      · exact .inl z
      · refine .inr (Nat.lt_trans (endrank_up (by omega) (Nat.le_of_lt hn.lt') ?_) z)
        simp only [T.size, sizeL_app, sizeL]
        omega
  fin := G.fin
theorem less_of {h : Hd} (e : h.ent = false) : h.less = false := by cases h <;> first | rfl | cases e
theorem isF_of {h : Hd} (e : h.ent = false) : h.isF = false := by cases h <;> first | rfl | cases e
/-- the next part begins -/
theorem Good.next {ok : Str → Bool} {w : Wy} {m : Nat} {pm : Pos} (wf : t0.wf ok 0 = true) (hn : At t0 n p) (ho : At t0 o ⟨.nd h (a ++ p.t :: b), par, lev, wh, lay, sib⟩) (e : n = o + 1 + sizeL a) (el : p.lay = layK h a.length lay o)
    (ew : p.wh = h.wh wh) (hw : w.ok p.wh = true) (es : p.sib = if b.isEmpty then none else some (n + p.t.size)) (hs : p.sib = some m) (hm : At t0 m pm) (hb : begins h w = true) :
    Good t0 n p (if h.isF then some o else none) w (some (m + pm.t.entry)) where
  stop z := by cases z
  goal q hq := by
    cases hq
    obtain ⟨pq, h1, h2, h3⟩ := At.entry wf pm.t hm
    refine ⟨pq, h1, less_of h2, fun l hl => ?_, .inr (endrank_lt ?_ (isF_of h2))⟩
    · unfold Pos.lays at hl
      rw [isF_of h2, if_neg Bool.false_ne_true, h3] at hl
      cases b with
      | nil => rw [hs] at es; cases es
      | cons d b =>
        have hm2 := ho.next
        rw [hs] at es
        have es := Option.some.inj es
        rw [← e, ← es] at hm2
        have z := hm2.uniq hm
        rw [← z] at hl
        have hl : l ∈ layK h (a.length + 1) lay o := hl
        unfold layK at hl
        by_cases hf : (h.isF && (a.length + 1 == 1)) = true
        · rw [if_pos hf] at hl
          rcases List.mem_append.mp hl with z | z
          · exact .inl (sub_lay el l z)
          · rw [Bool.and_eq_true] at hf
            rw [List.mem_singleton] at z
            rw [hf.1, z]
            exact .inr rfl
        · rw [if_neg hf] at hl
          exact .inl (sub_lay el l hl)
    · rw [hs] at es
      cases b with
      | nil => cases es
      | cons d b =>
        have es := Option.some.inj es
        omega
  fin o' ho' := by
    split at ho'
    · rename_i hf
      cases ho'
      refine ⟨_, ho, ?_⟩
      rw [ew] at hw
      unfold Hd.wh at hw
      have : h.isW = false := by cases h <;> first | rfl | cases hf
      rw [this, if_neg Bool.false_ne_true] at hw
      exact hw
    · cases ho'
/-- a while is done again, a final is done behind its block -/
theorem Good.back {ok : Str → Bool} {w : Wy} (wf : t0.wf ok 0 = true) (hn : At t0 n p) (ho : At t0 o ⟨.nd h (a ++ p.t :: b), par, lev, wh, lay, sib⟩) (e : n = o + 1 + sizeL a) (el : p.lay = layK h a.length lay o)
    (es : p.sib = if b.isEmpty then none else some (n + p.t.size)) (hs : p.sib = none ∨ begins h w = false) (hb : back h w = true) : Good t0 n p none w (some o) where
  stop z := by cases z
  goal q hq := by
    cases hq
    have wo := ho.wf wf
    unfold T.wf at wo
    rw [Bool.and_eq_true, Bool.and_eq_true] at wo
    have ar := wo.1.1
    unfold L2.Dn.back at hb
    by_cases hW : h.isW = true
    · have hless : h.less = false := by cases h <;> first | rfl | cases hW
      refine ⟨_, ho, hless, fun l hl => ?_, Or.inl hW⟩
      have : h.isF = false := by cases h <;> first | rfl | cases hW
      unfold Pos.lays at hl
      have hl : l ∈ if h.isF then lay ++ [o] else lay := hl
      rw [this, if_neg Bool.false_ne_true] at hl
      exact .inl (sub_lay el l hl)
    · rw [if_neg hW, Bool.and_eq_true] at hb
      have hF := hb.1
      have hsn : p.sib = none := by
        rcases hs with z | z
        · exact z
        · unfold begins at z
          cases h <;> first | (cases hF; done) | cases z
      have hh : h = .fin := by cases h <;> first | rfl | cases hF
      subst hh
      have hb0 : b = [] := by
        cases b with
        | nil => rfl
        | cons d b => rw [hsn] at es; cases es
      subst hb0
      have ha : a.length = 1 := by
        have ar : ((a ++ [p.t]).length == 2) = true := ar
        rw [beq_iff_eq, List.length_append, List.length_singleton] at ar
        omega
      refine ⟨_, ho, rfl, fun l hl => ?_, .inr ?_⟩
      · have hl : l ∈ lay ++ [o] := hl
        rw [el, ha]
        exact .inl hl
      · have : rank t0.size o (.nd .fin (a ++ [p.t])) = endrank t0.size o (o + (T.nd .fin (a ++ [p.t])).size) := rfl
        show _ < rank t0.size o (.nd .fin (a ++ [p.t]))
        rw [this]
        refine endrank_up (by omega) (Nat.le_of_lt hn.lt') ?_
        simp only [T.size, sizeL_app, sizeL]
        omega
  fin o' z := by cases z
end
end Dn
end L2
set_option Elab.async false
set_option linter.all false
set_option maxRecDepth 100000
/-! Pending ways. -/
namespace L2
namespace Dn
open PySem
def kk (ks : List Nat) : List KD := ks.map fun (k : Nat) => KD.k (.inl (k : Int))
def pendD (ks : List Nat) (ws : List Wy) : D := .dct true false (kk ks) (ws.map encW)
def kix (ks : List Nat) (k : Nat) : Option Nat := ks.findIdx? fun y => decide (y = k)
theorem keyIx_kk (ks : List Nat) (k : Nat) : keyIx (kk ks) (.k (.inl (k : Int))) = kix ks k := by
  unfold keyIx kk kix
  rw [List.findIdx?_map]
  congr 1
  funext y
  simp only [Function.comp, decide_eq_decide, KD.k.injEq, Sum.inl.injEq]
  omega
theorem kix_some {ks : List Nat} {k : Nat} (h : k ∈ ks) : ∃ i, kix ks k = some i ∧ ks[i]? = some k ∧ i < ks.length := by
  unfold kix
  cases e : ks.findIdx? (fun y => decide (y = k)) with
  | none =>
    rw [List.findIdx?_eq_none_iff] at e
    have := e k h
    simp at this
  | some i =>
    rw [List.findIdx?_eq_some_iff_getElem] at e
    obtain ⟨hi, e1, _⟩ := e
    refine ⟨i, rfl, ?_, hi⟩
    rw [List.getElem?_eq_getElem hi, of_decide_eq_true e1]
theorem kix_none {ks : List Nat} {k : Nat} (h : k ∉ ks) : kix ks k = none := by
  unfold kix
  rw [List.findIdx?_eq_none_iff]
  intro y hy
  exact decide_eq_false fun e => h (e ▸ hy)
structure Pend (t0 : T) (ks : List Nat) (ws : List Wy) : Prop where
  len : ks.length = ws.length
  nd : ks.Nodup
  ok : ∀ (i k : Nat) (w : Wy), ks[i]? = some k → ws[i]? = some w → ∃ p, At t0 k p ∧ w.ok p.wh = true
def put (ks : List Nat) (ws : List Wy) : Option Nat → Wy → List Nat × List Wy
  | none, _ => (ks, ws)
  | some k, w => match kix ks k with
    | some i => (ks, ws.set i w)
    | none => (ks ++ [k], ws ++ [w])
theorem nodup_le : ∀ (n : Nat) (l : List Nat), l.Nodup → (∀ x ∈ l, x < n) → l.length ≤ n
  | 0, l, _, h => by
    cases l with
    | nil => exact Nat.le_refl _
    | cons a l => exact absurd (h a List.mem_cons_self) (Nat.not_lt_zero _)
  | n + 1, l, hn, h => by
    by_cases hm : n ∈ l
    · have := nodup_le n (l.erase n) (hn.erase n) fun x hx => by
        have h1 := h x (List.mem_of_mem_erase hx)
        have h2 : x ≠ n := fun e => by
          rw [e, hn.mem_erase_iff] at hx
          exact hx.1 rfl
        omega
      rw [List.length_erase_of_mem hm] at this
      omega
    · have := nodup_le n l hn fun x hx => by
        have h1 := h x hx
        have h2 : x ≠ n := fun e => hm (e ▸ hx)
        omega
      omega
theorem Pend.le {t0 : T} {ks : List Nat} {ws : List Wy} (p : Pend t0 ks ws) : ks.length ≤ t0.size := by
  apply nodup_le _ _ p.nd
  intro x hx
  obtain ⟨i, hi, e⟩ := List.getElem_of_mem hx
  have h2 : i < ws.length := p.len ▸ hi
  obtain ⟨q, hq, _⟩ := p.ok i x ws[i] (by rw [List.getElem?_eq_getElem hi, e]) (List.getElem?_eq_getElem h2)
  exact hq.lt'
theorem Pend.nil {t0 : T} : Pend t0 [] [] := ⟨rfl, List.nodup_nil, fun i k w h => by cases h⟩
theorem Pend.put {t0 : T} {ks : List Nat} {ws : List Wy} (p : Pend t0 ks ws) {f : Option Nat} {w : Wy} (h : ∀ o, f = some o → ∃ po, At t0 o po ∧ w.ok po.wh = true) :
    Pend t0 (L2.Dn.put ks ws f w).1 (L2.Dn.put ks ws f w).2 := by
  cases f with
  | none => exact p
  | some k =>
    unfold L2.Dn.put
    dsimp only
    by_cases hm : k ∈ ks
    · obtain ⟨i, e1, e2, e3⟩ := kix_some hm
      rw [e1]
      dsimp only
      refine ⟨by rw [List.length_set]; exact p.len, p.nd, fun j k' w' h1 h2 => ?_⟩
      rw [List.getElem?_set] at h2
      split at h2
      · rename_i hij
        subst hij
        split at h2
        · cases h2
          rw [e2] at h1
          cases h1
          exact h k rfl
        · cases h2
      · exact p.ok j k' w' h1 h2
    · rw [kix_none hm]
      dsimp only
      refine ⟨by rw [List.length_append, List.length_append, p.len]; rfl, ?_, fun j k' w' h1 h2 => ?_⟩
      · rw [List.nodup_append]
        refine ⟨p.nd, by simp, fun a ha b hb => ?_⟩
        rw [List.mem_singleton] at hb
        rw [hb]
        exact fun e => hm (e ▸ ha)
      · by_cases hj : j < ks.length
        · rw [List.getElem?_append_left hj] at h1
          rw [List.getElem?_append_left (p.len ▸ hj)] at h2
          exact p.ok j k' w' h1 h2
        · rw [List.getElem?_append_right (by omega)] at h1
          rw [List.getElem?_append_right (by have := p.len; omega), ← p.len] at h2
          cases e : j - ks.length with
          | zero =>
            rw [e] at h1 h2
            cases h1
            cases h2
            exact h k rfl
          | succ m => rw [e] at h1; cases h1
theorem put_sub {ks : List Nat} {ws : List Wy} {f : Option Nat} {w : Wy} : (∀ l ∈ ks, l ∈ (put ks ws f w).1) ∧ ∀ o, f = some o → o ∈ (put ks ws f w).1 := by
  cases f with
  | none => exact ⟨fun l h => h, fun o h => by cases h⟩
  | some k =>
    unfold put
    dsimp only
    by_cases hm : k ∈ ks
    · obtain ⟨i, e1, e2, e3⟩ := kix_some hm
      rw [e1]
      exact ⟨fun l h => h, fun o h => by cases h; exact hm⟩
    · rw [kix_none hm]
      exact ⟨fun l h => List.mem_append_left _ h, fun o h => by cases h; simp⟩
/-- the way that is pending is read -/
theorem pend_get {t0 : T} {ks : List Nat} {ws : List Wy} (p : Pend t0 ks ws) {k : Nat} (h : k ∈ ks) : ∃ w q, bopD .idx [pendD ks ws, .int k] = some (encW w) ∧ At t0 k q ∧ w.ok q.wh = true := by
  obtain ⟨i, e1, e2, e3⟩ := kix_some h
  have h2 : i < ws.length := p.len ▸ e3
  obtain ⟨q, hq, ho⟩ := p.ok i k ws[i] e2 (List.getElem?_eq_getElem h2)
  refine ⟨ws[i], q, b_idx ?_ (own_encW _), hq, ho⟩
  show (if true && !false then (keyIx (kk ks) (.k (.inl (k : Int)))).bind fun j => (ws.map encW)[j]? else none) = _
  rw [keyIx_kk, e1]
  show (ws.map encW)[i]? = _
  rw [List.getElem?_map, List.getElem?_eq_getElem h2]
  rfl
theorem count_le {ks : List Nat} (h : ks.Nodup) (k : Nat) : (kk ks).count (.k (.inl (k : Int))) ≤ 1 := by
  have : (kk ks).count (.k (.inl (k : Int))) = ks.count k := by
    unfold kk
    rw [List.count_eq_countP, List.countP_map, List.count_eq_countP]
    congr 1
    funext y
    rw [Bool.eq_iff_iff]
    simp only [Function.comp, beq_iff_eq, KD.k.injEq, Sum.inl.injEq]
    omega
  rw [this]
  exact List.nodup_iff_count.mp h k
/-- the way that is pending is put -/
theorem pend_set {t0 : T} {ks : List Nat} {ws : List Wy} (p : Pend t0 ks ws) (hs : t0.size ≤ 1000) (k : Nat) (w : Wy) :
    setIx (pendD ks ws) (.int k) (encW w) = some (pendD (put ks ws (some k) w).1 (put ks ws (some k) w).2) := by
  have hl := p.le
  show (if true && !false && decide ((kk ks).length < LINE) && decide ((kk ks).count (.k (.inl (k : Int))) ≤ 1) then some (D.dct true false (putKD (kk ks) (ws.map encW) (.k (.inl (k : Int))) (encW w)).1 (putKD (kk ks) (ws.map encW) (.k (.inl (k : Int))) (encW w)).2) else none) = _
  rw [decide_eq_true (count_le p.nd k), decide_eq_true (show (kk ks).length < LINE by unfold kk; rw [List.length_map, LINE_is]; omega)]
  rw [if_pos (by rfl)]
  unfold putKD put
  rw [keyIx_kk]
  dsimp only
  cases kix ks k with
  | none => simp [pendD, kk]
  | some i => simp [pendD, List.map_set]
end Dn
end L2
namespace L2
namespace Dn
open PySem
theorem countP_lt {α : Type} {p q : α → Bool} : ∀ {l : List α}, (∀ x ∈ l, p x = true → q x = true) → (∃ x ∈ l, q x = true ∧ p x = false) → l.countP p < l.countP q
  | [], _, ⟨x, hx, _⟩ => by cases hx
  | a :: l, h, ⟨x, hx, h1, h2⟩ => by
    have hle : l.countP p ≤ l.countP q := List.countP_mono_left fun y hy => h y (List.mem_cons_of_mem _ hy)
    rw [List.countP_cons, List.countP_cons]
    rcases List.mem_cons.mp hx with e | e
    · subst e
      rw [h1, h2, if_pos rfl, if_neg Bool.false_ne_true]
      omega
    · have ih := countP_lt (fun y hy => h y (List.mem_cons_of_mem _ hy)) ⟨x, e, h1, h2⟩
      have := h a List.mem_cons_self
      cases hp : p a with
      | true => rw [this hp]; omega
      | false => cases q a <;> simp <;> omega
def rk (t0 : T) (n : Nat) : Nat := rank t0.size n (posAt t0 n).t
/-- how many places come behind -/
def behind (t0 : T) (q : Nat) : Nat := (List.range t0.size).countP fun n => decide (rk t0 q < rk t0 n)
theorem behind_le (t0 : T) (q : Nat) : behind t0 q ≤ t0.size := by
  have := List.countP_le_length (p := fun n => decide (rk t0 q < rk t0 n)) (l := List.range t0.size)
  rw [List.length_range] at this
  exact this
theorem behind_lt {t0 : T} {q q' : Nat} {p p' : Pos} (h : At t0 q p) (h' : At t0 q' p') (hr : rank t0.size q p.t < rank t0.size q' p'.t) : behind t0 q' < behind t0 q := by
  have e : rk t0 q < rk t0 q' := by
    unfold rk
    rw [h.pos, h'.pos]
    exact hr
  unfold behind
  apply countP_lt
  · intro x _ hx
    rw [decide_eq_true_eq] at hx ⊢
    omega
  · exact ⟨q', List.mem_range.mpr h'.lt', decide_eq_true e, decide_eq_false (Nat.lt_irrefl _)⟩
theorem At.lev {t0 : T} {n : Nat} {p : Pos} (h : At t0 n p) : p.lay.length < p.lev ∧ p.lev ≤ n + 1 := by
  induction h with
  | root => exact ⟨Nat.zero_lt_one, Nat.le_refl _⟩
  | @kid n h a c b par lev wh lay sib _ ih =>
    dsimp only at ih ⊢
    refine ⟨?_, by omega⟩
    unfold layK
    split
    · rw [List.length_append, List.length_singleton]; omega
    · omega
/-! what a list of answers holds -/
def plainV (d : D) : Bool := !d.isNo && !d.own && (tyOf d).isSome
def isAns : D → Bool | .int i => decide (0 ≤ i) && decide (i ≤ 1) | _ => false
def firstBad : List D → Nat → Option Nat
  | [], _ => none
  | d :: ds, i => if isAns d then firstBad ds (i + 1) else some i
end Dn
end L2
set_option Elab.async false
set_option linter.all false
set_option maxRecDepth 100000
/-! A code's lists, one number after another. -/
namespace L2
namespace Dn
open PySem
@[simp] theorem getD_i' (ds : List D) (n : Int) (r : Path) : getD (.lst true ds) (.i n :: r) = match ixN ds.length n with | some j => getD (ds.getD j .no) r | none => .no := by
  show (if false || true then (match ixN ds.length n with | some j => getD (ds.getD j .no) r | none => .no) else .no) = _
  rw [Bool.false_or, if_pos rfl]
@[simp] theorem setD_i' (o : Bool) (ds : List D) (n : Int) (r : Path) (x : D) : setD (.lst o ds) (.i n :: r) x = match ixN ds.length n with | some j => .lst o (ds.set j (setD (ds.getD j .no) r x)) | none => .lst o ds := rfl
@[simp] theorem frzL_app (a b : List D) : frzL (a ++ b) = frzL a ++ frzL b := by rw [frzL_eq, frzL_eq, frzL_eq, List.map_append]
section
variable {t0 : T} {N : Nat} {p : Pos}
theorem rng_succ {α : Type} (f : Nat → α) (N : Nat) : (List.range (N + 1)).map f = (List.range N).map f ++ [f N] := by
  rw [List.range_succ, List.map_append]
  rfl
theorem stL_succ (h : At t0 N p) : stL t0 (N + 1) = stL t0 N ++ [encT p.t] := by
  unfold stL
  rw [rng_succ, h.pos]
theorem hdL_succ (h : At t0 N p) : hdL t0 (N + 1) = hdL t0 N ++ [encH p.t.hd p.t.ts.length] := by
  unfold hdL
  rw [rng_succ, h.pos]
theorem paL_succ (h : At t0 N p) : paL t0 (N + 1) = paL t0 N ++ [optN p.par] := by
  unfold paL
  rw [rng_succ, h.pos]
theorem laL_succ (h : At t0 N p) : laL t0 (N + 1) = laL t0 N ++ [.lst false (encNs p.lay)] := by
  unfold laL
  rw [rng_succ, h.pos]
theorem app_set_get {l : List D} {x : D} {o i : Nat} {y : D} (ho : o < l.length) : ((l ++ [x]).set o y)[i]? = if i = o then some y else if i = l.length then some x else l[i]? := by
  rw [List.getElem?_set]
  by_cases e : o = i
  · subst e
    rw [if_pos rfl, if_pos rfl, if_pos (by rw [List.length_append]; omega)]
  · rw [if_neg e, if_neg (fun z => e z.symm)]
    by_cases e2 : i = l.length
    · subst e2
      rw [if_pos rfl, List.getElem?_append_right (Nat.le_refl _), Nat.sub_self]
      rfl
    · rw [if_neg e2]
      by_cases e3 : i < l.length
      · rw [List.getElem?_append_left e3]
      · rw [List.getElem?_eq_none (by rw [List.length_append, List.length_singleton]; omega), List.getElem?_eq_none (by omega)]
theorem rng_none {α : Type} (f : Nat → α) {N n : Nat} (h : ¬ n < N) : ((List.range N).map f)[n]? = none := List.getElem?_eq_none (by rw [List.length_map, List.length_range]; omega)
/-- the parts of the one around, when its next part gets its number -/
theorem ptL_succ {o : Nat} {h : Hd} {a b : List T} {c : T} {par : Option Nat} {lev wh : Nat} {lay : List Nat} {sib : Option Nat} (ho : At t0 o ⟨.nd h (a ++ c :: b), par, lev, wh, lay, sib⟩) (e : N = o + 1 + sizeL a) :
    (ptL true t0 N ++ [D.lst true []]).set o (.lst true (encNs (offs (o + 1) a ++ [N]))) = ptL true t0 (N + 1) ∧ (ptL true t0 N ++ [D.lst true []])[o]? = some (.lst true (encNs (offs (o + 1) a))) := by
  have hk := kids_par (o := o) (h := h) (a := a) (b := b) (c := c) (par := par) (lev := lev) (wh := wh) (lay := lay) (sib := sib)
  rw [← e] at hk
  have hN := At.kid ho
  rw [← e] at hN
  constructor
  · apply List.ext_getElem?
    intro i
    rw [app_set_get (by rw [ptL_len]; omega), ptL_len]
    by_cases h1 : i = o
    · subst h1
      rw [if_pos rfl, ptL, rng_get _ (by omega), ho.pos, hk.2]
    · rw [if_neg h1]
      by_cases h2 : i = N
      · subst h2
        rw [if_pos rfl, ptL, rng_get _ (by omega), hN.pos, kids_new (Nat.le_refl _)]
        rfl
      · rw [if_neg h2]
        by_cases h3 : i < N
        · obtain ⟨q, hq⟩ := at_of (show i < t0.size from Nat.lt_trans h3 hN.lt')
          rw [ptL, ptL, rng_get _ h3, rng_get _ (by omega), hq.pos, kids_oth hq hN fun z => h1 (Option.some.inj z).symm]
        · rw [ptL, ptL, rng_none _ h3, rng_none _ (by omega)]
  · rw [List.getElem?_append_left (by rw [ptL_len]; omega), ptL, rng_get _ (by omega), ho.pos, hk.1]
theorem siL_first {o : Nat} {h : Hd} {b : List T} {c : T} {par : Option Nat} {lev wh : Nat} {lay : List Nat} {sib : Option Nat} (ho : At t0 o ⟨.nd h (c :: b), par, lev, wh, lay, sib⟩) :
    siL t0 (o + 1) ++ [D.non] = siL t0 (o + 1 + 1) := by
  have hN := ho.first
  unfold siL
  rw [rng_succ _ (o + 1), hN.pos, sib_new hN (Nat.le_refl _)]
  congr 1
  apply List.map_congr_left
  intro i hi
  rw [List.mem_range] at hi
  obtain ⟨q, hq⟩ := at_of (show i < t0.size from Nat.lt_trans hi hN.lt')
  rw [hq.pos, sib_oth (n := 0) (N := o + 1)]
  intro z
  obtain ⟨a', x, e, _⟩ := sib_only (a := []) ho hq (by rw [sizeL, Nat.add_zero]; exact z)
  exact absurd e (by simp)
theorem siL_next {o : Nat} {h : Hd} {a b : List T} {x c : T} {par : Option Nat} {lev wh : Nat} {lay : List Nat} {sib : Option Nat} (ho : At t0 o ⟨.nd h (a ++ x :: c :: b), par, lev, wh, lay, sib⟩) (e : N = o + 1 + sizeL a + x.size) :
    (siL t0 N ++ [D.non]).set (o + 1 + sizeL a) (.int N) = siL t0 (N + 1) := by
  have hN := ho.next
  rw [← e] at hN
  have hx := At.kid ho
  have xp := x.size_pos
  apply List.ext_getElem?
  intro i
  rw [app_set_get (by rw [siL_len]; omega), siL_len]
  by_cases h1 : i = o + 1 + sizeL a
  · subst h1
    rw [if_pos rfl, siL, rng_get _ (by omega), hx.pos]
    unfold Pos.sibB
    dsimp only
    rw [show (if (c :: b).isEmpty = true then none else some (o + 1 + sizeL a + x.size)) = some N by rw [e]; rfl]
    dsimp only
    rw [if_pos (by omega)]
    rfl
  · rw [if_neg h1]
    by_cases h2 : i = N
    · subst h2
      rw [if_pos rfl, siL, rng_get _ (by omega), hN.pos, sib_new hN (Nat.le_refl _)]
      rfl
    · rw [if_neg h2]
      by_cases h3 : i < N
      · obtain ⟨q, hq⟩ := at_of (show i < t0.size from Nat.lt_trans h3 hN.lt')
        rw [siL, siL, rng_get _ h3, rng_get _ (by omega), hq.pos, sib_oth (n := 0)]
        intro z
        obtain ⟨a', y, e1, e2⟩ := sib_only (a := a ++ [x]) (c := c) (b := b) (by rw [List.append_assoc]; exact ho) hq (by rw [z, e, sizeL_app, sizeL, sizeL]; congr 1; omega)
        have := List.append_inj' e1 rfl
        rw [this.1] at h1
        exact h1 e2
      · rw [siL, siL, rng_none _ h3, rng_none _ (by omega)]
end
@[simp] theorem mu_app (ds : List D) (x : D) : mutD .append (.lst true ds) [x] = if ds.length < LINE then some (.non, .lst true (ds ++ [x])) else none := rfl
theorem last_is {α : Type} {l : List α} {m : α} (h : l.getLast? = some m) : ∃ a, l = a ++ [m] := by
  rw [List.getLast?_eq_some_iff] at h
  exact h
theorem idx_last (o : Bool) {l : List Nat} {m : Nat} (h : l.getLast? = some m) : bopD .idx [.lst o (encNs l), .int (-1)] = some (.int m) := by
  obtain ⟨a, e⟩ := last_is h
  subst e
  apply b_idx _ rfl
  show (ixN (encNs (a ++ [m])).length (-1)).bind (fun j => (encNs (a ++ [m]))[j]?) = _
  have : ixN (encNs (a ++ [m])).length (-1) = some a.length := by
    unfold ixN
    rw [encNs_len, List.length_append, List.length_singleton, if_neg (by omega), if_pos (by omega)]
    congr 1
    omega
  rw [this]
  show (encNs (a ++ [m]))[a.length]? = _
  rw [encNs_app, List.getElem?_append_right (by rw [encNs_len]; exact Nat.le_refl _), encNs_len, Nat.sub_self]
  rfl
/-! the parts as they wait -/
def kidPos (h : Hd) (n lev wh : Nat) (lay : List Nat) : Nat → Nat → List T → List Pos
  | _, _, [] => []
  | j, i, t :: ts => ⟨t, some n, lev + 1, h.wh wh, layK h j lay n, if ts.isEmpty then none else some (i + t.size)⟩ :: kidPos h n lev wh lay (j + 1) (i + t.size) ts
theorem kidPos_len (h : Hd) (n lev wh : Nat) (lay : List Nat) : ∀ (ts : List T) (j i : Nat), (kidPos h n lev wh lay j i ts).length = ts.length
  | [], _, _ => rfl
  | t :: ts, j, i => by rw [kidPos, List.length_cons, List.length_cons, kidPos_len h n lev wh lay ts]
theorem len_size : ∀ ts : List T, ts.length ≤ sizeL ts
  | [] => Nat.zero_le _
  | t :: ts => by
    have := len_size ts
    have := t.size_pos
    rw [sizeL, List.length_cons]
    omega
/-! names -/
def nameOk (x : Str) : Bool := decide (1 ≤ x.length) && decide (x.length ≤ 8) && x.cps.toList.all fun c => decide (97 ≤ c) && decide (c ≤ 122)
def Hd.named : Hd → Bool | .do_ _ => true | .call _ => true | .ife _ => true | .whl _ => true | _ => false
def Hd.jump : Hd → Bool | .brk _ => true | .cnt _ => true | _ => false
def Hd.pair : Hd → Bool | .try_ => true | .fin => true | _ => false
def Hd.sz : Hd → Nat | .do_ _ => 2 | .call _ => 2 | .ife _ => 4 | .whl _ => 3 | .seq => 2 | .brk _ => 2 | .cnt _ => 2 | .ret => 1 | .rai => 1 | .try_ => 3 | .fin => 3
@[simp] theorem k_named (h : Hd) : bopD .inn [.str h.kind, .tup false [.str "do", .str "call", .str "if", .str "while"]] = some (.bl h.named) := by
  apply opB_is; cases h <;> (dsimp only [Hd.kind, Hd.named]; decide +kernel)
@[simp] theorem k_jump (h : Hd) : bopD .inn [.str h.kind, .tup false [.str "break", .str "continue"]] = some (.bl h.jump) := by
  apply opB_is; cases h <;> (dsimp only [Hd.kind, Hd.jump]; decide +kernel)
@[simp] theorem k_pair (h : Hd) : bopD .inn [.str h.kind, .tup false [.str "try", .str "final"]] = some (.bl h.pair) := by
  apply opB_is; cases h <;> (dsimp only [Hd.kind, Hd.pair]; decide +kernel)
def opI (o : Option D) (n : Nat) : Bool := match o with | some (.int c) => decide (c = n) | _ => false
theorem opI_is {o : Option D} {n : Nat} (h : opI o n = true) : o = some (.int n) := by
  unfold opI at h
  split at h
  · rw [of_decide_eq_true h]
  · cases h
@[simp] theorem k_sizes (h : Hd) : bopD .inn [.str h.kind, .wdt ["do", "call", "if", "while", "seq", "break", "continue", "return", "raise", "try", "final"] [.int 2, .int 2, .int 4, .int 3, .int 2, .int 2, .int 2, .int 1, .int 1, .int 3, .int 3]] = some (.bl true) := by
  apply opB_is; cases h <;> (dsimp only [Hd.kind]; decide +kernel)
@[simp] theorem k_size (h : Hd) : bopD .idx [.wdt ["do", "call", "if", "while", "seq", "break", "continue", "return", "raise", "try", "final"] [.int 2, .int 2, .int 4, .int 3, .int 2, .int 2, .int 2, .int 1, .int 1, .int 3, .int 3], .str h.kind] = some (.int h.sz) := by
  apply opI_is; cases h <;> (dsimp only [Hd.kind, Hd.sz]; decide +kernel)
@[simp] theorem ix_encT (t : T) : bopD .idx [encT t, .int 0] = some (.str t.hd.kind) := by
  cases t with
  | nd h ts => cases h <;> exact b_idx (idx_tup (j := 0) rfl) rfl
theorem encL_len (ts : List T) : (encL ts).length = ts.length := by rw [encL_map, List.length_map]
theorem wf_ar {ok : Str → Bool} {h : Hd} {ts : List T} {n : Nat} (w : (T.nd h ts).wf ok n = true) : h.ar ts.length = true := by
  unfold T.wf at w
  rw [Bool.and_eq_true, Bool.and_eq_true] at w
  exact w.1.1
theorem wf_leaf {ok : Str → Bool} {h : Hd} {ts : List T} {n : Nat} (w : (T.nd h ts).wf ok n = true) (e : (h.isSeq || h.pair || h.isW || h.isIf) = false) : ts = [] := by
  have := wf_ar w
  cases h <;> first | (cases e; done) | (simp only [Hd.ar, beq_iff_eq, List.length_eq_zero_iff] at this; exact this)
theorem encT_len {ok : Str → Bool} {t : T} {n : Nat} (w : t.wf ok n = true) : bopD .len [encT t] = some (.int t.hd.sz) := by
  cases t with
  | nd h ts =>
    have a := wf_ar w
    show some (D.int ((encHd h (encL ts)).length : Nat)) = some (D.int (h.sz : Nat))
    have : (encHd h (encL ts)).length = h.sz := by
      cases h <;> simp only [Hd.ar, beq_iff_eq] at a <;> simp [encHd, Hd.sz, encL_len, a]
    rw [this]
end Dn
end L2
set_option Elab.async false
set_option linter.all false
set_option maxRecDepth 100000
/-! Arithmetic of draws; small trees. -/
namespace L2
namespace Dn
open PySem
@[simp] theorem jx0 (o : Bool) (d : D) (ds : List D) : bopD .idx [.lst o (d :: ds), .int 0] = if d.own then none else some d := by
  show (match idxD (.lst o (d :: ds)) (.int (0 : Nat)) with | some d => if d.own then none else some d | none => none) = _
  rw [idx_lst (j := 0) (d := d) rfl]
@[simp] theorem jx1 (o : Bool) (c d : D) (ds : List D) : bopD .idx [.lst o (c :: d :: ds), .int 1] = if d.own then none else some d := by
  show (match idxD (.lst o (c :: d :: ds)) (.int (1 : Nat)) with | some d => if d.own then none else some d | none => none) = _
  rw [idx_lst (j := 1) (d := d) rfl]
@[simp] theorem jx2 (o : Bool) (b c d : D) (ds : List D) : bopD .idx [.lst o (b :: c :: d :: ds), .int 2] = if d.own then none else some d := by
  show (match idxD (.lst o (b :: c :: d :: ds)) (.int (2 : Nat)) with | some d => if d.own then none else some d | none => none) = _
  rw [idx_lst (j := 2) (d := d) rfl]
theorem b_mul {i j : Int} (h : (-(2 ^ 64) < i ∧ i < 2 ^ 64) ∨ (-(2 ^ 64) < j ∧ j < 2 ^ 64)) : bopD .mul [.int i, .int j] = some (.int (i * j)) := by
  show (if (-(2 ^ 64) < i ∧ i < 2 ^ 64) ∨ (-(2 ^ 64) < j ∧ j < 2 ^ 64) then some (D.int (i * j)) else none) = _
  rw [if_pos h]
theorem b_mod {i j : Int} (h : j ≠ 0) : bopD .mod [.int i, .int j] = some (.int (i.fmod j)) := by
  show (if j ≠ 0 then some (D.int (i.fmod j)) else none) = _
  rw [if_pos h]
theorem b_fdiv {i j : Int} (h : j ≠ 0 ∧ j.natAbs < 1073741824) : bopD .fdiv [.int i, .int j] = some (.int (i.fdiv j)) := by
  show (if j ≠ 0 ∧ j.natAbs < 1073741824 then some (D.int (i.fdiv j)) else none) = _
  rw [if_pos h]
theorem b_pow {i j : Int} (h : 0 ≤ j ∧ j ≤ 1000000 ∧ i.natAbs < 2 ^ 64) : bopD .pow [.int i, .int j] = some (.int (i ^ j.toNat)) := by
  show (if 0 ≤ j ∧ j ≤ 1000000 ∧ i.natAbs < 2 ^ 64 then some (D.int (i ^ j.toNat)) else none) = _
  rw [if_pos h]
/-- a remainder's range -/
theorem mod_in (i : Int) {j : Int} (h : 0 < j) : 0 ≤ i.fmod j ∧ i.fmod j < j := ⟨Int.fmod_nonneg_of_pos i h, Int.fmod_lt_of_pos i h⟩
mutual
def T.small : T → Nat → Bool
  | _, 0 => false
  | .nd _ ts, d + 1 => decide (ts.length ≤ 3) && smallL ts d
def smallL : List T → Nat → Bool
  | [], _ => true
  | t :: ts, d => t.small d && smallL ts d
end
def big : Nat → Nat
  | 0 => 0
  | d + 1 => 1 + 3 * big d
mutual
theorem small_size : ∀ (t : T) (d : Nat), t.small d = true → t.size ≤ big d
  | t, 0, h => by cases t <;> (unfold T.small at h; cases h)
  | .nd hd ts, d + 1, h => by
    unfold T.small at h
    rw [Bool.and_eq_true, decide_eq_true_eq] at h
    have := small_sizeL ts d h.2
    have : ts.length * big d ≤ 3 * big d := Nat.mul_le_mul_right _ h.1
    unfold T.size big
    omega
theorem small_sizeL : ∀ (ts : List T) (d : Nat), smallL ts d = true → sizeL ts ≤ ts.length * big d
  | [], d, _ => by unfold sizeL; omega
  | t :: ts, d, h => by
    unfold smallL at h
    rw [Bool.and_eq_true] at h
    have h1 := small_size t d h.1
    have h2 := small_sizeL ts d h.2
    unfold sizeL
    rw [List.length_cons, Nat.add_mul, Nat.one_mul]
    omega
end
theorem smallL_mem : ∀ {ts : List T} {d : Nat}, smallL ts d = true → ∀ t ∈ ts, t.small d = true
  | t :: ts, d, h, u, hu => by
    unfold smallL at h
    rw [Bool.and_eq_true] at h
    rcases List.mem_cons.mp hu with e | e
    · rw [e]; exact h.1
    · exact smallL_mem h.2 u e
/-- levels of a small tree -/
theorem At.small {t0 : T} {d : Nat} (h0 : t0.small d = true) {n : Nat} {p : Pos} (h : At t0 n p) : p.lev ≤ d ∧ p.t.small (d + 1 - p.lev) = true := by
  induction h with
  | root =>
    refine ⟨?_, h0⟩
    cases d with
    | zero => cases t0 <;> (unfold T.small at h0; cases h0)
    | succ d => exact Nat.succ_le_succ (Nat.zero_le _)
  | @kid n h a c b par lev wh lay sib _ ih =>
    dsimp only at ih ⊢
    obtain ⟨h1, h2⟩ := ih
    have e : d + 1 - lev = (d - lev) + 1 := by omega
    rw [e] at h2
    unfold T.small at h2
    rw [Bool.and_eq_true] at h2
    have h3 := smallL_mem h2.2 c (by simp)
    have h4 : 0 < d - lev := by
      cases z : d - lev with
      | zero => rw [z] at h3; cases c <;> (unfold T.small at h3; cases h3)
      | succ k => exact Nat.succ_pos _
    refine ⟨by omega, ?_⟩
    rw [show d + 1 - (lev + 1) = d - lev by omega]
    exact h3
mutual
theorem small_up : ∀ (t : T) (d : Nat), t.small d = true → t.small (d + 1) = true
  | t, 0, h => by cases t <;> (unfold T.small at h; cases h)
  | .nd hd ts, d + 1, h => by
    unfold T.small at h ⊢
    rw [Bool.and_eq_true] at h ⊢
    exact ⟨h.1, small_upL ts d h.2⟩
theorem small_upL : ∀ (ts : List T) (d : Nat), smallL ts d = true → smallL ts (d + 1) = true
  | [], d, _ => rfl
  | t :: ts, d, h => by
    unfold smallL at h ⊢
    rw [Bool.and_eq_true] at h ⊢
    exact ⟨small_up t d h.1, small_upL ts d h.2⟩
end
end Dn
end L2
set_option maxRecDepth 100000
set_option linter.all false
set_option Elab.async false
namespace L2
namespace Dn
namespace K8
open PySem
def b0 : Sms := (.cons (.ret (.and (.bop .isi (.cons (.ref 0) (.cons (.gl 0) .nil))) (.not (.bop .isi (.cons (.ref 0) (.cons (.gl 1) .nil)))))) .nil)
def f0 : Fn := ⟨1, 1, [0], b0⟩
def x1_0 : Ex := (.chain .le .le (.lit (.str "a")) (.ref 1) (.lit (.str "z")))
def b1 : Sms := (.cons (.ife (.or (.not (.bop .isi (.cons (.ref 0) (.cons (.gl 2) .nil)))) (.not (.chain .le .le (.lit (.int (1))) (.bop .len (.cons (.ref 0) .nil)) (.gl 103)))) (.cons (.ret (.lit (.bl false))) .nil) .nil) (.cons (.ret (.bop .all1 (.cons (.comp x1_0 (.nm 1) [1] (.ref 0) (.lit (.bl true))) .nil))) .nil))
def f1 : Fn := ⟨1, 2, [0], b1⟩
def b2 : Sms := (.cons (.ife (.or (.not (.bop .isi (.cons (.ref 0) (.cons (.gl 3) .nil)))) (.bop .eq (.cons (.bop .len (.cons (.ref 0) .nil)) (.cons (.lit (.int (0))) .nil)))) (.cons (.ret (.lit (.bl false))) .nil) .nil) (.cons (.asg (.nm 1) (.bop .idx (.cons (.ref 0) (.cons (.lit (.int (0))) .nil)))) (.cons (.ret (.and (.bop .isi (.cons (.ref 1) (.cons (.gl 2) .nil))) (.and (.bop .inn (.cons (.ref 1) (.cons (.gl 104) .nil))) (.bop .eq (.cons (.bop .len (.cons (.ref 0) .nil)) (.cons (.bop .idx (.cons (.gl 104) (.cons (.ref 1) .nil))) .nil)))))) .nil)))
def f2 : Fn := ⟨1, 2, [0], b2⟩
def b3 : Sms := (.cons (.ife (.not (.call 2 (.cons (.ref 0) .nil))) (.cons (.ret (.lit (.bl false))) .nil) .nil) (.cons (.asg (.nm 2) (.bop .idx (.cons (.ref 0) (.cons (.lit (.int (0))) .nil)))) (.cons (.ife (.bop .inn (.cons (.ref 2) (.cons (.gl 105) .nil))) (.cons (.ret (.call 1 (.cons (.bop .idx (.cons (.ref 0) (.cons (.lit (.int (1))) .nil))) .nil))) .nil) .nil) (.cons (.ife (.bop .inn (.cons (.ref 2) (.cons (.gl 106) .nil))) (.cons (.ret (.and (.call 0 (.cons (.bop .idx (.cons (.ref 0) (.cons (.lit (.int (1))) .nil))) .nil)) (.chain .le .le (.lit (.int (1))) (.bop .idx (.cons (.ref 0) (.cons (.lit (.int (1))) .nil))) (.ref 1)))) .nil) .nil) (.cons (.ife (.bop .eq (.cons (.ref 2) (.cons (.lit (.str "seq")) .nil))) (.cons (.ret (.and (.bop .isi (.cons (.bop .idx (.cons (.ref 0) (.cons (.lit (.int (1))) .nil))) (.cons (.gl 3) .nil))) (.bop .gt (.cons (.bop .len (.cons (.bop .idx (.cons (.ref 0) (.cons (.lit (.int (1))) .nil))) .nil)) (.cons (.lit (.int (0))) .nil))))) .nil) .nil) (.cons (.ret (.lit (.bl true))) .nil))))))
def f3 : Fn := ⟨2, 3, [0, 1], b3⟩
def b4 : Sms := (.cons (.asg (.tp (.cons (.nm 2) (.cons (.nm 3) (.cons (.nm 4) (.cons (.nm 5) (.cons (.nm 6) .nil)))))) (.rd (.ref 0))) (.cons (.ife (.bop .ge (.cons (.ref 1) (.cons (.gl 100) .nil))) (.cons (.rai 4 (.gl 100)) .nil) .nil) (.cons (.ife (.bop .gt (.cons (.ref 4) (.cons (.gl 101) .nil))) (.cons (.rai 4 (.gl 101)) .nil) .nil) (.cons (.ife (.bop .gt (.cons (.bop .len (.cons (.ref 6) .nil)) (.cons (.gl 102) .nil))) (.cons (.rai 4 (.gl 102)) .nil) .nil) (.cons (.ife (.not (.call 3 (.cons (.ref 2) (.cons (.ref 5) .nil)))) (.cons (.rai 1 (.rd (.ref 1))) .nil) .nil) .nil)))))
def f4 : Fn := ⟨2, 7, [0, 1], b4⟩
def b5 : Sms := (.cons (.asg (.nm 1) (.bop .idx (.cons (.ref 0) (.cons (.lit (.int (0))) .nil)))) (.cons (.ife (.bop .eq (.cons (.ref 1) (.cons (.lit (.str "seq")) .nil))) (.cons (.ret (.tup (.cons (.mov 1) (.cons (.bop .len (.cons (.bop .idx (.cons (.ref 0) (.cons (.lit (.int (1))) .nil))) .nil)) .nil)))) .nil) .nil) (.cons (.ife (.or (.bop .inn (.cons (.ref 1) (.cons (.gl 105) .nil))) (.bop .inn (.cons (.ref 1) (.cons (.gl 106) .nil)))) (.cons (.ret (.tup (.cons (.mov 1) (.cons (.bop .idx (.cons (.ref 0) (.cons (.lit (.int (1))) .nil))) .nil)))) .nil) .nil) (.cons (.ret (.tup (.cons (.mov 1) .nil))) .nil))))
def f5 : Fn := ⟨1, 2, [0], b5⟩
def b6 : Sms := (.cons (.asg (.nm 1) (.bop .idx (.cons (.ref 0) (.cons (.lit (.int (0))) .nil)))) (.cons (.ife (.bop .eq (.cons (.ref 1) (.cons (.lit (.str "seq")) .nil))) (.cons (.ret (.bop .list1 (.cons (.frz (.bop .idx (.cons (.ref 0) (.cons (.lit (.int (1))) .nil)))) .nil))) .nil) .nil) (.cons (.ife (.bop .inn (.cons (.ref 1) (.cons (.gl 107) .nil))) (.cons (.ret (.bop .list1 (.cons (.frz (.sl true false (.ref 0) (.lit (.int (1))) (.lit .non))) .nil))) .nil) .nil) (.cons (.ret (.bop .list1 (.cons (.frz (.sl true false (.ref 0) (.lit (.int (2))) (.lit .non))) .nil))) .nil))))
def f6 : Fn := ⟨1, 2, [0], b6⟩
def x7_0 : Ex := (.tup (.cons (.mov 9) (.cons (.rd (.ref 1)) (.cons (.bop .add (.cons (.ref 6) (.cons (.lit (.int (1))) .nil))) (.cons (.rd (.ref 7)) (.cons (.rd (.ref 8)) .nil))))))
def b7 : Sms := (.cons (.asg (.tp (.cons (.nm 4) (.cons (.nm 5) (.cons (.nm 6) (.cons (.nm 7) (.cons (.nm 8) .nil)))))) (.rd (.ref 0))) (.cons (.asg (.nm 2) (.bop .idx (.cons (.ref 4) (.cons (.lit (.int (0))) .nil)))) (.cons (.ife (.bop .eq (.cons (.ref 2) (.cons (.lit (.str "while")) .nil))) (.cons (.asg (.nm 7) (.bop .add (.cons (.ref 7) (.cons (.lit (.int (1))) .nil)))) .nil) .nil) (.cons (.asg (.nm 3) (.comp x7_0 (.nm 9) [9] (.call 6 (.cons (.ref 4) .nil)) (.lit (.bl true)))) (.cons (.ife (.bop .eq (.cons (.ref 2) (.cons (.lit (.str "final")) .nil))) (.cons (.asg (.ix (.ref 3) (.lit (.int (1)))) (.tup (.cons (.bop .idx (.cons (.ref 4) (.cons (.lit (.int (2))) .nil))) (.cons (.rd (.ref 1)) (.cons (.bop .add (.cons (.ref 6) (.cons (.lit (.int (1))) .nil))) (.cons (.mov 7) (.cons (.bop .add (.cons (.ref 8) (.cons (.lst (.cons (.rd (.ref 1)) .nil)) .nil))) .nil))))))) .nil) .nil) (.cons (.ret (.mov 3)) .nil))))))
def f7 : Fn := ⟨2, 10, [0, 1], b7⟩
def t8_0 : Ex := (.tru (.ref 2))
def w8_1 : Sms := (.cons (.ex (.mut false .append (.ref 2) (.cons (.mov 5) .nil))) .nil)
def w8_2 : Sms := (.cons (.asg (.nm 3) (.mut false .pop (.ref 2) .nil)) (.cons (.asg (.nm 4) (.bop .len (.cons (.fld (.ref 0) 5 0) .nil))) (.cons (.ex (.call 4 (.cons (.ref 3) (.cons (.ref 4) .nil)))) (.cons (.ex (.mth 9 5 (.ref 0) (.cons (.ref 3) (.cons (.ref 4) .nil)))) (.cons (.for_ (.nm 5) (.itRev (.bop .list1 (.cons (.frz (.call 7 (.cons (.ref 3) (.cons (.ref 4) .nil)))) .nil))) w8_1) .nil)))))
def b8 : Sms := (.cons (.asg (.fld (.ref 0) 5 0) (.lst .nil)) (.cons (.asg (.fld (.ref 0) 5 1) (.lst .nil)) (.cons (.asg (.fld (.ref 0) 5 2) (.lst .nil)) (.cons (.asg (.fld (.ref 0) 5 3) (.lst .nil)) (.cons (.asg (.fld (.ref 0) 5 4) (.lst .nil)) (.cons (.asg (.fld (.ref 0) 5 5) (.lst .nil)) (.cons (.asg (.nm 2) (.lst (.cons (.tup (.cons (.rd (.ref 1)) (.cons (.lit .non) (.cons (.lit (.int (1))) (.cons (.lit (.int (0))) (.cons (.lst .nil) .nil)))))) .nil))) (.cons (.whl t8_0 w8_2) .nil))))))))
def f8 : Fn := ⟨2, 6, [0, 1], b8⟩
def i9_0 : Sm := (.ife (.tru (.ix (.fld (.ref 0) 5 3) (.rd (.ref 4)))) (.cons (.asg (.ix (.fld (.ref 0) 5 4) (.bop .idx (.cons (.ix (.fld (.ref 0) 5 3) (.rd (.ref 4))) (.cons (.bop .neg (.cons (.lit (.int (1))) .nil)) .nil)))) (.rd (.ref 2))) .nil) .nil)
def i9_1 : Sm := (.ife (.bop .notN (.cons (.ref 4) (.cons (.lit .non) .nil))) (.cons i9_0 (.cons (.ex (.mut false .append (.ix (.fld (.ref 0) 5 3) (.mov 4)) (.cons (.rd (.ref 2)) .nil))) .nil)) .nil)
def b9 : Sms := (.cons (.asg (.tp (.cons (.nm 3) (.cons (.nm 4) (.cons (.nm 5) (.cons (.nm 5) (.cons (.nm 6) .nil)))))) (.rd (.ref 1))) (.cons (.ex (.mut false .append (.fld (.ref 0) 5 0) (.cons (.rd (.ref 3)) .nil))) (.cons (.ex (.mut true .append (.fld (.ref 0) 5 1) (.cons (.call 5 (.cons (.ref 3) .nil)) .nil))) (.cons (.ex (.mut false .append (.fld (.ref 0) 5 2) (.cons (.rd (.ref 4)) .nil))) (.cons (.ex (.mut false .append (.fld (.ref 0) 5 3) (.cons (.lst .nil) .nil))) (.cons (.ex (.mut false .append (.fld (.ref 0) 5 4) (.cons (.lit .non) .nil))) (.cons (.ex (.mut false .append (.fld (.ref 0) 5 5) (.cons (.mov 6) .nil))) (.cons i9_1 .nil))))))))
def f9 : Fn := ⟨3, 7, [0, 1, 2], b9⟩
def b10 : Sms := (.cons (.ret (.bop .len (.cons (.fld (.ref 0) 5 0) .nil))) .nil)
def f10 : Fn := ⟨1, 1, [0], b10⟩
def b12 : Sms := (.cons (.ex (.mth 14 5 (.ref 0) (.cons (.ref 1) .nil))) (.cons (.ret (.bop .idx (.cons (.fld (.ref 0) 5 0) (.cons (.ref 1) .nil)))) .nil))
def f12 : Fn := ⟨2, 2, [0, 1], b12⟩
def b14 : Sms := (.cons (.ife (.or (.not (.call 0 (.cons (.ref 1) .nil))) (.not (.chain .le .lt (.lit (.int (0))) (.ref 1) (.bop .len (.cons (.fld (.ref 0) 5 0) .nil))))) (.cons (.rai 2 (.rd (.ref 1))) .nil) .nil) .nil)
def f14 : Fn := ⟨2, 2, [0, 1], b14⟩
def b15 : Sms := (.cons (.ex (.mth 14 5 (.ref 0) (.cons (.ref 1) .nil))) (.cons (.ife (.bop .inn (.cons (.bop .idx (.cons (.bop .idx (.cons (.fld (.ref 0) 5 1) (.cons (.ref 1) .nil))) (.cons (.lit (.int (0))) .nil))) (.cons (.gl 109) .nil))) (.cons (.rai 2 (.rd (.ref 1))) .nil) .nil) .nil))
def f15 : Fn := ⟨2, 2, [0, 1], b15⟩
def b16 : Sms := (.cons (.ex (.mth 14 5 (.ref 0) (.cons (.ref 1) .nil))) (.cons (.ret (.bop .idx (.cons (.bop .idx (.cons (.fld (.ref 0) 5 1) (.cons (.ref 1) .nil))) (.cons (.lit (.int (0))) .nil)))) .nil))
def f16 : Fn := ⟨2, 2, [0, 1], b16⟩
def b17 : Sms := (.cons (.ex (.mth 14 5 (.ref 0) (.cons (.ref 1) .nil))) (.cons (.ret (.bop .idx (.cons (.fld (.ref 0) 5 2) (.cons (.ref 1) .nil)))) .nil))
def f17 : Fn := ⟨2, 2, [0, 1], b17⟩
def b18 : Sms := (.cons (.ex (.mth 14 5 (.ref 0) (.cons (.ref 1) .nil))) (.cons (.ret (.bop .list1 (.cons (.frz (.bop .idx (.cons (.fld (.ref 0) 5 3) (.cons (.ref 1) .nil)))) .nil))) .nil))
def f18 : Fn := ⟨2, 2, [0, 1], b18⟩
def b19 : Sms := (.cons (.ex (.mth 14 5 (.ref 0) (.cons (.ref 1) .nil))) (.cons (.ret (.bop .idx (.cons (.fld (.ref 0) 5 4) (.cons (.ref 1) .nil)))) .nil))
def f19 : Fn := ⟨2, 2, [0, 1], b19⟩
def x20_0 : Ex := (.rd (.ref 1))
def c20_1 : Ex := (.bop .nin (.cons (.bop .idx (.cons (.ref 2) (.cons (.lit (.int (0))) .nil))) (.cons (.gl 109) .nil)))
def b20 : Sms := (.cons (.ret (.comp x20_0 (.tp (.cons (.nm 1) (.cons (.nm 2) .nil))) [1, 2] (.itE (.fld (.ref 0) 5 1)) c20_1)) .nil)
def f20 : Fn := ⟨1, 3, [0], b20⟩
def t21_0 : Ex := (.bop .inn (.cons (.bop .idx (.cons (.bop .idx (.cons (.fld (.ref 0) 5 1) (.cons (.ref 1) .nil))) (.cons (.lit (.int (0))) .nil))) (.cons (.gl 108) .nil)))
def w21_1 : Sms := (.cons (.asg (.nm 1) (.bop .add (.cons (.ref 1) (.cons (.lit (.int (1))) .nil)))) .nil)
def b21 : Sms := (.cons (.ex (.mth 14 5 (.ref 0) (.cons (.ref 1) .nil))) (.cons (.whl t21_0 w21_1) (.cons (.ret (.rd (.ref 1))) .nil)))
def f21 : Fn := ⟨2, 2, [0], b21⟩
def b22 : Sms := (.cons (.ex (.mth 15 5 (.ref 0) (.cons (.ref 1) .nil))) (.cons (.ife (.bop .eq (.cons (.bop .idx (.cons (.bop .idx (.cons (.fld (.ref 0) 5 1) (.cons (.ref 1) .nil))) (.cons (.lit (.int (0))) .nil))) (.cons (.lit (.str "final")) .nil))) (.cons (.ret (.bop .add (.cons (.bop .idx (.cons (.fld (.ref 0) 5 5) (.cons (.ref 1) .nil))) (.cons (.lst (.cons (.rd (.ref 1)) .nil)) .nil)))) .nil) .nil) (.cons (.ret (.bop .list1 (.cons (.frz (.bop .idx (.cons (.fld (.ref 0) 5 5) (.cons (.ref 1) .nil)))) .nil))) .nil)))
def f22 : Fn := ⟨2, 2, [0, 1], b22⟩
def b23 : Sms := (.cons (.ife (.bop .eq (.cons (.ref 0) (.cons (.lit (.str "seq")) .nil))) (.cons (.ret (.bop .eq (.cons (.ref 1) (.cons (.gl 110) .nil)))) .nil) .nil) (.cons (.ife (.bop .eq (.cons (.ref 0) (.cons (.lit (.str "try")) .nil))) (.cons (.ret (.bop .eq (.cons (.ref 1) (.cons (.gl 111) .nil)))) .nil) .nil) (.cons (.ret (.bop .eq (.cons (.ref 0) (.cons (.lit (.str "final")) .nil)))) .nil)))
def f23 : Fn := ⟨2, 2, [0, 1], b23⟩
def b24 : Sms := (.cons (.ife (.bop .eq (.cons (.ref 0) (.cons (.lit (.str "while")) .nil))) (.cons (.ret (.bop .inn (.cons (.ref 1) (.cons (.gl 112) .nil)))) .nil) .nil) (.cons (.ret (.and (.bop .eq (.cons (.ref 0) (.cons (.lit (.str "final")) .nil))) (.bop .eq (.cons (.ref 1) (.cons (.gl 110) .nil))))) .nil))
def f24 : Fn := ⟨2, 2, [0, 1], b24⟩
def b25 : Sms := (.cons (.ife (.or (.bop .ne (.cons (.ref 0) (.cons (.lit (.str "while")) .nil))) (.bop .nin (.cons (.bop .idx (.cons (.ref 1) (.cons (.lit (.int (0))) .nil))) (.cons (.gl 106) .nil)))) (.cons (.ret (.rd (.ref 1))) .nil) .nil) (.cons (.ife (.bop .eq (.cons (.bop .idx (.cons (.ref 1) (.cons (.lit (.int (1))) .nil))) (.cons (.lit (.int (1))) .nil))) (.cons (.ret (.gl 110)) .nil) .nil) (.cons (.ret (.tup (.cons (.bop .idx (.cons (.ref 1) (.cons (.lit (.int (0))) .nil))) (.cons (.bop .sub (.cons (.bop .idx (.cons (.ref 1) (.cons (.lit (.int (1))) .nil))) (.cons (.lit (.int (1))) .nil))) .nil)))) .nil)))
def f25 : Fn := ⟨2, 2, [0, 1], b25⟩
def t26_0 : Ex := (.bop .gt (.cons (.ref 1) (.cons (.lit (.int (0))) .nil)))
def w26_1 : Sms := (.cons (.asg (.nm 3) (.mth 17 5 (.ref 0) (.cons (.ref 1) .nil))) (.cons (.asg (.nm 4) (.mth 16 5 (.ref 0) (.cons (.ref 3) .nil))) (.cons (.asg (.nm 5) (.mth 19 5 (.ref 0) (.cons (.ref 1) .nil))) (.cons (.ife (.and (.bop .notN (.cons (.ref 5) (.cons (.lit .non) .nil))) (.call 23 (.cons (.ref 4) (.cons (.ref 2) .nil)))) (.cons (.asg (.nm 6) (.ife (.bop .eq (.cons (.ref 4) (.cons (.lit (.str "final")) .nil))) (.rd (.ref 3)) (.lit .non))) (.cons (.ret (.tup (.cons (.mov 6) (.cons (.rd (.ref 2)) (.cons (.mth 21 5 (.ref 0) (.cons (.ref 5) .nil)) .nil))))) .nil)) .nil) (.cons (.ife (.call 24 (.cons (.ref 4) (.cons (.ref 2) .nil))) (.cons (.ret (.tup (.cons (.lit .non) (.cons (.rd (.ref 2)) (.cons (.mov 3) .nil))))) .nil) .nil) (.cons (.asg (.nm 2) (.call 25 (.cons (.ref 4) (.cons (.ref 2) .nil)))) (.cons (.asg (.nm 1) (.mov 3)) .nil)))))))
def b26 : Sms := (.cons (.whl t26_0 w26_1) (.cons (.ret (.tup (.cons (.lit .non) (.cons (.rd (.ref 2)) (.cons (.bop .idx (.cons (.gl 113) (.cons (.bop .idx (.cons (.ref 2) (.cons (.lit (.int (0))) .nil))) .nil))) .nil))))) .nil))
def f26 : Fn := ⟨3, 7, [0], b26⟩
def b27 : Sms := (.cons (.ret (.and (.call 0 (.cons (.ref 0) .nil)) (.chain .le .le (.lit (.int (0))) (.ref 0) (.lit (.int (1)))))) .nil)
def f27 : Fn := ⟨1, 1, [0], b27⟩
def w28_0 : Sms := (.cons (.ife (.not (.call 27 (.cons (.ref 2) .nil))) (.cons (.rai 3 (.mov 1)) .nil) .nil) .nil)
def b28 : Sms := (.cons (.ife (.or (.not (.bop .isi (.cons (.ref 0) (.cons (.gl 4) .nil)))) (.bop .gt (.cons (.bop .len (.cons (.ref 0) .nil)) (.cons (.gl 114) .nil)))) (.cons (.rai 3 (.bop .neg (.cons (.lit (.int (1))) .nil))) .nil) .nil) (.cons (.for_ (.tp (.cons (.nm 1) (.cons (.nm 2) .nil))) (.itE (.ref 0)) w28_0) .nil))
def f28 : Fn := ⟨1, 3, [0], b28⟩
def b29 : Sms := (.cons (.asg (.fld (.ref 0) 6 0) (.bop .list1 (.cons (.ref 1) .nil))) (.cons (.asg (.fld (.ref 0) 6 1) (.rd (.ref 2))) (.cons (.asg (.fld (.ref 0) 6 2) (.rd (.ref 3))) .nil)))
def f29 : Fn := ⟨4, 4, [0, 1, 2, 3], b29⟩
def b31 : Sms := (.cons (.asg (.fld (.ref 0) 7 0) (.rd (.ref 1))) (.cons (.asg (.fld (.ref 0) 7 1) (.rd (.ref 2))) (.cons (.asg (.fld (.ref 0) 7 2) (.bop .dict1 (.cons (.ref 3) .nil))) .nil)))
def f31 : Fn := ⟨4, 4, [0, 1, 2, 3], b31⟩
def b32 : Sms := (.cons (.ret (.bop .isi (.cons (.fld (.ref 0) 7 1) (.cons (.gl 2) .nil)))) .nil)
def f32 : Fn := ⟨1, 1, [0], b32⟩
def b33 : Sms := (.cons (.ret (.and (.not (.mth 32 7 (.ref 0) .nil)) (.bop .inn (.cons (.mth 16 5 (.fld (.ref 0) 7 0) (.cons (.fld (.ref 0) 7 1) .nil)) (.cons (.gl 115) .nil))))) .nil)
def f33 : Fn := ⟨1, 1, [0], b33⟩
def b34 : Sms := (.cons (.asg (.nm 2) (.rd (.fld (.ref 0) 7 1))) (.cons (.asg (.nm 3) (.mth 16 5 (.fld (.ref 0) 7 0) (.cons (.ref 2) .nil))) (.cons (.ife (.bop .eq (.cons (.ref 3) (.cons (.lit (.str "do")) .nil))) (.cons (.ex (.mth 35 7 (.ref 0) (.cons (.ref 2) (.cons (.gl 110) .nil)))) .nil) (.cons (.ife (.bop .eq (.cons (.ref 3) (.cons (.lit (.str "call")) .nil))) (.cons (.ex (.mth 35 7 (.ref 0) (.cons (.ref 2) (.cons (.ife (.bop .eq (.cons (.ref 1) (.cons (.lit (.int (1))) .nil))) (.gl 111) (.gl 110)) .nil)))) .nil) (.cons (.ife (.bop .eq (.cons (.ref 3) (.cons (.lit (.str "if")) .nil))) (.cons (.asg (.fld (.ref 0) 7 1) (.mth 21 5 (.rd (.fld (.ref 0) 7 0)) (.cons (.bop .idx (.cons (.mth 18 5 (.fld (.ref 0) 7 0) (.cons (.ref 2) .nil)) (.cons (.ref 1) .nil))) .nil))) .nil) (.cons (.ife (.and (.bop .eq (.cons (.ref 3) (.cons (.lit (.str "while")) .nil))) (.bop .eq (.cons (.ref 1) (.cons (.lit (.int (0))) .nil)))) (.cons (.ex (.mth 35 7 (.ref 0) (.cons (.ref 2) (.cons (.gl 110) .nil)))) .nil) (.cons (.ife (.bop .eq (.cons (.ref 3) (.cons (.lit (.str "while")) .nil))) (.cons (.asg (.fld (.ref 0) 7 1) (.mth 21 5 (.rd (.fld (.ref 0) 7 0)) (.cons (.bop .idx (.cons (.mth 18 5 (.fld (.ref 0) 7 0) (.cons (.ref 2) .nil)) (.cons (.lit (.int (0))) .nil))) .nil))) .nil) (.cons (.ife (.bop .eq (.cons (.ref 3) (.cons (.lit (.str "final")) .nil))) (.cons (.ex (.mth 35 7 (.ref 0) (.cons (.ref 2) (.cons (.bop .idx (.cons (.fld (.ref 0) 7 2) (.cons (.ref 2) .nil))) .nil)))) .nil) (.cons (.ex (.mth 35 7 (.ref 0) (.cons (.ref 2) (.cons (.mth 12 5 (.fld (.ref 0) 7 0) (.cons (.ref 2) .nil)) .nil)))) .nil)) .nil)) .nil)) .nil)) .nil)) .nil)) .nil)))
def f34 : Fn := ⟨2, 4, [0, 1], b34⟩
def b35 : Sms := (.cons (.asg (.tp (.cons (.nm 3) (.cons (.nm 2) (.cons (.fld (.ref 0) 7 1) .nil)))) (.call 26 (.cons (.fld (.ref 0) 7 0) (.cons (.ref 1) (.cons (.ref 2) .nil))))) (.cons (.ife (.bop .notN (.cons (.ref 3) (.cons (.lit .non) .nil))) (.cons (.asg (.ix (.fld (.ref 0) 7 2) (.mov 3)) (.rd (.ref 2))) .nil) .nil) .nil))
def f35 : Fn := ⟨3, 4, [0, 1], b35⟩
def x36_0 : Ex := (.tup (.cons (.rd (.ref 1)) (.cons (.bop .idx (.cons (.fld (.ref 0) 7 2) (.cons (.ref 1) .nil))) .nil)))
def b36 : Sms := (.cons (.ife (.mth 32 7 (.ref 0) .nil) (.cons (.ret (.tup (.cons (.rd (.fld (.ref 0) 7 1)) (.cons (.lst .nil) .nil)))) .nil) .nil) (.cons (.ret (.tup (.cons (.rd (.fld (.ref 0) 7 1)) (.cons (.comp x36_0 (.nm 1) [1] (.mth 22 5 (.fld (.ref 0) 7 0) (.cons (.fld (.ref 0) 7 1) .nil)) (.lit (.bl true))) .nil)))) .nil))
def f36 : Fn := ⟨1, 2, [0], b36⟩
def b37 : Sms := (.cons (.ret (.mk 7 (.cons (.ref 0) (.cons (.mth 21 5 (.ref 0) (.cons (.lit (.int (0))) .nil)) (.cons (.dct false .nil .nil) .nil))))) .nil)
def f37 : Fn := ⟨1, 1, [0], b37⟩
def t38_0 : Ex := (.not (.mth 32 7 (.ref 0) .nil))
def w38_1 : Sms := (.cons (.asg (.nm 4) (.lit .non)) (.cons (.ife (.mth 33 7 (.ref 0) .nil) (.cons (.ife (.bop .eq (.cons (.ref 3) (.cons (.bop .len (.cons (.ref 1) .nil)) .nil))) (.cons .brk .nil) .nil) (.cons (.asg (.nm 4) (.bop .idx (.cons (.ref 1) (.cons (.ref 3) .nil)))) (.cons (.asg (.nm 3) (.bop .add (.cons (.ref 3) (.cons (.lit (.int (1))) .nil)))) .nil))) .nil) (.cons (.ex (.mut false .append (.ref 2) (.cons (.rd (.fld (.ref 0) 7 1)) .nil))) (.cons (.ex (.mth 34 7 (.ref 0) (.cons (.ref 4) .nil))) .nil))))
def b38 : Sms := (.cons (.asg (.nm 2) (.lst .nil)) (.cons (.asg (.nm 3) (.lit (.int (0)))) (.cons (.whl t38_0 w38_1) (.cons (.ret (.tup (.cons (.mov 2) (.cons (.mov 3) .nil)))) .nil))))
def f38 : Fn := ⟨2, 5, [0, 1], b38⟩
def b39 : Sms := (.cons (.ex (.call 28 (.cons (.ref 1) .nil))) (.cons (.asg (.nm 2) (.call 37 (.cons (.ref 0) .nil))) (.cons (.asg (.tp (.cons (.nm 3) (.cons (.nm 4) .nil))) (.call 38 (.cons (.ref 2) (.cons (.ref 1) .nil)))) (.cons (.ret (.frz (.mk 6 (.cons (.ref 3) (.cons (.ref 4) (.cons (.ife (.mth 32 7 (.ref 2) .nil) (.rd (.fld (.ref 2) 7 1)) (.lit (.str "wait"))) .nil)))))) .nil))))
def f39 : Fn := ⟨2, 5, [0, 1], b39⟩
def b40 : Sms := (.cons (.ex (.call 28 (.cons (.ref 1) .nil))) (.cons (.asg (.nm 2) (.call 37 (.cons (.ref 0) .nil))) (.cons (.ex (.call 38 (.cons (.ref 2) (.cons (.ref 1) .nil)))) (.cons (.ret (.mth 36 7 (.ref 2) .nil)) .nil))))
def f40 : Fn := ⟨2, 3, [0, 1], b40⟩
def b41 : Sms := (.cons (.ret (.ife (.bop .lt (.cons (.ref 1) (.cons (.bop .len (.cons (.ref 0) .nil)) .nil))) (.bop .idx (.cons (.ref 0) (.cons (.ref 1) .nil))) (.lit (.int (0))))) .nil)
def f41 : Fn := ⟨2, 2, [0, 1], b41⟩
def b42 : Sms := (.cons (.ret (.lst (.cons (.bop .mul (.cons (.ref 0) (.cons (.bop .int1 (.cons (.bop .ge (.cons (.ref 0) (.cons (.bop .pow (.cons (.lit (.int (10))) (.cons (.lit (.int (18))) .nil))) .nil))) .nil)) .nil))) (.cons (.bop .add (.cons (.bop .mod (.cons (.bop .int1 (.cons (.ref 0) .nil)) (.cons (.lit (.int (2147483629))) .nil))) (.cons (.lit (.int (11))) .nil))) (.cons (.lit (.int (0))) .nil))))) .nil)
def f42 : Fn := ⟨1, 1, [0], b42⟩
def b43 : Sms := (.cons (.ife (.bop .gt (.cons (.bop .idx (.cons (.ref 0) (.cons (.lit (.int (0))) .nil))) (.cons (.lit (.int (0))) .nil))) (.cons (.asg (.nm 3) (.bop .mod (.cons (.bop .int1 (.cons (.bop .idx (.cons (.ref 0) (.cons (.lit (.int (0))) .nil))) .nil)) (.cons (.ref 1) .nil)))) (.cons (.asg (.ix (.ref 0) (.lit (.int (0)))) (.bop .fdiv (.cons (.bop .idx (.cons (.ref 0) (.cons (.lit (.int (0))) .nil))) (.cons (.ref 1) .nil)))) (.cons (.ret (.mov 3)) .nil))) .nil) (.cons (.asg (.ix (.ref 0) (.lit (.int (2)))) (.bop .add (.cons (.bop .idx (.cons (.ref 0) (.cons (.lit (.int (2))) .nil))) (.cons (.lit (.int (1))) .nil)))) (.cons (.asg (.nm 2) (.bop .mod (.cons (.bop .int1 (.cons (.bop .mul (.cons (.bop .add (.cons (.bop .idx (.cons (.ref 0) (.cons (.lit (.int (1))) .nil))) (.cons (.bop .mul (.cons (.lit (.int (8191))) (.cons (.bop .idx (.cons (.ref 0) (.cons (.lit (.int (2))) .nil))) .nil))) .nil))) (.cons (.lit (.int (48271))) .nil))) .nil)) (.cons (.lit (.int (2147483647))) .nil)))) (.cons (.asg (.nm 2) (.bop .mod (.cons (.bop .int1 (.cons (.bop .mul (.cons (.ref 2) (.cons (.bop .add (.cons (.bop .add (.cons (.bop .fdiv (.cons (.ref 2) (.cons (.lit (.int (1021))) .nil))) (.cons (.lit (.int (69621))) .nil))) (.cons (.bop .idx (.cons (.ref 0) (.cons (.lit (.int (2))) .nil))) .nil))) .nil))) .nil)) (.cons (.lit (.int (2147483587))) .nil)))) (.cons (.ret (.bop .mod (.cons (.bop .int1 (.cons (.bop .fdiv (.cons (.bop .mod (.cons (.bop .int1 (.cons (.bop .mul (.cons (.ref 2) (.cons (.bop .add (.cons (.bop .fdiv (.cons (.ref 2) (.cons (.lit (.int (2011))) .nil))) (.cons (.lit (.int (40692))) .nil))) .nil))) .nil)) (.cons (.lit (.int (2147483549))) .nil))) (.cons (.lit (.int (13))) .nil))) .nil)) (.cons (.ref 1) .nil)))) .nil)))))
def f43 : Fn := ⟨2, 4, [0, 1], b43⟩
def b44 : Sms := (.cons (.ret (.bop .idx (.cons (.ref 1) (.cons (.call 43 (.cons (.ref 0) (.cons (.bop .len (.cons (.ref 1) .nil)) .nil))) .nil)))) .nil)
def f44 : Fn := ⟨2, 2, [0, 1], b44⟩
def b45 : Sms := (.cons (.asg (.nm 2) (.call 44 (.cons (.ref 0) (.cons (.lst (.cons (.lit (.str "do")) (.cons (.lit (.str "do")) (.cons (.lit (.str "call")) (.cons (.lit (.str "call")) (.cons (.lit (.str "return")) (.cons (.lit (.str "raise")) (.cons (.lit (.str "break")) (.cons (.lit (.str "continue")) (.cons (.lit (.str "break")) .nil)))))))))) .nil)))) (.cons (.ife (.bop .inn (.cons (.ref 2) (.cons (.tup (.cons (.lit (.str "break")) (.cons (.lit (.str "continue")) .nil))) .nil))) (.cons (.ret (.ife (.bop .gt (.cons (.ref 1) (.cons (.lit (.int (0))) .nil))) (.tup (.cons (.mov 2) (.cons (.bop .add (.cons (.lit (.int (1))) (.cons (.call 43 (.cons (.ref 0) (.cons (.ref 1) .nil))) .nil))) .nil))) (.tup (.cons (.lit (.str "do")) (.cons (.lit (.str "x")) .nil))))) .nil) .nil) (.cons (.ife (.bop .inn (.cons (.ref 2) (.cons (.tup (.cons (.lit (.str "return")) (.cons (.lit (.str "raise")) .nil))) .nil))) (.cons (.ret (.tup (.cons (.mov 2) .nil))) .nil) .nil) (.cons (.ret (.tup (.cons (.mov 2) (.cons (.call 44 (.cons (.ref 0) (.cons (.lst (.cons (.lit (.str "a")) (.cons (.lit (.str "b")) (.cons (.lit (.str "abcdefgh")) (.cons (.lit (.str "z")) .nil))))) .nil))) .nil)))) .nil))))
def f45 : Fn := ⟨2, 3, [0, 1], b45⟩
def x46_0 : Ex := (.call 46 (.cons (.ref 0) (.cons (.bop .sub (.cons (.ref 1) (.cons (.lit (.int (1))) .nil))) (.cons (.ref 2) .nil))))
def b46 : Sms := (.cons (.ife (.or (.bop .lt (.cons (.ref 1) (.cons (.lit (.int (2))) .nil))) (.bop .eq (.cons (.call 43 (.cons (.ref 0) (.cons (.lit (.int (7))) .nil))) (.cons (.lit (.int (0))) .nil)))) (.cons (.ret (.call 45 (.cons (.ref 0) (.cons (.ref 2) .nil)))) .nil) .nil) (.cons (.asg (.nm 3) (.call 44 (.cons (.ref 0) (.cons (.lst (.cons (.lit (.str "if")) (.cons (.lit (.str "while")) (.cons (.lit (.str "seq")) (.cons (.lit (.str "seq")) (.cons (.lit (.str "try")) (.cons (.lit (.str "final")) (.cons (.lit (.str "final")) (.cons (.lit (.str "final")) .nil))))))))) .nil)))) (.cons (.ife (.bop .eq (.cons (.ref 3) (.cons (.lit (.str "seq")) .nil))) (.cons (.ret (.tup (.cons (.mov 3) (.cons (.bop .tuple1 (.cons (.frz (.comp x46_0 (.nm 6) [6] (.itR (.cons (.bop .add (.cons (.lit (.int (1))) (.cons (.call 43 (.cons (.ref 0) (.cons (.lit (.int (3))) .nil))) .nil))) .nil)) (.lit (.bl true)))) .nil)) .nil)))) .nil) .nil) (.cons (.ife (.bop .eq (.cons (.ref 3) (.cons (.lit (.str "while")) .nil))) (.cons (.ret (.tup (.cons (.mov 3) (.cons (.call 44 (.cons (.ref 0) (.cons (.lst (.cons (.lit (.str "a")) (.cons (.lit (.str "w")) .nil))) .nil))) (.cons (.call 46 (.cons (.ref 0) (.cons (.bop .sub (.cons (.ref 1) (.cons (.lit (.int (1))) .nil))) (.cons (.bop .add (.cons (.ref 2) (.cons (.lit (.int (1))) .nil))) .nil)))) .nil))))) .nil) .nil) (.cons (.asg (.tp (.cons (.nm 4) (.cons (.nm 5) .nil))) (.tup (.cons (.call 46 (.cons (.ref 0) (.cons (.bop .sub (.cons (.ref 1) (.cons (.lit (.int (1))) .nil))) (.cons (.ref 2) .nil)))) (.cons (.call 46 (.cons (.ref 0) (.cons (.bop .sub (.cons (.ref 1) (.cons (.lit (.int (1))) .nil))) (.cons (.ref 2) .nil)))) .nil)))) (.cons (.ret (.ife (.bop .eq (.cons (.ref 3) (.cons (.lit (.str "if")) .nil))) (.tup (.cons (.mov 3) (.cons (.lit (.str "i")) (.cons (.mov 4) (.cons (.mov 5) .nil))))) (.tup (.cons (.mov 3) (.cons (.mov 4) (.cons (.mov 5) .nil)))))) .nil))))))
def f46 : Fn := ⟨3, 7, [0, 1, 2], b46⟩
def x47_0 : Ex := (.call 43 (.cons (.ref 0) (.cons (.lit (.int (2))) .nil)))
def b47 : Sms := (.cons (.ret (.comp x47_0 (.nm 2) [2] (.itR (.cons (.call 43 (.cons (.ref 0) (.cons (.bop .add (.cons (.ref 1) (.cons (.lit (.int (1))) .nil))) .nil))) .nil)) (.lit (.bl true)))) .nil)
def f47 : Fn := ⟨2, 3, [0, 1], b47⟩
def w48_0 : Sms := (.cons (.asg (.nm 4) (.lit (.str "returned"))) (.cons (.try_ (.cons (.ex (.callv [39, 40] 3 (.cons (.ref 0) (.cons (.ref 1) .nil)))) .nil) (.cons 3 (some 5) 4 .fld (.cons 0 none 4 (.lit (.str "other")) .nil))) (.cons (.ex (.mut false .append (.ref 2) (.cons (.mov 4) .nil))) .nil)))
def b48 : Sms := (.cons (.asg (.nm 2) (.lst .nil)) (.cons (.for_ (.nm 3) (.tup (.cons (.gl 1039) (.cons (.gl 1040) .nil))) w48_0) (.cons (.ret (.ife (.bop .eq (.cons (.bop .idx (.cons (.ref 2) (.cons (.lit (.int (0))) .nil))) (.cons (.bop .idx (.cons (.ref 2) (.cons (.lit (.int (1))) .nil))) .nil))) (.bop .idx (.cons (.ref 2) (.cons (.lit (.int (0))) .nil))) (.lit (.str "unlike")))) .nil)))
def f48 : Fn := ⟨2, 6, [0, 1], b48⟩
def w49_0 : Sms := (.cons (.asg (.nm 6) (.call 47 (.cons (.ref 3) (.cons (.lit (.int (12))) .nil)))) (.cons (.asg (.nm 7) (.call 43 (.cons (.ref 3) (.cons (.bop .add (.cons (.bop .len (.cons (.ref 6) .nil)) (.cons (.lit (.int (1))) .nil))) .nil)))) (.cons (.asg (.nm 8) (.bop .add (.cons (.sl true false (.ref 6) (.rd (.ref 7)) (.lit .non)) (.cons (.call 44 (.cons (.ref 3) (.cons (.frz (.lst (.cons (.lst .nil) (.cons (.lst (.cons (.lit .non) .nil)) (.cons (.lst (.cons (.lit (.int (7))) (.cons (.lit (.int (0))) .nil))) .nil))))) .nil))) .nil)))) (.cons (.ife (.or (.bop .ne (.cons (.call 48 (.cons (.ref 4) (.cons (.bop .add (.cons (.bop .add (.cons (.sl false true (.ref 6) (.lit .non) (.rd (.ref 7))) (.cons (.lst (.cons (.rd (.ref 5)) .nil)) .nil))) (.cons (.ref 8) .nil))) .nil))) (.cons (.ref 7) .nil))) (.bop .ne (.cons (.call 48 (.cons (.ref 4) (.cons (.bop .mul (.cons (.lst (.cons (.rd (.ref 5)) .nil)) (.cons (.lit (.int (3))) .nil))) .nil))) (.cons (.lit (.int (0))) .nil)))) (.cons (.ret (.lit (.bl false))) .nil) .nil) (.cons (.ife (.bop .ne (.cons (.call 48 (.cons (.ref 4) (.cons (.ref 6) .nil))) (.cons (.lit (.str "returned")) .nil))) (.cons (.ret (.lit (.bl false))) .nil) .nil) .nil)))))
def w49_1 : Sms := (.cons (.ife (.bop .ne (.cons (.call 48 (.cons (.ref 4) (.cons (.ref 5) .nil))) (.cons (.bop .neg (.cons (.lit (.int (1))) .nil)) .nil))) (.cons (.ret (.lit (.bl false))) .nil) .nil) .nil)
def w49_2 : Sms := (.cons (.asg (.nm 3) (.call 42 (.cons (.ref 1) .nil))) (.cons (.asg (.nm 4) (.frz (.mk 5 (.cons (.call 46 (.cons (.ref 3) (.cons (.bop .add (.cons (.lit (.int (2))) (.cons (.call 43 (.cons (.ref 3) (.cons (.lit (.int (4))) .nil))) .nil))) (.cons (.lit (.int (0))) .nil)))) .nil)))) (.cons (.for_ (.nm 5) (.lst (.cons (.lit (.int (2))) (.cons (.bop .neg (.cons (.lit (.int (1))) .nil)) (.cons (.lit (.bl true)) (.cons (.lit (.bl false)) (.cons (.lit .non) (.cons (.lit (.str "0")) (.cons (.lst (.cons (.lit (.int (0))) .nil)) (.cons (.tup (.cons (.lit (.int (0))) .nil)) (.cons (.dct false .nil .nil) (.cons (.bop .pow (.cons (.lit (.int (10))) (.cons (.lit (.int (30))) .nil))) .nil))))))))))) w49_0) (.cons (.for_ (.nm 5) (.lst (.cons (.lit .non) (.cons (.tup (.cons (.lit (.int (0))) (.cons (.lit (.int (1))) .nil))) (.cons (.lit (.str "01")) (.cons (.dct false .nil .nil) (.cons (.lit (.int (5))) (.cons (.lit (.bl true)) (.cons (.bop .mul (.cons (.lst (.cons (.lit (.int (0))) .nil)) (.cons (.lit (.int (1001))) .nil))) (.cons (.bop .mul (.cons (.lst (.cons (.lit .non) .nil)) (.cons (.lit (.int (1001))) .nil))) .nil))))))))) w49_1) (.cons (.ife (.bop .ne (.cons (.call 48 (.cons (.ref 4) (.cons (.bop .add (.cons (.bop .mul (.cons (.lst (.cons (.lit (.int (0))) .nil)) (.cons (.lit (.int (999))) .nil))) (.cons (.lst (.cons (.lit (.int (2))) .nil)) .nil))) .nil))) (.cons (.lit (.int (999))) .nil))) (.cons (.ret (.lit (.bl false))) .nil) .nil) .nil)))))
def b49 : Sms := (.cons (.for_ (.nm 1) (.bop .add (.cons (.lst (.cons (.call 41 (.cons (.ref 0) (.cons (.lit (.int (0))) .nil))) .nil)) (.cons (.sl true true (.ref 0) (.lit (.int (1))) (.lit (.int (4)))) .nil))) w49_2) (.cons (.asg (.nm 2) (.frz (.mk 5 (.cons (.tup (.cons (.lit (.str "while")) (.cons (.lit (.str "w")) (.cons (.tup (.cons (.lit (.str "do")) (.cons (.lit (.str "x")) .nil))) .nil)))) .nil)))) (.cons (.ret (.and (.bop .eq (.cons (.call 48 (.cons (.ref 2) (.cons (.bop .mul (.cons (.lst (.cons (.lit (.int (1))) .nil)) (.cons (.lit (.int (1000))) .nil))) .nil))) (.cons (.lit (.str "returned")) .nil))) (.bop .eq (.cons (.call 48 (.cons (.ref 2) (.cons (.bop .mul (.cons (.lst (.cons (.lit (.int (1))) .nil)) (.cons (.lit (.int (1001))) .nil))) .nil))) (.cons (.bop .neg (.cons (.lit (.int (1))) .nil)) .nil))))) .nil)))
def f49 : Fn := ⟨1, 9, [0], b49⟩
def fnT : Nat → Option Fn
  | 0 => some f0
  | 1 => some f1
  | 2 => some f2
  | 3 => some f3
  | 4 => some f4
  | 5 => some f5
  | 6 => some f6
  | 7 => some f7
  | 8 => some f8
  | 9 => some f9
  | 10 => some f10
  | 12 => some f12
  | 14 => some f14
  | 15 => some f15
  | 16 => some f16
  | 17 => some f17
  | 18 => some f18
  | 19 => some f19
  | 20 => some f20
  | 21 => some f21
  | 22 => some f22
  | 23 => some f23
  | 24 => some f24
  | 25 => some f25
  | 26 => some f26
  | 27 => some f27
  | 28 => some f28
  | 29 => some f29
  | 31 => some f31
  | 32 => some f32
  | 33 => some f33
  | 34 => some f34
  | 35 => some f35
  | 36 => some f36
  | 37 => some f37
  | 38 => some f38
  | 39 => some f39
  | 40 => some f40
  | 41 => some f41
  | 42 => some f42
  | 43 => some f43
  | 44 => some f44
  | 45 => some f45
  | 46 => some f46
  | 47 => some f47
  | 48 => some f48
  | 49 => some f49
  | _ => none
def gdT : Nat → D
  | 100 => (.int (400))
  | 101 => (.int (100))
  | 102 => (.int (25))
  | 103 => (.int (8))
  | 104 => (.wdt ["do", "call", "if", "while", "seq", "break", "continue", "return", "raise", "try", "final"] [(.int (2)), (.int (2)), (.int (4)), (.int (3)), (.int (2)), (.int (2)), (.int (2)), (.int (1)), (.int (1)), (.int (3)), (.int (3))])
  | 105 => (.tup false [(.str "do"), (.str "call"), (.str "if"), (.str "while")])
  | 106 => (.tup false [(.str "break"), (.str "continue")])
  | 107 => (.tup false [(.str "try"), (.str "final")])
  | 108 => (.tup false [(.str "seq"), (.str "try"), (.str "final")])
  | 109 => (.tup false [(.str "seq"), (.str "try")])
  | 110 => (.tup false [(.str "normal")])
  | 111 => (.tup false [(.str "raise")])
  | 112 => (.tup false [(.tup false [(.str "normal")]), (.tup false [(.str "continue"), (.int (1))])])
  | 113 => (.wdt ["normal", "return", "raise"] [(.str "end"), (.str "return"), (.str "raise")])
  | 114 => (.int (1000))
  | 115 => (.tup false [(.str "call"), (.str "if"), (.str "while")])
  | n => .gl n
def initT : Nat → Nat
  | 5 => 8
  | 6 => 29
  | 7 => 31
  | _ => 100000
def subT : Nat → Nat → Option Bool := fun a b => if [0, 1, 2, 3, 4].contains a && [0, 1, 2, 3, 4].contains b then some ([(0, 0), (1, 1), (1, 0), (2, 2), (2, 0), (3, 3), (3, 0), (4, 4), (4, 0)].contains (a, b)) else none
def P : Prog := ⟨fnT, gdT, initT, subT⟩
@[simp] theorem fn0 : P.fn 0 = some f0 := rfl
theorem FN0 (n : Nat) (a0 : D) : denFn P (n + 1) 0 [a0] = fin f0 (denSs P (denFn P n) b0 [a0]) := fn_is fn0 rfl
@[simp] theorem np0 : f0.np = 1 := rfl
@[simp] theorem fx0 : f0.fx = [0] := rfl
@[simp] theorem call0 (call : Call) (os : M (List OV)) (e : Env) : cCall P call 0 os e = bd (os e) fun ovs e1 => if ovs.length = 1 then doCall call 0 (fetchA [0] 0 ovs e1) else .stuck := k_cCall e fn0 os
@[simp] theorem fn1 : P.fn 1 = some f1 := rfl
theorem FN1 (n : Nat) (a0 : D) : denFn P (n + 1) 1 [a0] = fin f1 (denSs P (denFn P n) b1 [a0, .no]) := fn_is fn1 rfl
@[simp] theorem np1 : f1.np = 1 := rfl
@[simp] theorem fx1 : f1.fx = [0] := rfl
@[simp] theorem call1 (call : Call) (os : M (List OV)) (e : Env) : cCall P call 1 os e = bd (os e) fun ovs e1 => if ovs.length = 1 then doCall call 1 (fetchA [0] 0 ovs e1) else .stuck := k_cCall e fn1 os
@[simp] theorem fn2 : P.fn 2 = some f2 := rfl
theorem FN2 (n : Nat) (a0 : D) : denFn P (n + 1) 2 [a0] = fin f2 (denSs P (denFn P n) b2 [a0, .no]) := fn_is fn2 rfl
@[simp] theorem np2 : f2.np = 1 := rfl
@[simp] theorem fx2 : f2.fx = [0] := rfl
@[simp] theorem call2 (call : Call) (os : M (List OV)) (e : Env) : cCall P call 2 os e = bd (os e) fun ovs e1 => if ovs.length = 1 then doCall call 2 (fetchA [0] 0 ovs e1) else .stuck := k_cCall e fn2 os
@[simp] theorem fn3 : P.fn 3 = some f3 := rfl
theorem FN3 (n : Nat) (a0 a1 : D) : denFn P (n + 1) 3 [a0, a1] = fin f3 (denSs P (denFn P n) b3 [a0, a1, .no]) := fn_is fn3 rfl
@[simp] theorem np3 : f3.np = 2 := rfl
@[simp] theorem fx3 : f3.fx = [0, 1] := rfl
@[simp] theorem call3 (call : Call) (os : M (List OV)) (e : Env) : cCall P call 3 os e = bd (os e) fun ovs e1 => if ovs.length = 2 then doCall call 3 (fetchA [0, 1] 0 ovs e1) else .stuck := k_cCall e fn3 os
@[simp] theorem fn4 : P.fn 4 = some f4 := rfl
theorem FN4 (n : Nat) (a0 a1 : D) : denFn P (n + 1) 4 [a0, a1] = fin f4 (denSs P (denFn P n) b4 [a0, a1, .no, .no, .no, .no, .no]) := fn_is fn4 rfl
@[simp] theorem np4 : f4.np = 2 := rfl
@[simp] theorem fx4 : f4.fx = [0, 1] := rfl
@[simp] theorem call4 (call : Call) (os : M (List OV)) (e : Env) : cCall P call 4 os e = bd (os e) fun ovs e1 => if ovs.length = 2 then doCall call 4 (fetchA [0, 1] 0 ovs e1) else .stuck := k_cCall e fn4 os
@[simp] theorem fn5 : P.fn 5 = some f5 := rfl
theorem FN5 (n : Nat) (a0 : D) : denFn P (n + 1) 5 [a0] = fin f5 (denSs P (denFn P n) b5 [a0, .no]) := fn_is fn5 rfl
@[simp] theorem np5 : f5.np = 1 := rfl
@[simp] theorem fx5 : f5.fx = [0] := rfl
@[simp] theorem call5 (call : Call) (os : M (List OV)) (e : Env) : cCall P call 5 os e = bd (os e) fun ovs e1 => if ovs.length = 1 then doCall call 5 (fetchA [0] 0 ovs e1) else .stuck := k_cCall e fn5 os
@[simp] theorem fn6 : P.fn 6 = some f6 := rfl
theorem FN6 (n : Nat) (a0 : D) : denFn P (n + 1) 6 [a0] = fin f6 (denSs P (denFn P n) b6 [a0, .no]) := fn_is fn6 rfl
@[simp] theorem np6 : f6.np = 1 := rfl
@[simp] theorem fx6 : f6.fx = [0] := rfl
@[simp] theorem call6 (call : Call) (os : M (List OV)) (e : Env) : cCall P call 6 os e = bd (os e) fun ovs e1 => if ovs.length = 1 then doCall call 6 (fetchA [0] 0 ovs e1) else .stuck := k_cCall e fn6 os
@[simp] theorem fn7 : P.fn 7 = some f7 := rfl
theorem FN7 (n : Nat) (a0 a1 : D) : denFn P (n + 1) 7 [a0, a1] = fin f7 (denSs P (denFn P n) b7 [a0, a1, .no, .no, .no, .no, .no, .no, .no, .no]) := fn_is fn7 rfl
@[simp] theorem np7 : f7.np = 2 := rfl
@[simp] theorem fx7 : f7.fx = [0, 1] := rfl
@[simp] theorem call7 (call : Call) (os : M (List OV)) (e : Env) : cCall P call 7 os e = bd (os e) fun ovs e1 => if ovs.length = 2 then doCall call 7 (fetchA [0, 1] 0 ovs e1) else .stuck := k_cCall e fn7 os
@[simp] theorem fn8 : P.fn 8 = some f8 := rfl
theorem FN8 (n : Nat) (a0 a1 : D) : denFn P (n + 1) 8 [a0, a1] = fin f8 (denSs P (denFn P n) b8 [a0, a1, .no, .no, .no, .no]) := fn_is fn8 rfl
@[simp] theorem np8 : f8.np = 2 := rfl
@[simp] theorem fx8 : f8.fx = [0, 1] := rfl
@[simp] theorem call8 (call : Call) (os : M (List OV)) (e : Env) : cCall P call 8 os e = bd (os e) fun ovs e1 => if ovs.length = 2 then doCall call 8 (fetchA [0, 1] 0 ovs e1) else .stuck := k_cCall e fn8 os
@[simp] theorem fn9 : P.fn 9 = some f9 := rfl
theorem FN9 (n : Nat) (a0 a1 a2 : D) : denFn P (n + 1) 9 [a0, a1, a2] = fin f9 (denSs P (denFn P n) b9 [a0, a1, a2, .no, .no, .no, .no]) := fn_is fn9 rfl
@[simp] theorem np9 : f9.np = 3 := rfl
@[simp] theorem fx9 : f9.fx = [0, 1, 2] := rfl
@[simp] theorem call9 (call : Call) (os : M (List OV)) (e : Env) : cCall P call 9 os e = bd (os e) fun ovs e1 => if ovs.length = 3 then doCall call 9 (fetchA [0, 1, 2] 0 ovs e1) else .stuck := k_cCall e fn9 os
@[simp] theorem fn10 : P.fn 10 = some f10 := rfl
theorem FN10 (n : Nat) (a0 : D) : denFn P (n + 1) 10 [a0] = fin f10 (denSs P (denFn P n) b10 [a0]) := fn_is fn10 rfl
@[simp] theorem np10 : f10.np = 1 := rfl
@[simp] theorem fx10 : f10.fx = [0] := rfl
@[simp] theorem call10 (call : Call) (os : M (List OV)) (e : Env) : cCall P call 10 os e = bd (os e) fun ovs e1 => if ovs.length = 1 then doCall call 10 (fetchA [0] 0 ovs e1) else .stuck := k_cCall e fn10 os
@[simp] theorem fn12 : P.fn 12 = some f12 := rfl
theorem FN12 (n : Nat) (a0 a1 : D) : denFn P (n + 1) 12 [a0, a1] = fin f12 (denSs P (denFn P n) b12 [a0, a1]) := fn_is fn12 rfl
@[simp] theorem np12 : f12.np = 2 := rfl
@[simp] theorem fx12 : f12.fx = [0, 1] := rfl
@[simp] theorem call12 (call : Call) (os : M (List OV)) (e : Env) : cCall P call 12 os e = bd (os e) fun ovs e1 => if ovs.length = 2 then doCall call 12 (fetchA [0, 1] 0 ovs e1) else .stuck := k_cCall e fn12 os
@[simp] theorem fn14 : P.fn 14 = some f14 := rfl
theorem FN14 (n : Nat) (a0 a1 : D) : denFn P (n + 1) 14 [a0, a1] = fin f14 (denSs P (denFn P n) b14 [a0, a1]) := fn_is fn14 rfl
@[simp] theorem np14 : f14.np = 2 := rfl
@[simp] theorem fx14 : f14.fx = [0, 1] := rfl
@[simp] theorem call14 (call : Call) (os : M (List OV)) (e : Env) : cCall P call 14 os e = bd (os e) fun ovs e1 => if ovs.length = 2 then doCall call 14 (fetchA [0, 1] 0 ovs e1) else .stuck := k_cCall e fn14 os
@[simp] theorem fn15 : P.fn 15 = some f15 := rfl
theorem FN15 (n : Nat) (a0 a1 : D) : denFn P (n + 1) 15 [a0, a1] = fin f15 (denSs P (denFn P n) b15 [a0, a1]) := fn_is fn15 rfl
@[simp] theorem np15 : f15.np = 2 := rfl
@[simp] theorem fx15 : f15.fx = [0, 1] := rfl
@[simp] theorem call15 (call : Call) (os : M (List OV)) (e : Env) : cCall P call 15 os e = bd (os e) fun ovs e1 => if ovs.length = 2 then doCall call 15 (fetchA [0, 1] 0 ovs e1) else .stuck := k_cCall e fn15 os
@[simp] theorem fn16 : P.fn 16 = some f16 := rfl
theorem FN16 (n : Nat) (a0 a1 : D) : denFn P (n + 1) 16 [a0, a1] = fin f16 (denSs P (denFn P n) b16 [a0, a1]) := fn_is fn16 rfl
@[simp] theorem np16 : f16.np = 2 := rfl
@[simp] theorem fx16 : f16.fx = [0, 1] := rfl
@[simp] theorem call16 (call : Call) (os : M (List OV)) (e : Env) : cCall P call 16 os e = bd (os e) fun ovs e1 => if ovs.length = 2 then doCall call 16 (fetchA [0, 1] 0 ovs e1) else .stuck := k_cCall e fn16 os
@[simp] theorem fn17 : P.fn 17 = some f17 := rfl
theorem FN17 (n : Nat) (a0 a1 : D) : denFn P (n + 1) 17 [a0, a1] = fin f17 (denSs P (denFn P n) b17 [a0, a1]) := fn_is fn17 rfl
@[simp] theorem np17 : f17.np = 2 := rfl
@[simp] theorem fx17 : f17.fx = [0, 1] := rfl
@[simp] theorem call17 (call : Call) (os : M (List OV)) (e : Env) : cCall P call 17 os e = bd (os e) fun ovs e1 => if ovs.length = 2 then doCall call 17 (fetchA [0, 1] 0 ovs e1) else .stuck := k_cCall e fn17 os
@[simp] theorem fn18 : P.fn 18 = some f18 := rfl
theorem FN18 (n : Nat) (a0 a1 : D) : denFn P (n + 1) 18 [a0, a1] = fin f18 (denSs P (denFn P n) b18 [a0, a1]) := fn_is fn18 rfl
@[simp] theorem np18 : f18.np = 2 := rfl
@[simp] theorem fx18 : f18.fx = [0, 1] := rfl
@[simp] theorem call18 (call : Call) (os : M (List OV)) (e : Env) : cCall P call 18 os e = bd (os e) fun ovs e1 => if ovs.length = 2 then doCall call 18 (fetchA [0, 1] 0 ovs e1) else .stuck := k_cCall e fn18 os
@[simp] theorem fn19 : P.fn 19 = some f19 := rfl
theorem FN19 (n : Nat) (a0 a1 : D) : denFn P (n + 1) 19 [a0, a1] = fin f19 (denSs P (denFn P n) b19 [a0, a1]) := fn_is fn19 rfl
@[simp] theorem np19 : f19.np = 2 := rfl
@[simp] theorem fx19 : f19.fx = [0, 1] := rfl
@[simp] theorem call19 (call : Call) (os : M (List OV)) (e : Env) : cCall P call 19 os e = bd (os e) fun ovs e1 => if ovs.length = 2 then doCall call 19 (fetchA [0, 1] 0 ovs e1) else .stuck := k_cCall e fn19 os
@[simp] theorem fn20 : P.fn 20 = some f20 := rfl
theorem FN20 (n : Nat) (a0 : D) : denFn P (n + 1) 20 [a0] = fin f20 (denSs P (denFn P n) b20 [a0, .no, .no]) := fn_is fn20 rfl
@[simp] theorem np20 : f20.np = 1 := rfl
@[simp] theorem fx20 : f20.fx = [0] := rfl
@[simp] theorem call20 (call : Call) (os : M (List OV)) (e : Env) : cCall P call 20 os e = bd (os e) fun ovs e1 => if ovs.length = 1 then doCall call 20 (fetchA [0] 0 ovs e1) else .stuck := k_cCall e fn20 os
@[simp] theorem fn21 : P.fn 21 = some f21 := rfl
theorem FN21 (n : Nat) (a0 a1 : D) : denFn P (n + 1) 21 [a0, a1] = fin f21 (denSs P (denFn P n) b21 [a0, a1]) := fn_is fn21 rfl
@[simp] theorem np21 : f21.np = 2 := rfl
@[simp] theorem fx21 : f21.fx = [0] := rfl
@[simp] theorem call21 (call : Call) (os : M (List OV)) (e : Env) : cCall P call 21 os e = bd (os e) fun ovs e1 => if ovs.length = 2 then doCall call 21 (fetchA [0] 0 ovs e1) else .stuck := k_cCall e fn21 os
@[simp] theorem fn22 : P.fn 22 = some f22 := rfl
theorem FN22 (n : Nat) (a0 a1 : D) : denFn P (n + 1) 22 [a0, a1] = fin f22 (denSs P (denFn P n) b22 [a0, a1]) := fn_is fn22 rfl
@[simp] theorem np22 : f22.np = 2 := rfl
@[simp] theorem fx22 : f22.fx = [0, 1] := rfl
@[simp] theorem call22 (call : Call) (os : M (List OV)) (e : Env) : cCall P call 22 os e = bd (os e) fun ovs e1 => if ovs.length = 2 then doCall call 22 (fetchA [0, 1] 0 ovs e1) else .stuck := k_cCall e fn22 os
@[simp] theorem fn23 : P.fn 23 = some f23 := rfl
theorem FN23 (n : Nat) (a0 a1 : D) : denFn P (n + 1) 23 [a0, a1] = fin f23 (denSs P (denFn P n) b23 [a0, a1]) := fn_is fn23 rfl
@[simp] theorem np23 : f23.np = 2 := rfl
@[simp] theorem fx23 : f23.fx = [0, 1] := rfl
@[simp] theorem call23 (call : Call) (os : M (List OV)) (e : Env) : cCall P call 23 os e = bd (os e) fun ovs e1 => if ovs.length = 2 then doCall call 23 (fetchA [0, 1] 0 ovs e1) else .stuck := k_cCall e fn23 os
@[simp] theorem fn24 : P.fn 24 = some f24 := rfl
theorem FN24 (n : Nat) (a0 a1 : D) : denFn P (n + 1) 24 [a0, a1] = fin f24 (denSs P (denFn P n) b24 [a0, a1]) := fn_is fn24 rfl
@[simp] theorem np24 : f24.np = 2 := rfl
@[simp] theorem fx24 : f24.fx = [0, 1] := rfl
@[simp] theorem call24 (call : Call) (os : M (List OV)) (e : Env) : cCall P call 24 os e = bd (os e) fun ovs e1 => if ovs.length = 2 then doCall call 24 (fetchA [0, 1] 0 ovs e1) else .stuck := k_cCall e fn24 os
@[simp] theorem fn25 : P.fn 25 = some f25 := rfl
theorem FN25 (n : Nat) (a0 a1 : D) : denFn P (n + 1) 25 [a0, a1] = fin f25 (denSs P (denFn P n) b25 [a0, a1]) := fn_is fn25 rfl
@[simp] theorem np25 : f25.np = 2 := rfl
@[simp] theorem fx25 : f25.fx = [0, 1] := rfl
@[simp] theorem call25 (call : Call) (os : M (List OV)) (e : Env) : cCall P call 25 os e = bd (os e) fun ovs e1 => if ovs.length = 2 then doCall call 25 (fetchA [0, 1] 0 ovs e1) else .stuck := k_cCall e fn25 os
@[simp] theorem fn26 : P.fn 26 = some f26 := rfl
theorem FN26 (n : Nat) (a0 a1 a2 : D) : denFn P (n + 1) 26 [a0, a1, a2] = fin f26 (denSs P (denFn P n) b26 [a0, a1, a2, .no, .no, .no, .no]) := fn_is fn26 rfl
@[simp] theorem np26 : f26.np = 3 := rfl
@[simp] theorem fx26 : f26.fx = [0] := rfl
@[simp] theorem call26 (call : Call) (os : M (List OV)) (e : Env) : cCall P call 26 os e = bd (os e) fun ovs e1 => if ovs.length = 3 then doCall call 26 (fetchA [0] 0 ovs e1) else .stuck := k_cCall e fn26 os
@[simp] theorem fn27 : P.fn 27 = some f27 := rfl
theorem FN27 (n : Nat) (a0 : D) : denFn P (n + 1) 27 [a0] = fin f27 (denSs P (denFn P n) b27 [a0]) := fn_is fn27 rfl
@[simp] theorem np27 : f27.np = 1 := rfl
@[simp] theorem fx27 : f27.fx = [0] := rfl
@[simp] theorem call27 (call : Call) (os : M (List OV)) (e : Env) : cCall P call 27 os e = bd (os e) fun ovs e1 => if ovs.length = 1 then doCall call 27 (fetchA [0] 0 ovs e1) else .stuck := k_cCall e fn27 os
@[simp] theorem fn28 : P.fn 28 = some f28 := rfl
theorem FN28 (n : Nat) (a0 : D) : denFn P (n + 1) 28 [a0] = fin f28 (denSs P (denFn P n) b28 [a0, .no, .no]) := fn_is fn28 rfl
@[simp] theorem np28 : f28.np = 1 := rfl
@[simp] theorem fx28 : f28.fx = [0] := rfl
@[simp] theorem call28 (call : Call) (os : M (List OV)) (e : Env) : cCall P call 28 os e = bd (os e) fun ovs e1 => if ovs.length = 1 then doCall call 28 (fetchA [0] 0 ovs e1) else .stuck := k_cCall e fn28 os
@[simp] theorem fn29 : P.fn 29 = some f29 := rfl
theorem FN29 (n : Nat) (a0 a1 a2 a3 : D) : denFn P (n + 1) 29 [a0, a1, a2, a3] = fin f29 (denSs P (denFn P n) b29 [a0, a1, a2, a3]) := fn_is fn29 rfl
@[simp] theorem np29 : f29.np = 4 := rfl
@[simp] theorem fx29 : f29.fx = [0, 1, 2, 3] := rfl
@[simp] theorem call29 (call : Call) (os : M (List OV)) (e : Env) : cCall P call 29 os e = bd (os e) fun ovs e1 => if ovs.length = 4 then doCall call 29 (fetchA [0, 1, 2, 3] 0 ovs e1) else .stuck := k_cCall e fn29 os
@[simp] theorem fn31 : P.fn 31 = some f31 := rfl
theorem FN31 (n : Nat) (a0 a1 a2 a3 : D) : denFn P (n + 1) 31 [a0, a1, a2, a3] = fin f31 (denSs P (denFn P n) b31 [a0, a1, a2, a3]) := fn_is fn31 rfl
@[simp] theorem np31 : f31.np = 4 := rfl
@[simp] theorem fx31 : f31.fx = [0, 1, 2, 3] := rfl
@[simp] theorem call31 (call : Call) (os : M (List OV)) (e : Env) : cCall P call 31 os e = bd (os e) fun ovs e1 => if ovs.length = 4 then doCall call 31 (fetchA [0, 1, 2, 3] 0 ovs e1) else .stuck := k_cCall e fn31 os
@[simp] theorem fn32 : P.fn 32 = some f32 := rfl
theorem FN32 (n : Nat) (a0 : D) : denFn P (n + 1) 32 [a0] = fin f32 (denSs P (denFn P n) b32 [a0]) := fn_is fn32 rfl
@[simp] theorem np32 : f32.np = 1 := rfl
@[simp] theorem fx32 : f32.fx = [0] := rfl
@[simp] theorem call32 (call : Call) (os : M (List OV)) (e : Env) : cCall P call 32 os e = bd (os e) fun ovs e1 => if ovs.length = 1 then doCall call 32 (fetchA [0] 0 ovs e1) else .stuck := k_cCall e fn32 os
@[simp] theorem fn33 : P.fn 33 = some f33 := rfl
theorem FN33 (n : Nat) (a0 : D) : denFn P (n + 1) 33 [a0] = fin f33 (denSs P (denFn P n) b33 [a0]) := fn_is fn33 rfl
@[simp] theorem np33 : f33.np = 1 := rfl
@[simp] theorem fx33 : f33.fx = [0] := rfl
@[simp] theorem call33 (call : Call) (os : M (List OV)) (e : Env) : cCall P call 33 os e = bd (os e) fun ovs e1 => if ovs.length = 1 then doCall call 33 (fetchA [0] 0 ovs e1) else .stuck := k_cCall e fn33 os
@[simp] theorem fn34 : P.fn 34 = some f34 := rfl
theorem FN34 (n : Nat) (a0 a1 : D) : denFn P (n + 1) 34 [a0, a1] = fin f34 (denSs P (denFn P n) b34 [a0, a1, .no, .no]) := fn_is fn34 rfl
@[simp] theorem np34 : f34.np = 2 := rfl
@[simp] theorem fx34 : f34.fx = [0, 1] := rfl
@[simp] theorem call34 (call : Call) (os : M (List OV)) (e : Env) : cCall P call 34 os e = bd (os e) fun ovs e1 => if ovs.length = 2 then doCall call 34 (fetchA [0, 1] 0 ovs e1) else .stuck := k_cCall e fn34 os
@[simp] theorem fn35 : P.fn 35 = some f35 := rfl
theorem FN35 (n : Nat) (a0 a1 a2 : D) : denFn P (n + 1) 35 [a0, a1, a2] = fin f35 (denSs P (denFn P n) b35 [a0, a1, a2, .no]) := fn_is fn35 rfl
@[simp] theorem np35 : f35.np = 3 := rfl
@[simp] theorem fx35 : f35.fx = [0, 1] := rfl
@[simp] theorem call35 (call : Call) (os : M (List OV)) (e : Env) : cCall P call 35 os e = bd (os e) fun ovs e1 => if ovs.length = 3 then doCall call 35 (fetchA [0, 1] 0 ovs e1) else .stuck := k_cCall e fn35 os
@[simp] theorem fn36 : P.fn 36 = some f36 := rfl
theorem FN36 (n : Nat) (a0 : D) : denFn P (n + 1) 36 [a0] = fin f36 (denSs P (denFn P n) b36 [a0, .no]) := fn_is fn36 rfl
@[simp] theorem np36 : f36.np = 1 := rfl
@[simp] theorem fx36 : f36.fx = [0] := rfl
@[simp] theorem call36 (call : Call) (os : M (List OV)) (e : Env) : cCall P call 36 os e = bd (os e) fun ovs e1 => if ovs.length = 1 then doCall call 36 (fetchA [0] 0 ovs e1) else .stuck := k_cCall e fn36 os
@[simp] theorem fn37 : P.fn 37 = some f37 := rfl
theorem FN37 (n : Nat) (a0 : D) : denFn P (n + 1) 37 [a0] = fin f37 (denSs P (denFn P n) b37 [a0]) := fn_is fn37 rfl
@[simp] theorem np37 : f37.np = 1 := rfl
@[simp] theorem fx37 : f37.fx = [0] := rfl
@[simp] theorem call37 (call : Call) (os : M (List OV)) (e : Env) : cCall P call 37 os e = bd (os e) fun ovs e1 => if ovs.length = 1 then doCall call 37 (fetchA [0] 0 ovs e1) else .stuck := k_cCall e fn37 os
@[simp] theorem fn38 : P.fn 38 = some f38 := rfl
theorem FN38 (n : Nat) (a0 a1 : D) : denFn P (n + 1) 38 [a0, a1] = fin f38 (denSs P (denFn P n) b38 [a0, a1, .no, .no, .no]) := fn_is fn38 rfl
@[simp] theorem np38 : f38.np = 2 := rfl
@[simp] theorem fx38 : f38.fx = [0, 1] := rfl
@[simp] theorem call38 (call : Call) (os : M (List OV)) (e : Env) : cCall P call 38 os e = bd (os e) fun ovs e1 => if ovs.length = 2 then doCall call 38 (fetchA [0, 1] 0 ovs e1) else .stuck := k_cCall e fn38 os
@[simp] theorem fn39 : P.fn 39 = some f39 := rfl
theorem FN39 (n : Nat) (a0 a1 : D) : denFn P (n + 1) 39 [a0, a1] = fin f39 (denSs P (denFn P n) b39 [a0, a1, .no, .no, .no]) := fn_is fn39 rfl
@[simp] theorem np39 : f39.np = 2 := rfl
@[simp] theorem fx39 : f39.fx = [0, 1] := rfl
@[simp] theorem call39 (call : Call) (os : M (List OV)) (e : Env) : cCall P call 39 os e = bd (os e) fun ovs e1 => if ovs.length = 2 then doCall call 39 (fetchA [0, 1] 0 ovs e1) else .stuck := k_cCall e fn39 os
@[simp] theorem fn40 : P.fn 40 = some f40 := rfl
theorem FN40 (n : Nat) (a0 a1 : D) : denFn P (n + 1) 40 [a0, a1] = fin f40 (denSs P (denFn P n) b40 [a0, a1, .no]) := fn_is fn40 rfl
@[simp] theorem np40 : f40.np = 2 := rfl
@[simp] theorem fx40 : f40.fx = [0, 1] := rfl
@[simp] theorem call40 (call : Call) (os : M (List OV)) (e : Env) : cCall P call 40 os e = bd (os e) fun ovs e1 => if ovs.length = 2 then doCall call 40 (fetchA [0, 1] 0 ovs e1) else .stuck := k_cCall e fn40 os
@[simp] theorem fn41 : P.fn 41 = some f41 := rfl
theorem FN41 (n : Nat) (a0 a1 : D) : denFn P (n + 1) 41 [a0, a1] = fin f41 (denSs P (denFn P n) b41 [a0, a1]) := fn_is fn41 rfl
@[simp] theorem np41 : f41.np = 2 := rfl
@[simp] theorem fx41 : f41.fx = [0, 1] := rfl
@[simp] theorem call41 (call : Call) (os : M (List OV)) (e : Env) : cCall P call 41 os e = bd (os e) fun ovs e1 => if ovs.length = 2 then doCall call 41 (fetchA [0, 1] 0 ovs e1) else .stuck := k_cCall e fn41 os
@[simp] theorem fn42 : P.fn 42 = some f42 := rfl
theorem FN42 (n : Nat) (a0 : D) : denFn P (n + 1) 42 [a0] = fin f42 (denSs P (denFn P n) b42 [a0]) := fn_is fn42 rfl
@[simp] theorem np42 : f42.np = 1 := rfl
@[simp] theorem fx42 : f42.fx = [0] := rfl
@[simp] theorem call42 (call : Call) (os : M (List OV)) (e : Env) : cCall P call 42 os e = bd (os e) fun ovs e1 => if ovs.length = 1 then doCall call 42 (fetchA [0] 0 ovs e1) else .stuck := k_cCall e fn42 os
@[simp] theorem fn43 : P.fn 43 = some f43 := rfl
theorem FN43 (n : Nat) (a0 a1 : D) : denFn P (n + 1) 43 [a0, a1] = fin f43 (denSs P (denFn P n) b43 [a0, a1, .no, .no]) := fn_is fn43 rfl
@[simp] theorem np43 : f43.np = 2 := rfl
@[simp] theorem fx43 : f43.fx = [0, 1] := rfl
@[simp] theorem call43 (call : Call) (os : M (List OV)) (e : Env) : cCall P call 43 os e = bd (os e) fun ovs e1 => if ovs.length = 2 then doCall call 43 (fetchA [0, 1] 0 ovs e1) else .stuck := k_cCall e fn43 os
@[simp] theorem fn44 : P.fn 44 = some f44 := rfl
theorem FN44 (n : Nat) (a0 a1 : D) : denFn P (n + 1) 44 [a0, a1] = fin f44 (denSs P (denFn P n) b44 [a0, a1]) := fn_is fn44 rfl
@[simp] theorem np44 : f44.np = 2 := rfl
@[simp] theorem fx44 : f44.fx = [0, 1] := rfl
@[simp] theorem call44 (call : Call) (os : M (List OV)) (e : Env) : cCall P call 44 os e = bd (os e) fun ovs e1 => if ovs.length = 2 then doCall call 44 (fetchA [0, 1] 0 ovs e1) else .stuck := k_cCall e fn44 os
@[simp] theorem fn45 : P.fn 45 = some f45 := rfl
theorem FN45 (n : Nat) (a0 a1 : D) : denFn P (n + 1) 45 [a0, a1] = fin f45 (denSs P (denFn P n) b45 [a0, a1, .no]) := fn_is fn45 rfl
@[simp] theorem np45 : f45.np = 2 := rfl
@[simp] theorem fx45 : f45.fx = [0, 1] := rfl
@[simp] theorem call45 (call : Call) (os : M (List OV)) (e : Env) : cCall P call 45 os e = bd (os e) fun ovs e1 => if ovs.length = 2 then doCall call 45 (fetchA [0, 1] 0 ovs e1) else .stuck := k_cCall e fn45 os
@[simp] theorem fn46 : P.fn 46 = some f46 := rfl
theorem FN46 (n : Nat) (a0 a1 a2 : D) : denFn P (n + 1) 46 [a0, a1, a2] = fin f46 (denSs P (denFn P n) b46 [a0, a1, a2, .no, .no, .no, .no]) := fn_is fn46 rfl
@[simp] theorem np46 : f46.np = 3 := rfl
@[simp] theorem fx46 : f46.fx = [0, 1, 2] := rfl
@[simp] theorem call46 (call : Call) (os : M (List OV)) (e : Env) : cCall P call 46 os e = bd (os e) fun ovs e1 => if ovs.length = 3 then doCall call 46 (fetchA [0, 1, 2] 0 ovs e1) else .stuck := k_cCall e fn46 os
@[simp] theorem fn47 : P.fn 47 = some f47 := rfl
theorem FN47 (n : Nat) (a0 a1 : D) : denFn P (n + 1) 47 [a0, a1] = fin f47 (denSs P (denFn P n) b47 [a0, a1, .no]) := fn_is fn47 rfl
@[simp] theorem np47 : f47.np = 2 := rfl
@[simp] theorem fx47 : f47.fx = [0, 1] := rfl
@[simp] theorem call47 (call : Call) (os : M (List OV)) (e : Env) : cCall P call 47 os e = bd (os e) fun ovs e1 => if ovs.length = 2 then doCall call 47 (fetchA [0, 1] 0 ovs e1) else .stuck := k_cCall e fn47 os
@[simp] theorem fn48 : P.fn 48 = some f48 := rfl
theorem FN48 (n : Nat) (a0 a1 : D) : denFn P (n + 1) 48 [a0, a1] = fin f48 (denSs P (denFn P n) b48 [a0, a1, .no, .no, .no, .no]) := fn_is fn48 rfl
@[simp] theorem np48 : f48.np = 2 := rfl
@[simp] theorem fx48 : f48.fx = [0, 1] := rfl
@[simp] theorem call48 (call : Call) (os : M (List OV)) (e : Env) : cCall P call 48 os e = bd (os e) fun ovs e1 => if ovs.length = 2 then doCall call 48 (fetchA [0, 1] 0 ovs e1) else .stuck := k_cCall e fn48 os
@[simp] theorem fn49 : P.fn 49 = some f49 := rfl
theorem FN49 (n : Nat) (a0 : D) : denFn P (n + 1) 49 [a0] = fin f49 (denSs P (denFn P n) b49 [a0, .no, .no, .no, .no, .no, .no, .no, .no]) := fn_is fn49 rfl
@[simp] theorem np49 : f49.np = 1 := rfl
@[simp] theorem fx49 : f49.fx = [0] := rfl
@[simp] theorem call49 (call : Call) (os : M (List OV)) (e : Env) : cCall P call 49 os e = bd (os e) fun ovs e1 => if ovs.length = 1 then doCall call 49 (fetchA [0] 0 ovs e1) else .stuck := k_cCall e fn49 os
@[simp] theorem gd100 : P.gd 100 = (.int (400)) := rfl
@[simp] theorem gd101 : P.gd 101 = (.int (100)) := rfl
@[simp] theorem gd102 : P.gd 102 = (.int (25)) := rfl
@[simp] theorem gd103 : P.gd 103 = (.int (8)) := rfl
@[simp] theorem gd104 : P.gd 104 = (.wdt ["do", "call", "if", "while", "seq", "break", "continue", "return", "raise", "try", "final"] [(.int (2)), (.int (2)), (.int (4)), (.int (3)), (.int (2)), (.int (2)), (.int (2)), (.int (1)), (.int (1)), (.int (3)), (.int (3))]) := rfl
@[simp] theorem gd105 : P.gd 105 = (.tup false [(.str "do"), (.str "call"), (.str "if"), (.str "while")]) := rfl
@[simp] theorem gd106 : P.gd 106 = (.tup false [(.str "break"), (.str "continue")]) := rfl
@[simp] theorem gd107 : P.gd 107 = (.tup false [(.str "try"), (.str "final")]) := rfl
@[simp] theorem gd108 : P.gd 108 = (.tup false [(.str "seq"), (.str "try"), (.str "final")]) := rfl
@[simp] theorem gd109 : P.gd 109 = (.tup false [(.str "seq"), (.str "try")]) := rfl
@[simp] theorem gd110 : P.gd 110 = (.tup false [(.str "normal")]) := rfl
@[simp] theorem gd111 : P.gd 111 = (.tup false [(.str "raise")]) := rfl
@[simp] theorem gd112 : P.gd 112 = (.tup false [(.tup false [(.str "normal")]), (.tup false [(.str "continue"), (.int (1))])]) := rfl
@[simp] theorem gd113 : P.gd 113 = (.wdt ["normal", "return", "raise"] [(.str "end"), (.str "return"), (.str "raise")]) := rfl
@[simp] theorem gd114 : P.gd 114 = (.int (1000)) := rfl
@[simp] theorem gd115 : P.gd 115 = (.tup false [(.str "call"), (.str "if"), (.str "while")]) := rfl
@[simp] theorem gd0 : P.gd 0 = .gl 0 := rfl
@[simp] theorem gd1 : P.gd 1 = .gl 1 := rfl
@[simp] theorem gd2 : P.gd 2 = .gl 2 := rfl
@[simp] theorem gd3 : P.gd 3 = .gl 3 := rfl
@[simp] theorem gd4 : P.gd 4 = .gl 4 := rfl
@[simp] theorem gd5 : P.gd 5 = .gl 5 := rfl
@[simp] theorem init5 : P.init 5 = 8 := rfl
@[simp] theorem mk5 (call : Call) (os : M (List OV)) (e : Env) : cMk P call 5 os e = bd (os e) fun ovs e1 => if ovs.length + 1 = 2 ∧ 0 ∈ [0, 1] then doMk call 8 5 (fetchA [0, 1] 1 ovs e1) else .stuck := k_cMk e init5 fn8 os
@[simp] theorem init6 : P.init 6 = 29 := rfl
@[simp] theorem mk6 (call : Call) (os : M (List OV)) (e : Env) : cMk P call 6 os e = bd (os e) fun ovs e1 => if ovs.length + 1 = 4 ∧ 0 ∈ [0, 1, 2, 3] then doMk call 29 6 (fetchA [0, 1, 2, 3] 1 ovs e1) else .stuck := k_cMk e init6 fn29 os
@[simp] theorem init7 : P.init 7 = 31 := rfl
@[simp] theorem mk7 (call : Call) (os : M (List OV)) (e : Env) : cMk P call 7 os e = bd (os e) fun ovs e1 => if ovs.length + 1 = 4 ∧ 0 ∈ [0, 1, 2, 3] then doMk call 31 7 (fetchA [0, 1, 2, 3] 1 ovs e1) else .stuck := k_cMk e init7 fn31 os
end K8
end Dn
end L2
set_option Elab.async false
set_option linter.all false
set_option maxRecDepth 100000
set_option maxHeartbeats 4000000
/-! A code's methods. -/
namespace L2
namespace Dn
namespace K8
open PySem
@[simp] theorem isi_int (i : Int) : bopD .isi [.int i, .gl 0] = some (.bl true) := rfl
@[simp] theorem isi_bool (i : Int) : bopD .isi [.int i, .gl 1] = some (.bl false) := rfl
@[simp] theorem is_integer_int (n : Nat) (i : Int) : denFn P (n + 1) 0 [.int i] = .ok (.bl true) [.int i] := by
  rw [FN0]
  simp [b0]
section
variable {t0 : T} {k : Nat} {p : Pos}
abbrev CD (t0 : T) : D := codeD 5 t0
@[simp] theorem own_CD : (codeD 5 t0).own = false := rfl
@[simp] theorem isNo_CD : (codeD 5 t0).isNo = false := rfl
theorem require_number (n : Nat) (h : k < t0.size) : denFn P (n + 2) 14 [CD t0, .int k] = .ok .non [CD t0, .int k] := by
  rw [FN14]
  simp [b14, codeD, codeAt, h]
theorem kind (n : Nat) (h : At t0 k p) : denFn P (n + 3) 16 [CD t0, .int k] = .ok (.str p.t.hd.kind) [CD t0, .int k] := by
  have r := require_number n h.lt'
  have i := ix_hd h false
  rw [FN16]
  simp only [CD, codeD, codeAt] at r ⊢
  simp [b16, r, i, ix_kind]
theorem parent (n : Nat) (h : At t0 k p) : denFn P (n + 3) 17 [CD t0, .int k] = .ok (optN p.par) [CD t0, .int k] := by
  have r := require_number n h.lt'
  have i := ix_pa h false
  rw [FN17]
  simp only [CD, codeD, codeAt] at r ⊢
  simp [b17, r, i]
theorem sibling (n : Nat) (h : At t0 k p) : denFn P (n + 3) 19 [CD t0, .int k] = .ok (optN p.sib) [CD t0, .int k] := by
  have r := require_number n h.lt'
  have i := ix_si h false
  rw [FN19]
  simp only [CD, codeD, codeAt] at r ⊢
  simp [b19, r, i]
theorem parts (n : Nat) (h : At t0 k p) : denFn P (n + 3) 18 [CD t0, .int k] = .ok (.lst true (encNs (p.kids k))) [CD t0, .int k] := by
  have r := require_number n h.lt'
  have i := ix_pt h false
  rw [FN18]
  simp only [CD, codeD, codeAt] at r ⊢
  simp [b18, r, i]
theorem getitem (n : Nat) (h : At t0 k p) : denFn P (n + 3) 12 [CD t0, .int k] = .ok (encT p.t) [CD t0, .int k] := by
  have r := require_number n h.lt'
  have i := ix_st h false
  rw [FN12]
  simp only [CD, codeD, codeAt] at r ⊢
  simp [b12, r, i]
theorem require_place (n : Nat) (h : At t0 k p) (hp : p.t.hd.less = false) : denFn P (n + 3) 15 [CD t0, .int k] = .ok .non [CD t0, .int k] := by
  have r := require_number n h.lt'
  have i := ix_hd h false
  rw [FN15]
  simp only [CD, codeD, codeAt] at r ⊢
  simp [b15, r, i, ix_kind, hp]
theorem layers (n : Nat) (h : At t0 k p) (hp : p.t.hd.less = false) (hl : p.lay.length < 1000) : denFn P (n + 4) 22 [CD t0, .int k] = .ok (.lst true (encNs (Pos.lays p k))) [CD t0, .int k] := by
  have r := require_place n h hp
  have i := ix_hd h false
  have j := ix_la h false
  have ad : bopD .add [.lst false (encNs p.lay), .lst true [.int k]] = some (.lst true (encNs p.lay ++ [.int k])) := by
    show (if allF (encNs p.lay) && allF [D.int k] && decide ((encNs p.lay).length + 1 ≤ LINE) then some (D.lst true (encNs p.lay ++ [.int k])) else none) = _
    rw [allF_ns, if_pos]
    simp [encNs, LINE]
    omega
  rw [FN22]
  simp only [CD, codeD, codeAt] at r ⊢
  cases hf : p.t.hd.isF with
  | true => simp [b22, r, i, j, ix_kind, hf, Pos.lays, ad]
  | false => simp [b22, r, i, j, ix_kind, hf, Pos.lays]
theorem entry_loop {ok : Str → Bool} : ∀ (t : T) {k : Nat} {par : Option Nat} {lev wh : Nat} {lay : List Nat} {sib : Option Nat}, At t0 k ⟨t, par, lev, wh, lay, sib⟩ → t0.wf ok 0 = true →
    ∀ n fuel, t.entry < fuel → whlD (den P (denFn P n) t21_0).t (denSs P (denFn P n) w21_1) fuel [CD t0, .int k] = .nxt [CD t0, .int (k + t.entry : Nat)]
  | .nd h ts, k, par, lev, wh, lay, sib, hA, w, n, fuel, hf => by
    obtain ⟨fuel, rfl⟩ : ∃ m, fuel = m + 1 := ⟨fuel - 1, by omega⟩
    have i := ix_hd hA false
    cases he : h.ent with
    | false =>
      have e : (T.nd h ts).entry = 0 := by cases ts <;> simp [T.entry, he]
      rw [e]
      apply whl_f
      simp only [CD, codeD, codeAt]
      simp [t21_0, i, ix_kind, T.hd, he]
    | true =>
      cases ts with
      | nil =>
        have := hA.wf w
        cases h <;> first | (cases he; done) | (simp [T.wf, Hd.ar] at this)
      | cons c b =>
        have e : (T.nd h (c :: b)).entry = 1 + c.entry := by simp [T.entry, he]
        rw [e] at hf ⊢
        have ih := entry_loop c hA.first w n fuel (by omega)
        rw [whl_n (e1 := [CD t0, .int k]) (e2 := [CD t0, .int (k + 1 : Nat)])]
        · rw [ih, Nat.add_assoc]
        · simp only [CD, codeD, codeAt]
          simp [t21_0, i, ix_kind, T.hd, he]
        · simp [w21_1]
theorem entry {ok : Str → Bool} (n : Nat) (h : At t0 k p) (w : t0.wf ok 0 = true) (hs : t0.size ≤ 1000) : denFn P (n + 3) 21 [CD t0, .int k] = .ok (.int (k + p.t.entry : Nat)) [CD t0, .no] := by
  have r := require_number n h.lt'
  obtain ⟨q, hq, _⟩ := At.entry w p.t h
  have hq := hq.lt'
  have l := entry_loop p.t h w (n + 2) BIG (by unfold BIG; omega)
  rw [FN21]
  simp only [CD, codeD, codeAt] at r l ⊢
  simp [b21, r, l]
theorem begins_next (n : Nat) (h : Hd) (w : Wy) : denFn P (n + 1) 23 [.str h.kind, encW w] = .ok (.bl (begins h w)) [.str h.kind, encW w] := by
  rw [FN23]
  unfold begins
  cases h1 : h.isSeq <;> cases h2 : h.isTry <;> simp [b23, h1, h2]
theorem comes_back (n : Nat) (h : Hd) (w : Wy) : denFn P (n + 1) 24 [.str h.kind, encW w] = .ok (.bl (back h w)) [.str h.kind, encW w] := by
  rw [FN24]
  unfold back
  cases h1 : h.isW <;> cases h2 : h.isF <;> simp [b24, h1, h2]
theorem way_outside (n : Nat) (h : Hd) (w : Wy) (hw : w.isJ = true → 1 ≤ w.num) : denFn P (n + 1) 25 [.str h.kind, encW w] = .ok (encW (outside h w)) [.str h.kind, encW w] := by
  rw [FN25]
  unfold outside
  cases h1 : h.isW with
  | false => simp [b25, h1]
  | true =>
    cases h2 : w.isJ with
    | false => cases w <;> first | (cases h2; done) | simp [b25, h1, Wy.out, Wy.isJ]
    | true =>
      by_cases h3 : w.num = 1
      · have := w_num h2
        rw [h3] at this
        cases w <;> first | (cases h2; done) | (simp only [Wy.num] at h3; subst h3; simp [b25, h1, Wy.out, Wy.isJ, this]; rfl)
      · have i1 := w_num h2
        have h4 := hw h2
        cases w with
        | brk k =>
          simp only [Wy.num] at h3 h4 i1
          have h5 : ((k - 1 : Nat) : Int) = (k : Int) - 1 := by omega
          simp [b25, h1, Wy.out, Wy.isJ, i1, h3]
          rw [if_neg (by omega)]
          simp [h5, encW]
          rfl
        | cnt k =>
          simp only [Wy.num] at h3 h4 i1
          have h5 : ((k - 1 : Nat) : Int) = (k : Int) - 1 := by omega
          simp [b25, h1, Wy.out, Wy.isJ, i1, h3]
          rw [if_neg (by omega)]
          simp [h5, encW]
          rfl
        | _ => cases h2
def goalD (g : Option Nat) (w : Wy) : D := match g with | some q => .int q | none => .str w.endS
theorem ok_num {w : Wy} {n : Nat} (h : w.ok n = true) (hj : w.isJ = true) : 1 ≤ w.num := by
  unfold Wy.ok at h
  rw [hj, Bool.not_true, Bool.false_or, decide_eq_true_eq] at h
  exact h.1
theorem onward_loop {ok : Str → Bool} (wf : t0.wf ok 0 = true) (hs : t0.size ≤ 1000) (n : Nat) : ∀ (k : Nat) (p : Pos) (w : Wy) (x4 x5 : D) (fuel : Nat), At t0 k p → w.ok p.wh = true → k < fuel →
    (∃ (f : Option Nat) (w' : Wy) (g : Nat) (v1 v2 : D) (e' : List D), whlD (den P (denFn P (n + 3)) t26_0).t (denSs P (denFn P (n + 3)) w26_1) fuel [CD t0, .int k, encW w, .no, x4, x5, .no] = .ret (.tup false [optN f, encW w', .int g]) (CD t0 :: v1 :: v2 :: e') ∧ Good t0 k p f w' (some g)) ∨
    (∃ w' y4 y5, whlD (den P (denFn P (n + 3)) t26_0).t (denSs P (denFn P (n + 3)) w26_1) fuel [CD t0, .int k, encW w, .no, x4, x5, .no] = .nxt [CD t0, .int 0, encW w', .no, y4, y5, .no] ∧ Good t0 k p none w' none) := by
  intro k
  induction k using Nat.strongRecOn with
  | ind k ih =>
  intro p w x4 x5 fuel hk hw hf
  obtain ⟨fuel, rfl⟩ : ∃ m, fuel = m + 1 := ⟨fuel - 1, by omega⟩
  by_cases h0 : 0 < k
  · obtain ⟨o, h, a, b, par, lev, lay, sib, wh, ho, e1, e2, e3, e4, e5⟩ := hk.up h0
    have t1 : (den P (denFn P (n + 3)) t26_0).t [CD t0, .int k, encW w, .no, x4, x5, .no] = .ok true [CD t0, .int k, encW w, .no, x4, x5, .no] := by
      simp [t26_0, h0]
    have c1 := parent n hk
    rw [e2] at c1
    have c2 := kind n ho
    have c3 := sibling n hk
    have c4 := begins_next (n + 2) h w
    have c5 := comes_back (n + 2) h w
    have c6 := way_outside (n + 2) h w (ok_num hw)
    simp only [CD, codeD, codeAt] at c1 c2 c3
    -- the step outward, if neither the next part begins nor the one around is done again
    have step : ∀ y5, back h w = false → (∀ x, sq (RS.nxt [CD t0, .int k, encW w, .int o, .str h.kind, y5, .no]) x = x [CD t0, .int k, encW w, .int o, .str h.kind, y5, .no]) := fun _ _ _ => rfl
    have up : ∀ y5, back h w = false → (denSs P (denFn P (n + 3)) w26_1 [CD t0, .int k, encW w, .no, x4, x5, .no] = .nxt [CD t0, .int o, encW (outside h w), .no, .str h.kind, y5, .no]) →
        (∃ (f : Option Nat) (w' : Wy) (g : Nat) (v1 v2 : D) (e' : List D), whlD (den P (denFn P (n + 3)) t26_0).t (denSs P (denFn P (n + 3)) w26_1) (fuel + 1) [CD t0, .int k, encW w, .no, x4, x5, .no] = .ret (.tup false [optN f, encW w', .int g]) (CD t0 :: v1 :: v2 :: e') ∧ Good t0 k p f w' (some g)) ∨
        (∃ w' y4 y5, whlD (den P (denFn P (n + 3)) t26_0).t (denSs P (denFn P (n + 3)) w26_1) (fuel + 1) [CD t0, .int k, encW w, .no, x4, x5, .no] = .nxt [CD t0, .int 0, encW w', .no, y4, y5, .no] ∧ Good t0 k p none w' none) := fun y5 hb hu => by
      rw [whl_n t1 hu]
      have ok := outside_ok (e3 ▸ hw) hb
      rcases ih o (by omega) _ (outside h w) (.str h.kind) y5 fuel ho ok (by omega) with ⟨f, w', g, v1, v2, e', q1, q2⟩ | ⟨w', y4, y5, q1, q2⟩
      · exact .inl ⟨f, w', g, v1, v2, e', q1, q2.up hk ho e1 e4⟩
      · exact .inr ⟨w', y4, y5, q1, q2.up hk ho e1 e4⟩
    cases hsb : p.sib with
    | some m =>
      obtain ⟨pm, hm⟩ := at_of (hk.sib_lt hsb).1
      have c7 := entry n hm wf hs
      rw [hsb] at c3
      simp only [CD, codeD, codeAt] at c7
      cases hb : begins h w with
      | true =>
        rw [hb] at c4
        refine .inl ⟨_, _, _, .int k, encW w, [.int o, .str h.kind, .int m, .no], whl_r t1 ?_, Good.next wf hk ho e1 e4 e3 hw e5 hsb hm hb⟩
        simp only [CD, codeD, codeAt]
        cases hF : h.isF with
        | true => simp [w26_1, c1, c2, c3, c4, c7, T.hd, hF]
        | false => simp [w26_1, c1, c2, c3, c4, c7, T.hd, hF]
      | false =>
        rw [hb] at c4
        cases hk2 : back h w with
        | true =>
          rw [hk2] at c5
          refine .inl ⟨_, _, _, .int k, encW w, [.no, .str h.kind, .int m, .no], whl_r t1 ?_, Good.back wf hk ho e1 e4 e5 (.inr hb) hk2⟩
          simp only [CD, codeD, codeAt]
          simp [w26_1, c1, c2, c3, c4, c5, T.hd]
        | false =>
          rw [hk2] at c5
          refine up (.int m) hk2 ?_
          simp only [CD, codeD, codeAt]
          simp [w26_1, c1, c2, c3, c4, c5, c6, T.hd]
    | none =>
      rw [hsb] at c3
      cases hk2 : back h w with
      | true =>
        rw [hk2] at c5
        refine .inl ⟨_, _, _, .int k, encW w, [.no, .str h.kind, .non, .no], whl_r t1 ?_, Good.back wf hk ho e1 e4 e5 (.inl hsb) hk2⟩
        simp only [CD, codeD, codeAt]
        simp [w26_1, c1, c2, c3, c4, c5, T.hd]
      | false =>
        rw [hk2] at c5
        refine up .non hk2 ?_
        simp only [CD, codeD, codeAt]
        simp [w26_1, c1, c2, c3, c4, c5, c6, T.hd]
  · have : k = 0 := by omega
    subst this
    have z := hk.uniq .root
    subst z
    refine .inr ⟨w, x4, x5, whl_f (by simp [t26_0]), ⟨fun _ => ⟨rfl, ?_⟩, fun q hq => (by cases hq), fun o ho => (by cases ho)⟩⟩
    unfold Wy.ok at hw
    cases hj : w.isJ with
    | false => rfl
    | true =>
      rw [hj, Bool.not_true, Bool.false_or, decide_eq_true_eq] at hw
      have hw : 1 ≤ w.num ∧ w.num ≤ 0 := hw
      omega
theorem onward {ok : Str → Bool} (wf : t0.wf ok 0 = true) (hs : t0.size ≤ 1000) (n : Nat) {w : Wy} (h : At t0 k p) (hw : w.ok p.wh = true) :
    ∃ f w' g, denFn P (n + 4) 26 [CD t0, .int k, encW w] = .ok (.tup false [optN f, encW w', goalD g w']) [CD t0, .no, .no] ∧ Good t0 k p f w' g := by
  have hl := h.lt'
  rw [FN26]
  rcases onward_loop wf hs n k p w .no .no BIG h hw (by unfold BIG; omega) with ⟨f, w', g, v1, v2, e', q1, q2⟩ | ⟨w', y4, y5, q1, q2⟩
  · refine ⟨f, w', some g, ?_, q2⟩
    simp [b26, q1, goalD]
  · refine ⟨none, w', none, ?_, q2⟩
    have e := w_end (q2.stop rfl).2
    simp [b26, q1, goalD, e]
end
end K8
end Dn
end L2
set_option Elab.async false
set_option linter.all false
set_option maxRecDepth 100000
set_option maxHeartbeats 4000000
/-! A run on its way. -/
namespace L2
namespace Dn
namespace K8
open PySem
def WD (t0 : T) (spot : D) (ks : List Nat) (ws : List Wy) : D := .obj true 7 [CD t0, spot, pendD ks ws]
@[simp] theorem isi_str (i : Str) : bopD .isi [.str i, .gl 2] = some (.bl true) := rfl
@[simp] theorem isi_strI (i : Int) : bopD .isi [.int i, .gl 2] = some (.bl false) := rfl
@[simp] theorem own_pend (ks : List Nat) (ws : List Wy) : (pendD ks ws).own = true := rfl
@[simp] theorem isNo_pend (ks : List Nat) (ws : List Wy) : (pendD ks ws).isNo = false := rfl
@[simp] theorem own_goal (g : Option Nat) (w : Wy) : (goalD g w).own = false := by cases g <;> rfl
@[simp] theorem isNo_goal (g : Option Nat) (w : Wy) : (goalD g w).isNo = false := by cases g <;> rfl
@[simp] theorem own_CD' (t0 : T) : (CD t0).own = false := rfl
@[simp] theorem isNo_CD' (t0 : T) : (CD t0).isNo = false := rfl
section
variable {t0 : T} {k : Nat} {p : Pos} {ks : List Nat} {ws : List Wy}
theorem ended (n : Nat) (g : Option Nat) (w : Wy) : denFn P (n + 1) 32 [WD t0 (goalD g w) ks ws] = .ok (.bl g.isNone) [WD t0 (goalD g w) ks ws] := by
  rw [FN32]
  cases g <;> simp [b32, WD, goalD]
theorem asks_end (n : Nat) (w : Wy) : denFn P (n + 2) 33 [WD t0 (goalD none w) ks ws] = .ok (.bl false) [WD t0 (goalD none w) ks ws] := by
  have e := ended (t0 := t0) (ks := ks) (ws := ws) n none w
  rw [FN33]
  simp only [WD] at e ⊢
  simp [b33, e]
theorem asks (n : Nat) (w : Wy) (h : At t0 k p) : denFn P (n + 4) 33 [WD t0 (goalD (some k) w) ks ws] = .ok (.bl p.t.hd.asks) [WD t0 (goalD (some k) w) ks ws] := by
  have e := ended (t0 := t0) (ks := ks) (ws := ws) (n + 2) (some k) w
  have c := kind n h
  rw [FN33]
  simp only [WD, CD, codeD, codeAt, goalD] at e c ⊢
  simp [b33, e, c]
theorem leave {ok : Str → Bool} (wf : t0.wf ok 0 = true) (hs : t0.size ≤ 1000) (n : Nat) {w : Wy} (h : At t0 k p) (hw : w.ok p.wh = true) (hp : Pend t0 ks ws) (x : D) :
    ∃ f w' g, denFn P (n + 5) 35 [WD t0 x ks ws, .int k, encW w] = .ok .non [WD t0 (goalD g w') (put ks ws f w').1 (put ks ws f w').2, .int k, .no] ∧ Good t0 k p f w' g := by
  obtain ⟨f, w', g, e, G⟩ := onward wf hs n h hw
  refine ⟨f, w', g, ?_, G⟩
  rw [FN35]
  cases f with
  | none => simp [b35, WD, e, setFld, put]
  | some o =>
    have c := pend_set hp hs o w'
    simp [b35, WD, e, setFld, c]
/-- what follows a step from a place -/
def Goes (t0 : T) (q : Nat) (p : Pos) (ks : List Nat) (g : Option Nat) : Prop :=
  ∀ q', g = some q' → ∃ p', At t0 q' p' ∧ p'.t.hd.less = false ∧ (∀ l ∈ p'.lays q', l ∈ ks) ∧ (p.t.hd.asks = true ∨ p'.t.hd.isW = true ∨ rank t0.size q p.t < rank t0.size q' p'.t)
theorem goes_of {f : Option Nat} {w : Wy} {g : Option Nat} (h : At t0 k p) (hk : ∀ l ∈ p.lays k, l ∈ ks) (G : Good t0 k p f w g) : Goes t0 k p (put ks ws f w).1 g := fun q' e => by
  obtain ⟨p', h1, h2, h3, h4⟩ := G.goal q' e
  refine ⟨p', h1, h2, fun l hl => ?_, ?_⟩
  · rcases h3 l hl with z | z
    · refine put_sub.1 l (hk l ?_)
      unfold Pos.lays
      split
      · exact List.mem_append_left _ z
      · exact z
    · exact put_sub.2 l z
  · rcases h4 with z | z
    · exact .inr (.inl z)
    · exact .inr (.inr (Nat.lt_of_le_of_lt (rank_le (Nat.le_of_lt h.lt')) z))
theorem goes_in {ok : Str → Bool} (wf : t0.wf ok 0 = true) (ha : p.t.hd.asks = true) (hk : ∀ l ∈ p.lays k, l ∈ ks) {m : Nat} {pm : Pos} (hm : At t0 m pm) (hl : pm.lay = p.lay) : Goes t0 k p ks (some (m + pm.t.entry)) := fun q' e => by
  cases e
  obtain ⟨pq, h1, h2, h3⟩ := At.entry wf pm.t hm
  refine ⟨pq, h1, less_of h2, fun l hl' => ?_, .inl ha⟩
  unfold Pos.lays at hl'
  rw [isF_of h2, if_neg Bool.false_ne_true, h3, hl] at hl'
  refine hk l ?_
  unfold Pos.lays
  split
  · exact List.mem_append_left _ hl'
  · exact hl'
@[simp] theorem ix0 (o : Bool) (d : D) (ds : List D) : bopD .idx [.lst o (d :: ds), .int 0] = if d.own then none else some d := by
  show (match idxD (.lst o (d :: ds)) (.int (0 : Nat)) with | some d => if d.own then none else some d | none => none) = _
  rw [idx_lst (j := 0) (d := d) rfl]
@[simp] theorem ix1 (o : Bool) (c d : D) (ds : List D) : bopD .idx [.lst o (c :: d :: ds), .int 1] = if d.own then none else some d := by
  show (match idxD (.lst o (c :: d :: ds)) (.int (1 : Nat)) with | some d => if d.own then none else some d | none => none) = _
  rw [idx_lst (j := 1) (d := d) rfl]
theorem step {ok : Str → Bool} (wf : t0.wf ok 0 = true) (hs : t0.size ≤ 1000) (n : Nat) (h : At t0 k p) (hl : p.t.hd.less = false) (hk : ∀ l ∈ p.lays k, l ∈ ks) (hp : Pend t0 ks ws) (a : D)
    (ha : if p.t.hd.asks then a = .int 0 ∨ a = .int 1 else a = .non) :
    ∃ g w' ks' ws', denFn P (n + 6) 34 [WD t0 (.int k) ks ws, a] = .ok .non [WD t0 (goalD g w') ks' ws', a] ∧ Pend t0 ks' ws' ∧ Goes t0 k p ks' g := by
  have c := kind (n + 2) h
  have hwf := h.wf wf
  -- left in a way
  have lv : ∀ w : Wy, w.ok p.wh = true → (∀ f w' g, denFn P (n + 5) 35 [WD t0 (.int k) ks ws, .int k, encW w] = .ok .non [WD t0 (goalD g w') (put ks ws f w').1 (put ks ws f w').2, .int k, .no] →
      denFn P (n + 6) 34 [WD t0 (.int k) ks ws, a] = .ok .non [WD t0 (goalD g w') (put ks ws f w').1 (put ks ws f w').2, a]) →
      ∃ g w' ks' ws', denFn P (n + 6) 34 [WD t0 (.int k) ks ws, a] = .ok .non [WD t0 (goalD g w') ks' ws', a] ∧ Pend t0 ks' ws' ∧ Goes t0 k p ks' g := fun w hw hu => by
    obtain ⟨f, w', g, e, G⟩ := leave wf hs n h hw hp (.int k)
    exact ⟨g, w', _, _, hu f w' g e, hp.put G.fin, goes_of h hk G⟩
  obtain ⟨⟨hd, ts⟩, par, lev, wh, lay, sib⟩ := p
  simp only [T.hd] at hl ha c
  cases hd with
  | seq => cases hl
  | try_ => cases hl
  | do_ x =>
    have ha : a = .non := ha
    subst ha
    refine lv .nor rfl fun f w' g e => ?_
    rw [FN34]
    simp only [WD, CD, codeD, codeAt, encW] at e c ⊢
    simp [b34, e, c, Hd.isDo]
  | call x =>
    have ha : a = .int 0 ∨ a = .int 1 := ha
    rcases ha with ha | ha
    · subst ha
      refine lv .nor rfl fun f w' g e => ?_
      rw [FN34]
      simp only [WD, CD, codeD, codeAt, encW] at e c ⊢
      simp [b34, e, c, Hd.isDo, Hd.isCall]
    · subst ha
      refine lv .rai rfl fun f w' g e => ?_
      rw [FN34]
      simp only [WD, CD, codeD, codeAt, encW] at e c ⊢
      simp [b34, e, c, Hd.isDo, Hd.isCall]
  | ret =>
    have ha : a = .non := ha
    subst ha
    have gi := getitem (n + 2) h
    refine lv .ret rfl fun f w' g e => ?_
    rw [FN34]
    simp only [WD, CD, codeD, codeAt, encW, encT, encHd] at e c gi ⊢
    simp [b34, e, c, gi, Hd.isDo, Hd.isCall, Hd.isIf, Hd.isW, Hd.isF]
  | rai =>
    have ha : a = .non := ha
    subst ha
    have gi := getitem (n + 2) h
    refine lv .rai rfl fun f w' g e => ?_
    rw [FN34]
    simp only [WD, CD, codeD, codeAt, encW, encT, encHd] at e c gi ⊢
    simp [b34, e, c, gi, Hd.isDo, Hd.isCall, Hd.isIf, Hd.isW, Hd.isF]
  | brk j =>
    have ha : a = .non := ha
    subst ha
    have gi := getitem (n + 2) h
    have ok : (Wy.brk j).ok wh = true := by
      simp only [T.wf, Bool.and_eq_true] at hwf
      exact hwf.1.2
    refine lv (.brk j) ok fun f w' g e => ?_
    rw [FN34]
    simp only [WD, CD, codeD, codeAt, encW, encT, encHd] at e c gi ⊢
    simp [b34, e, c, gi, Hd.isDo, Hd.isCall, Hd.isIf, Hd.isW, Hd.isF]
  | cnt j =>
    have ha : a = .non := ha
    subst ha
    have gi := getitem (n + 2) h
    have ok : (Wy.cnt j).ok wh = true := by
      simp only [T.wf, Bool.and_eq_true] at hwf
      exact hwf.1.2
    refine lv (.cnt j) ok fun f w' g e => ?_
    rw [FN34]
    simp only [WD, CD, codeD, codeAt, encW, encT, encHd] at e c gi ⊢
    simp [b34, e, c, gi, Hd.isDo, Hd.isCall, Hd.isIf, Hd.isW, Hd.isF]
  | fin =>
    have ha : a = .non := ha
    subst ha
    have hm : k ∈ ks := hk k (by simp [Pos.lays, T.hd, Hd.isF])
    obtain ⟨w, q, e1, e2, e3⟩ := pend_get hp hm
    have hq := e2.uniq h
    rw [hq] at e3
    refine lv w e3 fun f w' g e => ?_
    rw [FN34]
    simp only [WD, CD, codeD, codeAt] at e c ⊢
    simp [b34, e, c, e1, Hd.isDo, Hd.isCall, Hd.isIf, Hd.isW, Hd.isF]
  | whl x =>
    have ha : a = .int 0 ∨ a = .int 1 := ha
    rcases ha with ha | ha
    · subst ha
      refine lv .nor rfl fun f w' g e => ?_
      rw [FN34]
      simp only [WD, CD, codeD, codeAt, encW] at e c ⊢
      simp [b34, e, c, Hd.isDo, Hd.isCall, Hd.isIf, Hd.isW]
    · subst ha
      cases ts with
      | nil => simp [T.wf, Hd.ar] at hwf
      | cons t1 ts =>
        have ps := parts (n + 2) h
        have hm := h.first
        have en := entry (n + 2) hm wf hs
        refine ⟨some (k + 1 + t1.entry), .nor, ks, ws, ?_, hp, goes_in wf rfl hk hm rfl⟩
        rw [FN34]
        simp only [WD, CD, codeD, codeAt, Pos.kids, T.ts, offs, goalD] at c ps en ⊢
        rw [show encNs ((k + 1) :: offs (k + 1 + t1.size) ts) = .int (k + 1 : Nat) :: encNs (offs (k + 1 + t1.size) ts) from rfl] at ps
        simp [b34, c, ps, Hd.isDo, Hd.isCall, Hd.isIf, Hd.isW, setFld] at en ⊢
        simp [en, setFld]
  | ife x =>
    have ha : a = .int 0 ∨ a = .int 1 := ha
    cases ts with
    | nil => simp [T.wf, Hd.ar] at hwf
    | cons t1 ts =>
      cases ts with
      | nil => simp [T.wf, Hd.ar] at hwf
      | cons t2 ts =>
        have ps := parts (n + 2) h
        have hm1 := h.first
        have hm2 := At.next (a := []) h
        rw [show layK (Hd.ife x) ([].length + 1) lay k = lay from rfl] at hm2
        simp only [sizeL, Nat.add_zero] at hm2
        rcases ha with ha | ha
        · subst ha
          have en := entry (n + 2) hm1 wf hs
          refine ⟨some (k + 1 + t1.entry), .nor, ks, ws, ?_, hp, goes_in wf rfl hk hm1 rfl⟩
          rw [FN34]
          simp only [WD, CD, codeD, codeAt, Pos.kids, T.ts, offs, goalD] at c ps en ⊢
          rw [show encNs ((k + 1) :: (k + 1 + t1.size) :: offs (k + 1 + t1.size + t2.size) ts) = .int (k + 1 : Nat) :: .int (k + 1 + t1.size : Nat) :: encNs (offs (k + 1 + t1.size + t2.size) ts) from rfl] at ps
          simp [b34, c, ps, Hd.isDo, Hd.isCall, Hd.isIf, Hd.isW, setFld] at en ⊢
          simp [en, setFld]
        · subst ha
          have en := entry (n + 2) hm2 wf hs
          refine ⟨some (k + 1 + t1.size + t2.entry), .nor, ks, ws, ?_, hp, goes_in wf rfl hk hm2 rfl⟩
          rw [FN34]
          simp only [WD, CD, codeD, codeAt, Pos.kids, T.ts, offs, goalD] at c ps en ⊢
          rw [show encNs ((k + 1) :: (k + 1 + t1.size) :: offs (k + 1 + t1.size + t2.size) ts) = .int (k + 1 : Nat) :: .int (k + 1 + t1.size : Nat) :: encNs (offs (k + 1 + t1.size + t2.size) ts) from rfl] at ps
          simp [b34, c, ps, Hd.isDo, Hd.isCall, Hd.isIf, Hd.isW, setFld] at en ⊢
          simp [en, setFld]
end
end K8
end Dn
end L2
set_option Elab.async false
set_option linter.all false
set_option maxRecDepth 100000
set_option maxHeartbeats 4000000
/-! Answers; a run with them. -/
namespace L2
namespace Dn
namespace K8
open PySem
/-! answers -/
def isInt : D → Bool | .int _ => true | _ => false
theorem is_integer (n : Nat) (d : D) (h : plainV d = true) : denFn P (n + 1) 0 [d] = .ok (.bl (isInt d)) [d] := by
  rw [FN0]
  cases d with
  | int i => simp [b0, isInt]
  | no => cases h
  | gl g => cases h
  | wdt a b => cases h
  | wls a => cases h
  | obj o c ds => cases o <;> cases h
  | dct o t ks ds => cases o <;> first | (cases h; done) | simp [b0, isInt]
  | lst o ds => cases o <;> first | (cases h; done) | simp [b0, isInt]
  | tup o ds => cases o <;> first | (cases h; done) | simp [b0, isInt]
  | non => simp [b0, isInt]
  | bl b => simp [b0, isInt]
  | str x => simp [b0, isInt]
theorem is_answer (n : Nat) (d : D) (h : plainV d = true) : denFn P (n + 2) 27 [d] = .ok (.bl (isAns d)) [d] := by
  have e := is_integer n d h
  rw [FN27]
  have ho : d.own = false ∧ d.isNo = false := by
    unfold plainV at h
    rw [Bool.and_eq_true, Bool.and_eq_true] at h
    exact ⟨by simpa using h.1.2, by simpa using h.1.1⟩
  cases hi : isInt d with
  | false =>
    rw [hi] at e
    have : isAns d = false := by cases d <;> first | rfl | cases hi
    simp [b27, ho, e, this]
  | true =>
    rw [hi] at e
    cases d <;> first | (cases hi; done) | skip
    rename_i i
    by_cases h1 : 0 ≤ i
    · simp [b27, e, isAns, h1]
    · simp [b27, e, isAns, h1]
theorem plain_own {d : D} (h : plainV d = true) : d.own = false ∧ d.isNo = false := by
  unfold plainV at h
  rw [Bool.and_eq_true, Bool.and_eq_true] at h
  exact ⟨by simpa using h.1.2, by simpa using h.1.1⟩
theorem plain_allF {ds : List D} (h : ∀ d ∈ ds, plainV d = true) : allF ds = true := by
  unfold allF
  rw [List.all_eq_true]
  intro d hd
  rw [(plain_own (h d hd)).1]
  rfl
/-- the answers, one after another -/
theorem bad_loop (n : Nat) (x0 : D) : ∀ (ds : List D) (i : Nat) (x1 x2 : D), (∀ d ∈ ds, plainV d = true) → ∃ y1 y2,
    forD (sTurn (denG P (denFn P (n + 2)) (.tp (.cons (.nm 1) (.cons (.nm 2) .nil)))) (denSs P (denFn P (n + 2)) w28_0)) (enumD ds i) [x0, x1, x2] =
      match firstBad ds i with
      | none => .nxt [x0, y1, y2]
      | some j => .exc ⟨3, .int j⟩ [x0, y1, y2]
  | [], i, x1, x2, _ => ⟨x1, x2, rfl⟩
  | d :: ds, i, x1, x2, h => by
    have hd := h d List.mem_cons_self
    have e := is_answer n d hd
    have ho := plain_own hd
    unfold enumD
    cases ha : isAns d with
    | true =>
      rw [ha] at e
      obtain ⟨y1, y2, ih⟩ := bad_loop n x0 ds (i + 1) (.int i) d fun d' hd' => h d' (List.mem_cons_of_mem _ hd')
      refine ⟨y1, y2, ?_⟩
      rw [for_n (e2 := [x0, .int i, d])]
      · rw [ih]
        simp only [firstBad, ha, if_pos]
      · simp [w28_0, ho, e]
    | false =>
      rw [ha] at e
      refine ⟨.no, d, ?_⟩
      rw [for_x (x := ⟨3, .int i⟩) (e2 := [x0, .no, d])]
      · simp [firstBad, ha]
      · simp [w28_0, ho, e]
theorem check_list (n : Nat) (o : Bool) (ds : List D) (h : ∀ d ∈ ds, plainV d = true) (hl : ds.length ≤ 1000) :
    denFn P (n + 3) 28 [.lst o ds] = match firstBad ds 0 with | none => .ok .non [.lst o ds] | some j => .exc ⟨3, .int j⟩ [.lst o ds] := by
  have hf := plain_allF h
  have h1 : ¬ (1000 : Int) < (ds.length : Int) := by omega
  rw [FN28]
  cases o with
  | true =>
    obtain ⟨y1, y2, e⟩ := bad_loop n .no ds 0 .no .no h
    simp [b28, hl, walkO, hf, unlend, h1] at e ⊢
    rw [e]
    cases firstBad ds 0 <;> simp [unlend]
  | false =>
    obtain ⟨y1, y2, e⟩ := bad_loop n (.lst false ds) ds 0 .no .no h
    simp [b28, hl, walkO, hf, unlend, h1] at e ⊢
    rw [e]
    cases firstBad ds 0 <;> simp [unlend]
theorem check_long (n : Nat) (o : Bool) (ds : List D) (hl : 1000 < ds.length) : denFn P (n + 3) 28 [.lst o ds] = .exc ⟨3, .int (-1)⟩ [.lst o ds] := by
  have h1 : (1000 : Int) < (ds.length : Int) := by omega
  rw [FN28]
  simp [b28, h1]
def isLst : D → Bool | .lst _ _ => true | _ => false
theorem check_none (n : Nat) (d : D) (h : plainV d = true) (hl : isLst d = false) : denFn P (n + 3) 28 [d] = .exc ⟨3, .int (-1)⟩ [d] := by
  rw [FN28]
  cases d with
  | lst o ds => cases hl
  | no => cases h
  | gl g => cases h
  | wdt a b => cases h
  | wls a => cases h
  | obj o c ds => cases o <;> cases h
  | dct o t ks ds => cases o <;> first | (cases h; done) | simp [b28]
  | tup o ds => cases o <;> first | (cases h; done) | simp [b28]
  | non => simp [b28]
  | bl b => simp [b28]
  | int b => simp [b28]
  | str x => simp [b28]
end K8
end Dn
end L2
set_option Elab.async false
set_option linter.all false
set_option maxRecDepth 100000
set_option maxHeartbeats 4000000
/-! A run with answers. -/
namespace L2
namespace Dn
namespace K8
open PySem
@[simp] theorem m_app (ds : List D) (x : D) : mutD .append (.lst true ds) [x] = if ds.length < LINE then some (.non, .lst true (ds ++ [x])) else none := rfl
theorem idx_ns {as : List Nat} {u : Nat} (o : Bool) (h : u < as.length) : bopD .idx [.lst o (encNs as), .int u] = some (.int (as[u] : Nat)) :=
  b_idx (idx_lst (by unfold encNs; rw [List.getElem?_map, List.getElem?_eq_getElem h]; rfl)) rfl
theorem goalD_some (q : Nat) (w : Wy) : goalD (some q) w = .int q := rfl
section
variable {t0 : T}
theorem begin {ok : Str → Bool} (wf : t0.wf ok 0 = true) (hs : t0.size ≤ 1000) (n : Nat) : denFn P (n + 4) 37 [CD t0] = .ok (WD t0 (.int (t0.entry : Nat)) [] []) [CD t0] := by
  have e := entry n (At.root (t0 := t0)) wf hs
  have i : denFn P (n + 3) 31 [.obj true 7 [], CD t0, .int (0 + t0.entry : Nat), .dct true false [] []] = .ok .non [WD t0 (.int (0 + t0.entry : Nat)) [] [], CD t0, .int (0 + t0.entry : Nat), .dct true false [] []] := by
    rw [FN31]
    simp only [WD, CD, codeD, codeAt, pendD]
    simp [b31, setFld, kk]
  rw [FN37]
  simp only [WD, CD, codeD, codeAt, Int.natCast_zero, Nat.zero_add] at e i ⊢
  simp [b37, e, i]
/-- places that a run may stand at -/
def Okp (t0 : T) (ks : List Nat) (g : Option Nat) : Prop := ∀ q, g = some q → ∃ p, At t0 q p ∧ p.t.hd.less = false ∧ ∀ l ∈ p.lays q, l ∈ ks
def meas (t0 : T) (len u : Nat) : Option Nat → Nat
  | none => 0
  | some q => (len - u) * (t0.size + 2) + (if (posAt t0 q).t.hd.asks then 0 else behind t0 q + 1) + 1
theorem asks_whl {h : Hd} (e : h.isW = true) : h.asks = true := by cases h <;> first | rfl | cases e
theorem meas_le (len u : Nat) (g : Option Nat) : meas t0 len u g ≤ (len - u) * (t0.size + 2) + (t0.size + 2) := by
  unfold meas
  split
  · omega
  · rename_i q
    have := behind_le t0 q
    split <;> omega
theorem follow_loop {ok : Str → Bool} (wf : t0.wf ok 0 = true) (hs : t0.size ≤ 1000) (n : Nat) (o : Bool) (as : List Nat) (ha : ∀ a ∈ as, a ≤ 1) : ∀ (m : Nat) (g : Option Nat) (w : Wy) (ks : List Nat) (ws : List Wy) (vs : List Nat) (u : Nat) (x4 : D) (fuel : Nat),
    Pend t0 ks ws → Okp t0 ks g → u ≤ as.length → meas t0 as.length u g ≤ m → m < fuel → vs.length + m < LINE →
    ∃ g' w' ks' ws' vs' u' y4, whlD (den P (denFn P (n + 6)) t38_0).t (denSs P (denFn P (n + 6)) w38_1) fuel [WD t0 (goalD g w) ks ws, .lst o (encNs as), .lst true (encNs vs), .int (u : Nat), x4] =
      .nxt [WD t0 (goalD g' w') ks' ws', .lst o (encNs as), .lst true (encNs vs'), .int (u' : Nat), y4] ∧ Pend t0 ks' ws' ∧ Okp t0 ks' g' := by
  intro m
  induction m with
  | zero =>
    intro g w ks ws vs u x4 fuel hp hg hu hm hf hl
    cases g with
    | some q => unfold meas at hm; dsimp only at hm; omega
    | none =>
      obtain ⟨fuel, rfl⟩ : ∃ k, fuel = k + 1 := ⟨fuel - 1, by omega⟩
      have e := ended (t0 := t0) (ks := ks) (ws := ws) (n + 5) none w
      refine ⟨none, w, ks, ws, vs, u, x4, whl_f ?_, hp, hg⟩
      simp only [WD] at e ⊢
      simp [t38_0, e]
  | succ m ih =>
    intro g w ks ws vs u x4 fuel hp hg hu hm hf hl
    obtain ⟨fuel, rfl⟩ : ∃ k, fuel = k + 1 := ⟨fuel - 1, by omega⟩
    cases g with
    | none =>
      have e := ended (t0 := t0) (ks := ks) (ws := ws) (n + 5) none w
      refine ⟨none, w, ks, ws, vs, u, x4, whl_f ?_, hp, hg⟩
      simp only [WD] at e ⊢
      simp [t38_0, e]
    | some q =>
      obtain ⟨p, h1, h2, h3⟩ := hg q rfl
      have e := ended (t0 := t0) (ks := ks) (ws := ws) (n + 5) (some q) w
      have ea := asks (ks := ks) (ws := ws) (n + 2) w h1
      have t1 : (den P (denFn P (n + 6)) t38_0).t [WD t0 (goalD (some q) w) ks ws, .lst o (encNs as), .lst true (encNs vs), .int (u : Nat), x4] = .ok true [WD t0 (goalD (some q) w) ks ws, .lst o (encNs as), .lst true (encNs vs), .int (u : Nat), x4] := by
        simp only [WD] at e ⊢
        simp [t38_0, e]
      have hvl : vs.length < 16777216 := by rw [LINE_is] at hl; omega
      unfold meas at hm
      dsimp only at hm
      rw [h1.pos] at hm
      cases hk : p.t.hd.asks with
      | true =>
        rw [hk] at ea
        rw [hk, if_pos rfl] at hm
        by_cases hu2 : u = as.length
        · refine ⟨some q, w, ks, ws, vs, u, .non, whl_b t1 ?_, hp, hg⟩
          simp only [WD] at ea ⊢
          simp [w38_1, ea, hu2]
        · have hu3 : u < as.length := by omega
          have hi := idx_ns o hu3
          have hi2 : (D.int (as[u] : Nat)) = .int 0 ∨ (D.int (as[u] : Nat)) = .int 1 := by
            have := ha as[u] (List.getElem_mem hu3)
            rcases (show as[u] = 0 ∨ as[u] = 1 by omega) with z | z <;> rw [z]
            · exact .inl rfl
            · exact .inr rfl
          have hi3 : ¬ (u : Int) = (as.length : Int) := by omega
          obtain ⟨g', w', ks', ws', s1, s2, s3⟩ := step wf hs n h1 h2 h3 hp (.int (as[u] : Nat)) (by rw [hk, if_pos rfl]; exact hi2)
          rw [whl_n t1 (e2 := [WD t0 (goalD g' w') ks' ws', .lst o (encNs as), .lst true (encNs (vs ++ [q])), .int (u + 1 : Nat), .int (as[u] : Nat)])]
          · refine ih g' w' ks' ws' (vs ++ [q]) (u + 1) _ fuel s2 (fun q' hq' => ?_) (by omega) ?_ (by omega) (by rw [List.length_append, List.length_singleton]; omega)
            · obtain ⟨p', a1, a2, a3, _⟩ := s3 q' hq'
              exact ⟨p', a1, a2, a3⟩
            · refine Nat.le_trans (meas_le ..) ?_
              have : (as.length - u) * (t0.size + 2) = (as.length - (u + 1)) * (t0.size + 2) + (t0.size + 2) := by
                rw [show as.length - u = (as.length - (u + 1)) + 1 by omega, Nat.add_mul, Nat.one_mul]
              omega
          · simp only [WD, goalD_some] at ea s1 ⊢
            simp [w38_1, ea, hi, hi3, s1, hvl]
      | false =>
        rw [hk] at ea
        rw [hk, if_neg Bool.false_ne_true] at hm
        obtain ⟨g', w', ks', ws', s1, s2, s3⟩ := step wf hs n h1 h2 h3 hp .non (by rw [hk, if_neg Bool.false_ne_true])
        rw [whl_n t1 (e2 := [WD t0 (goalD g' w') ks' ws', .lst o (encNs as), .lst true (encNs (vs ++ [q])), .int (u : Nat), .non])]
        · refine ih g' w' ks' ws' (vs ++ [q]) u _ fuel s2 (fun q' hq' => ?_) hu ?_ (by omega) (by rw [List.length_append, List.length_singleton]; omega)
          · obtain ⟨p', a1, a2, a3, _⟩ := s3 q' hq'
            exact ⟨p', a1, a2, a3⟩
          · cases g' with
            | none => exact Nat.zero_le _
            | some q' =>
              obtain ⟨p', a1, a2, a3, a4⟩ := s3 q' rfl
              unfold meas
              dsimp only
              rw [a1.pos]
              rcases a4 with z | z | z
              · rw [hk] at z; cases z
              · rw [if_pos (asks_whl z)]; omega
              · have := behind_lt h1 a1 z
                split <;> omega
        · simp only [WD, goalD_some] at ea s1 ⊢
          simp [w38_1, ea, s1, hvl]
theorem follow {ok : Str → Bool} (wf : t0.wf ok 0 = true) (hs : t0.size ≤ 1000) (n : Nat) (o : Bool) (as : List Nat) (ha : ∀ a ∈ as, a ≤ 1) (hl : as.length ≤ 1000) (g : Option Nat) (w : Wy) (ks : List Nat) (ws : List Wy) (hp : Pend t0 ks ws) (hg : Okp t0 ks g) :
    ∃ g' w' ks' ws' vs' u', denFn P (n + 7) 38 [WD t0 (goalD g w) ks ws, .lst o (encNs as)] = .ok (.tup true [.lst true (encNs vs'), .int (u' : Nat)]) [WD t0 (goalD g' w') ks' ws', .lst o (encNs as)] ∧ Pend t0 ks' ws' ∧ Okp t0 ks' g' := by
  have hm : meas t0 as.length 0 g ≤ 1100000 := by
    refine Nat.le_trans (meas_le ..) ?_
    have : (as.length - 0) * (t0.size + 2) ≤ 1000 * 1002 := Nat.mul_le_mul (by omega) (by omega)
    omega
  obtain ⟨g', w', ks', ws', vs', u', y4, e, e2, e3⟩ := follow_loop wf hs n o as ha 1100000 g w ks ws [] 0 .no BIG hp hg (Nat.zero_le _) hm (by unfold BIG; omega) (by rw [LINE_is]; simp)
  refine ⟨g', w', ks', ws', vs', u', ?_, e2, e3⟩
  rw [FN38]
  simp only [Int.natCast_zero, encNs_nil] at e
  simp only [WD] at e ⊢
  simp [b38, e]
theorem bad_none : ∀ (as : List Nat) (i : Nat), (∀ a ∈ as, a ≤ 1) → firstBad (encNs as) i = none
  | [], _, _ => rfl
  | a :: as, i, h => by
    show (if isAns (.int a) then firstBad (encNs as) (i + 1) else some i) = none
    have h1 := h a List.mem_cons_self
    have : isAns (.int a) = true := by
      unfold isAns
      rw [Bool.and_eq_true, decide_eq_true_eq, decide_eq_true_eq]
      omega
    rw [if_pos this, bad_none as (i + 1) fun b hb => h b (List.mem_cons_of_mem _ hb)]
theorem plain_ns (as : List Nat) : ∀ d ∈ encNs as, plainV d = true := fun d hd => by
  obtain ⟨a, _, e⟩ := List.mem_map.mp hd
  rw [← e]
  rfl
theorem okp_start {ok : Str → Bool} (wf : t0.wf ok 0 = true) : Okp t0 [] (some t0.entry) := fun q e => by
  cases e
  obtain ⟨pq, h1, h2, h3⟩ := At.entry wf t0 (At.root (t0 := t0))
  rw [Nat.zero_add] at h1
  refine ⟨pq, h1, less_of h2, fun l hl => ?_⟩
  unfold Pos.lays at hl
  rw [isF_of h2, if_neg Bool.false_ne_true, h3] at hl
  exact hl
theorem run_ok {ok : Str → Bool} (wf : t0.wf ok 0 = true) (hs : t0.size ≤ 1000) (n : Nat) (o : Bool) (as : List Nat) (ha : ∀ a ∈ as, a ≤ 1) (hl : as.length ≤ 1000) : ∃ d, denFn P (n + 8) 39 [CD t0, .lst o (encNs as)] = .ok d [CD t0, .lst o (encNs as)] := by
  have c1 := check_list (n + 4) o (encNs as) (plain_ns as) (by rw [encNs_len]; exact hl)
  rw [bad_none as 0 ha] at c1
  have c2 := begin wf hs (n + 3)
  obtain ⟨g', w', ks', ws', vs', u', c3, e2, e3⟩ := follow wf hs n o as ha hl (some t0.entry) .nor [] [] .nil (okp_start wf)
  rw [goalD_some] at c3
  have c4 := ended (t0 := t0) (ks := ks') (ws := ws') (n + 6) g' w'
  have c5 : ∀ z, denFn P (n + 7) 29 [.obj true 6 [], .lst true (encNs vs'), .int (u' : Nat), .str z] = .ok .non [.obj true 6 [.lst true (encNs vs'), .int (u' : Nat), .str z], .lst true (encNs vs'), .int (u' : Nat), .str z] := fun z => by
    rw [FN29]
    simp [b29, setFld]
  have c6 : ∀ z, denFn P (n + 7) 29 [.obj true 6 [], .lst true (encNs vs'), .int (u' : Nat), .int z] = .ok .non [.obj true 6 [.lst true (encNs vs'), .int (u' : Nat), .int z], .lst true (encNs vs'), .int (u' : Nat), .int z] := fun z => by
    rw [FN29]
    simp [b29, setFld]
  rw [FN39]
  simp only [WD] at c2 c3 c4
  cases o <;> cases g' with
  | none =>
    refine ⟨.obj false 6 [.lst false (encNs vs'), .int (u' : Nat), .str w'.endS], ?_⟩
    simp only [goalD] at c3 c4
    simp [b39, c1, c2, c3, c4, c5]
  | some q =>
    refine ⟨.obj false 6 [.lst false (encNs vs'), .int (u' : Nat), .str "wait"], ?_⟩
    simp only [goalD] at c3 c4
    simp [b39, c1, c2, c3, c4, c5]
theorem lay_lt {q : Nat} {p : Pos} (h : At t0 q p) (hs : t0.size ≤ 500) : p.lay.length < 1000 := by
  have := h.lev
  have := h.lt'
  omega
theorem now_loop {ks : List Nat} {ws : List Wy} (hp : Pend t0 ks ws) (n : Nat) : ∀ (ls : List Nat) (acc : List D), (∀ l ∈ ls, l ∈ ks) → acc.length + ls.length < LINE → ∃ r,
    compD (turnC (denG P (denFn P n) (.nm 1)) (den P (denFn P n) (.lit (.bl true))).t (den P (denFn P n) x36_0).e [1]) (encNs ls) [.obj true 7 [CD t0, goalD g w, pendD ks ws], .no] acc = .ok r [.obj true 7 [CD t0, goalD g w, pendD ks ws], .no]
  | [], acc, _, _ => ⟨acc, rfl⟩
  | l :: ls, acc, h, hl => by
    obtain ⟨w1, q, e, _⟩ := pend_get hp (h l List.mem_cons_self)
    rw [List.length_cons] at hl
    obtain ⟨r, ih⟩ := now_loop hp n ls (acc ++ [.tup false [.int l, encW w1]]) (fun b hb => h b (List.mem_cons_of_mem _ hb)) (by rw [List.length_append, List.length_singleton]; omega)
    refine ⟨r, ?_⟩
    show compD _ (D.int l :: encNs ls) _ acc = _
    rw [comp_y (x := .tup false [.int l, encW w1]) (e2 := [.obj true 7 [CD t0, goalD g w, pendD ks ws], .no])]
    · exact ih
    · simp [x36_0, e, wipeE]
    · omega
theorem now (n : Nat) {ks : List Nat} {ws : List Wy} (hp : Pend t0 ks ws) (g : Option Nat) (w : Wy) (hg : Okp t0 ks g) (hs : t0.size ≤ 500) : ∃ d, denFn P (n + 5) 36 [WD t0 (goalD g w) ks ws] = .ok d [WD t0 (goalD g w) ks ws] := by
  have c := ended (t0 := t0) (ks := ks) (ws := ws) (n + 3) g w
  cases g with
  | none =>
    refine ⟨.tup true [.str w.endS, .lst true []], ?_⟩
    rw [FN36]
    simp only [WD, goalD] at c ⊢
    simp [b36, c]
  | some q =>
    obtain ⟨p, h1, h2, h3⟩ := hg q rfl
    have c2 := layers n h1 h2 (lay_lt h1 hs)
    have hl : (p.lays q).length ≤ 1001 := by
      have := lay_lt h1 hs
      unfold Pos.lays
      split
      · rw [List.length_append, List.length_singleton]; omega
      · omega
    obtain ⟨r, e⟩ := now_loop (g := some q) (w := w) hp (n + 4) (p.lays q) [] h3 (by rw [LINE_is, List.length_nil]; omega)
    refine ⟨.tup true [.int q, .lst true r], ?_⟩
    rw [FN36]
    simp only [WD, goalD_some, de_lit, dG_nm, CD, codeD, codeAt] at c c2 e ⊢
    simp [b36, c, c2, walkO, unlend, wipeE] at e ⊢
    simp [e, unlend]
theorem moment_ok {ok : Str → Bool} (wf : t0.wf ok 0 = true) (hs : t0.size ≤ 500) (n : Nat) (o : Bool) (as : List Nat) (ha : ∀ a ∈ as, a ≤ 1) (hl : as.length ≤ 1000) : ∃ d, denFn P (n + 8) 40 [CD t0, .lst o (encNs as)] = .ok d [CD t0, .lst o (encNs as)] := by
  have c1 := check_list (n + 4) o (encNs as) (plain_ns as) (by rw [encNs_len]; exact hl)
  rw [bad_none as 0 ha] at c1
  have c2 := begin wf (by omega) (n + 3)
  obtain ⟨g', w', ks', ws', vs', u', c3, e2, e3⟩ := follow wf (by omega) n o as ha hl (some t0.entry) .nor [] [] .nil (okp_start wf)
  rw [goalD_some] at c3
  obtain ⟨d, c4⟩ := now (n + 2) e2 g' w' e3 hs
  refine ⟨d, ?_⟩
  rw [FN40]
  simp only [WD] at c2 c3 c4
  cases o <;> simp [b40, c1, c2, c3, c4]
/-- what both calls say of a list that is no list of answers -/
theorem run_bad (n : Nat) (d : D) (x : X) (h : denFn P (n + 1) 28 [d] = .exc x [d]) (hd : d.isNo = false) : denFn P (n + 2) 39 [CD t0, d] = .exc x [CD t0, d] := by
  rw [FN39]
  cases ho : d.own <;> simp [b39, h, hd, ho]
theorem moment_bad (n : Nat) (d : D) (x : X) (h : denFn P (n + 1) 28 [d] = .exc x [d]) (hd : d.isNo = false) : denFn P (n + 2) 40 [CD t0, d] = .exc x [CD t0, d] := by
  rw [FN40]
  cases ho : d.own <;> simp [b40, h, hd, ho]
end
end K8
end Dn
end L2
set_option Elab.async false
set_option linter.all false
set_option maxRecDepth 100000
set_option maxHeartbeats 4000000
/-! A code is made. -/
namespace L2
namespace Dn
namespace K8
open PySem
theorem name_loop (n : Nat) (x0 : D) : ∀ (cs : List Nat) (k : Nat), (cs.all fun c => decide (97 ≤ c) && decide (c ≤ 122)) = true → k + cs.length ≤ 100 →
    compD (turnC (denG P (denFn P n) (.nm 1)) (den P (denFn P n) (.lit (.bl true))).t (den P (denFn P n) x1_0).e [1]) (cs.map fun c => .str ⟨#[c]⟩) [x0, .no] (List.replicate k (.bl true)) = .ok (List.replicate (k + cs.length) (.bl true)) [x0, .no]
  | [], k, _, _ => rfl
  | c :: cs, k, h, hl => by
    rw [List.all_cons, Bool.and_eq_true, Bool.and_eq_true, decide_eq_true_eq, decide_eq_true_eq] at h
    rw [List.length_cons] at hl
    have ih := name_loop n x0 cs (k + 1) h.2 (by omega)
    have l1 : ("a" : Str) = ⟨#[97]⟩ := by decide +kernel
    have l2 : ("z" : Str) = ⟨#[122]⟩ := by decide +kernel
    have c1 : cmpD .le (.str "a") (.str ⟨#[c]⟩) = some (.bl true) := by
      rw [l1]
      show some (D.bl (decide (¬ [c] < [97]))) = _
      rw [decide_eq_true]
      intro hlt
      rw [List.cons_lt_cons_iff] at hlt
      rcases hlt with z | z
      · omega
      · exact absurd z.2 (List.not_lt_nil _)
    have c2 : cmpD .le (.str ⟨#[c]⟩) (.str "z") = some (.bl true) := by
      rw [l2]
      show some (D.bl (decide (¬ [122] < [c]))) = _
      rw [decide_eq_true]
      intro hlt
      rw [List.cons_lt_cons_iff] at hlt
      rcases hlt with z | z
      · omega
      · exact absurd z.2 (List.not_lt_nil _)
    rw [List.map_cons, comp_y (x := .bl true) (e2 := [x0, .no])]
    · rw [List.replicate_succ'] at ih
      rw [ih, List.length_cons]
      congr 2
      omega
    · simp [x1_0, c1, c2, wipeE]
    · rw [List.length_replicate, LINE_is]; omega
theorem all_rep (n : Nat) : bopD .all1 [.lst true (List.replicate n (.bl true))] = some (.bl true) := by
  have : blsD (List.replicate n (.bl true)) = some (List.replicate n true) := by
    induction n with
    | zero => rfl
    | succ n ih => rw [List.replicate_succ, List.replicate_succ, blsD, ih]; rfl
  show (blsD _).map (fun bs => D.bl (bs.all id)) = _
  rw [this]
  simp
theorem is_name (n : Nat) (x : Str) (h : nameOk x = true) : denFn P (n + 1) 1 [.str x] = .ok (.bl true) [.str x] := by
  unfold nameOk at h
  rw [Bool.and_eq_true, Bool.and_eq_true, decide_eq_true_eq, decide_eq_true_eq] at h
  obtain ⟨⟨h1, h2⟩, h3⟩ := h
  have l : x.cps.toList.length = x.length := by rw [Array.length_toList]; rfl
  have e := name_loop n (.str x) x.cps.toList 0 h3 (by omega)
  have hl : bopD .len [.str x] = some (.int (x.length : Nat)) := by
    have : (D.str x).len = some x.length := if_pos (by rw [LINE_is]; omega)
    unfold bopD
    dsimp only
    rw [this]
    rfl
  rw [FN1]
  simp only [de_lit, dG_nm, List.replicate_zero, Nat.zero_add] at e
  have h3 : (1 : Int) ≤ (x.length : Int) := by omega
  have h4 : (x.length : Int) ≤ 8 := by omega
  simp only [b1]
  simp [hl, h3, h4, chD, wipeE] at e ⊢
  simp [e, unlend, all_rep]
theorem has_kind {ok : Str → Bool} (n : Nat) {t : T} {w : Nat} (h : t.wf ok w = true) : denFn P (n + 1) 2 [encT t] = .ok (.bl true) [encT t] := by
  have l := encT_len h
  have hi : bopD .isi [encT t, .gl 3] = some (.bl true) := by cases t; rfl
  have hz : ¬ t.hd.sz = 0 := by cases t with | nd hd ts => cases hd <;> simp [T.hd, Hd.sz]
  rw [FN2]
  simp [b2, l, hi, hz]
theorem is_statement (n : Nat) {t : T} {w : Nat} (h : t.wf nameOk w = true) : denFn P (n + 2) 3 [encT t, .int w] = .ok (.bl true) [encT t, .int w] := by
  have c := has_kind n h
  rw [FN3]
  obtain ⟨hd, ts⟩ := t
  have a := wf_ar h
  unfold T.wf at h
  rw [Bool.and_eq_true, Bool.and_eq_true] at h
  have h2 := h.1.2
  cases hn : hd.named with
  | true =>
    have : ∃ x, bopD .idx [encT (.nd hd ts), .int 1] = some (.str x) ∧ nameOk x = true := by
      cases hd <;> first | (cases hn; done) | exact ⟨_, b_idx (idx_tup (j := 1) rfl) rfl, h2⟩
    obtain ⟨x, e, ex⟩ := this
    simp [b3, c, T.hd, hn, e, is_name n x ex]
  | false =>
    cases hj : hd.jump with
    | true =>
      have : ∃ k : Nat, bopD .idx [encT (.nd hd ts), .int 1] = some (.int k) ∧ 1 ≤ k ∧ k ≤ w := by
        cases hd <;> first | (cases hj; done) | (rw [decide_eq_true_eq] at h2; exact ⟨_, b_idx (idx_tup (j := 1) rfl) rfl, h2⟩)
      obtain ⟨k, e, e1, e2⟩ := this
      have ii := is_integer_int n (k : Int)
      have e3 : (1 : Int) ≤ (k : Int) := by omega
      have e4 : (k : Int) ≤ (w : Int) := by omega
      simp only [b3]
      simp [c, T.hd, hn, hj, e, ii, e3, e4]
    | false =>
      cases hs : hd.isSeq with
      | true =>
        have hq : hd = .seq := by cases hd <;> first | rfl | cases hs
        subst hq
        have e : bopD .idx [encT (.nd .seq ts), .int 1] = some (.tup false (encL ts)) := b_idx (idx_tup (j := 1) rfl) rfl
        have hl : 0 < (encL ts).length := by
          rw [encL_len]
          exact of_decide_eq_true a
        simp [b3, c, T.hd, hn, hj, hs, e, hl]
      | false => simp [b3, c, T.hd, hn, hj, hs]
def spotV (o : Bool) (p : Pos) : D := if o then .tup true [encT p.t, optN p.par, .int p.lev, .int p.wh, .lst true (encNs p.lay)] else encSpot p
/-- the limits of a code -/
structure Lim (t0 : T) : Prop where
  size : t0.size ≤ 400
  wf : t0.wf nameOk 0 = true
  lev : ∀ n p, At t0 n p → p.lev ≤ 100 ∧ p.lay.length ≤ 25
section
variable {t0 : T} {N : Nat} {p : Pos}
theorem judge (L : Lim t0) (n : Nat) (h : At t0 N p) (o : Bool) : denFn P (n + 3) 4 [spotV o p, .int N] = .ok .non [encSpot p, .int N] := by
  have c := is_statement n (h.wf L.wf)
  have l1 : ¬ (400 : Int) ≤ (N : Int) := by have := h.lt'; have := L.size; omega
  have l2 : ¬ (100 : Int) < (p.lev : Int) := by have := (L.lev N p h).1; omega
  have l3 : ¬ (25 : Int) < (p.lay.length : Int) := by have := (L.lev N p h).2; omega
  rw [FN4]
  cases o with
  | true => simp [b4, spotV, encSpot, l1, l2, l3, c]
  | false => simp [b4, spotV, encSpot, l1, l2, l3, c]
theorem head_of {ok : Str → Bool} (n : Nat) {t : T} {w : Nat} (h : t.wf ok w = true) : denFn P (n + 1) 5 [encT t] = .ok (encH t.hd t.ts.length) [encT t] := by
  rw [FN5]
  obtain ⟨hd, ts⟩ := t
  cases hs : hd.isSeq with
  | true =>
    have hq : hd = .seq := by cases hd <;> first | rfl | cases hs
    subst hq
    have e : bopD .idx [encT (.nd .seq ts), .int 1] = some (.tup false (encL ts)) := b_idx (idx_tup (j := 1) rfl) rfl
    have ey : headOf .seq ts.length = [.str (Hd.seq).kind, .int ts.length] := rfl
    simp [b5, T.hd, T.ts, hs, e, encL_len, encH, ey]
  | false =>
    cases hj : (hd.named || hd.jump) with
    | true =>
      have : ∃ x, bopD .idx [encT (.nd hd ts), .int 1] = some x ∧ x.own = false ∧ headOf hd ts.length = [.str hd.kind, x] := by
        cases hd <;> first | (cases hj; done) | exact ⟨_, b_idx (idx_tup (j := 1) rfl) rfl, rfl, rfl⟩
      obtain ⟨x, e, ex, ey⟩ := this
      rw [Bool.or_eq_true] at hj
      cases hn : hd.named with
      | true => simp [b5, T.hd, T.ts, hs, hn, e, ex, ey, encH]
      | false =>
        have hj2 : hd.jump = true := by rcases hj with z | z; · rw [hn] at z; cases z
                                        · exact z
        simp [b5, T.hd, T.ts, hs, hn, hj2, e, ex, ey, encH]
    | false =>
      rw [Bool.or_eq_false_iff] at hj
      have ey : headOf hd ts.length = [.str hd.kind] := by cases hd <;> first | rfl | (cases hs; done) | (cases hj.1; done) | cases hj.2
      simp [b5, T.hd, T.ts, hs, hj, ey, encH]
theorem parts_of {ok : Str → Bool} (n : Nat) {t : T} {w : Nat} (h : t.wf ok w = true) : denFn P (n + 1) 6 [encT t] = .ok (.lst true (encL t.ts)) [encT t] := by
  rw [FN6]
  obtain ⟨hd, ts⟩ := t
  cases hs : hd.isSeq with
  | true =>
    have hq : hd = .seq := by cases hd <;> first | rfl | cases hs
    subst hq
    have e : bopD .idx [encT (.nd .seq ts), .int 1] = some (.tup false (encL ts)) := b_idx (idx_tup (j := 1) rfl) rfl
    simp [b6, T.hd, T.ts, hs, e]
  | false =>
    cases hp : hd.pair with
    | true =>
      have e : slcD (encT (.nd hd ts)) (some 1) none = some (.tup false (encL ts)) := by
        cases hd <;> first | (cases hp; done) | simp [slcD, slD, HT.sIx, encT, encHd]
      simp [b6, T.hd, T.ts, hs, hp, e]
    | false =>
      have e : slcD (encT (.nd hd ts)) (some 2) none = some (.tup false (encL ts)) := by
        cases hl : (hd.isW || hd.isIf) with
        | true => cases hd <;> first | (cases hl; done) | simp [slcD, slD, HT.sIx, encT, encHd]
        | false =>
          have := wf_leaf h (by rw [hs, hp, Bool.false_or, Bool.false_or, hl])
          subst this
          cases hd <;> first | (cases hl; done) | (cases hs; done) | (cases hp; done) | simp [slcD, slD, HT.sIx, encT, encHd, encL]
      simp [b6, T.hd, T.ts, hs, hp, e]
theorem part_loop (n : Nat) (N : Nat) (lev wh : Nat) (lay : List Nat) (h : Hd) (x0 x2 x3 x4 x5 : D) : ∀ (ts : List T) (acc : List D), acc.length + ts.length < 1000 →
    compD (turnC (denG P (denFn P n) (.nm 9)) (den P (denFn P n) (.lit (.bl true))).t (den P (denFn P n) x7_0).e [9]) (encL ts) [x0, .int N, x2, x3, x4, x5, .int lev, .int wh, .lst false (encNs lay), .no] acc =
      .ok (acc ++ ts.map fun t => .tup false [encT t, .int N, .int (lev + 1 : Nat), .int wh, .lst false (encNs lay)]) [x0, .int N, x2, x3, x4, x5, .int lev, .int wh, .lst false (encNs lay), .no]
  | [], acc, _ => by rw [encL, comp_nil, List.map_nil, List.append_nil]
  | t :: ts, acc, hl => by
    rw [List.length_cons] at hl
    rw [encL, comp_y (x := .tup false [encT t, .int N, .int (lev + 1 : Nat), .int wh, .lst false (encNs lay)]) (e2 := [x0, .int N, x2, x3, x4, x5, .int lev, .int wh, .lst false (encNs lay), .no])]
    · rw [part_loop n N lev wh lay h x0 x2 x3 x4 x5 ts _ (by rw [List.length_append, List.length_singleton]; omega), List.map_cons, List.append_assoc, List.singleton_append]
    · simp [x7_0, wipeE]
    · rw [LINE_is]; omega
theorem kid_map (h : Hd) (hf : h.isF = false) (n lev wh : Nat) (lay : List Nat) : ∀ (ts : List T) (j i : Nat), (kidPos h n lev wh lay j i ts).map encSpot = ts.map fun t => .tup false [encT t, .int n, .int (lev + 1 : Nat), .int (h.wh wh : Nat), .lst false (encNs lay)]
  | [], _, _ => rfl
  | t :: ts, j, i => by
    rw [kidPos, List.map_cons, List.map_cons, kid_map h hf n lev wh lay ts]
    congr 1
    unfold encSpot layK
    dsimp only
    rw [hf, Bool.false_and, if_neg Bool.false_ne_true]
    rfl
def kidsOf (p : Pos) (N : Nat) : List Pos := kidPos p.t.hd N p.lev p.wh p.lay 0 (N + 1) p.t.ts
theorem spots_inside (L : Lim t0) (n : Nat) (h : At t0 N p) : ∃ z, denFn P (n + 2) 7 [encSpot p, .int N] = .ok z [encSpot p, .int N] ∧ frz z = .lst false ((kidsOf p N).map encSpot) ∧ z.isNo = false := by
  have hw := h.wf L.wf
  have c := parts_of n hw
  have hsz := h.lt
  have hL := L.size
  obtain ⟨⟨hd, ts⟩, par, lev, wh, lay, sib⟩ := p
  have hll := (L.lev N _ h).2
  have hll : lay.length ≤ 25 := hll
  have hlen : ts.length < 1000 := by
    have := len_size ts
    have hsz : N + (1 + sizeL ts) ≤ t0.size := hsz
    omega
  have wv : ∀ b : Bool, hd.isW = b → bopD .add [.int wh, .int 1] = some (.int (wh + 1 : Nat)) := fun _ _ => rfl
  have frp : ∀ (w : Nat) (l : List T), frzL (l.map fun t => D.tup false [encT t, .int N, .int (lev + 1 : Nat), .int w, .lst false (encNs lay)]) = l.map fun t => D.tup false [encT t, .int N, .int (lev + 1 : Nat), .int w, .lst false (encNs lay)] := fun w l => by
    rw [frzL_eq, List.map_map]
    apply List.map_congr_left
    intro t _
    simp
  rw [FN7]
  cases hF : hd.isF with
  | false =>
    cases hW : hd.isW with
    | false =>
      have e := part_loop (n + 1) N lev wh lay hd (encSpot ⟨.nd hd ts, par, lev, wh, lay, sib⟩) (.str hd.kind) .no (encT (.nd hd ts)) (optN par) ts [] (by simpa using hlen)
      refine ⟨.lst true (ts.map fun t => .tup false [encT t, .int N, .int (lev + 1 : Nat), .int wh, .lst false (encNs lay)]), ?_, ?_, rfl⟩
      · simp only [T.ts] at c
        simp [b7, encSpot, T.hd, hF, hW, c, walkO, wipeE] at e ⊢
        simp [e, unlend, hF]
      · have := kid_map hd hF N lev wh lay ts 0 (N + 1)
        rw [frz_lst, frp]
        unfold kidsOf T.hd T.ts
        dsimp only
        rw [this]
        unfold Hd.wh
        rw [hW, if_neg Bool.false_ne_true]
    | true =>
      have e := part_loop (n + 1) N lev (wh + 1) lay hd (encSpot ⟨.nd hd ts, par, lev, wh, lay, sib⟩) (.str hd.kind) .no (encT (.nd hd ts)) (optN par) ts [] (by simpa using hlen)
      refine ⟨.lst true (ts.map fun t => .tup false [encT t, .int N, .int (lev + 1 : Nat), .int (wh + 1 : Nat), .lst false (encNs lay)]), ?_, ?_, rfl⟩
      · simp only [T.ts] at c
        simp [b7, encSpot, T.hd, hF, hW, c, walkO, wipeE] at e ⊢
        simp [e, unlend, hF]
      · have := kid_map hd hF N lev wh lay ts 0 (N + 1)
        rw [frz_lst, frp]
        unfold kidsOf T.hd T.ts
        dsimp only
        rw [this]
        unfold Hd.wh
        rw [hW, if_pos rfl]
  | true =>
    have hq : hd = .fin := by cases hd <;> first | rfl | cases hF
    subst hq
    have ar := wf_ar hw
    match ts, ar with
    | [t1, t2], _ =>
      have e := part_loop (n + 1) N lev wh lay .fin (encSpot ⟨.nd .fin [t1, t2], par, lev, wh, lay, sib⟩) (.str (Hd.fin).kind) .no (encT (.nd .fin [t1, t2])) (optN par) [t1, t2] [] (by simp)
      have i2 : bopD .idx [encT (.nd .fin [t1, t2]), .int 2] = some (encT t2) := b_idx (idx_tup (j := 2) rfl) (own_encT _)
      have ad : bopD .add [.lst false (encNs lay), .lst true [.int N]] = some (.lst true (encNs lay ++ [.int N])) := by
        show (if allF (encNs lay) && allF [D.int N] && decide ((encNs lay).length + 1 ≤ LINE) then some (D.lst true (encNs lay ++ [.int N])) else none) = _
        rw [allF_ns, if_pos]
        simp [encNs]
        omega
      have hW : (Hd.fin).isW = false := rfl
      refine ⟨.lst true [.tup false [encT t1, .int N, .int (lev + 1 : Nat), .int wh, .lst false (encNs lay)], .tup true [encT t2, .int N, .int (lev + 1 : Nat), .int wh, .lst true (encNs lay ++ [.int N])]], ?_, ?_, rfl⟩
      · simp only [T.ts] at c
        simp [b7, encSpot, T.hd, hF, hW, c, walkO, wipeE] at e ⊢
        simp [e, unlend, hF, i2, ad, setIx, ixN]
      · simp [kidsOf, T.hd, T.ts, kidPos, encSpot, layK, Hd.isF, Hd.wh, Hd.isW]
    | [], ar => cases ar
    | [_], ar => cases ar
    | _ :: _ :: _ :: _, ar => simp [Hd.ar] at ar
/-- the parts and the siblings, when a number is given -/
theorem keep_if (n : Nat) (h : At t0 N p) (hs : t0.size ≤ 1000) (A B C L : List D) (sp x5 x6 : D) :
    ∃ y4 : D, denS P (denFn P n) i9_1 [.obj true 5 [.lst true A, .lst true B, .lst true C, .lst true (ptL true t0 N ++ [D.lst true []]), .lst true (siL t0 N ++ [D.non]), .lst true L], sp, .int N, encT p.t, optN p.par, x5, x6] =
      .nxt [.obj true 5 [.lst true A, .lst true B, .lst true C, .lst true (ptL true t0 (N + 1)), .lst true (siL t0 (N + 1)), .lst true L], sp, .int N, encT p.t, y4, x5, x6] := by
  by_cases h0 : 0 < N
  · obtain ⟨o, hd, a, b, par, lev, lay, sib, wh, ho, e1, e2, e3, e4, e5⟩ := h.up h0
    obtain ⟨q1, q2⟩ := ptL_succ ho e1
    have hl : (ptL true t0 N ++ [D.lst true []]).length = N + 1 := by rw [List.length_append, ptL_len]; rfl
    have hN := h.lt'
    have ox : ixN (N + 1) (o : Int) = some o := ixN_of (by omega)
    have hsl : (siL t0 N ++ [D.non]).length = N + 1 := by rw [List.length_append, siL_len]; rfl
    refine ⟨.no, ?_⟩
    rw [e2]
    generalize ptL true t0 N ++ [D.lst true []] = PT at *
    have hkl : (encNs (offs (o + 1) a)).length < 16777216 := by
      rw [encNs_len, offs_len]
      have := len_size a
      omega
    cases hq : a.getLast? with
    | none =>
      have ha := List.getLast?_eq_none_iff.mp hq
      subst ha
      simp only [sizeL, Nat.add_zero] at e1
      subst e1
      have s1 := siL_first ho
      rw [s1]
      simp only [offs, List.nil_append, encNs_nil, encNs_one] at q1 q2
      simp [i9_1, i9_0, hl, ox, q2, D.truth] at q1 ⊢
      exact q1
    | some x =>
      obtain ⟨a', e⟩ := last_is hq
      subst e
      rw [List.append_assoc, List.singleton_append] at ho
      have e6 : N = o + 1 + sizeL a' + x.size := by rw [e1, sizeL_app, sizeL, sizeL]; omega
      have s1 := siL_next ho e6
      generalize siL t0 N ++ [D.non] = SI at *
      have la := idx_last true (offs_last (o + 1) a' x)
      have xp := x.size_pos
      have mx : ixN (N + 1) ((o + 1 + sizeL a' : Nat) : Int) = some (o + 1 + sizeL a') := ixN_of (by omega)
      have hem : (encNs (offs (o + 1) (a' ++ [x]))).isEmpty = false := by
        rw [offs_app]
        simp [offs]
      rw [encNs_app, encNs_one] at q1
      generalize encNs (offs (o + 1) (a' ++ [x])) = KS at *
      generalize o + 1 + sizeL a' = m at *
      simp [i9_1, i9_0, hl, hsl, ox, q2, D.truth, hem, la, setIx, mx, hkl]
      rw [s1]
      simp [q1]
  · have : N = 0 := by omega
    subst this
    have z := h.uniq .root
    subst z
    refine ⟨.non, ?_⟩
    simp [i9_1, ptL, siL, List.range_succ]
    rw [h.pos, kids_new (Nat.le_refl _), sib_new h (Nat.le_refl _)]
    exact ⟨rfl, rfl⟩
theorem keep (L : Lim t0) (n : Nat) (h : At t0 N p) : denFn P (n + 2) 9 [codeAt true 5 t0 N, encSpot p, .int N] = .ok .non [codeAt true 5 t0 (N + 1), encSpot p, .int N] := by
  have hs := L.size
  have hN := h.lt'
  have hl : N < 16777216 := by omega
  have c := head_of n (h.wf L.wf)
  obtain ⟨y4, e⟩ := keep_if (n + 1) h (by omega) (stL t0 N ++ [encT p.t]) (hdL t0 N ++ [encH p.t.hd p.t.ts.length]) (paL t0 N ++ [optN p.par]) (laL t0 N ++ [.lst false (encNs p.lay)]) (encSpot p) (.int p.wh) .no
  rw [← stL_succ h, ← hdL_succ h, ← paL_succ h, ← laL_succ h] at e
  rw [FN9]
  simp only [codeAt, encSpot] at e ⊢
  simp [b9, c, hl, ← stL_succ h, ← hdL_succ h, ← paL_succ h, ← laL_succ h]
  rw [e]
  simp
theorem push_loop (n : Nat) (A st x3 x4 : D) : ∀ (items ws : List D) (x5 : D), (∀ d ∈ items, d.isNo = false) → ws.length + items.length < 16777216 →
    ∃ y5, forD (sTurn (denG P (denFn P n) (.nm 5)) (denSs P (denFn P n) w8_1)) items [A, st, .lst true ws, x3, x4, x5] = .nxt [A, st, .lst true (ws ++ items), x3, x4, y5]
  | [], ws, x5, _, _ => ⟨x5, by rw [List.append_nil]; rfl⟩
  | d :: items, ws, x5, h, hl => by
    rw [List.length_cons] at hl
    have h1 : ws.length < 16777216 := by omega
    obtain ⟨y5, e⟩ := push_loop n A st x3 x4 items (ws ++ [d]) .no (fun b hb => h b (List.mem_cons_of_mem _ hb)) (by rw [List.length_append, List.length_singleton]; omega)
    refine ⟨y5, ?_⟩
    rw [for_n (e2 := [A, st, .lst true (ws ++ [d]), x3, x4, .no])]
    · rw [e, List.append_assoc]
      rfl
    · simp [w8_1, h d List.mem_cons_self, h1]
theorem frz_spot (p : Pos) : frz (encSpot p) = encSpot p := by simp [encSpot]
theorem frzL_spots (l : List Pos) : frzL (l.map encSpot) = l.map encSpot := by
  rw [frzL_eq, List.map_map]
  exact List.map_congr_left fun p _ => frz_spot p
theorem allF_spots (l : List Pos) : allF (l.map encSpot) = true := allF_map _ (fun _ => rfl) l
theorem init_turn (L : Lim t0) (n : Nat) (h : At t0 N p) (o : Bool) (ws : List D) (st x3 x4 x5 : D) (hw : ws.length < 1000) : ∃ y5,
    (den P (denFn P (n + 3)) t8_0).t [codeAt true 5 t0 N, st, .lst true (ws ++ [spotV o p]), x3, x4, x5] = .ok true [codeAt true 5 t0 N, st, .lst true (ws ++ [spotV o p]), x3, x4, x5] ∧
    denSs P (denFn P (n + 3)) w8_2 [codeAt true 5 t0 N, st, .lst true (ws ++ [spotV o p]), x3, x4, x5] =
      .nxt [codeAt true 5 t0 (N + 1), st, .lst true (ws ++ ((kidsOf p N).map encSpot).reverse), encSpot p, .int N, y5] := by
  have c1 := judge L n h o
  have c2 := keep L (n + 1) h
  obtain ⟨z, c3, fz, hz⟩ := spots_inside L (n + 1) h
  have hkl : (kidsOf p N).length < 1000 := by
    unfold kidsOf
    rw [kidPos_len]
    have := len_size p.t.ts
    have hsz := h.lt
    have : p.t.size = 1 + sizeL p.t.ts := by
      cases p.t
      rfl
    have := L.size
    omega
  obtain ⟨y5, e⟩ := push_loop (n + 3) (codeAt true 5 t0 (N + 1)) st (encSpot p) (.int N) ((kidsOf p N).map encSpot).reverse ws x5 (fun d hd => by
    obtain ⟨q, _, e⟩ := List.mem_map.mp (List.mem_reverse.mp hd)
    rw [← e]; rfl) (by rw [List.length_reverse, List.length_map]; omega)
  refine ⟨y5, ?_, ?_⟩
  · simp [t8_0, D.truth]
  · have ho : (spotV o p).own = o := by cases o <;> rfl
    have hn : (spotV o p).isNo = false := by cases o <;> rfl
    have hes : (encSpot p).own = false := rfl
    have hen : (encSpot p).isNo = false := rfl
    simp only [dG_nm] at e
    cases o with
    | true =>
      simp only [w8_2, codeAt] at c2 e ⊢
      simp [mutD, ho, hn, hes, hen, c1, c2, c3, fz, walkO, frzL_spots, allF_spots]
      rw [e]
      simp [unlend]
    | false =>
      rw [show spotV false p = encSpot p from rfl] at c1 ⊢
      simp only [w8_2, codeAt] at c2 e ⊢
      simp [mutD, ho, hn, hes, hen, c1, c2, c3, fz, walkO, frzL_spots, allF_spots]
      rw [e]
      simp [unlend]
mutual
theorem init_tree (L : Lim t0) (n : Nat) (st : D) : ∀ (t : T) (N : Nat) (par : Option Nat) (lev wh : Nat) (lay : List Nat) (sib : Option Nat) (o : Bool) (ws : List D) (x3 x4 x5 : D) (f : Nat), At t0 N ⟨t, par, lev, wh, lay, sib⟩ → ws.length + t.size < 1000 → ∃ y3 y4 y5,
    whlD (den P (denFn P (n + 3)) t8_0).t (denSs P (denFn P (n + 3)) w8_2) (f + t.size) [codeAt true 5 t0 N, st, .lst true (ws ++ [spotV o ⟨t, par, lev, wh, lay, sib⟩]), x3, x4, x5] =
    whlD (den P (denFn P (n + 3)) t8_0).t (denSs P (denFn P (n + 3)) w8_2) f [codeAt true 5 t0 (N + t.size), st, .lst true ws, y3, y4, y5]
  | .nd h ts, N, par, lev, wh, lay, sib, o, ws, x3, x4, x5, f, hA, hw => by
    simp only [T.size] at hw ⊢
    obtain ⟨y5, q1, q2⟩ := init_turn L n hA o ws st x3 x4 x5 (by omega)
    obtain ⟨z3, z4, z5, e⟩ := init_list L n st h ts [] N par lev wh lay sib ws (encSpot ⟨.nd h ts, par, lev, wh, lay, sib⟩) (.int N) y5 f hA (by omega)
    refine ⟨z3, z4, z5, ?_⟩
    rw [show f + (1 + sizeL ts) = (f + sizeL ts) + 1 by omega, whl_n q1 q2]
    simp only [sizeL, Nat.add_zero, List.length_nil] at e
    rw [show kidsOf ⟨.nd h ts, par, lev, wh, lay, sib⟩ N = kidPos h N lev wh lay 0 (N + 1) ts from rfl, e]
    rw [show N + (1 + sizeL ts) = N + 1 + sizeL ts by omega]
theorem init_list (L : Lim t0) (n : Nat) (st : D) : ∀ (h : Hd) (ts a : List T) (N : Nat) (par : Option Nat) (lev wh : Nat) (lay : List Nat) (sib : Option Nat) (ws : List D) (x3 x4 x5 : D) (f : Nat), At t0 N ⟨.nd h (a ++ ts), par, lev, wh, lay, sib⟩ → ws.length + sizeL ts < 1000 → ∃ y3 y4 y5,
    whlD (den P (denFn P (n + 3)) t8_0).t (denSs P (denFn P (n + 3)) w8_2) (f + sizeL ts) [codeAt true 5 t0 (N + 1 + sizeL a), st, .lst true (ws ++ ((kidPos h N lev wh lay a.length (N + 1 + sizeL a) ts).map encSpot).reverse), x3, x4, x5] =
    whlD (den P (denFn P (n + 3)) t8_0).t (denSs P (denFn P (n + 3)) w8_2) f [codeAt true 5 t0 (N + 1 + sizeL a + sizeL ts), st, .lst true ws, y3, y4, y5]
  | h, [], a, N, par, lev, wh, lay, sib, ws, x3, x4, x5, f, hA, hw => ⟨x3, x4, x5, by simp [kidPos, sizeL]⟩
  | h, t :: ts, a, N, par, lev, wh, lay, sib, ws, x3, x4, x5, f, hA, hw => by
    simp only [sizeL] at hw ⊢
    have hk := At.kid hA
    have hl : (ws ++ ((kidPos h N lev wh lay (a.length + 1) (N + 1 + sizeL a + t.size) ts).map encSpot).reverse).length ≤ ws.length + sizeL ts := by
      rw [List.length_append, List.length_reverse, List.length_map, kidPos_len]
      have := len_size ts
      omega
    obtain ⟨y3, y4, y5, e1⟩ := init_tree L n st t (N + 1 + sizeL a) (some N) (lev + 1) (h.wh wh) (layK h a.length lay N) (if ts.isEmpty then none else some (N + 1 + sizeL a + t.size)) false (ws ++ ((kidPos h N lev wh lay (a.length + 1) (N + 1 + sizeL a + t.size) ts).map encSpot).reverse) x3 x4 x5 (f + sizeL ts) hk (by omega)
    obtain ⟨z3, z4, z5, e2⟩ := init_list L n st h ts (a ++ [t]) N par lev wh lay sib ws y3 y4 y5 f (by rw [List.append_assoc]; exact hA) (by omega)
    refine ⟨z3, z4, z5, ?_⟩
    rw [kidPos, List.map_cons, List.reverse_cons, ← List.append_assoc, show f + (t.size + sizeL ts) = f + sizeL ts + t.size by omega]
    have e1' := e1
    rw [show spotV false (⟨t, some N, lev + 1, h.wh wh, layK h a.length lay N, if ts.isEmpty then none else some (N + 1 + sizeL a + t.size)⟩ : Pos) = encSpot ⟨t, some N, lev + 1, h.wh wh, layK h a.length lay N, if ts.isEmpty then none else some (N + 1 + sizeL a + t.size)⟩ from rfl] at e1'
    rw [e1']
    rw [show sizeL (a ++ [t]) = sizeL a + t.size by rw [sizeL_app, sizeL, sizeL, Nat.add_zero], List.length_append, List.length_singleton, ← Nat.add_assoc] at e2
    rw [e2]
    rw [show N + 1 + sizeL a + (t.size + sizeL ts) = N + 1 + sizeL a + t.size + sizeL ts by omega]
end
theorem stL_nil : stL t0 0 = [] := rfl
theorem init (L : Lim t0) (n : Nat) : denFn P (n + 4) 8 [.obj true 5 [], encT t0] = .ok .non [codeAt true 5 t0 t0.size, encT t0] := by
  have hs := L.size
  obtain ⟨y3, y4, y5, e⟩ := init_tree L n (encT t0) t0 0 none 1 0 [] none true [] .no .no .no (BIG - t0.size) .root (by rw [List.length_nil]; omega)
  rw [show BIG - t0.size + t0.size = BIG by unfold BIG; omega, Nat.zero_add] at e
  have hb : ∃ m, BIG - t0.size = m + 1 := ⟨BIG - t0.size - 1, by unfold BIG; omega⟩
  obtain ⟨m, hm⟩ := hb
  rw [hm] at e
  have tf : (den P (denFn P (n + 3)) t8_0).t [codeAt true 5 t0 t0.size, encT t0, .lst true [], y3, y4, y5] = .ok false [codeAt true 5 t0 t0.size, encT t0, .lst true [], y3, y4, y5] := by
    simp [t8_0, D.truth]
  rw [whl_f tf] at e
  rw [FN8]
  have z : codeAt true 5 t0 0 = .obj true 5 [.lst true [], .lst true [], .lst true [], .lst true [], .lst true [], .lst true []] := rfl
  rw [z] at e
  simp [b8, setFld, spotV] at e ⊢
  rw [e]
  simp
theorem frz_code (t0 : T) : frz (codeAt true 5 t0 t0.size) = CD t0 := by
  have f : ∀ {α : Type} (g : α → D) (l : List α), (∀ a, frz (g a) = g a) → frzL (l.map g) = l.map g := fun g l h => by
    rw [frzL_eq, List.map_map]
    exact List.map_congr_left fun a _ => h a
  have e1 : frzL (stL t0 t0.size) = stL t0 t0.size := f _ _ fun a => frz_encT _
  have e2 : frzL (hdL t0 t0.size) = hdL t0 t0.size := f _ _ fun a => frz_encH _ _
  have e3 : frzL (paL t0 t0.size) = paL t0 t0.size := f _ _ fun a => frz_optN _
  have e4 : frzL (ptL true t0 t0.size) = ptL false t0 t0.size := by
    unfold ptL
    rw [frzL_eq, List.map_map]
    exact List.map_congr_left fun a _ => by simp
  have e5 : frzL (siL t0 t0.size) = siL t0 t0.size := f _ _ fun a => frz_optN _
  have e6 : frzL (laL t0 t0.size) = laL t0 t0.size := f _ _ fun a => by simp
  simp [codeAt, codeD, e1, e2, e3, e4, e5, e6]
end
end K8
end Dn
end L2
set_option Elab.async false
set_option linter.all false
set_option maxRecDepth 100000
set_option maxHeartbeats 4000000
/-! What the law draws. -/
namespace L2
namespace Dn
namespace K8
open PySem
def srcD (a b k : Int) : D := .lst true [.int a, .int b, .int k]
@[simp] theorem own_src (a b k : Int) : (srcD a b k).own = true := rfl
@[simp] theorem isNo_src (a b k : Int) : (srcD a b k).isNo = false := rfl
theorem draw (n : Nat) (a b k m : Int) (ha : 0 ≤ a) (hm : 0 < m) (hm2 : m < 1000000) :
    ∃ r a' k', denFn P (n + 1) 43 [srcD a b k, .int m] = .ok (.int r) [srcD a' b k', .int m] ∧ 0 ≤ r ∧ r < m ∧ 0 ≤ a' := by
  have md : ∀ x : Int, bopD .mod [.int x, .int m] = some (.int (x.fmod m)) := fun x => b_mod (by omega)
  have fd : ∀ x : Int, bopD .fdiv [.int x, .int m] = some (.int (x.fdiv m)) := fun x => b_fdiv (by omega)
  by_cases h : 0 < a
  · refine ⟨a.fmod m, a.fdiv m, k, ?_, (mod_in a hm).1, (mod_in a hm).2, Int.fdiv_nonneg (by omega) (by omega)⟩
    rw [FN43]
    simp [b43, srcD, h, md, fd, setIx, ixN]
  · have m1 : bopD .mul [.int 8191, .int (k + 1)] = some (.int (8191 * (k + 1))) := b_mul (.inl ⟨by decide, by decide⟩)
    have m2 : ∀ x : Int, bopD .mul [.int x, .int 48271] = some (.int (x * 48271)) := fun x => b_mul (.inr ⟨by decide, by decide⟩)
    have m3 : ∀ x : Int, bopD .mod [.int x, .int 2147483647] = some (.int (x.fmod 2147483647)) := fun x => b_mod (by decide)
    have m4 : ∀ x : Int, bopD .mod [.int x, .int 2147483587] = some (.int (x.fmod 2147483587)) := fun x => b_mod (by decide)
    have m5 : ∀ x : Int, bopD .mod [.int x, .int 2147483549] = some (.int (x.fmod 2147483549)) := fun x => b_mod (by decide)
    have f1 : ∀ x : Int, bopD .fdiv [.int x, .int 1021] = some (.int (x.fdiv 1021)) := fun x => b_fdiv ⟨by decide, by decide⟩
    have f2 : ∀ x : Int, bopD .fdiv [.int x, .int 2011] = some (.int (x.fdiv 2011)) := fun x => b_fdiv ⟨by decide, by decide⟩
    have f3 : ∀ x : Int, bopD .fdiv [.int x, .int 13] = some (.int (x.fdiv 13)) := fun x => b_fdiv ⟨by decide, by decide⟩
    have u1 : ∀ x y : Int, bopD .mul [.int (x.fmod 2147483647), .int y] = some (.int (x.fmod 2147483647 * y)) := fun x y => b_mul (.inl (by have := mod_in x (j := 2147483647) (by decide); omega))
    have u2 : ∀ x y : Int, bopD .mul [.int (x.fmod 2147483587), .int y] = some (.int (x.fmod 2147483587 * y)) := fun x y => b_mul (.inl (by have := mod_in x (j := 2147483587) (by decide); omega))
    have : ∃ z : Int, denFn P (n + 1) 43 [srcD a b k, .int m] = .ok (.int (z.fmod m)) [srcD a b (k + 1), .int m] := by
      refine ⟨((((((b + 8191 * (k + 1)) * 48271).fmod 2147483647 * ((((b + 8191 * (k + 1)) * 48271).fmod 2147483647).fdiv 1021 + 69621 + (k + 1))).fmod 2147483587) *
        (((((b + 8191 * (k + 1)) * 48271).fmod 2147483647 * ((((b + 8191 * (k + 1)) * 48271).fmod 2147483647).fdiv 1021 + 69621 + (k + 1))).fmod 2147483587).fdiv 2011 + 40692)).fmod 2147483549).fdiv 13, ?_⟩
      rw [FN43]
      simp [b43, srcD, h, md, fd, setIx, ixN, m1, m2, m3, m4, m5, f1, f2, f3, u1, u2]
    obtain ⟨z, e⟩ := this
    exact ⟨z.fmod m, a, k + 1, e, (mod_in z hm).1, (mod_in z hm).2, ha⟩
theorem one (n : Nat) (a b k : Int) (ha : 0 ≤ a) (o : Bool) (ds : List D) (hd : ds ≠ []) (hf : allF ds = true) (hl : ds.length < 1000) :
    ∃ x a' k', denFn P (n + 2) 44 [srcD a b k, .lst o ds] = .ok x [srcD a' b k', .lst o ds] ∧ x ∈ ds ∧ 0 ≤ a' := by
  have hp : 0 < ds.length := List.length_pos_iff.mpr hd
  obtain ⟨r, a', k', e, h1, h2, h3⟩ := draw n a b k (ds.length : Nat) ha (by omega) (by omega)
  obtain ⟨j, rfl⟩ : ∃ j : Nat, r = (j : Int) := ⟨r.toNat, by omega⟩
  have hj : j < ds.length := by omega
  have hx : (ds[j]).own = false := by
    unfold allF at hf
    rw [List.all_eq_true] at hf
    simpa using hf _ (List.getElem_mem hj)
  have i : bopD .idx [.lst o ds, .int j] = some ds[j] := b_idx (idx_lst (List.getElem?_eq_getElem hj)) hx
  refine ⟨ds[j], a', k', ?_, List.getElem_mem hj, h3⟩
  rw [FN44]
  cases o <;> simp [b44, e, i]
theorem n_a : nameOk "a" = true := by decide +kernel
theorem n_b : nameOk "b" = true := by decide +kernel
theorem n_h : nameOk "abcdefgh" = true := by decide +kernel
theorem n_z : nameOk "z" = true := by decide +kernel
theorem n_x : nameOk "x" = true := by decide +kernel
theorem n_i : nameOk "i" = true := by decide +kernel
theorem n_w : nameOk "w" = true := by decide +kernel
def Hd.isEnd : Hd → Bool | .ret => true | .rai => true | _ => false
theorem k_end (h : Hd) : bopD .inn [.str h.kind, .tup false [.str "return", .str "raise"]] = some (.bl (Hd.isEnd h)) := by
  apply opB_is; cases h <;> (dsimp only [Hd.kind, Hd.isEnd]; decide +kernel)
theorem leaf (n : Nat) (a b k : Int) (ha : 0 ≤ a) (loops : Nat) (hl : loops < 1000) :
    ∃ t a' k', denFn P (n + 3) 45 [srcD a b k, .int loops] = .ok (encT t) [srcD a' b k', .int loops] ∧ t.wf nameOk loops = true ∧ t.small 1 = true ∧ 0 ≤ a' := by
  obtain ⟨x, a1, k1, e1, hx, h1⟩ := one n a b k ha true [.str "do", .str "do", .str "call", .str "call", .str "return", .str "raise", .str "break", .str "continue", .str "break"] (by simp) rfl (by simp)
  -- a name behind it
  obtain ⟨y, a2, k2, e2, hy, h2⟩ := one n a1 b k1 h1 true [.str "a", .str "b", .str "abcdefgh", .str "z"] (by simp) rfl (by simp)
  have hy : ∃ z, y = .str z ∧ nameOk z = true := by
    simp only [List.mem_cons, List.not_mem_nil, or_false] at hy
    rcases hy with z | z | z | z
    · exact ⟨_, z, n_a⟩
    · exact ⟨_, z, n_b⟩
    · exact ⟨_, z, n_h⟩
    · exact ⟨_, z, n_z⟩
  obtain ⟨z, rfl, hz⟩ := hy
  -- a jump
  have jump : ∀ (h : Nat → Hd), (∀ j, (h j).jump = true) → (∀ j, encT (.nd (h j) []) = .tup false [.str (h 0).kind, .int j]) → (∀ j, 1 ≤ j → j ≤ loops → (T.nd (h j) []).wf nameOk loops = true) → x = .str (h 0).kind →
      ∃ t a' k', denFn P (n + 3) 45 [srcD a b k, .int loops] = .ok (encT t) [srcD a' b k', .int loops] ∧ t.wf nameOk loops = true ∧ t.small 1 = true ∧ 0 ≤ a' := fun h hj he hw hx => by
    have j1 := k_jump (h 0)
    rw [hj, ← hx] at j1
    by_cases h0 : 0 < loops
    · obtain ⟨r, a3, k3, e3, r1, r2, r3⟩ := draw (n + 1) a1 b k1 (loops : Nat) h1 (by omega) (by omega)
      obtain ⟨q, rfl⟩ : ∃ q : Nat, r = (q : Int) := ⟨r.toNat, by omega⟩
      refine ⟨.nd (h (1 + q)) [], a3, k3, ?_, hw _ (by omega) (by omega), by rfl, r3⟩
      rw [he, ← hx, FN45]
      have ho : x.own = false := by rw [hx]; rfl
      have hn : x.isNo = false := by rw [hx]; rfl
      simp [b45, e1, j1, h0, e3, ho, hn]
    · refine ⟨.nd (.do_ "x") [], a1, k1, ?_, by unfold T.wf; simp [Hd.ar, n_x, wfL], by rfl, h1⟩
      have hlz : loops = 0 := by omega
      subst hlz
      rw [FN45]
      have ho : x.own = false := by rw [hx]; rfl
      have hn : x.isNo = false := by rw [hx]; rfl
      simp [b45, e1, j1, ho, hn, encT, encHd]
  -- an end
  have end_ : ∀ (h : Hd), h.jump = false → Hd.isEnd h = true → encT (.nd h []) = .tup false [.str h.kind] → (T.nd h []).wf nameOk loops = true → x = .str h.kind →
      ∃ t a' k', denFn P (n + 3) 45 [srcD a b k, .int loops] = .ok (encT t) [srcD a' b k', .int loops] ∧ t.wf nameOk loops = true ∧ t.small 1 = true ∧ 0 ≤ a' := fun h hj h2 he hw hx => by
    have j1 := k_jump h
    have j2 := k_end h
    rw [hj, ← hx] at j1
    rw [h2, ← hx] at j2
    have ho : x.own = false := by rw [hx]; rfl
    have hn : x.isNo = false := by rw [hx]; rfl
    refine ⟨.nd h [], a1, k1, ?_, hw, by rfl, h1⟩
    rw [he, ← hx, FN45]
    simp [b45, e1, j1, j2, ho, hn]
  -- a step
  have step_ : ∀ (h : Hd), h.jump = false → Hd.isEnd h = false → encT (.nd h []) = .tup false [.str h.kind, .str z] → (T.nd h []).wf nameOk loops = true → x = .str h.kind →
      ∃ t a' k', denFn P (n + 3) 45 [srcD a b k, .int loops] = .ok (encT t) [srcD a' b k', .int loops] ∧ t.wf nameOk loops = true ∧ t.small 1 = true ∧ 0 ≤ a' := fun h hj h2' he hw hx => by
    have j1 := k_jump h
    have j2 := k_end h
    rw [hj, ← hx] at j1
    rw [h2', ← hx] at j2
    have ho : x.own = false := by rw [hx]; rfl
    have hn : x.isNo = false := by rw [hx]; rfl
    refine ⟨.nd h [], a2, k2, ?_, hw, by rfl, h2⟩
    rw [he, ← hx, FN45]
    simp [b45, e1, e2, j1, j2, ho, hn]
  simp only [List.mem_cons, List.not_mem_nil, or_false] at hx
  have wd : ∀ h : Hd, (h = .do_ z ∨ h = .call z) → (T.nd h []).wf nameOk loops = true := fun h hh => by
    rcases hh with rfl | rfl <;> (unfold T.wf; simp [Hd.ar, hz, wfL])
  have wb : ∀ h : Nat → Hd, (h = .brk ∨ h = .cnt) → ∀ j, 1 ≤ j → j ≤ loops → (T.nd (h j) []).wf nameOk loops = true := fun h hh j q1 q2 => by
    rcases hh with rfl | rfl <;> (unfold T.wf; simp [Hd.ar, wfL, q1, q2])
  have we : ∀ h : Hd, (h = .ret ∨ h = .rai) → (T.nd h []).wf nameOk loops = true := fun h hh => by
    rcases hh with rfl | rfl <;> (unfold T.wf; simp [Hd.ar, wfL])
  rcases hx with q | q | q | q | q | q | q | q | q
  · exact step_ (.do_ z) rfl rfl rfl (wd _ (.inl rfl)) q
  · exact step_ (.do_ z) rfl rfl rfl (wd _ (.inl rfl)) q
  · exact step_ (.call z) rfl rfl rfl (wd _ (.inr rfl)) q
  · exact step_ (.call z) rfl rfl rfl (wd _ (.inr rfl)) q
  · exact end_ .ret rfl rfl rfl (we _ (.inl rfl)) q
  · exact end_ .rai rfl rfl rfl (we _ (.inr rfl)) q
  · exact jump .brk (fun _ => rfl) (fun _ => rfl) (wb _ (.inl rfl)) q
  · exact jump .cnt (fun _ => rfl) (fun _ => rfl) (wb _ (.inr rfl)) q
  · exact jump .brk (fun _ => rfl) (fun _ => rfl) (wb _ (.inl rfl)) q
/-- what a statement's text gives at a depth -/
def StOk (n d : Nat) : Prop := ∀ (loops : Nat) (a b k : Int), 0 ≤ a → loops + d < 1000 →
  ∃ t a' k', denFn P n 46 [srcD a b k, .int (d : Nat), .int loops] = .ok (encT t) [srcD a' b k', .int (d : Nat), .int loops] ∧ t.wf nameOk loops = true ∧ t.small (max d 1) = true ∧ 0 ≤ a'
theorem seq_loop (n d : Nat) (ih : StOk n d) (hd : 1 ≤ d) (loops : Nat) (hl : loops + d < 1000) (b : Int) (x3 x4 x5 : D) : ∀ (items : List D) (acc : List T) (a k : Int), (∀ i ∈ items, i.isNo = false) → 0 ≤ a → acc.length + items.length ≤ 3 → (∀ t ∈ acc, t.wf nameOk loops = true ∧ t.small d = true) →
    ∃ ts a' k', compD (turnC (denG P (denFn P n) (.nm 6)) (den P (denFn P n) (.lit (.bl true))).t (den P (denFn P n) x46_0).e [6]) items [srcD a b k, .int ((d : Int) + 1), .int loops, x3, x4, x5, .no] (encL acc) =
      .ok (encL ts) [srcD a' b k', .int ((d : Int) + 1), .int loops, x3, x4, x5, .no] ∧ ts.length = acc.length + items.length ∧ (∀ t ∈ ts, t.wf nameOk loops = true ∧ t.small d = true) ∧ 0 ≤ a'
  | [], acc, a, k, _, ha, _, hacc => ⟨acc, a, k, rfl, rfl, hacc, ha⟩
  | i :: items, acc, a, k, hi, ha, hn, hacc => by
    obtain ⟨t, a1, k1, e1, w1, s1, h1⟩ := ih loops a b k ha hl
    rw [Nat.max_eq_left hd] at s1
    rw [List.length_cons] at hn
    obtain ⟨ts, a2, k2, e2, l2, w2, h2⟩ := seq_loop n d ih hd loops hl b x3 x4 x5 items (acc ++ [t]) a1 k1 (fun j hj => hi j (List.mem_cons_of_mem _ hj)) h1 (by rw [List.length_append, List.length_singleton]; omega) (fun u hu => by
      rcases List.mem_append.mp hu with z | z
      · exact hacc u z
      · rw [List.mem_singleton] at z
        rw [z]
        exact ⟨w1, s1⟩)
    have ea : encL acc ++ [encT t] = encL (acc ++ [t]) := by rw [encL_map, encL_map, List.map_append]; rfl
    refine ⟨ts, a2, k2, ?_, by rw [l2, List.length_append, List.length_singleton, List.length_cons]; omega, w2, h2⟩
    rw [comp_y (x := encT t) (e2 := [srcD a1 b k1, .int ((d : Int) + 1), .int loops, x3, x4, x5, .no])]
    · rw [ea]; exact e2
    · have hz := hi i List.mem_cons_self
      simp [x46_0, e1, wipeE, Int.add_sub_cancel]
    · rw [encL_len, LINE_is]; omega
theorem statement : ∀ (d n : Nat), StOk (n + d + 4) d
  | d, n => by
    intro loops a b k ha hl
    obtain ⟨r, a1, k1, e1, r1, r2, h1⟩ := draw (n + d + 2) a b k 7 ha (by decide) (by decide)
    have hm := Nat.le_max_right d 1
    have up : ∀ t : T, t.small 1 = true → t.small (max d 1) = true := fun t ht => by
      have : ∀ j, t.small (1 + j) = true := fun j => by
        induction j with
        | zero => exact ht
        | succ j ih => exact small_up t _ ih
      have z := this (max d 1 - 1)
      rw [show 1 + (max d 1 - 1) = max d 1 by omega] at z
      exact z
    by_cases hd : d < 2
    · obtain ⟨t, a2, k2, e2, w2, s2, h2⟩ := leaf (n + d) a b k ha loops (by omega)
      refine ⟨t, a2, k2, ?_, w2, up t s2, h2⟩
      rw [FN46]
      have hd2 : (d : Int) < 2 := by omega
      simp [b46, hd2, e2]
    · have hd2 : ¬ (d : Int) < 2 := by omega
      by_cases hr : r = 0
      · obtain ⟨t, a2, k2, e2, w2, s2, h2⟩ := leaf (n + d) a1 b k1 h1 loops (by omega)
        refine ⟨t, a2, k2, ?_, w2, up t s2, h2⟩
        rw [FN46]
        simp [b46, hd2, e1, hr, e2]
      · obtain ⟨d, rfl⟩ : ∃ c, d = c + 1 := ⟨d - 1, by omega⟩
        have ih := statement d n
        obtain ⟨x, a2, k2, e2, hx, h2⟩ := one (n + d + 2) a1 b k1 h1 true [.str "if", .str "while", .str "seq", .str "seq", .str "try", .str "final", .str "final", .str "final"] (by simp) rfl (by simp)
        rw [show n + (d + 1) + 4 = (n + d + 4) + 1 by omega]
        rw [show n + (d + 1) + 2 + 1 = n + d + 4 by omega] at e1
        have hd1 : 1 ≤ d := by omega
        have hmx : max d 1 = d := Nat.max_eq_left hd1
        have hmx2 : max (d + 1) 1 = d + 1 := Nat.max_eq_left (by omega)
        rw [hmx2]
        simp only [Int.natCast_add, Int.natCast_one] at hd2
        -- two parts
        have two : ∃ t1 t2 a' k', (∃ a1' k1', denFn P (n + d + 4) 46 [srcD a2 b k2, .int (d : Nat), .int loops] = .ok (encT t1) [srcD a1' b k1', .int (d : Nat), .int loops] ∧ denFn P (n + d + 4) 46 [srcD a1' b k1', .int (d : Nat), .int loops] = .ok (encT t2) [srcD a' b k', .int (d : Nat), .int loops]) ∧
            (t1.wf nameOk loops = true ∧ t1.small d = true) ∧ (t2.wf nameOk loops = true ∧ t2.small d = true) ∧ 0 ≤ a' := by
          obtain ⟨t1, a3, k3, e3, w3, s3, h3⟩ := ih loops a2 b k2 h2 (by omega)
          obtain ⟨t2, a4, k4, e4, w4, s4, h4⟩ := ih loops a3 b k3 h3 (by omega)
          rw [hmx] at s3 s4
          exact ⟨t1, t2, a4, k4, ⟨a3, k3, e3, e4⟩, ⟨w3, s3⟩, ⟨w4, s4⟩, h4⟩
        have pair : ∀ h : Hd, h.pair = true → h.isSeq = false → h.isW = false → h.isIf = false → (∀ ts, encT (.nd h ts) = .tup false (.str h.kind :: encL ts)) → (∀ t1 t2 : T, t1.wf nameOk loops = true → t2.wf nameOk loops = true → (T.nd h [t1, t2]).wf nameOk loops = true) → x = .str h.kind →
            ∃ t a' k', denFn P (n + d + 4 + 1) 46 [srcD a b k, .int (d + 1 : Nat), .int loops] = .ok (encT t) [srcD a' b k', .int (d + 1 : Nat), .int loops] ∧ t.wf nameOk loops = true ∧ t.small (d + 1) = true ∧ 0 ≤ a' := fun h p1 p2 p3 p4 he hw hx => by
          have q1 := k_seq h
          have q2 := k_whl h
          have q3 := k_if h
          rw [p2, ← hx] at q1
          rw [p3, ← hx] at q2
          rw [p4, ← hx] at q3
          have ho : x.own = false := by rw [hx]; rfl
          have hn : x.isNo = false := by rw [hx]; rfl
          obtain ⟨t1, t2, a4, k4, ⟨a3, k3, e3, e4⟩, ⟨w3, s3⟩, ⟨w4, s4⟩, h4⟩ := two
          refine ⟨.nd h [t1, t2], a4, k4, ?_, hw t1 t2 w3 w4, by unfold T.small; simp [smallL, s3, s4], h4⟩
          rw [he, ← hx, FN46]
          simp [b46, hd2, e1, hr, e2, q1, q2, q3, ho, hn, Int.add_sub_cancel, e3, e4, encL]
        simp only [List.mem_cons, List.not_mem_nil, or_false] at hx
        have final_ : x = .str "final" → _ := fun q => pair .fin rfl rfl rfl rfl (fun _ => rfl) (fun t1 t2 u1 u2 => by unfold T.wf; simp [Hd.ar, wfL, Hd.wh, Hd.isW, u1, u2]) q
        have seq_ : x = .str "seq" → ∃ t a' k', denFn P (n + d + 4 + 1) 46 [srcD a b k, .int (d + 1 : Nat), .int loops] = .ok (encT t) [srcD a' b k', .int (d + 1 : Nat), .int loops] ∧ t.wf nameOk loops = true ∧ t.small (d + 1) = true ∧ 0 ≤ a' := fun hx => by
          have q1 : bopD .eq [x, .str "seq"] = some (.bl true) := by rw [hx]; exact k_seq .seq
          have ho : x.own = false := by rw [hx]; rfl
          have hn : x.isNo = false := by rw [hx]; rfl
          obtain ⟨r3, a3, k3, e3, u1, u2, h3⟩ := draw (n + d + 3) a2 b k2 3 h2 (by decide) (by decide)
          have hit : ∀ i ∈ rangeD 0 (1 + r3), i.isNo = false := fun i hi => by
            obtain ⟨_, _, e⟩ := List.mem_map.mp hi
            rw [← e]; rfl
          have hil : (rangeD 0 (1 + r3)).length = (1 + r3).toNat := by unfold rangeD; rw [List.length_map, List.length_range]; congr 1; omega
          obtain ⟨ts, a4, k4, e4, l4, w4, h4⟩ := seq_loop (n + d + 4) d ih hd1 loops (by omega) b .no .no .no (rangeD 0 (1 + r3)) [] a3 k3 hit h3 (by rw [hil, List.length_nil]; omega) (fun t ht => by cases ht)
          have c1 : -4611686018427387904 ≤ 1 + r3 := by omega
          have c2 : 1 + r3 < 4611686018427387904 := by omega
          have lts : 0 < ts.length := by rw [l4, hil, List.length_nil]; omega
          have wl : ∀ ts : List T, (∀ t ∈ ts, t.wf nameOk loops = true ∧ t.small d = true) → wfL nameOk ts loops = true ∧ smallL ts d = true := fun ts => by
            induction ts with
            | nil => exact fun _ => ⟨rfl, rfl⟩
            | cons t ts ih =>
              intro h
              obtain ⟨i1, i2⟩ := ih fun u hu => h u (List.mem_cons_of_mem _ hu)
              obtain ⟨i3, i4⟩ := h t List.mem_cons_self
              unfold wfL smallL
              rw [i1, i2, i3, i4]
              exact ⟨rfl, rfl⟩
          obtain ⟨v1, v2⟩ := wl ts w4
          refine ⟨.nd .seq ts, a4, k4, ?_, by unfold T.wf; simp [Hd.ar, Hd.wh, Hd.isW, lts, v1], by unfold T.small; rw [v2, Bool.and_true, decide_eq_true_eq, l4, hil, List.length_nil]; omega, h4⟩
          rw [FN46, show encT (.nd .seq ts) = .tup false [x, .tup false (encL ts)] by rw [hx]; rfl]
          simp only [de_lit, dG_nm, encL] at e4
          simp [b46, hd2, e1, hr, e2, q1, ho, hn, e3, c1, c2, wipeE] at e4 ⊢
          simp [e4, unlend, ho]
        have while_ : x = .str "while" → ∃ t a' k', denFn P (n + d + 4 + 1) 46 [srcD a b k, .int (d + 1 : Nat), .int loops] = .ok (encT t) [srcD a' b k', .int (d + 1 : Nat), .int loops] ∧ t.wf nameOk loops = true ∧ t.small (d + 1) = true ∧ 0 ≤ a' := fun hx => by
          have q1 : bopD .eq [x, .str "seq"] = some (.bl false) := by rw [hx]; exact k_seq (.whl "w")
          have q2 : bopD .eq [x, .str "while"] = some (.bl true) := by rw [hx]; exact k_whl (.whl "w")
          have ho : x.own = false := by rw [hx]; rfl
          have hn : x.isNo = false := by rw [hx]; rfl
          obtain ⟨y, a3, k3, e3, hy, h3⟩ := one (n + d + 2) a2 b k2 h2 true [.str "a", .str "w"] (by simp) rfl (by simp)
          have hy : ∃ z, y = .str z ∧ nameOk z = true := by
            simp only [List.mem_cons, List.not_mem_nil, or_false] at hy
            rcases hy with z | z
            · exact ⟨_, z, n_a⟩
            · exact ⟨_, z, n_w⟩
          obtain ⟨z, rfl, hz⟩ := hy
          obtain ⟨t1, a4, k4, e4, w4, s4, h4⟩ := ih (loops + 1) a3 b k3 h3 (by omega)
          rw [hmx] at s4
          simp only [Int.natCast_add, Int.natCast_one] at e4
          refine ⟨.nd (.whl z) [t1], a4, k4, ?_, by unfold T.wf; simp [Hd.ar, wfL, Hd.wh, Hd.isW, hz, w4], by unfold T.small; simp [smallL, s4], h4⟩
          rw [FN46, show encT (.nd (.whl z) [t1]) = .tup false [x, .str z, encT t1] by rw [hx]; rfl]
          simp [b46, hd2, e1, hr, e2, q1, q2, ho, hn, e3, e4, Int.add_sub_cancel]
        have if_ : x = .str "if" → ∃ t a' k', denFn P (n + d + 4 + 1) 46 [srcD a b k, .int (d + 1 : Nat), .int loops] = .ok (encT t) [srcD a' b k', .int (d + 1 : Nat), .int loops] ∧ t.wf nameOk loops = true ∧ t.small (d + 1) = true ∧ 0 ≤ a' := fun hx => by
          have q1 : bopD .eq [x, .str "seq"] = some (.bl false) := by rw [hx]; exact k_seq (.ife "i")
          have q2 : bopD .eq [x, .str "while"] = some (.bl false) := by rw [hx]; exact k_whl (.ife "i")
          have q3 : bopD .eq [x, .str "if"] = some (.bl true) := by rw [hx]; exact k_if (.ife "i")
          have ho : x.own = false := by rw [hx]; rfl
          have hn : x.isNo = false := by rw [hx]; rfl
          obtain ⟨t1, t2, a4, k4, ⟨a3, k3, e3, e4⟩, ⟨w3, s3⟩, ⟨w4, s4⟩, h4⟩ := two
          refine ⟨.nd (.ife "i") [t1, t2], a4, k4, ?_, by unfold T.wf; simp [Hd.ar, wfL, Hd.wh, Hd.isW, n_i, w3, w4], by unfold T.small; simp [smallL, s3, s4], h4⟩
          rw [FN46, show encT (.nd (.ife "i") [t1, t2]) = .tup false [x, .str "i", encT t1, encT t2] by rw [hx]; rfl]
          simp [b46, hd2, e1, hr, e2, q1, q2, q3, ho, hn, Int.add_sub_cancel, e3, e4]
        rcases hx with q | q | q | q | q | q | q | q
        · exact if_ q
        · exact while_ q
        · exact seq_ q
        · exact seq_ q
        · exact pair .try_ rfl rfl rfl rfl (fun _ => rfl) (fun t1 t2 u1 u2 => by unfold T.wf; simp [Hd.ar, wfL, Hd.wh, Hd.isW, u1, u2]) q
        · exact final_ q
        · exact final_ q
        · exact final_ q
end K8
end Dn
end L2
set_option Elab.async false
set_option linter.all false
set_option maxRecDepth 100000
set_option maxHeartbeats 4000000
/-! The law. -/
namespace L2
namespace Dn
namespace K8
open PySem
theorem ans_loop (n : Nat) (b most : Int) : ∀ (items : List D) (acc : List Nat) (a k : Int), (∀ i ∈ items, i.isNo = false) → 0 ≤ a → acc.length + items.length ≤ 1000 → (∀ x ∈ acc, x ≤ 1) →
    ∃ as a' k', compD (turnC (denG P (denFn P (n + 1)) (.nm 2)) (den P (denFn P (n + 1)) (.lit (.bl true))).t (den P (denFn P (n + 1)) x47_0).e [2]) items [srcD a b k, .int most, .no] (encNs acc) =
      .ok (encNs as) [srcD a' b k', .int most, .no] ∧ as.length = acc.length + items.length ∧ (∀ x ∈ as, x ≤ 1) ∧ 0 ≤ a'
  | [], acc, a, k, _, ha, _, hacc => ⟨acc, a, k, rfl, rfl, hacc, ha⟩
  | i :: items, acc, a, k, hi, ha, hn, hacc => by
    obtain ⟨r, a1, k1, e1, r1, r2, h1⟩ := draw n a b k 2 ha (by decide) (by decide)
    obtain ⟨q, rfl⟩ : ∃ q : Nat, r = (q : Int) := ⟨r.toNat, by omega⟩
    rw [List.length_cons] at hn
    obtain ⟨as, a2, k2, e2, l2, w2, h2⟩ := ans_loop n b most items (acc ++ [q]) a1 k1 (fun j hj => hi j (List.mem_cons_of_mem _ hj)) h1 (by rw [List.length_append, List.length_singleton]; omega) (fun u hu => by
      rcases List.mem_append.mp hu with z | z
      · exact hacc u z
      · rw [List.mem_singleton] at z
        omega)
    refine ⟨as, a2, k2, ?_, by rw [l2, List.length_append, List.length_singleton, List.length_cons]; omega, w2, h2⟩
    rw [comp_y (x := .int q) (e2 := [srcD a1 b k1, .int most, .no])]
    · rw [encNs_app, encNs_one] at e2
      exact e2
    · have hz := hi i List.mem_cons_self
      simp [x47_0, e1, wipeE]
    · rw [encNs_len, LINE_is]; omega
theorem answers (n : Nat) (a b k : Int) (ha : 0 ≤ a) : ∃ as a' k', denFn P (n + 2) 47 [srcD a b k, .int 12] = .ok (.lst true (encNs as)) [srcD a' b k', .int 12] ∧ as.length ≤ 12 ∧ (∀ x ∈ as, x ≤ 1) ∧ 0 ≤ a' := by
  obtain ⟨r, a1, k1, e1, r1, r2, h1⟩ := draw n a b k 13 ha (by decide) (by decide)
  have hit : ∀ i ∈ rangeD 0 r, i.isNo = false := fun i hi => by
    obtain ⟨_, _, e⟩ := List.mem_map.mp hi
    rw [← e]; rfl
  have hil : (rangeD 0 r).length = r.toNat := by unfold rangeD; rw [List.length_map, List.length_range]; congr 1; omega
  obtain ⟨as, a2, k2, e2, l2, w2, h2⟩ := ans_loop n b 12 (rangeD 0 r) [] a1 k1 hit h1 (by rw [hil, List.length_nil]; omega) (fun t ht => by cases ht)
  refine ⟨as, a2, k2, ?_, by rw [l2, hil, List.length_nil]; omega, w2, h2⟩
  have c1 : -4611686018427387904 ≤ r := by omega
  have c2 : r < 4611686018427387904 := by omega
  rw [FN47]
  simp only [de_lit, dG_nm, encNs_nil] at e2
  simp [b47, e1, c1, c2, wipeE] at e2 ⊢
  simp [e2, unlend]
@[simp] theorem sub_aa : P.sub 3 3 = some true := rfl
@[simp] theorem gd_run : P.gd 1039 = .gl 1039 := rfl
@[simp] theorem gd_mom : P.gd 1040 = .gl 1040 := rfl
section
variable {t0 : T}
theorem ret_eq : bopD .eq [.str "returned", .str "returned"] = some (.bl true) := by rw [b_eqs, decide_eq_true rfl]
theorem said_ok (n : Nat) (d r1 r2 : D) (hd : d.isNo = false) (h1 : denFn P (n + 8) 39 [CD t0, d] = .ok r1 [CD t0, d]) (h2 : denFn P (n + 8) 40 [CD t0, d] = .ok r2 [CD t0, d]) :
    denFn P (n + 9) 48 [CD t0, d] = .ok (.str "returned") [CD t0, d] := by
  rw [FN48]
  cases ho : d.own <;> simp [b48, w48_0, walkO, forD, hd, ho, h1, h2, ret_eq, unlend]
theorem said_bad (n : Nat) (d : D) (j : Int) (hd : d.isNo = false) (h1 : denFn P (n + 8) 39 [CD t0, d] = .exc ⟨3, .int j⟩ [CD t0, d]) (h2 : denFn P (n + 8) 40 [CD t0, d] = .exc ⟨3, .int j⟩ [CD t0, d]) :
    denFn P (n + 9) 48 [CD t0, d] = .ok (.int j) [CD t0, d] := by
  rw [FN48]
  cases ho : d.own <;> simp [b48, w48_0, walkO, forD, hd, ho, h1, h2, denH, offN, unlend]
theorem said_list (L : Lim t0) (n : Nat) (o : Bool) (as : List Nat) (ha : ∀ a ∈ as, a ≤ 1) (hl : as.length ≤ 1000) : denFn P (n + 9) 48 [CD t0, .lst o (encNs as)] = .ok (.str "returned") [CD t0, .lst o (encNs as)] := by
  have hs := L.size
  obtain ⟨r1, e1⟩ := run_ok L.wf (by omega) n o as ha hl
  obtain ⟨r2, e2⟩ := moment_ok L.wf (by omega) n o as ha hl
  exact said_ok n _ r1 r2 rfl e1 e2
theorem said_at (n : Nat) (o : Bool) (ds : List D) (j : Nat) (h : ∀ d ∈ ds, plainV d = true) (hl : ds.length ≤ 1000) (hb : firstBad ds 0 = some j) : denFn P (n + 9) 48 [CD t0, .lst o ds] = .ok (.int j) [CD t0, .lst o ds] := by
  have c := check_list (n + 4) o ds h hl
  rw [hb] at c
  exact said_bad n _ _ rfl (run_bad (n + 6) _ _ c rfl) (moment_bad (n + 6) _ _ c rfl)
theorem said_long (n : Nat) (o : Bool) (ds : List D) (hl : 1000 < ds.length) : denFn P (n + 9) 48 [CD t0, .lst o ds] = .ok (.int (-1)) [CD t0, .lst o ds] :=
  said_bad n _ _ rfl (run_bad (n + 6) _ _ (check_long (n + 4) o ds hl) rfl) (moment_bad (n + 6) _ _ (check_long (n + 4) o ds hl) rfl)
theorem said_none (n : Nat) (d : D) (h : plainV d = true) (hl : isLst d = false) : denFn P (n + 9) 48 [CD t0, d] = .ok (.int (-1)) [CD t0, d] :=
  said_bad n _ _ (plain_own h).2 (run_bad (n + 6) _ _ (check_none (n + 4) d h hl) (plain_own h).2) (moment_bad (n + 6) _ _ (check_none (n + 4) d h hl) (plain_own h).2)
/-- the first wrong one behind right ones -/
theorem bad_at (odd : D) (rest : List D) (ho : isAns odd = false) : ∀ (as : List Nat) (i : Nat), (∀ a ∈ as, a ≤ 1) → firstBad (encNs as ++ odd :: rest) i = some (i + as.length)
  | [], i, _ => by
    show (if isAns odd then firstBad rest (i + 1) else some i) = _
    rw [ho]; rfl
  | a :: as, i, h => by
    show (if isAns (.int a) then firstBad (encNs as ++ odd :: rest) (i + 1) else some i) = _
    have h1 := h a List.mem_cons_self
    have : isAns (.int a) = true := by
      unfold isAns
      rw [Bool.and_eq_true, decide_eq_true_eq, decide_eq_true_eq]
      omega
    rw [if_pos this, bad_at odd rest ho as (i + 1) fun b hb => h b (List.mem_cons_of_mem _ hb), List.length_cons]
    congr 1
    omega
theorem lim_small {d : Nat} (hd : d ≤ 5) (hw : t0.wf nameOk 0 = true) (hs : t0.small d = true) : Lim t0 where
  size := by
    have h1 := small_size t0 d hs
    have : big d ≤ 400 := by
      match d, hd with
      | 0, _ => decide
      | 1, _ => decide
      | 2, _ => decide
      | 3, _ => decide
      | 4, _ => decide
      | 5, _ => decide
    omega
  wf := hw
  lev n p h := by
    have h1 := (h.small hs).1
    have h2 := h.lev.1
    exact ⟨by omega, by omega⟩
theorem b_addl (o1 o2 : Bool) {a b : List D} (h : allF a = true) (h2 : allF b = true) (h3 : a.length + b.length ≤ 16777216) : bopD .add [.lst o1 a, .lst o2 b] = some (.lst true (a ++ b)) := by
  show (if allF a && allF b && decide (a.length + b.length ≤ LINE) then some (D.lst true (a ++ b)) else none) = _
  rw [h, h2, LINE_is, decide_eq_true h3]
  rfl
theorem b_mull (o : Bool) {x : D} (k : Nat) (h : x.own = false) (hk : k ≤ 10000) : bopD .mul [.lst o [x], .int k] = some (.lst true (List.replicate k x)) := by
  show (if allF [x] && decide (-(2 ^ 63) ≤ (k : Int) ∧ (k : Int) < 2 ^ 63 ∧ [x].length * (k : Int).toNat ≤ LINE) then some (D.lst true (List.replicate (k : Int).toNat [x]).flatten) else none) = _
  have : decide (-(2 ^ 63) ≤ (k : Int) ∧ (k : Int) < 2 ^ 63 ∧ [x].length * (k : Int).toNat ≤ LINE) = true := by
    rw [decide_eq_true_eq, LINE_is, List.length_singleton, Int.toNat_natCast]
    omega
  rw [this, allF_cons, h, Int.toNat_natCast, List.flatten_replicate_singleton]
  rfl
end
end K8
end Dn
end L2
set_option Elab.async false
set_option linter.all false
set_option maxRecDepth 100000
set_option maxHeartbeats 4000000
/-! The law's loops. -/
namespace L2
namespace Dn
namespace K8
open PySem
section
variable {t0 : T}
theorem take_ns (as : List Nat) (j : Nat) (hj : j ≤ as.length) : slcD (.lst true (encNs as)) none (some (j : Int)) = some (.lst true (encNs (as.take j))) := by
  show (if allF (encNs as) then some (D.lst true (slD (encNs as) none (some j))) else none) = _
  rw [allF_ns, if_pos rfl]
  unfold slD
  have : HT.sIx (encNs as).length (encNs as).length (some (j : Int)) = j := by
    unfold HT.sIx
    dsimp only
    rw [if_neg (by omega), encNs_len, Int.toNat_natCast]
    omega
  rw [this]
  unfold HT.sIx encNs
  simp
theorem drop_ns (as : List Nat) (j : Nat) (hj : j ≤ as.length) : slcD (.lst true (encNs as)) (some (j : Int)) none = some (.lst true (encNs (as.drop j))) := by
  show (if allF (encNs as) then some (D.lst true (slD (encNs as) (some j) none)) else none) = _
  rw [allF_ns, if_pos rfl]
  unfold slD
  have : HT.sIx (encNs as).length 0 (some (j : Int)) = j := by
    unfold HT.sIx
    dsimp only
    rw [if_neg (by omega), encNs_len, Int.toNat_natCast]
    omega
  rw [this]
  unfold HT.sIx encNs
  dsimp only
  rw [List.take_of_length_le (by simp), List.map_drop]
theorem odd_turn (L : Lim t0) (n : Nat) (S c x2 odd x6 x7 x8 : D) (a b k : Int) (ha : 0 ≤ a) (hp : plainV odd = true) (hi : isAns odd = false) : ∃ a' k' y6 y7 y8,
    denSs P (denFn P (n + 9)) w49_0 [S, c, x2, srcD a b k, CD t0, odd, x6, x7, x8] = .nxt [S, c, x2, srcD a' b k', CD t0, odd, y6, y7, y8] ∧ 0 ≤ a' := by
  obtain ⟨as, a1, k1, e1, l1, w1, h1⟩ := answers (n + 7) a b k ha
  obtain ⟨r, a2, k2, e2, r1, r2, h2⟩ := draw (n + 8) a1 b k1 (as.length + 1 : Nat) h1 (by omega) (by omega)
  obtain ⟨j, rfl⟩ : ∃ q : Nat, r = (q : Int) := ⟨r.toNat, by omega⟩
  have hj : j ≤ as.length := by omega
  obtain ⟨y, a3, k3, e3, hy, h3⟩ := one (n + 7) a2 b k2 h2 false [.lst false [], .lst false [.non], .lst false [.int 7, .int 0]] (by simp) rfl (by simp)
  have hy : ∃ ext, y = .lst false ext ∧ allF ext = true ∧ ext.length ≤ 2 ∧ ∀ d ∈ ext, plainV d = true := by
    simp only [List.mem_cons, List.not_mem_nil, or_false] at hy
    rcases hy with z | z | z
    · exact ⟨[], z, rfl, by simp, fun d hd => by cases hd⟩
    · exact ⟨_, z, rfl, by simp, fun d hd => by simp at hd; rw [hd]; rfl⟩
    · exact ⟨_, z, rfl, by simp, fun d hd => by simp at hd; rcases hd with rfl | rfl <;> rfl⟩
  obtain ⟨ext, rfl, x1, xl, xp⟩ := hy
  obtain ⟨po, pn⟩ := plain_own hp
  have s1 := take_ns as j hj
  have s2 := drop_ns as j hj
  have lt : (as.take j).length = j := by rw [List.length_take]; omega
  have ld : (as.drop j).length ≤ 12 := by rw [List.length_drop]; omega
  have g1 := b_addl true false (allF_ns (as.drop j)) x1 (by rw [encNs_len]; omega)
  have g2 := b_addl true true (a := encNs (as.take j)) (b := [odd]) (allF_ns _) (by simp [po]) (by rw [encNs_len]; simp; omega)
  have g3 := b_addl true true (a := encNs (as.take j) ++ [odd]) (b := encNs (as.drop j) ++ ext) (by simp [po]) (by simp [x1]) (by simp only [List.length_append, encNs_len, List.length_singleton]; omega)
  have g4 : bopD .mul [.lst true [odd], .int 3] = some (.lst true (List.replicate 3 odd)) := b_mull true (x := odd) 3 po (by decide)
  -- the list with the odd one
  have q1 := said_at (t0 := t0) n true (encNs (as.take j) ++ [odd] ++ (encNs (as.drop j) ++ ext)) j (fun d hd => by
    simp only [List.mem_append, List.mem_singleton] at hd
    rcases hd with (hd | hd) | hd | hd
    · exact plain_ns _ d hd
    · rw [hd]; exact hp
    · exact plain_ns _ d hd
    · exact xp d hd) (by simp only [List.length_append, encNs_len, List.length_singleton]; omega) (by
    rw [List.append_assoc, List.singleton_append, bad_at odd _ hi _ 0 fun x hx => w1 x (List.mem_of_mem_take hx), lt, Nat.zero_add])
  have q2 : denFn P (n + 9) 48 [CD t0, .lst true (List.replicate 3 odd)] = .ok (.int 0) [CD t0, .lst true (List.replicate 3 odd)] := said_at (t0 := t0) n true (List.replicate 3 odd) 0 (fun d hd => by rw [List.eq_of_mem_replicate hd]; exact hp) (by simp) (by
    have := bad_at odd (List.replicate 2 odd) hi [] 0 (fun x hx => by cases hx)
    exact this)
  have q3 := said_list L n true as w1 (by omega)
  have ne1 : bopD .ne [.str "returned", .str "returned"] = some (.bl false) := by rw [b_nes, decide_eq_true rfl]; rfl
  refine ⟨a3, k3, ?_⟩
  refine ⟨.lst true (encNs as), .int j, .lst true (encNs (as.drop j) ++ ext), ?_, h3⟩
  simp only [Int.natCast_add, Int.natCast_one] at e2
  simp only [List.append_assoc, List.cons_append, List.nil_append] at g3 q1
  have hz : ¬ ((j : Int) = 0 ∧ False) := fun h => h.2
  simp [-List.reduceReplicate, w49_0, e1, e2, e3, s1, s2, g1, g2, g3, g4, q1, q2, q3, ne1, po, pn]
theorem odd_loop (L : Lim t0) (n : Nat) (S c x2 : D) (b : Int) : ∀ (items : List D) (a k : Int) (x5 x6 x7 x8 : D), (∀ d ∈ items, plainV d = true ∧ isAns d = false) → 0 ≤ a → ∃ a' k' y5 y6 y7 y8,
    forD (sTurn (gName_ 5) (denSs P (denFn P (n + 9)) w49_0)) items [S, c, x2, srcD a b k, CD t0, x5, x6, x7, x8] = .nxt [S, c, x2, srcD a' b k', CD t0, y5, y6, y7, y8] ∧ 0 ≤ a'
  | [], a, k, x5, x6, x7, x8, _, ha => ⟨a, k, x5, x6, x7, x8, rfl, ha⟩
  | d :: items, a, k, x5, x6, x7, x8, h, ha => by
    obtain ⟨h1, h2⟩ := h d List.mem_cons_self
    obtain ⟨a1, k1, y6, y7, y8, e1, ha1⟩ := odd_turn L n S c x2 d x6 x7 x8 a b k ha h1 h2
    obtain ⟨a2, k2, z5, z6, z7, z8, e2, ha2⟩ := odd_loop L n S c x2 b items a1 k1 d y6 y7 y8 (fun q hq => h q (List.mem_cons_of_mem _ hq)) ha1
    refine ⟨a2, k2, z5, z6, z7, z8, ?_, ha2⟩
    rw [for_n (e2 := [S, c, x2, srcD a1 b k1, CD t0, d, y6, y7, y8])]
    · exact e2
    · simp only [k_sTurn, k_gName, rS_ok]
      exact e1
theorem no_loop (n : Nat) (S c x2 x3 x6 x7 x8 : D) : ∀ (items : List D) (x5 : D), (∀ d ∈ items, d.isNo = false ∧ d.own = false ∧ denFn P (n + 9) 48 [CD t0, d] = .ok (.int (-1)) [CD t0, d]) → ∃ y5,
    forD (sTurn (gName_ 5) (denSs P (denFn P (n + 9)) w49_1)) items [S, c, x2, x3, CD t0, x5, x6, x7, x8] = .nxt [S, c, x2, x3, CD t0, y5, x6, x7, x8]
  | [], x5, _ => ⟨x5, rfl⟩
  | d :: items, x5, h => by
    obtain ⟨h1, h2, h3⟩ := h d List.mem_cons_self
    obtain ⟨z5, e2⟩ := no_loop n S c x2 x3 x6 x7 x8 items d fun q hq => h q (List.mem_cons_of_mem _ hq)
    refine ⟨z5, ?_⟩
    rw [for_n (e2 := [S, c, x2, x3, CD t0, d, x6, x7, x8])]
    · exact e2
    · simp [w49_1, h1, h2, h3]
theorem source_of (n : Nat) (c : Int) : ∃ a b, denFn P (n + 1) 42 [.int c] = .ok (srcD a b 0) [.int c] ∧ 0 ≤ a := by
  have pw : bopD .pow [.int 10, .int 18] = some (.int 1000000000000000000) := b_pow ⟨by decide, by decide, by decide⟩
  have m3 : ∀ x : Int, bopD .mod [.int x, .int 2147483629] = some (.int (x.fmod 2147483629)) := fun x => b_mod (by decide)
  have u0 : bopD .mul [.int c, .int 0] = some (.int (c * 0)) := b_mul (.inr ⟨by decide, by decide⟩)
  have u1 : bopD .mul [.int c, .int 1] = some (.int (c * 1)) := b_mul (.inr ⟨by decide, by decide⟩)
  by_cases h : 1000000000000000000 ≤ c
  · refine ⟨c, c.fmod 2147483629 + 11, ?_, by omega⟩
    rw [FN42]
    simp [b42, srcD, pw, m3, u0, u1, h]
  · refine ⟨0, c.fmod 2147483629 + 11, ?_, by omega⟩
    rw [FN42]
    simp [b42, srcD, pw, m3, u0, u1, h]
theorem plain_rep (k : Nat) (x : D) (h : plainV x = true) : ∀ d ∈ List.replicate k x, plainV d = true := fun d hd => by rw [List.eq_of_mem_replicate hd]; exact h
theorem ns_rep (k x : Nat) : encNs (List.replicate k x) = List.replicate k (.int x) := by unfold encNs; rw [List.map_replicate]
theorem frzL_rep (k : Nat) (x : D) : frzL (List.replicate k x) = List.replicate k (frz x) := by rw [frzL_eq, List.map_replicate]
theorem cell_turn (n : Nat) (S x2 x3 x4 x5 x6 x7 x8 : D) (c : Int) : ∃ y3 y4 y5 y6 y7 y8,
    denSs P (denFn P (n + 9)) w49_2 [S, .int c, x2, x3, x4, x5, x6, x7, x8] = .nxt [S, .int c, x2, y3, y4, y5, y6, y7, y8] := by
  obtain ⟨a, b, e1, h1⟩ := source_of (n + 8) c
  obtain ⟨r, a1, k1, e2, r1, r2, h2⟩ := draw (n + 8) a b 0 4 h1 (by decide) (by decide)
  obtain ⟨q, rfl⟩ : ∃ q : Nat, r = (q : Int) := ⟨r.toNat, by omega⟩
  have hq : q < 4 := by omega
  obtain ⟨t0, a2, k2, e3, w3, s3, h3⟩ := statement (2 + q) (n + 3 - q) 0 a1 b k1 h2 (by omega)
  rw [show n + 3 - q + (2 + q) + 4 = n + 9 by omega] at e3
  rw [show max (2 + q) 1 = 2 + q from Nat.max_eq_left (by omega)] at s3
  have L := lim_small (show 2 + q ≤ 5 by omega) w3 s3
  have e4 := init L (n + 5)
  have fz := frz_code t0
  obtain ⟨a3, k3, y5, y6, y7, y8, e5, h5⟩ := odd_loop L n S (.int c) x2 b [.int 2, .int (-1), .bl true, .bl false, .non, .str "0", .lst false [.int 0], .tup false [.int 0], .dct false false [] [], .int 1000000000000000000000000000000] a2 k2 x5 x6 x7 x8
    (fun d hd => by
      simp only [List.mem_cons, List.not_mem_nil, or_false] at hd
      rcases hd with rfl | rfl | rfl | rfl | rfl | rfl | rfl | rfl | rfl | rfl <;> exact ⟨rfl, rfl⟩) h3
  have no : ∀ d ∈ [D.non, .tup false [.int 0, .int 1], .str "01", .dct false false [] [], .int 5, .bl true, .lst false (List.replicate 1001 (.int 0)), .lst false (List.replicate 1001 .non)], d.isNo = false ∧ d.own = false ∧ denFn P (n + 9) 48 [CD t0, d] = .ok (.int (-1)) [CD t0, d] := fun d hd => by
    simp only [List.mem_cons, List.not_mem_nil, or_false] at hd
    rcases hd with rfl | rfl | rfl | rfl | rfl | rfl | rfl | rfl
    · exact ⟨rfl, rfl, said_none n _ rfl rfl⟩
    · exact ⟨rfl, rfl, said_none n _ rfl rfl⟩
    · exact ⟨rfl, rfl, said_none n _ rfl rfl⟩
    · exact ⟨rfl, rfl, said_none n _ rfl rfl⟩
    · exact ⟨rfl, rfl, said_none n _ rfl rfl⟩
    · exact ⟨rfl, rfl, said_none n _ rfl rfl⟩
    · exact ⟨rfl, rfl, said_long n _ _ (by rw [List.length_replicate]; decide)⟩
    · exact ⟨rfl, rfl, said_long n _ _ (by rw [List.length_replicate]; decide)⟩
  obtain ⟨z5, e6⟩ := no_loop n S (.int c) x2 (srcD a3 b k3) y6 y7 y8 _ y5 no
  have g1 : bopD .mul [.lst true [.int 0], .int 1001] = some (.lst true (List.replicate 1001 (.int 0))) := b_mull true (x := .int 0) 1001 rfl (by decide)
  have g2 : bopD .mul [.lst true [.non], .int 1001] = some (.lst true (List.replicate 1001 .non)) := b_mull true (x := .non) 1001 rfl (by decide)
  have g3 : bopD .mul [.lst true [.int 0], .int 999] = some (.lst true (List.replicate 999 (.int 0))) := b_mull true (x := .int 0) 999 rfl (by decide)
  have pw : bopD .pow [.int 10, .int 30] = some (.int 1000000000000000000000000000000) := b_pow ⟨by decide, by decide, by decide⟩
  have g4 := b_addl true true (a := List.replicate 999 (.int 0)) (b := [.int 2]) (by rw [show List.replicate 999 (D.int 0) = encNs (List.replicate 999 0) from (ns_rep 999 0).symm]; exact allF_ns _) rfl (by rw [List.length_replicate]; decide)
  have e7 : denFn P (n + 9) 48 [CD t0, .lst true (List.replicate 999 (.int 0) ++ [.int 2])] = .ok (.int 999) [CD t0, .lst true (List.replicate 999 (.int 0) ++ [.int 2])] := by
    refine said_at n true _ 999 (fun d hd => ?_) (by rw [List.length_append, List.length_replicate]; decide) ?_
    · rcases List.mem_append.mp hd with z | z
      · exact plain_rep 999 _ rfl d z
      · rw [List.mem_singleton] at z
        rw [z]; rfl
    · rw [show List.replicate 999 (D.int 0) = encNs (List.replicate 999 0) from (ns_rep 999 0).symm, bad_at (.int 2) [] rfl _ 0 (fun x hx => by rw [List.eq_of_mem_replicate hx]; decide), List.length_replicate]
  have f1 : frzL (List.replicate 1001 (D.int 0)) = List.replicate 1001 (D.int 0) := frzL_rep 1001 (.int 0)
  have f2 : frzL (List.replicate 1001 D.non) = List.replicate 1001 D.non := frzL_rep 1001 .non
  refine ⟨srcD a3 b k3, CD t0, z5, y6, y7, y8, ?_⟩
  clear no
  generalize List.replicate 1001 (D.int 0) = R1 at *
  generalize List.replicate 1001 D.non = R2 at *
  generalize List.replicate 999 (D.int 0) = R3 at *
  simp only [Int.natCast_add, Int.natCast_zero, Int.cast_ofNat_Int] at e3
  simp only [CD] at e5 e6 e7 fz
  generalize denFn P (n + 9) = call at *
  unfold w49_2
  generalize w49_0 = W0 at *
  generalize w49_1 = W1 at *
  simp -implicitDefEqProofs [e1, e2, e3, e4, fz, pw, walkO]
  rw [e5]
  simp -implicitDefEqProofs [unlend, walkO, g1, g2, f1, f2]
  rw [e6]
  simp -implicitDefEqProofs [unlend, g3, g4, e7]
theorem cells_loop (n : Nat) (S x2 : D) : ∀ (cells : List Int) (x1 x3 x4 x5 x6 x7 x8 : D), ∃ y1 y3 y4 y5 y6 y7 y8,
    forD (sTurn (gName_ 1) (denSs P (denFn P (n + 9)) w49_2)) (cells.map D.int) [S, x1, x2, x3, x4, x5, x6, x7, x8] = .nxt [S, y1, x2, y3, y4, y5, y6, y7, y8]
  | [], x1, x3, x4, x5, x6, x7, x8 => ⟨x1, x3, x4, x5, x6, x7, x8, rfl⟩
  | c :: cells, x1, x3, x4, x5, x6, x7, x8 => by
    obtain ⟨y3, y4, y5, y6, y7, y8, e1⟩ := cell_turn n S x2 x3 x4 x5 x6 x7 x8 c
    obtain ⟨z1, z3, z4, z5, z6, z7, z8, e2⟩ := cells_loop n S x2 cells (.int c) y3 y4 y5 y6 y7 y8
    refine ⟨z1, z3, z4, z5, z6, z7, z8, ?_⟩
    rw [List.map_cons, for_n (e2 := [S, .int c, x2, y3, y4, y5, y6, y7, y8])]
    · exact e2
    · simp only [k_sTurn, k_gName, rS_ok]
      exact e1
theorem cell_at (n : Nat) (xs : List Int) : ∃ c, denFn P (n + 1) 41 [.wls (xs.map D.int), .int 0] = .ok (.int c) [.wls (xs.map D.int), .int 0] := by
  cases xs with
  | nil =>
    refine ⟨0, ?_⟩
    rw [FN41]
    simp [b41]
  | cons x xs =>
    refine ⟨x, ?_⟩
    rw [FN41]
    have : (0 : Int) < (xs.length : Int) + 1 := by omega
    have ix : bopD .idx [.wls (.int x :: xs.map D.int), .int 0] = some (.int x) := by
      refine b_idx ?_ rfl
      show (ixN (D.int x :: xs.map D.int).length ((0 : Nat) : Int)).bind (fun j => (D.int x :: xs.map D.int)[j]?) = _
      rw [ixN_of (by simp)]
      rfl
    simp [b41, this, ix]
theorem law_ok (n : Nat) (xs : List Int) : denFn P (n + 10) 49 [.wls (xs.map D.int)] = .ok (.bl true) [.wls (xs.map D.int)] := by
  obtain ⟨c0, e1⟩ := cell_at (n + 8) xs
  have fa : allF (xs.map D.int) = true := allF_map _ (fun _ => rfl) xs
  have sl : ∃ ys : List Int, slcD (.wls (xs.map D.int)) (some 1) (some 4) = some (.lst true (ys.map D.int)) ∧ ys.length ≤ 4 := by
    refine ⟨(xs.drop (HT.sIx xs.length 0 (some 1))).take (HT.sIx xs.length xs.length (some 4) - HT.sIx xs.length 0 (some 1)), ?_, ?_⟩
    · show some (D.lst true (slD (xs.map D.int) (some 1) (some 4))) = _
      unfold slD
      rw [List.length_map, ← List.map_drop, ← List.map_take]
    · rw [List.length_take]
      have : HT.sIx xs.length xs.length (some 4) ≤ 4 := by
        unfold HT.sIx
        dsimp only
        rw [if_neg (by decide)]
        exact Nat.min_le_left 4 _
      omega
  obtain ⟨ys, e2, l2⟩ := sl
  have ad := b_addl true true (a := [.int c0]) (b := ys.map D.int) rfl (allF_map _ (fun _ => rfl) ys) (by simp; omega)
  obtain ⟨y1, y3, y4, y5, y6, y7, y8, e3⟩ := cells_loop n (.wls (xs.map D.int)) .no (c0 :: ys) .no .no .no .no .no .no .no
  -- the small code
  have L : Lim (.nd (.whl "w") [.nd (.do_ "x") []]) := lim_small (d := 2) (by decide) (by decide +kernel) (by decide +kernel)
  have e4 := init L (n + 5)
  have fz := frz_code (.nd (.whl "w") [.nd (.do_ "x") []])
  have g1 : bopD .mul [.lst true [.int 1], .int 1000] = some (.lst true (List.replicate 1000 (.int 1))) := b_mull true (x := .int 1) 1000 rfl (by decide)
  have g2 : bopD .mul [.lst true [.int 1], .int 1001] = some (.lst true (List.replicate 1001 (.int 1))) := b_mull true (x := .int 1) 1001 rfl (by decide)
  have q1 := said_list L n true (List.replicate 1000 1) (fun x hx => by rw [List.eq_of_mem_replicate hx]; exact Nat.le_refl 1) (by rw [List.length_replicate]; decide)
  rw [ns_rep] at q1
  have q2 := said_long (t0 := .nd (.whl "w") [.nd (.do_ "x") []]) n true (List.replicate 1001 (.int 1)) (by rw [List.length_replicate]; decide)
  have fi : frzL (ys.map D.int) = ys.map D.int := by rw [frzL_eq, List.map_map]; rfl
  rw [FN49]
  have et : encT (.nd (.whl "w") [.nd (.do_ "x") []]) = .tup false [.str "while", .str "w", .tup false [.str "do", .str "x"]] := rfl
  rw [et] at e4
  simp only [CD] at fz q1 q2
  simp only [List.map_cons] at e3
  have n1 : ((1 : Nat) : Int) = 1 := rfl
  rw [n1] at q1
  generalize T.nd (.whl "w") [.nd (.do_ "x") []] = t0 at *
  generalize List.replicate 1000 (D.int 1) = R1 at *
  generalize List.replicate 1001 (D.int 1) = R2 at *
  generalize denFn P (n + 9) = call at *
  unfold b49
  generalize w49_2 = W2 at *
  simp -implicitDefEqProofs [e1, e2, ad, walkO, fi]
  rw [e3]
  simp -implicitDefEqProofs [unlend, e4, fz, g1, g2, q1, q2, ret_eq]
end
end K8
end Dn
end L2
set_option maxRecDepth 100000
set_option maxHeartbeats 4000000
set_option linter.all false
set_option Elab.async false
/-! The texts of the defs fit. -/
namespace L2
namespace Dn
namespace K8
open PySem PySem.Spec PyProof.Rows
def nth (l : List Stmt) (i : Nat) : Stmt := l.getD i (.Pass ⟨0, 0, 0, 0⟩)
def clsBody : Stmt → List Stmt | .ClassDef _ _ _ b _ _ _ _ _ _ _ => b | _ => []
def BODY : List Stmt := PySem.Challenge.pw_finallycopies_k08_invalid_answers.main.body
def S0 : SC := { N := [], sc := ⟨.function, [], false, false, []⟩, cok := true, fns := [("is_integer", 0), ("is_name", 1), ("has_kind", 2), ("is_statement", 3), ("judge", 4), ("head_of", 5), ("parts_of", 6), ("spots_inside", 7), ("begins_next", 23), ("comes_back", 24), ("way_outside", 25), ("onward", 26), ("is_answer", 27), ("check_answers", 28), ("begin", 37), ("follow", 38), ("run", 39), ("moment", 40), ("_law_cell_at", 41), ("_law_source_of", 42), ("_law_draw", 43), ("_law_one", 44), ("_law_leaf", 45), ("_law_statement", 46), ("_law_answers", 47), ("_law_said", 48), ("law", 49)], cls := [("Code", 5), ("Run", 6), ("Walk", 7)], mes := [((5, "_keep"), 9), ((5, "__len__"), 10), ((5, "__getitem__"), 12), ((5, "require_number"), 14), ((5, "require_place"), 15), ((5, "kind"), 16), ((5, "parent"), 17), ((5, "parts"), 18), ((5, "sibling"), 19), ((5, "places"), 20), ((5, "entry"), 21), ((5, "layers"), 22), ((7, "ended"), 32), ((7, "asks"), 33), ((7, "step"), 34), ((7, "_leave"), 35), ((7, "now"), 36)], exs := [("InvalidCode", 1), ("InvalidNumber", 2), ("InvalidAnswers", 3), ("LimitExceeded", 4)], exh := [("InvalidAnswers", 3), ("CopyError", 0)], exf := [(1, "number"), (2, "number"), (3, "at"), (4, "limit")], gls := [("MOST_STATEMENTS", 100), ("MOST_LEVELS", 101), ("MOST_BLOCKS", 102), ("LONGEST_NAME", 103), ("SIZES", 104), ("NAMED", 105), ("JUMPS", 106), ("PAIRS", 107), ("ENTERED", 108), ("PLACELESS", 109), ("NORMAL", 110), ("RAISE", 111), ("AGAIN", 112), ("ENDS", 113), ("MOST_ANSWERS", 114), ("ASKING", 115), ("run", 1039), ("moment", 1040)], tys := [("int", 0), ("bool", 1), ("str", 2), ("tuple", 3), ("list", 4), ("dict", 5)], fnm := [(5, ["_statements", "_heads", "_parents", "_parts", "_siblings", "_layers"]), (6, ["visited", "used", "end"]), (7, ["source", "spot", "pending"])], blt := ["int", "bool", "str", "tuple", "list", "dict", "len", "isinstance", "all", "sum", "range", "enumerate", "reversed"], fva := [39, 40] }
abbrev s0 : Stmt := (nth (BODY) 7)
theorem sc0 : FnScope ["value"] ["value"] (defScope s0) := ⟨rfl, rfl, rfl, by decide +kernel, rfl, by decide +kernel, by decide +kernel⟩
theorem ms0 : mSs { S0 with N := ["value"], sc := defScope s0, cok := true } b0 (defBody s0) = true := by decide +kernel
theorem st0 : (stSs f0.body).all (fun i => !f0.fx.contains i) = true := by decide +kernel
abbrev s1 : Stmt := (nth (BODY) 19)
theorem sc1 : FnScope ["value", "letter"] ["value"] (defScope s1) := ⟨rfl, rfl, rfl, by decide +kernel, rfl, by decide +kernel, by decide +kernel⟩
theorem ms1 : mSs { S0 with N := ["value", "letter"], sc := defScope s1, cok := true } b1 (defBody s1) = true := by decide +kernel
theorem st1 : (stSs f1.body).all (fun i => !f1.fx.contains i) = true := by decide +kernel
abbrev s2 : Stmt := (nth (BODY) 20)
theorem sc2 : FnScope ["value", "kind"] ["value"] (defScope s2) := ⟨rfl, rfl, rfl, by decide +kernel, rfl, by decide +kernel, by decide +kernel⟩
theorem ms2 : mSs { S0 with N := ["value", "kind"], sc := defScope s2, cok := true } b2 (defBody s2) = true := by decide +kernel
theorem st2 : (stSs f2.body).all (fun i => !f2.fx.contains i) = true := by decide +kernel
abbrev s3 : Stmt := (nth (BODY) 21)
theorem sc3 : FnScope ["value", "whiles", "kind"] ["value", "whiles"] (defScope s3) := ⟨rfl, rfl, rfl, by decide +kernel, rfl, by decide +kernel, by decide +kernel⟩
theorem ms3 : mSs { S0 with N := ["value", "whiles", "kind"], sc := defScope s3, cok := true } b3 (defBody s3) = true := by decide +kernel
theorem st3 : (stSs f3.body).all (fun i => !f3.fx.contains i) = true := by decide +kernel
abbrev s4 : Stmt := (nth (BODY) 22)
theorem sc4 : FnScope ["spot", "number", "value", "_", "level", "whiles", "layers"] ["spot", "number"] (defScope s4) := ⟨rfl, rfl, rfl, by decide +kernel, rfl, by decide +kernel, by decide +kernel⟩
theorem ms4 : mSs { S0 with N := ["spot", "number", "value", "_", "level", "whiles", "layers"], sc := defScope s4, cok := true } b4 (defBody s4) = true := by decide +kernel
theorem st4 : (stSs f4.body).all (fun i => !f4.fx.contains i) = true := by decide +kernel
abbrev s5 : Stmt := (nth (BODY) 23)
theorem sc5 : FnScope ["statement", "kind"] ["statement"] (defScope s5) := ⟨rfl, rfl, rfl, by decide +kernel, rfl, by decide +kernel, by decide +kernel⟩
theorem ms5 : mSs { S0 with N := ["statement", "kind"], sc := defScope s5, cok := true } b5 (defBody s5) = true := by decide +kernel
theorem st5 : (stSs f5.body).all (fun i => !f5.fx.contains i) = true := by decide +kernel
abbrev s6 : Stmt := (nth (BODY) 24)
theorem sc6 : FnScope ["statement", "kind"] ["statement"] (defScope s6) := ⟨rfl, rfl, rfl, by decide +kernel, rfl, by decide +kernel, by decide +kernel⟩
theorem ms6 : mSs { S0 with N := ["statement", "kind"], sc := defScope s6, cok := true } b6 (defBody s6) = true := by decide +kernel
theorem st6 : (stSs f6.body).all (fun i => !f6.fx.contains i) = true := by decide +kernel
abbrev s7 : Stmt := (nth (BODY) 25)
theorem sc7 : FnScope ["spot", "number", "kind", "spots", "statement", "_", "level", "whiles", "layers", "part"] ["spot", "number"] (defScope s7) := ⟨rfl, rfl, rfl, by decide +kernel, rfl, by decide +kernel, by decide +kernel⟩
theorem ms7 : mSs { S0 with N := ["spot", "number", "kind", "spots", "statement", "_", "level", "whiles", "layers", "part"], sc := defScope s7, cok := true } b7 (defBody s7) = true := by decide +kernel
theorem st7 : (stSs f7.body).all (fun i => !f7.fx.contains i) = true := by decide +kernel
abbrev s8 : Stmt := (nth (clsBody (nth (BODY) 26)) 0)
theorem sc8 : FnScope ["self", "statement", "waiting", "spot", "number", "inner"] ["self", "statement"] (defScope s8) := ⟨rfl, rfl, rfl, by decide +kernel, rfl, by decide +kernel, by decide +kernel⟩
theorem ms8 : mSs { S0 with N := ["self", "statement", "waiting", "spot", "number", "inner"], sc := defScope s8, cok := true } b8 (defBody s8) = true := by decide +kernel
theorem st8 : (stSs f8.body).all (fun i => !f8.fx.contains i) = true := by decide +kernel
abbrev s9 : Stmt := (nth (clsBody (nth (BODY) 26)) 1)
theorem sc9 : FnScope ["self", "spot", "number", "statement", "parent", "_", "layers"] ["self", "spot", "number"] (defScope s9) := ⟨rfl, rfl, rfl, by decide +kernel, rfl, by decide +kernel, by decide +kernel⟩
theorem ms9 : mSs { S0 with N := ["self", "spot", "number", "statement", "parent", "_", "layers"], sc := defScope s9, cok := true } b9 (defBody s9) = true := by decide +kernel
theorem st9 : (stSs f9.body).all (fun i => !f9.fx.contains i) = true := by decide +kernel
abbrev s10 : Stmt := (nth (clsBody (nth (BODY) 26)) 2)
theorem sc10 : FnScope ["self"] ["self"] (defScope s10) := ⟨rfl, rfl, rfl, by decide +kernel, rfl, by decide +kernel, by decide +kernel⟩
theorem ms10 : mSs { S0 with N := ["self"], sc := defScope s10, cok := true } b10 (defBody s10) = true := by decide +kernel
theorem st10 : (stSs f10.body).all (fun i => !f10.fx.contains i) = true := by decide +kernel
abbrev s12 : Stmt := (nth (clsBody (nth (BODY) 26)) 4)
theorem sc12 : FnScope ["self", "at"] ["self", "at"] (defScope s12) := ⟨rfl, rfl, rfl, by decide +kernel, rfl, by decide +kernel, by decide +kernel⟩
theorem ms12 : mSs { S0 with N := ["self", "at"], sc := defScope s12, cok := true } b12 (defBody s12) = true := by decide +kernel
theorem st12 : (stSs f12.body).all (fun i => !f12.fx.contains i) = true := by decide +kernel
abbrev s14 : Stmt := (nth (clsBody (nth (BODY) 26)) 6)
theorem sc14 : FnScope ["self", "number"] ["self", "number"] (defScope s14) := ⟨rfl, rfl, rfl, by decide +kernel, rfl, by decide +kernel, by decide +kernel⟩
theorem ms14 : mSs { S0 with N := ["self", "number"], sc := defScope s14, cok := true } b14 (defBody s14) = true := by decide +kernel
theorem st14 : (stSs f14.body).all (fun i => !f14.fx.contains i) = true := by decide +kernel
abbrev s15 : Stmt := (nth (clsBody (nth (BODY) 26)) 7)
theorem sc15 : FnScope ["self", "place"] ["self", "place"] (defScope s15) := ⟨rfl, rfl, rfl, by decide +kernel, rfl, by decide +kernel, by decide +kernel⟩
theorem ms15 : mSs { S0 with N := ["self", "place"], sc := defScope s15, cok := true } b15 (defBody s15) = true := by decide +kernel
theorem st15 : (stSs f15.body).all (fun i => !f15.fx.contains i) = true := by decide +kernel
abbrev s16 : Stmt := (nth (clsBody (nth (BODY) 26)) 8)
theorem sc16 : FnScope ["self", "number"] ["self", "number"] (defScope s16) := ⟨rfl, rfl, rfl, by decide +kernel, rfl, by decide +kernel, by decide +kernel⟩
theorem ms16 : mSs { S0 with N := ["self", "number"], sc := defScope s16, cok := true } b16 (defBody s16) = true := by decide +kernel
theorem st16 : (stSs f16.body).all (fun i => !f16.fx.contains i) = true := by decide +kernel
abbrev s17 : Stmt := (nth (clsBody (nth (BODY) 26)) 9)
theorem sc17 : FnScope ["self", "number"] ["self", "number"] (defScope s17) := ⟨rfl, rfl, rfl, by decide +kernel, rfl, by decide +kernel, by decide +kernel⟩
theorem ms17 : mSs { S0 with N := ["self", "number"], sc := defScope s17, cok := true } b17 (defBody s17) = true := by decide +kernel
theorem st17 : (stSs f17.body).all (fun i => !f17.fx.contains i) = true := by decide +kernel
abbrev s18 : Stmt := (nth (clsBody (nth (BODY) 26)) 10)
theorem sc18 : FnScope ["self", "number"] ["self", "number"] (defScope s18) := ⟨rfl, rfl, rfl, by decide +kernel, rfl, by decide +kernel, by decide +kernel⟩
theorem ms18 : mSs { S0 with N := ["self", "number"], sc := defScope s18, cok := true } b18 (defBody s18) = true := by decide +kernel
theorem st18 : (stSs f18.body).all (fun i => !f18.fx.contains i) = true := by decide +kernel
abbrev s19 : Stmt := (nth (clsBody (nth (BODY) 26)) 11)
theorem sc19 : FnScope ["self", "number"] ["self", "number"] (defScope s19) := ⟨rfl, rfl, rfl, by decide +kernel, rfl, by decide +kernel, by decide +kernel⟩
theorem ms19 : mSs { S0 with N := ["self", "number"], sc := defScope s19, cok := true } b19 (defBody s19) = true := by decide +kernel
theorem st19 : (stSs f19.body).all (fun i => !f19.fx.contains i) = true := by decide +kernel
abbrev s20 : Stmt := (nth (clsBody (nth (BODY) 26)) 12)
theorem sc20 : FnScope ["self", "number", "head"] ["self"] (defScope s20) := ⟨rfl, rfl, rfl, by decide +kernel, rfl, by decide +kernel, by decide +kernel⟩
theorem ms20 : mSs { S0 with N := ["self", "number", "head"], sc := defScope s20, cok := true } b20 (defBody s20) = true := by decide +kernel
theorem st20 : (stSs f20.body).all (fun i => !f20.fx.contains i) = true := by decide +kernel
abbrev s21 : Stmt := (nth (clsBody (nth (BODY) 26)) 13)
theorem sc21 : FnScope ["self", "number"] ["self", "number"] (defScope s21) := ⟨rfl, rfl, rfl, by decide +kernel, rfl, by decide +kernel, by decide +kernel⟩
theorem ms21 : mSs { S0 with N := ["self", "number"], sc := defScope s21, cok := true } b21 (defBody s21) = true := by decide +kernel
theorem st21 : (stSs f21.body).all (fun i => !f21.fx.contains i) = true := by decide +kernel
abbrev s22 : Stmt := (nth (clsBody (nth (BODY) 26)) 14)
theorem sc22 : FnScope ["self", "place"] ["self", "place"] (defScope s22) := ⟨rfl, rfl, rfl, by decide +kernel, rfl, by decide +kernel, by decide +kernel⟩
theorem ms22 : mSs { S0 with N := ["self", "place"], sc := defScope s22, cok := true } b22 (defBody s22) = true := by decide +kernel
theorem st22 : (stSs f22.body).all (fun i => !f22.fx.contains i) = true := by decide +kernel
abbrev s23 : Stmt := (nth (BODY) 32)
theorem sc23 : FnScope ["kind", "way"] ["kind", "way"] (defScope s23) := ⟨rfl, rfl, rfl, by decide +kernel, rfl, by decide +kernel, by decide +kernel⟩
theorem ms23 : mSs { S0 with N := ["kind", "way"], sc := defScope s23, cok := true } b23 (defBody s23) = true := by decide +kernel
theorem st23 : (stSs f23.body).all (fun i => !f23.fx.contains i) = true := by decide +kernel
abbrev s24 : Stmt := (nth (BODY) 33)
theorem sc24 : FnScope ["kind", "way"] ["kind", "way"] (defScope s24) := ⟨rfl, rfl, rfl, by decide +kernel, rfl, by decide +kernel, by decide +kernel⟩
theorem ms24 : mSs { S0 with N := ["kind", "way"], sc := defScope s24, cok := true } b24 (defBody s24) = true := by decide +kernel
theorem st24 : (stSs f24.body).all (fun i => !f24.fx.contains i) = true := by decide +kernel
abbrev s25 : Stmt := (nth (BODY) 34)
theorem sc25 : FnScope ["kind", "way"] ["kind", "way"] (defScope s25) := ⟨rfl, rfl, rfl, by decide +kernel, rfl, by decide +kernel, by decide +kernel⟩
theorem ms25 : mSs { S0 with N := ["kind", "way"], sc := defScope s25, cok := true } b25 (defBody s25) = true := by decide +kernel
theorem st25 : (stSs f25.body).all (fun i => !f25.fx.contains i) = true := by decide +kernel
abbrev s26 : Stmt := (nth (BODY) 35)
theorem sc26 : FnScope ["code", "number", "way", "outer", "kind", "later", "final"] ["code", "number", "way"] (defScope s26) := ⟨rfl, rfl, rfl, by decide +kernel, rfl, by decide +kernel, by decide +kernel⟩
theorem ms26 : mSs { S0 with N := ["code", "number", "way", "outer", "kind", "later", "final"], sc := defScope s26, cok := true } b26 (defBody s26) = true := by decide +kernel
theorem st26 : (stSs f26.body).all (fun i => !f26.fx.contains i) = true := by decide +kernel
abbrev s27 : Stmt := (nth (BODY) 39)
theorem sc27 : FnScope ["value"] ["value"] (defScope s27) := ⟨rfl, rfl, rfl, by decide +kernel, rfl, by decide +kernel, by decide +kernel⟩
theorem ms27 : mSs { S0 with N := ["value"], sc := defScope s27, cok := true } b27 (defBody s27) = true := by decide +kernel
theorem st27 : (stSs f27.body).all (fun i => !f27.fx.contains i) = true := by decide +kernel
abbrev s28 : Stmt := (nth (BODY) 40)
theorem sc28 : FnScope ["answers", "at", "answer"] ["answers"] (defScope s28) := ⟨rfl, rfl, rfl, by decide +kernel, rfl, by decide +kernel, by decide +kernel⟩
theorem ms28 : mSs { S0 with N := ["answers", "at", "answer"], sc := defScope s28, cok := true } b28 (defBody s28) = true := by decide +kernel
theorem st28 : (stSs f28.body).all (fun i => !f28.fx.contains i) = true := by decide +kernel
abbrev s29 : Stmt := (nth (clsBody (nth (BODY) 41)) 0)
theorem sc29 : FnScope ["self", "visited", "used", "end"] ["self", "visited", "used", "end"] (defScope s29) := ⟨rfl, rfl, rfl, by decide +kernel, rfl, by decide +kernel, by decide +kernel⟩
theorem ms29 : mSs { S0 with N := ["self", "visited", "used", "end"], sc := defScope s29, cok := true } b29 (defBody s29) = true := by decide +kernel
theorem st29 : (stSs f29.body).all (fun i => !f29.fx.contains i) = true := by decide +kernel
abbrev s31 : Stmt := (nth (clsBody (nth (BODY) 42)) 0)
theorem sc31 : FnScope ["self", "code", "spot", "pending"] ["self", "code", "spot", "pending"] (defScope s31) := ⟨rfl, rfl, rfl, by decide +kernel, rfl, by decide +kernel, by decide +kernel⟩
theorem ms31 : mSs { S0 with N := ["self", "code", "spot", "pending"], sc := defScope s31, cok := true } b31 (defBody s31) = true := by decide +kernel
theorem st31 : (stSs f31.body).all (fun i => !f31.fx.contains i) = true := by decide +kernel
abbrev s32 : Stmt := (nth (clsBody (nth (BODY) 42)) 1)
theorem sc32 : FnScope ["self"] ["self"] (defScope s32) := ⟨rfl, rfl, rfl, by decide +kernel, rfl, by decide +kernel, by decide +kernel⟩
theorem ms32 : mSs { S0 with N := ["self"], sc := defScope s32, cok := true } b32 (defBody s32) = true := by decide +kernel
theorem st32 : (stSs f32.body).all (fun i => !f32.fx.contains i) = true := by decide +kernel
abbrev s33 : Stmt := (nth (clsBody (nth (BODY) 42)) 2)
theorem sc33 : FnScope ["self"] ["self"] (defScope s33) := ⟨rfl, rfl, rfl, by decide +kernel, rfl, by decide +kernel, by decide +kernel⟩
theorem ms33 : mSs { S0 with N := ["self"], sc := defScope s33, cok := true } b33 (defBody s33) = true := by decide +kernel
theorem st33 : (stSs f33.body).all (fun i => !f33.fx.contains i) = true := by decide +kernel
abbrev s34 : Stmt := (nth (clsBody (nth (BODY) 42)) 3)
theorem sc34 : FnScope ["self", "answer", "place", "kind"] ["self", "answer"] (defScope s34) := ⟨rfl, rfl, rfl, by decide +kernel, rfl, by decide +kernel, by decide +kernel⟩
theorem ms34 : mSs { S0 with N := ["self", "answer", "place", "kind"], sc := defScope s34, cok := true } b34 (defBody s34) = true := by decide +kernel
theorem st34 : (stSs f34.body).all (fun i => !f34.fx.contains i) = true := by decide +kernel
abbrev s35 : Stmt := (nth (clsBody (nth (BODY) 42)) 4)
theorem sc35 : FnScope ["self", "number", "way", "final"] ["self", "number", "way"] (defScope s35) := ⟨rfl, rfl, rfl, by decide +kernel, rfl, by decide +kernel, by decide +kernel⟩
theorem ms35 : mSs { S0 with N := ["self", "number", "way", "final"], sc := defScope s35, cok := true } b35 (defBody s35) = true := by decide +kernel
theorem st35 : (stSs f35.body).all (fun i => !f35.fx.contains i) = true := by decide +kernel
abbrev s36 : Stmt := (nth (clsBody (nth (BODY) 42)) 5)
theorem sc36 : FnScope ["self", "layer"] ["self"] (defScope s36) := ⟨rfl, rfl, rfl, by decide +kernel, rfl, by decide +kernel, by decide +kernel⟩
theorem ms36 : mSs { S0 with N := ["self", "layer"], sc := defScope s36, cok := true } b36 (defBody s36) = true := by decide +kernel
theorem st36 : (stSs f36.body).all (fun i => !f36.fx.contains i) = true := by decide +kernel
abbrev s37 : Stmt := (nth (BODY) 43)
theorem sc37 : FnScope ["code"] ["code"] (defScope s37) := ⟨rfl, rfl, rfl, by decide +kernel, rfl, by decide +kernel, by decide +kernel⟩
theorem ms37 : mSs { S0 with N := ["code"], sc := defScope s37, cok := true } b37 (defBody s37) = true := by decide +kernel
theorem st37 : (stSs f37.body).all (fun i => !f37.fx.contains i) = true := by decide +kernel
abbrev s38 : Stmt := (nth (BODY) 44)
theorem sc38 : FnScope ["walk", "answers", "visited", "used", "answer"] ["walk", "answers"] (defScope s38) := ⟨rfl, rfl, rfl, by decide +kernel, rfl, by decide +kernel, by decide +kernel⟩
theorem ms38 : mSs { S0 with N := ["walk", "answers", "visited", "used", "answer"], sc := defScope s38, cok := true } b38 (defBody s38) = true := by decide +kernel
theorem st38 : (stSs f38.body).all (fun i => !f38.fx.contains i) = true := by decide +kernel
abbrev s39 : Stmt := (nth (BODY) 45)
theorem sc39 : FnScope ["code", "answers", "walk", "visited", "used"] ["code", "answers"] (defScope s39) := ⟨rfl, rfl, rfl, by decide +kernel, rfl, by decide +kernel, by decide +kernel⟩
theorem ms39 : mSs { S0 with N := ["code", "answers", "walk", "visited", "used"], sc := defScope s39, cok := true } b39 (defBody s39) = true := by decide +kernel
theorem st39 : (stSs f39.body).all (fun i => !f39.fx.contains i) = true := by decide +kernel
abbrev s40 : Stmt := (nth (BODY) 46)
theorem sc40 : FnScope ["code", "answers", "walk"] ["code", "answers"] (defScope s40) := ⟨rfl, rfl, rfl, by decide +kernel, rfl, by decide +kernel, by decide +kernel⟩
theorem ms40 : mSs { S0 with N := ["code", "answers", "walk"], sc := defScope s40, cok := true } b40 (defBody s40) = true := by decide +kernel
theorem st40 : (stSs f40.body).all (fun i => !f40.fx.contains i) = true := by decide +kernel
abbrev s41 : Stmt := (nth (BODY) 48)
theorem sc41 : FnScope ["_law_script", "_law_k"] ["_law_script", "_law_k"] (defScope s41) := ⟨rfl, rfl, rfl, by decide +kernel, rfl, by decide +kernel, by decide +kernel⟩
theorem ms41 : mSs { S0 with N := ["_law_script", "_law_k"], sc := defScope s41, cok := true } b41 (defBody s41) = true := by decide +kernel
theorem st41 : (stSs f41.body).all (fun i => !f41.fx.contains i) = true := by decide +kernel
abbrev s42 : Stmt := (nth (BODY) 49)
theorem sc42 : FnScope ["_law_cell"] ["_law_cell"] (defScope s42) := ⟨rfl, rfl, rfl, by decide +kernel, rfl, by decide +kernel, by decide +kernel⟩
theorem ms42 : mSs { S0 with N := ["_law_cell"], sc := defScope s42, cok := true } b42 (defBody s42) = true := by decide +kernel
theorem st42 : (stSs f42.body).all (fun i => !f42.fx.contains i) = true := by decide +kernel
abbrev s43 : Stmt := (nth (BODY) 50)
theorem sc43 : FnScope ["_law_source", "_law_many", "_law_mixed", "_law_found"] ["_law_source", "_law_many"] (defScope s43) := ⟨rfl, rfl, rfl, by decide +kernel, rfl, by decide +kernel, by decide +kernel⟩
theorem ms43 : mSs { S0 with N := ["_law_source", "_law_many", "_law_mixed", "_law_found"], sc := defScope s43, cok := true } b43 (defBody s43) = true := by decide +kernel
theorem st43 : (stSs f43.body).all (fun i => !f43.fx.contains i) = true := by decide +kernel
abbrev s44 : Stmt := (nth (BODY) 51)
theorem sc44 : FnScope ["_law_source", "_law_some"] ["_law_source", "_law_some"] (defScope s44) := ⟨rfl, rfl, rfl, by decide +kernel, rfl, by decide +kernel, by decide +kernel⟩
theorem ms44 : mSs { S0 with N := ["_law_source", "_law_some"], sc := defScope s44, cok := true } b44 (defBody s44) = true := by decide +kernel
theorem st44 : (stSs f44.body).all (fun i => !f44.fx.contains i) = true := by decide +kernel
abbrev s45 : Stmt := (nth (BODY) 52)
theorem sc45 : FnScope ["_law_source", "_law_loops", "_law_kind"] ["_law_source", "_law_loops"] (defScope s45) := ⟨rfl, rfl, rfl, by decide +kernel, rfl, by decide +kernel, by decide +kernel⟩
theorem ms45 : mSs { S0 with N := ["_law_source", "_law_loops", "_law_kind"], sc := defScope s45, cok := true } b45 (defBody s45) = true := by decide +kernel
theorem st45 : (stSs f45.body).all (fun i => !f45.fx.contains i) = true := by decide +kernel
abbrev s46 : Stmt := (nth (BODY) 53)
theorem sc46 : FnScope ["_law_source", "_law_deep", "_law_loops", "_law_kind", "_law_one_here", "_law_other", "_law_k"] ["_law_source", "_law_deep", "_law_loops"] (defScope s46) := ⟨rfl, rfl, rfl, by decide +kernel, rfl, by decide +kernel, by decide +kernel⟩
theorem ms46 : mSs { S0 with N := ["_law_source", "_law_deep", "_law_loops", "_law_kind", "_law_one_here", "_law_other", "_law_k"], sc := defScope s46, cok := true } b46 (defBody s46) = true := by decide +kernel
theorem st46 : (stSs f46.body).all (fun i => !f46.fx.contains i) = true := by decide +kernel
abbrev s47 : Stmt := (nth (BODY) 54)
theorem sc47 : FnScope ["_law_source", "_law_most", "_law_k"] ["_law_source", "_law_most"] (defScope s47) := ⟨rfl, rfl, rfl, by decide +kernel, rfl, by decide +kernel, by decide +kernel⟩
theorem ms47 : mSs { S0 with N := ["_law_source", "_law_most", "_law_k"], sc := defScope s47, cok := true } b47 (defBody s47) = true := by decide +kernel
theorem st47 : (stSs f47.body).all (fun i => !f47.fx.contains i) = true := by decide +kernel
abbrev s48 : Stmt := (nth (BODY) 55)
theorem sc48 : FnScope ["_law_code", "_law_answers_here", "_law_found", "_law_call", "_law_told", "e"] ["_law_code", "_law_answers_here"] (defScope s48) := ⟨rfl, rfl, rfl, by decide +kernel, rfl, by decide +kernel, by decide +kernel⟩
theorem ms48 : mSs { S0 with N := ["_law_code", "_law_answers_here", "_law_found", "_law_call", "_law_told", "e"], sc := defScope s48, cok := true } b48 (defBody s48) = true := by decide +kernel
theorem st48 : (stSs f48.body).all (fun i => !f48.fx.contains i) = true := by decide +kernel
abbrev s49 : Stmt := (nth (BODY) 56)
theorem sc49 : FnScope ["_law_script", "_law_cell", "_law_small", "_law_source", "_law_code", "_law_odd", "_law_answers_here", "_law_at", "_law_later"] ["_law_script"] (defScope s49) := ⟨rfl, rfl, rfl, by decide +kernel, rfl, by decide +kernel, by decide +kernel⟩
theorem ms49 : mSs { S0 with N := ["_law_script", "_law_cell", "_law_small", "_law_source", "_law_code", "_law_odd", "_law_answers_here", "_law_at", "_law_later"], sc := defScope s49, cok := true } b49 (defBody s49) = true := by decide +kernel
theorem st49 : (stSs f49.body).all (fun i => !f49.fx.contains i) = true := by decide +kernel
abbrev sx1 : Stmt := (nth (clsBody (nth (BODY) 2)) 0)
theorem scx1 : FnScope ["self", "number"] ["self", "number"] (defScope sx1) := ⟨rfl, rfl, rfl, by decide +kernel, rfl, by decide +kernel, by decide +kernel⟩
abbrev sx2 : Stmt := (nth (clsBody (nth (BODY) 3)) 0)
theorem scx2 : FnScope ["self", "number"] ["self", "number"] (defScope sx2) := ⟨rfl, rfl, rfl, by decide +kernel, rfl, by decide +kernel, by decide +kernel⟩
abbrev sx3 : Stmt := (nth (clsBody (nth (BODY) 4)) 0)
theorem scx3 : FnScope ["self", "at"] ["self", "at"] (defScope sx3) := ⟨rfl, rfl, rfl, by decide +kernel, rfl, by decide +kernel, by decide +kernel⟩
abbrev sx4 : Stmt := (nth (clsBody (nth (BODY) 5)) 0)
theorem scx4 : FnScope ["self", "limit"] ["self", "limit"] (defScope sx4) := ⟨rfl, rfl, rfl, by decide +kernel, rfl, by decide +kernel, by decide +kernel⟩
def psT : Nat → List Str := fun i => List.getD (α := List Str) [(["value"] : List Str), (["value"] : List Str), (["value"] : List Str), (["value", "whiles"] : List Str), (["spot", "number"] : List Str), (["statement"] : List Str), (["statement"] : List Str), (["spot", "number"] : List Str), (["self", "statement"] : List Str), (["self", "spot", "number"] : List Str), (["self"] : List Str), ([] : List Str), (["self", "at"] : List Str), ([] : List Str), (["self", "number"] : List Str), (["self", "place"] : List Str), (["self", "number"] : List Str), (["self", "number"] : List Str), (["self", "number"] : List Str), (["self", "number"] : List Str), (["self"] : List Str), (["self", "number"] : List Str), (["self", "place"] : List Str), (["kind", "way"] : List Str), (["kind", "way"] : List Str), (["kind", "way"] : List Str), (["code", "number", "way"] : List Str), (["value"] : List Str), (["answers"] : List Str), (["self", "visited", "used", "end"] : List Str), ([] : List Str), (["self", "code", "spot", "pending"] : List Str), (["self"] : List Str), (["self"] : List Str), (["self", "answer"] : List Str), (["self", "number", "way"] : List Str), (["self"] : List Str), (["code"] : List Str), (["walk", "answers"] : List Str), (["code", "answers"] : List Str), (["code", "answers"] : List Str), (["_law_script", "_law_k"] : List Str), (["_law_cell"] : List Str), (["_law_source", "_law_many"] : List Str), (["_law_source", "_law_some"] : List Str), (["_law_source", "_law_loops"] : List Str), (["_law_source", "_law_deep", "_law_loops"] : List Str), (["_law_source", "_law_most"] : List Str), (["_law_code", "_law_answers_here"] : List Str), (["_law_script"] : List Str)] i []
theorem all_fn {C : Nat → Fn → Prop} (h0 : C 0 f0) (h1 : C 1 f1) (h2 : C 2 f2) (h3 : C 3 f3) (h4 : C 4 f4) (h5 : C 5 f5) (h6 : C 6 f6) (h7 : C 7 f7) (h8 : C 8 f8) (h9 : C 9 f9) (h10 : C 10 f10) (h12 : C 12 f12) (h14 : C 14 f14) (h15 : C 15 f15) (h16 : C 16 f16) (h17 : C 17 f17) (h18 : C 18 f18) (h19 : C 19 f19) (h20 : C 20 f20) (h21 : C 21 f21) (h22 : C 22 f22) (h23 : C 23 f23) (h24 : C 24 f24) (h25 : C 25 f25) (h26 : C 26 f26) (h27 : C 27 f27) (h28 : C 28 f28) (h29 : C 29 f29) (h31 : C 31 f31) (h32 : C 32 f32) (h33 : C 33 f33) (h34 : C 34 f34) (h35 : C 35 f35) (h36 : C 36 f36) (h37 : C 37 f37) (h38 : C 38 f38) (h39 : C 39 f39) (h40 : C 40 f40) (h41 : C 41 f41) (h42 : C 42 f42) (h43 : C 43 f43) (h44 : C 44 f44) (h45 : C 45 f45) (h46 : C 46 f46) (h47 : C 47 f47) (h48 : C 48 f48) (h49 : C 49 f49) : ∀ i fn, P.fn i = some fn → C i fn := by
  intro i fn h
  have h : fnT i = some fn := h
  unfold fnT at h
  split at h
  · cases h; exact h0
  · cases h; exact h1
  · cases h; exact h2
  · cases h; exact h3
  · cases h; exact h4
  · cases h; exact h5
  · cases h; exact h6
  · cases h; exact h7
  · cases h; exact h8
  · cases h; exact h9
  · cases h; exact h10
  · cases h; exact h12
  · cases h; exact h14
  · cases h; exact h15
  · cases h; exact h16
  · cases h; exact h17
  · cases h; exact h18
  · cases h; exact h19
  · cases h; exact h20
  · cases h; exact h21
  · cases h; exact h22
  · cases h; exact h23
  · cases h; exact h24
  · cases h; exact h25
  · cases h; exact h26
  · cases h; exact h27
  · cases h; exact h28
  · cases h; exact h29
  · cases h; exact h31
  · cases h; exact h32
  · cases h; exact h33
  · cases h; exact h34
  · cases h; exact h35
  · cases h; exact h36
  · cases h; exact h37
  · cases h; exact h38
  · cases h; exact h39
  · cases h; exact h40
  · cases h; exact h41
  · cases h; exact h42
  · cases h; exact h43
  · cases h; exact h44
  · cases h; exact h45
  · cases h; exact h46
  · cases h; exact h47
  · cases h; exact h48
  · cases h; exact h49
  · cases h
def idsT : List Nat := [0, 1, 2, 3, 4]
theorem sub_mem {d c : Nat} {b : Bool} (h : P.sub d c = some b) : d ∈ idsT := by
  have h : (if idsT.contains d && idsT.contains c then _ else none) = some b := h
  split at h
  · rename_i z
    exact List.contains_iff_mem.mp (Bool.and_eq_true_iff.mp z).1
  · cases h
end K8
end Dn
end L2
set_option Elab.async false
set_option linter.all false
set_option maxRecDepth 100000
set_option maxHeartbeats 8000000
namespace L2
namespace Dn
namespace K8
open PySem PySem.Spec PyProof.Rows
theorem all_mk {l : PySem.W.OpenLaw} {w : World} {K : PySem.W.Frag} {h : Heap} {mg : Str → Option Value} {fa : Addr} (X : K.In h) (Gh : h.Ns mainGlobals mg) (hfa : mg "law" = some (.ref fa))
    {f_0 f_1 f_2 f_3 f_4 f_5 f_6 f_7 f_8 f_9 f_10 f_12 f_14 f_15 f_16 f_17 f_18 f_19 f_20 f_21 f_22 f_23 f_24 f_25 f_26 f_27 f_28 f_29 f_31 f_32 f_33 f_34 f_35 f_36 f_37 f_38 f_39 f_40 f_41 f_42 f_43 f_44 f_45 f_46 f_47 f_48 f_49 f_X1 f_X2 f_X3 f_X4 c0 c1 c2 c3 c4 c5 c6 c7 a_NAMED a_JUMPS a_PAIRS a_ENTERED a_PLACELESS a_NORMAL a_RAISE a_AGAIN a_ASKING a_SIZES a_ENDS : Addr} {t_MOST_STATEMENTS t_MOST_LEVELS t_MOST_BLOCKS t_LONGEST_NAME t_MOST_ANSWERS : Tok} {nm_X1 q_X1 : Str} {N_X1 : Addr} {bs_X1 bm_X1 : List Value} {sn_X1 : List Str} {sub_X1 : List Value} {ab_X1 : Bool} {col_X1 : Option Bool} {dd_X1 : Option Addr} {k0_X1 k1_X1 k2_X1 k3_X1 k5_X1 : Option Value} {nm_X2 q_X2 : Str} {N_X2 : Addr} {bs_X2 bm_X2 : List Value} {sn_X2 : List Str} {sub_X2 : List Value} {ab_X2 : Bool} {col_X2 : Option Bool} {dd_X2 : Option Addr} {k0_X2 k1_X2 k2_X2 k3_X2 k5_X2 : Option Value} {nm_X3 q_X3 : Str} {N_X3 : Addr} {bs_X3 bm_X3 : List Value} {sn_X3 : List Str} {sub_X3 : List Value} {ab_X3 : Bool} {col_X3 : Option Bool} {dd_X3 : Option Addr} {k0_X3 k1_X3 k2_X3 k3_X3 k5_X3 : Option Value} {nm_X4 q_X4 : Str} {N_X4 : Addr} {bs_X4 bm_X4 : List Value} {sn_X4 : List Str} {sub_X4 : List Value} {ab_X4 : Bool} {col_X4 : Option Bool} {dd_X4 : Option Addr} {k0_X4 k1_X4 k2_X4 k3_X4 k5_X4 : Option Value}
    (x_CopyError : PySem.W.nsIn K mainGlobals "CopyError" = some (some (.ref c0)))
    (x_InvalidCode : PySem.W.nsIn K mainGlobals "InvalidCode" = some (some (.ref c1)))
    (x_InvalidNumber : PySem.W.nsIn K mainGlobals "InvalidNumber" = some (some (.ref c2)))
    (x_InvalidAnswers : PySem.W.nsIn K mainGlobals "InvalidAnswers" = some (some (.ref c3)))
    (x_LimitExceeded : PySem.W.nsIn K mainGlobals "LimitExceeded" = some (some (.ref c4)))
    (x_Code : PySem.W.nsIn K mainGlobals "Code" = some (some (.ref c5)))
    (x_Run : PySem.W.nsIn K mainGlobals "Run" = some (some (.ref c6)))
    (x_Walk : PySem.W.nsIn K mainGlobals "Walk" = some (some (.ref c7)))
    (a0 : PySem.W.nsIn K mainGlobals "is_integer" = some (some (.ref f_0)))
    (a1 : PySem.W.nsIn K mainGlobals "is_name" = some (some (.ref f_1)))
    (a2 : PySem.W.nsIn K mainGlobals "has_kind" = some (some (.ref f_2)))
    (a3 : PySem.W.nsIn K mainGlobals "is_statement" = some (some (.ref f_3)))
    (a4 : PySem.W.nsIn K mainGlobals "judge" = some (some (.ref f_4)))
    (a5 : PySem.W.nsIn K mainGlobals "head_of" = some (some (.ref f_5)))
    (a6 : PySem.W.nsIn K mainGlobals "parts_of" = some (some (.ref f_6)))
    (a7 : PySem.W.nsIn K mainGlobals "spots_inside" = some (some (.ref f_7)))
    (m8 : PySem.W.findIn K (.ref c5) "__init__" = some (some (.ref f_8)))
    (u8 : PySem.W.isFn K (.ref f_8) = true)
    (v8 : PySem.W.keepIn K (.ref f_8) = true)
    (m9 : PySem.W.findIn K (.ref c5) "_keep" = some (some (.ref f_9)))
    (u9 : PySem.W.isFn K (.ref f_9) = true)
    (v9 : PySem.W.keepIn K (.ref f_9) = true)
    (m10 : PySem.W.findIn K (.ref c5) "__len__" = some (some (.ref f_10)))
    (u10 : PySem.W.isFn K (.ref f_10) = true)
    (v10 : PySem.W.keepIn K (.ref f_10) = true)
    (m12 : PySem.W.findIn K (.ref c5) "__getitem__" = some (some (.ref f_12)))
    (u12 : PySem.W.isFn K (.ref f_12) = true)
    (v12 : PySem.W.keepIn K (.ref f_12) = true)
    (m14 : PySem.W.findIn K (.ref c5) "require_number" = some (some (.ref f_14)))
    (u14 : PySem.W.isFn K (.ref f_14) = true)
    (v14 : PySem.W.keepIn K (.ref f_14) = true)
    (m15 : PySem.W.findIn K (.ref c5) "require_place" = some (some (.ref f_15)))
    (u15 : PySem.W.isFn K (.ref f_15) = true)
    (v15 : PySem.W.keepIn K (.ref f_15) = true)
    (m16 : PySem.W.findIn K (.ref c5) "kind" = some (some (.ref f_16)))
    (u16 : PySem.W.isFn K (.ref f_16) = true)
    (v16 : PySem.W.keepIn K (.ref f_16) = true)
    (m17 : PySem.W.findIn K (.ref c5) "parent" = some (some (.ref f_17)))
    (u17 : PySem.W.isFn K (.ref f_17) = true)
    (v17 : PySem.W.keepIn K (.ref f_17) = true)
    (m18 : PySem.W.findIn K (.ref c5) "parts" = some (some (.ref f_18)))
    (u18 : PySem.W.isFn K (.ref f_18) = true)
    (v18 : PySem.W.keepIn K (.ref f_18) = true)
    (m19 : PySem.W.findIn K (.ref c5) "sibling" = some (some (.ref f_19)))
    (u19 : PySem.W.isFn K (.ref f_19) = true)
    (v19 : PySem.W.keepIn K (.ref f_19) = true)
    (m20 : PySem.W.findIn K (.ref c5) "places" = some (some (.ref f_20)))
    (u20 : PySem.W.isFn K (.ref f_20) = true)
    (v20 : PySem.W.keepIn K (.ref f_20) = true)
    (m21 : PySem.W.findIn K (.ref c5) "entry" = some (some (.ref f_21)))
    (u21 : PySem.W.isFn K (.ref f_21) = true)
    (v21 : PySem.W.keepIn K (.ref f_21) = true)
    (m22 : PySem.W.findIn K (.ref c5) "layers" = some (some (.ref f_22)))
    (u22 : PySem.W.isFn K (.ref f_22) = true)
    (v22 : PySem.W.keepIn K (.ref f_22) = true)
    (a23 : PySem.W.nsIn K mainGlobals "begins_next" = some (some (.ref f_23)))
    (a24 : PySem.W.nsIn K mainGlobals "comes_back" = some (some (.ref f_24)))
    (a25 : PySem.W.nsIn K mainGlobals "way_outside" = some (some (.ref f_25)))
    (a26 : PySem.W.nsIn K mainGlobals "onward" = some (some (.ref f_26)))
    (a27 : PySem.W.nsIn K mainGlobals "is_answer" = some (some (.ref f_27)))
    (a28 : PySem.W.nsIn K mainGlobals "check_answers" = some (some (.ref f_28)))
    (m29 : PySem.W.findIn K (.ref c6) "__init__" = some (some (.ref f_29)))
    (u29 : PySem.W.isFn K (.ref f_29) = true)
    (v29 : PySem.W.keepIn K (.ref f_29) = true)
    (m31 : PySem.W.findIn K (.ref c7) "__init__" = some (some (.ref f_31)))
    (u31 : PySem.W.isFn K (.ref f_31) = true)
    (v31 : PySem.W.keepIn K (.ref f_31) = true)
    (m32 : PySem.W.findIn K (.ref c7) "ended" = some (some (.ref f_32)))
    (u32 : PySem.W.isFn K (.ref f_32) = true)
    (v32 : PySem.W.keepIn K (.ref f_32) = true)
    (m33 : PySem.W.findIn K (.ref c7) "asks" = some (some (.ref f_33)))
    (u33 : PySem.W.isFn K (.ref f_33) = true)
    (v33 : PySem.W.keepIn K (.ref f_33) = true)
    (m34 : PySem.W.findIn K (.ref c7) "step" = some (some (.ref f_34)))
    (u34 : PySem.W.isFn K (.ref f_34) = true)
    (v34 : PySem.W.keepIn K (.ref f_34) = true)
    (m35 : PySem.W.findIn K (.ref c7) "_leave" = some (some (.ref f_35)))
    (u35 : PySem.W.isFn K (.ref f_35) = true)
    (v35 : PySem.W.keepIn K (.ref f_35) = true)
    (m36 : PySem.W.findIn K (.ref c7) "now" = some (some (.ref f_36)))
    (u36 : PySem.W.isFn K (.ref f_36) = true)
    (v36 : PySem.W.keepIn K (.ref f_36) = true)
    (a37 : PySem.W.nsIn K mainGlobals "begin" = some (some (.ref f_37)))
    (a38 : PySem.W.nsIn K mainGlobals "follow" = some (some (.ref f_38)))
    (a39 : PySem.W.nsIn K mainGlobals "run" = some (some (.ref f_39)))
    (a40 : PySem.W.nsIn K mainGlobals "moment" = some (some (.ref f_40)))
    (a41 : PySem.W.nsIn K mainGlobals "_law_cell_at" = some (some (.ref f_41)))
    (a42 : PySem.W.nsIn K mainGlobals "_law_source_of" = some (some (.ref f_42)))
    (a43 : PySem.W.nsIn K mainGlobals "_law_draw" = some (some (.ref f_43)))
    (a44 : PySem.W.nsIn K mainGlobals "_law_one" = some (some (.ref f_44)))
    (a45 : PySem.W.nsIn K mainGlobals "_law_leaf" = some (some (.ref f_45)))
    (a46 : PySem.W.nsIn K mainGlobals "_law_statement" = some (some (.ref f_46)))
    (a47 : PySem.W.nsIn K mainGlobals "_law_answers" = some (some (.ref f_47)))
    (a48 : PySem.W.nsIn K mainGlobals "_law_said" = some (some (.ref f_48)))
    (a49 : PySem.W.nsIn K mainGlobals "law" = some (some (.ref f_49)))
    (gi12 : PySem.W.fnIn K f_12 = true)
    (x_MOST_STATEMENTS : PySem.W.nsIn K mainGlobals "MOST_STATEMENTS" = some (some (.int 400 t_MOST_STATEMENTS)))
    (x_MOST_LEVELS : PySem.W.nsIn K mainGlobals "MOST_LEVELS" = some (some (.int 100 t_MOST_LEVELS)))
    (x_MOST_BLOCKS : PySem.W.nsIn K mainGlobals "MOST_BLOCKS" = some (some (.int 25 t_MOST_BLOCKS)))
    (x_LONGEST_NAME : PySem.W.nsIn K mainGlobals "LONGEST_NAME" = some (some (.int 8 t_LONGEST_NAME)))
    (x_MOST_ANSWERS : PySem.W.nsIn K mainGlobals "MOST_ANSWERS" = some (some (.int 1000 t_MOST_ANSWERS)))
    (x_NAMED : PySem.W.nsIn K mainGlobals "NAMED" = some (some (.ref a_NAMED)))
    (x_JUMPS : PySem.W.nsIn K mainGlobals "JUMPS" = some (some (.ref a_JUMPS)))
    (x_PAIRS : PySem.W.nsIn K mainGlobals "PAIRS" = some (some (.ref a_PAIRS)))
    (x_ENTERED : PySem.W.nsIn K mainGlobals "ENTERED" = some (some (.ref a_ENTERED)))
    (x_PLACELESS : PySem.W.nsIn K mainGlobals "PLACELESS" = some (some (.ref a_PLACELESS)))
    (x_NORMAL : PySem.W.nsIn K mainGlobals "NORMAL" = some (some (.ref a_NORMAL)))
    (x_RAISE : PySem.W.nsIn K mainGlobals "RAISE" = some (some (.ref a_RAISE)))
    (x_AGAIN : PySem.W.nsIn K mainGlobals "AGAIN" = some (some (.ref a_AGAIN)))
    (x_ASKING : PySem.W.nsIn K mainGlobals "ASKING" = some (some (.ref a_ASKING)))
    (x_SIZES : PySem.W.nsIn K mainGlobals "SIZES" = some (some (.ref a_SIZES)))
    (x_ENDS : PySem.W.nsIn K mainGlobals "ENDS" = some (some (.ref a_ENDS)))
    (z_int : PySem.W.nsIn K mainGlobals "int" = some none)
    (z_bool : PySem.W.nsIn K mainGlobals "bool" = some none)
    (z_str : PySem.W.nsIn K mainGlobals "str" = some none)
    (z_tuple : PySem.W.nsIn K mainGlobals "tuple" = some none)
    (z_list : PySem.W.nsIn K mainGlobals "list" = some none)
    (z_dict : PySem.W.nsIn K mainGlobals "dict" = some none)
    (z_len : PySem.W.nsIn K mainGlobals "len" = some none)
    (z_isinstance : PySem.W.nsIn K mainGlobals "isinstance" = some none)
    (z_all : PySem.W.nsIn K mainGlobals "all" = some none)
    (z_sum : PySem.W.nsIn K mainGlobals "sum" = some none)
    (z_range : PySem.W.nsIn K mainGlobals "range" = some none)
    (z_enumerate : PySem.W.nsIn K mainGlobals "enumerate" = some none)
    (z_reversed : PySem.W.nsIn K mainGlobals "reversed" = some none)
    (pg_Code : PySem.W.plainGet K c5 Str.empty = true)
    (hd_Code : PySem.W.hasDictIn K c5 = true)
    (po_Code : PySem.W.plainOver K c5 = true)
    (sa_Code : PySem.W.findIn K (.ref c5) "__setattr__" = some (some (.builtin "object.__setattr__")))
    (mk_Code : PySem.W.makesIn K c5 = true)
    (kc_Code : PySem.W.keepIn K (.ref c5) = true)
    (n_Code_0 : PySem.W.findIn K (.ref c5) "_statements" = some none)
    (n_Code_1 : PySem.W.findIn K (.ref c5) "_heads" = some none)
    (n_Code_2 : PySem.W.findIn K (.ref c5) "_parents" = some none)
    (n_Code_3 : PySem.W.findIn K (.ref c5) "_parts" = some none)
    (n_Code_4 : PySem.W.findIn K (.ref c5) "_siblings" = some none)
    (n_Code_5 : PySem.W.findIn K (.ref c5) "_layers" = some none)
    (pg_Run : PySem.W.plainGet K c6 Str.empty = true)
    (hd_Run : PySem.W.hasDictIn K c6 = true)
    (po_Run : PySem.W.plainOver K c6 = true)
    (sa_Run : PySem.W.findIn K (.ref c6) "__setattr__" = some (some (.builtin "object.__setattr__")))
    (mk_Run : PySem.W.makesIn K c6 = true)
    (kc_Run : PySem.W.keepIn K (.ref c6) = true)
    (n_Run_0 : PySem.W.findIn K (.ref c6) "visited" = some none)
    (n_Run_1 : PySem.W.findIn K (.ref c6) "used" = some none)
    (n_Run_2 : PySem.W.findIn K (.ref c6) "end" = some none)
    (pg_Walk : PySem.W.plainGet K c7 Str.empty = true)
    (hd_Walk : PySem.W.hasDictIn K c7 = true)
    (po_Walk : PySem.W.plainOver K c7 = true)
    (sa_Walk : PySem.W.findIn K (.ref c7) "__setattr__" = some (some (.builtin "object.__setattr__")))
    (mk_Walk : PySem.W.makesIn K c7 = true)
    (kc_Walk : PySem.W.keepIn K (.ref c7) = true)
    (n_Walk_0 : PySem.W.findIn K (.ref c7) "source" = some none)
    (n_Walk_1 : PySem.W.findIn K (.ref c7) "spot" = some none)
    (n_Walk_2 : PySem.W.findIn K (.ref c7) "pending" = some none)
    (m_X1 : PySem.W.findIn K (.ref c1) "__init__" = some (some (.ref f_X1)))
    (e0_X1 : K.lookup c1 = some (excClassObj nm_X1 q_X1 c1 N_X1 bs_X1 bm_X1 true sn_X1 sub_X1 ab_X1 col_X1 dd_X1 k0_X1 k1_X1 k2_X1 k3_X1 k5_X1 "ArithmeticError.__new__"))
    (e1_X1 : Fc.arOver bm_X1 = true)
    (e2_X1 : PySem.W.findIn K (.ref c1) "__setattr__" = some (some (.builtin "object.__setattr__")))
    (e3_X1 : PySem.W.findIn K (.ref c1) "__getattribute__" = some (some (.builtin "BaseException.__getattribute__")))
    (e4_X1 : PySem.W.findIn K (.ref c1) "__getattr__" = some none)
    (e5_InvalidCode : PySem.W.hasDictIn K c1 = true)
    (e6_X1 : PySem.W.findIn K (.ref c1) "number" = some none)
    (e7_InvalidCode : PySem.W.subIn K (.ref c1) (.type "BaseException") = some true)
    (e8_InvalidCode : PySem.W.typeIn K (.ref c1) = some (.type "type"))
    (e9_X1 : PySem.W.keepIn K (.ref c1) = true)
    (e10_X1 : PySem.W.typeIn K (.ref f_X1) = some (.type "function"))
    (m_X2 : PySem.W.findIn K (.ref c2) "__init__" = some (some (.ref f_X2)))
    (e0_X2 : K.lookup c2 = some (excClassObj nm_X2 q_X2 c2 N_X2 bs_X2 bm_X2 true sn_X2 sub_X2 ab_X2 col_X2 dd_X2 k0_X2 k1_X2 k2_X2 k3_X2 k5_X2 "ArithmeticError.__new__"))
    (e1_X2 : Fc.arOver bm_X2 = true)
    (e2_X2 : PySem.W.findIn K (.ref c2) "__setattr__" = some (some (.builtin "object.__setattr__")))
    (e3_X2 : PySem.W.findIn K (.ref c2) "__getattribute__" = some (some (.builtin "BaseException.__getattribute__")))
    (e4_X2 : PySem.W.findIn K (.ref c2) "__getattr__" = some none)
    (e5_InvalidNumber : PySem.W.hasDictIn K c2 = true)
    (e6_X2 : PySem.W.findIn K (.ref c2) "number" = some none)
    (e7_InvalidNumber : PySem.W.subIn K (.ref c2) (.type "BaseException") = some true)
    (e8_InvalidNumber : PySem.W.typeIn K (.ref c2) = some (.type "type"))
    (e9_X2 : PySem.W.keepIn K (.ref c2) = true)
    (e10_X2 : PySem.W.typeIn K (.ref f_X2) = some (.type "function"))
    (m_X3 : PySem.W.findIn K (.ref c3) "__init__" = some (some (.ref f_X3)))
    (e0_X3 : K.lookup c3 = some (excClassObj nm_X3 q_X3 c3 N_X3 bs_X3 bm_X3 true sn_X3 sub_X3 ab_X3 col_X3 dd_X3 k0_X3 k1_X3 k2_X3 k3_X3 k5_X3 "ArithmeticError.__new__"))
    (e1_X3 : Fc.arOver bm_X3 = true)
    (e2_X3 : PySem.W.findIn K (.ref c3) "__setattr__" = some (some (.builtin "object.__setattr__")))
    (e3_X3 : PySem.W.findIn K (.ref c3) "__getattribute__" = some (some (.builtin "BaseException.__getattribute__")))
    (e4_X3 : PySem.W.findIn K (.ref c3) "__getattr__" = some none)
    (e5_InvalidAnswers : PySem.W.hasDictIn K c3 = true)
    (e6_X3 : PySem.W.findIn K (.ref c3) "at" = some none)
    (e7_InvalidAnswers : PySem.W.subIn K (.ref c3) (.type "BaseException") = some true)
    (e8_InvalidAnswers : PySem.W.typeIn K (.ref c3) = some (.type "type"))
    (e9_X3 : PySem.W.keepIn K (.ref c3) = true)
    (e10_X3 : PySem.W.typeIn K (.ref f_X3) = some (.type "function"))
    (m_X4 : PySem.W.findIn K (.ref c4) "__init__" = some (some (.ref f_X4)))
    (e0_X4 : K.lookup c4 = some (excClassObj nm_X4 q_X4 c4 N_X4 bs_X4 bm_X4 true sn_X4 sub_X4 ab_X4 col_X4 dd_X4 k0_X4 k1_X4 k2_X4 k3_X4 k5_X4 "ArithmeticError.__new__"))
    (e1_X4 : Fc.arOver bm_X4 = true)
    (e2_X4 : PySem.W.findIn K (.ref c4) "__setattr__" = some (some (.builtin "object.__setattr__")))
    (e3_X4 : PySem.W.findIn K (.ref c4) "__getattribute__" = some (some (.builtin "BaseException.__getattribute__")))
    (e4_X4 : PySem.W.findIn K (.ref c4) "__getattr__" = some none)
    (e5_LimitExceeded : PySem.W.hasDictIn K c4 = true)
    (e6_X4 : PySem.W.findIn K (.ref c4) "limit" = some none)
    (e7_LimitExceeded : PySem.W.subIn K (.ref c4) (.type "BaseException") = some true)
    (e8_LimitExceeded : PySem.W.typeIn K (.ref c4) = some (.type "type"))
    (e9_X4 : PySem.W.keepIn K (.ref c4) = true)
    (e10_X4 : PySem.W.typeIn K (.ref f_X4) = some (.type "function"))
    (e5_CopyError : PySem.W.hasDictIn K c0 = true)
    (e7_CopyError : PySem.W.subIn K (.ref c0) (.type "BaseException") = some true)
    (e8_CopyError : PySem.W.typeIn K (.ref c0) = some (.type "type"))
    (s_CopyError_InvalidAnswers : PySem.W.subIn K (.ref c0) (.ref c3) = some false)
    (s_InvalidCode_InvalidAnswers : PySem.W.subIn K (.ref c1) (.ref c3) = some false)
    (s_InvalidNumber_InvalidAnswers : PySem.W.subIn K (.ref c2) (.ref c3) = some false)
    (s_InvalidAnswers_InvalidAnswers : PySem.W.subIn K (.ref c3) (.ref c3) = some true)
    (s_LimitExceeded_InvalidAnswers : PySem.W.subIn K (.ref c4) (.ref c3) = some false)
    (s_CopyError_CopyError : PySem.W.subIn K (.ref c0) (.ref c0) = some true)
    (s_InvalidCode_CopyError : PySem.W.subIn K (.ref c1) (.ref c0) = some true)
    (s_InvalidNumber_CopyError : PySem.W.subIn K (.ref c2) (.ref c0) = some true)
    (s_InvalidAnswers_CopyError : PySem.W.subIn K (.ref c3) (.ref c0) = some true)
    (s_LimitExceeded_CopyError : PySem.W.subIn K (.ref c4) (.ref c0) = some true)
    (w_NAMED : litT K (litW K 3) a_NAMED = some ((D.tup false [(.str "do"), (.str "call"), (.str "if"), (.str "while")])))
    (w_JUMPS : litT K (litW K 3) a_JUMPS = some ((D.tup false [(.str "break"), (.str "continue")])))
    (w_PAIRS : litT K (litW K 3) a_PAIRS = some ((D.tup false [(.str "try"), (.str "final")])))
    (w_ENTERED : litT K (litW K 3) a_ENTERED = some ((D.tup false [(.str "seq"), (.str "try"), (.str "final")])))
    (w_PLACELESS : litT K (litW K 3) a_PLACELESS = some ((D.tup false [(.str "seq"), (.str "try")])))
    (w_NORMAL : litT K (litW K 3) a_NORMAL = some ((D.tup false [(.str "normal")])))
    (w_RAISE : litT K (litW K 3) a_RAISE = some ((D.tup false [(.str "raise")])))
    (w_AGAIN : litT K (litW K 3) a_AGAIN = some ((D.tup false [(.tup false [(.str "normal")]), (.tup false [(.str "continue"), (.int (1))])])))
    (w_ASKING : litT K (litW K 3) a_ASKING = some ((D.tup false [(.str "call"), (.str "if"), (.str "while")])))
    (w_SIZES : He.dicW K a_SIZES = some (He.keysIn w.params (([("do", (.int (2))), ("call", (.int (2))), ("if", (.int (4))), ("while", (.int (3))), ("seq", (.int (2))), ("break", (.int (2))), ("continue", (.int (2))), ("return", (.int (1))), ("raise", (.int (1))), ("try", (.int (3))), ("final", (.int (3)))] : List (Str × D)).map (·.1))))
    (p_SIZES : prDW K a_SIZES = some (([("do", (.int (2))), ("call", (.int (2))), ("if", (.int (4))), ("while", (.int (3))), ("seq", (.int (2))), ("break", (.int (2))), ("continue", (.int (2))), ("return", (.int (1))), ("raise", (.int (1))), ("try", (.int (3))), ("final", (.int (3)))] : List (Str × D)).map some))
    (w_ENDS : He.dicW K a_ENDS = some (He.keysIn w.params (([("normal", (.str "end")), ("return", (.str "return")), ("raise", (.str "raise"))] : List (Str × D)).map (·.1))))
    (p_ENDS : prDW K a_ENDS = some (([("normal", (.str "end")), ("return", (.str "return")), ("raise", (.str "raise"))] : List (Str × D)).map some))
    (d_0 : Fc.DefF K "is_integer" "is_integer" s0 f_0)
    (d_1 : Fc.DefF K "is_name" "is_name" s1 f_1)
    (d_2 : Fc.DefF K "has_kind" "has_kind" s2 f_2)
    (d_3 : Fc.DefF K "is_statement" "is_statement" s3 f_3)
    (d_4 : Fc.DefF K "judge" "judge" s4 f_4)
    (d_5 : Fc.DefF K "head_of" "head_of" s5 f_5)
    (d_6 : Fc.DefF K "parts_of" "parts_of" s6 f_6)
    (d_7 : Fc.DefF K "spots_inside" "spots_inside" s7 f_7)
    (d_8 : Fc.DefF K "__init__" "Code.__init__" s8 f_8)
    (d_9 : Fc.DefF K "_keep" "Code._keep" s9 f_9)
    (d_10 : Fc.DefF K "__len__" "Code.__len__" s10 f_10)
    (d_12 : Fc.DefF K "__getitem__" "Code.__getitem__" s12 f_12)
    (d_14 : Fc.DefF K "require_number" "Code.require_number" s14 f_14)
    (d_15 : Fc.DefF K "require_place" "Code.require_place" s15 f_15)
    (d_16 : Fc.DefF K "kind" "Code.kind" s16 f_16)
    (d_17 : Fc.DefF K "parent" "Code.parent" s17 f_17)
    (d_18 : Fc.DefF K "parts" "Code.parts" s18 f_18)
    (d_19 : Fc.DefF K "sibling" "Code.sibling" s19 f_19)
    (d_20 : Fc.DefF K "places" "Code.places" s20 f_20)
    (d_21 : Fc.DefF K "entry" "Code.entry" s21 f_21)
    (d_22 : Fc.DefF K "layers" "Code.layers" s22 f_22)
    (d_23 : Fc.DefF K "begins_next" "begins_next" s23 f_23)
    (d_24 : Fc.DefF K "comes_back" "comes_back" s24 f_24)
    (d_25 : Fc.DefF K "way_outside" "way_outside" s25 f_25)
    (d_26 : Fc.DefF K "onward" "onward" s26 f_26)
    (d_27 : Fc.DefF K "is_answer" "is_answer" s27 f_27)
    (d_28 : Fc.DefF K "check_answers" "check_answers" s28 f_28)
    (d_29 : Fc.DefF K "__init__" "Run.__init__" s29 f_29)
    (d_31 : Fc.DefF K "__init__" "Walk.__init__" s31 f_31)
    (d_32 : Fc.DefF K "ended" "Walk.ended" s32 f_32)
    (d_33 : Fc.DefF K "asks" "Walk.asks" s33 f_33)
    (d_34 : Fc.DefF K "step" "Walk.step" s34 f_34)
    (d_35 : Fc.DefF K "_leave" "Walk._leave" s35 f_35)
    (d_36 : Fc.DefF K "now" "Walk.now" s36 f_36)
    (d_37 : Fc.DefF K "begin" "begin" s37 f_37)
    (d_38 : Fc.DefF K "follow" "follow" s38 f_38)
    (d_39 : Fc.DefF K "run" "run" s39 f_39)
    (d_40 : Fc.DefF K "moment" "moment" s40 f_40)
    (d_41 : Fc.DefF K "_law_cell_at" "_law_cell_at" s41 f_41)
    (d_42 : Fc.DefF K "_law_source_of" "_law_source_of" s42 f_42)
    (d_43 : Fc.DefF K "_law_draw" "_law_draw" s43 f_43)
    (d_44 : Fc.DefF K "_law_one" "_law_one" s44 f_44)
    (d_45 : Fc.DefF K "_law_leaf" "_law_leaf" s45 f_45)
    (d_46 : Fc.DefF K "_law_statement" "_law_statement" s46 f_46)
    (d_47 : Fc.DefF K "_law_answers" "_law_answers" s47 f_47)
    (d_48 : Fc.DefF K "_law_said" "_law_said" s48 f_48)
    (d_49 : Fc.DefF K "law" "law" s49 f_49)
    (d_X1 : Fc.DefF K "__init__" "InvalidCode.__init__" sx1 f_X1)
    (d_X2 : Fc.DefF K "__init__" "InvalidNumber.__init__" sx2 f_X2)
    (d_X3 : Fc.DefF K "__init__" "InvalidAnswers.__init__" sx3 f_X3)
    (d_X4 : Fc.DefF K "__init__" "LimitExceeded.__init__" sx4 f_X4) :
    ∃ fd : FuncData, (∀ (s : Shared) (v : Value), BindsTo s fd ⟨[v], []⟩ [("_law_script", v)]) ∧ ∀ base : Heap, K.In base → base.Ns mainGlobals mg → FnOk l.prog w K mg base (L2.CX l.prog w) (lev 10) fa fd ["_law_script"] (spLaw K) := by
  have e := hfa.symm.trans (PySem.W.mg_of X Gh a49)
  have e : f_49 = fa := (Value.ref.inj (Option.some.inj e)).symm
  subst e
  obtain ⟨fd_0, F_0⟩ := d_0.ex
  have b_0 := F_0.binds (ps := ["value"]) fun _ _ _ _ _ _ us hl => match us, hl with | [_], _ => rfl
  obtain ⟨fd_1, F_1⟩ := d_1.ex
  have b_1 := F_1.binds (ps := ["value"]) fun _ _ _ _ _ _ us hl => match us, hl with | [_], _ => rfl
  obtain ⟨fd_2, F_2⟩ := d_2.ex
  have b_2 := F_2.binds (ps := ["value"]) fun _ _ _ _ _ _ us hl => match us, hl with | [_], _ => rfl
  obtain ⟨fd_3, F_3⟩ := d_3.ex
  have b_3 := F_3.binds (ps := ["value", "whiles"]) fun _ _ _ _ _ _ us hl => match us, hl with | [_, _], _ => rfl
  obtain ⟨fd_4, F_4⟩ := d_4.ex
  have b_4 := F_4.binds (ps := ["spot", "number"]) fun _ _ _ _ _ _ us hl => match us, hl with | [_, _], _ => rfl
  obtain ⟨fd_5, F_5⟩ := d_5.ex
  have b_5 := F_5.binds (ps := ["statement"]) fun _ _ _ _ _ _ us hl => match us, hl with | [_], _ => rfl
  obtain ⟨fd_6, F_6⟩ := d_6.ex
  have b_6 := F_6.binds (ps := ["statement"]) fun _ _ _ _ _ _ us hl => match us, hl with | [_], _ => rfl
  obtain ⟨fd_7, F_7⟩ := d_7.ex
  have b_7 := F_7.binds (ps := ["spot", "number"]) fun _ _ _ _ _ _ us hl => match us, hl with | [_, _], _ => rfl
  obtain ⟨fd_8, F_8⟩ := d_8.ex
  have b_8 := F_8.binds (ps := ["self", "statement"]) fun _ _ _ _ _ _ us hl => match us, hl with | [_, _], _ => rfl
  obtain ⟨fd_9, F_9⟩ := d_9.ex
  have b_9 := F_9.binds (ps := ["self", "spot", "number"]) fun _ _ _ _ _ _ us hl => match us, hl with | [_, _, _], _ => rfl
  obtain ⟨fd_10, F_10⟩ := d_10.ex
  have b_10 := F_10.binds (ps := ["self"]) fun _ _ _ _ _ _ us hl => match us, hl with | [_], _ => rfl
  obtain ⟨fd_12, F_12⟩ := d_12.ex
  have b_12 := F_12.binds (ps := ["self", "at"]) fun _ _ _ _ _ _ us hl => match us, hl with | [_, _], _ => rfl
  obtain ⟨fd_14, F_14⟩ := d_14.ex
  have b_14 := F_14.binds (ps := ["self", "number"]) fun _ _ _ _ _ _ us hl => match us, hl with | [_, _], _ => rfl
  obtain ⟨fd_15, F_15⟩ := d_15.ex
  have b_15 := F_15.binds (ps := ["self", "place"]) fun _ _ _ _ _ _ us hl => match us, hl with | [_, _], _ => rfl
  obtain ⟨fd_16, F_16⟩ := d_16.ex
  have b_16 := F_16.binds (ps := ["self", "number"]) fun _ _ _ _ _ _ us hl => match us, hl with | [_, _], _ => rfl
  obtain ⟨fd_17, F_17⟩ := d_17.ex
  have b_17 := F_17.binds (ps := ["self", "number"]) fun _ _ _ _ _ _ us hl => match us, hl with | [_, _], _ => rfl
  obtain ⟨fd_18, F_18⟩ := d_18.ex
  have b_18 := F_18.binds (ps := ["self", "number"]) fun _ _ _ _ _ _ us hl => match us, hl with | [_, _], _ => rfl
  obtain ⟨fd_19, F_19⟩ := d_19.ex
  have b_19 := F_19.binds (ps := ["self", "number"]) fun _ _ _ _ _ _ us hl => match us, hl with | [_, _], _ => rfl
  obtain ⟨fd_20, F_20⟩ := d_20.ex
  have b_20 := F_20.binds (ps := ["self"]) fun _ _ _ _ _ _ us hl => match us, hl with | [_], _ => rfl
  obtain ⟨fd_21, F_21⟩ := d_21.ex
  have b_21 := F_21.binds (ps := ["self", "number"]) fun _ _ _ _ _ _ us hl => match us, hl with | [_, _], _ => rfl
  obtain ⟨fd_22, F_22⟩ := d_22.ex
  have b_22 := F_22.binds (ps := ["self", "place"]) fun _ _ _ _ _ _ us hl => match us, hl with | [_, _], _ => rfl
  obtain ⟨fd_23, F_23⟩ := d_23.ex
  have b_23 := F_23.binds (ps := ["kind", "way"]) fun _ _ _ _ _ _ us hl => match us, hl with | [_, _], _ => rfl
  obtain ⟨fd_24, F_24⟩ := d_24.ex
  have b_24 := F_24.binds (ps := ["kind", "way"]) fun _ _ _ _ _ _ us hl => match us, hl with | [_, _], _ => rfl
  obtain ⟨fd_25, F_25⟩ := d_25.ex
  have b_25 := F_25.binds (ps := ["kind", "way"]) fun _ _ _ _ _ _ us hl => match us, hl with | [_, _], _ => rfl
  obtain ⟨fd_26, F_26⟩ := d_26.ex
  have b_26 := F_26.binds (ps := ["code", "number", "way"]) fun _ _ _ _ _ _ us hl => match us, hl with | [_, _, _], _ => rfl
  obtain ⟨fd_27, F_27⟩ := d_27.ex
  have b_27 := F_27.binds (ps := ["value"]) fun _ _ _ _ _ _ us hl => match us, hl with | [_], _ => rfl
  obtain ⟨fd_28, F_28⟩ := d_28.ex
  have b_28 := F_28.binds (ps := ["answers"]) fun _ _ _ _ _ _ us hl => match us, hl with | [_], _ => rfl
  obtain ⟨fd_29, F_29⟩ := d_29.ex
  have b_29 := F_29.binds (ps := ["self", "visited", "used", "end"]) fun _ _ _ _ _ _ us hl => match us, hl with | [_, _, _, _], _ => rfl
  obtain ⟨fd_31, F_31⟩ := d_31.ex
  have b_31 := F_31.binds (ps := ["self", "code", "spot", "pending"]) fun _ _ _ _ _ _ us hl => match us, hl with | [_, _, _, _], _ => rfl
  obtain ⟨fd_32, F_32⟩ := d_32.ex
  have b_32 := F_32.binds (ps := ["self"]) fun _ _ _ _ _ _ us hl => match us, hl with | [_], _ => rfl
  obtain ⟨fd_33, F_33⟩ := d_33.ex
  have b_33 := F_33.binds (ps := ["self"]) fun _ _ _ _ _ _ us hl => match us, hl with | [_], _ => rfl
  obtain ⟨fd_34, F_34⟩ := d_34.ex
  have b_34 := F_34.binds (ps := ["self", "answer"]) fun _ _ _ _ _ _ us hl => match us, hl with | [_, _], _ => rfl
  obtain ⟨fd_35, F_35⟩ := d_35.ex
  have b_35 := F_35.binds (ps := ["self", "number", "way"]) fun _ _ _ _ _ _ us hl => match us, hl with | [_, _, _], _ => rfl
  obtain ⟨fd_36, F_36⟩ := d_36.ex
  have b_36 := F_36.binds (ps := ["self"]) fun _ _ _ _ _ _ us hl => match us, hl with | [_], _ => rfl
  obtain ⟨fd_37, F_37⟩ := d_37.ex
  have b_37 := F_37.binds (ps := ["code"]) fun _ _ _ _ _ _ us hl => match us, hl with | [_], _ => rfl
  obtain ⟨fd_38, F_38⟩ := d_38.ex
  have b_38 := F_38.binds (ps := ["walk", "answers"]) fun _ _ _ _ _ _ us hl => match us, hl with | [_, _], _ => rfl
  obtain ⟨fd_39, F_39⟩ := d_39.ex
  have b_39 := F_39.binds (ps := ["code", "answers"]) fun _ _ _ _ _ _ us hl => match us, hl with | [_, _], _ => rfl
  obtain ⟨fd_40, F_40⟩ := d_40.ex
  have b_40 := F_40.binds (ps := ["code", "answers"]) fun _ _ _ _ _ _ us hl => match us, hl with | [_, _], _ => rfl
  obtain ⟨fd_41, F_41⟩ := d_41.ex
  have b_41 := F_41.binds (ps := ["_law_script", "_law_k"]) fun _ _ _ _ _ _ us hl => match us, hl with | [_, _], _ => rfl
  obtain ⟨fd_42, F_42⟩ := d_42.ex
  have b_42 := F_42.binds (ps := ["_law_cell"]) fun _ _ _ _ _ _ us hl => match us, hl with | [_], _ => rfl
  obtain ⟨fd_43, F_43⟩ := d_43.ex
  have b_43 := F_43.binds (ps := ["_law_source", "_law_many"]) fun _ _ _ _ _ _ us hl => match us, hl with | [_, _], _ => rfl
  obtain ⟨fd_44, F_44⟩ := d_44.ex
  have b_44 := F_44.binds (ps := ["_law_source", "_law_some"]) fun _ _ _ _ _ _ us hl => match us, hl with | [_, _], _ => rfl
  obtain ⟨fd_45, F_45⟩ := d_45.ex
  have b_45 := F_45.binds (ps := ["_law_source", "_law_loops"]) fun _ _ _ _ _ _ us hl => match us, hl with | [_, _], _ => rfl
  obtain ⟨fd_46, F_46⟩ := d_46.ex
  have b_46 := F_46.binds (ps := ["_law_source", "_law_deep", "_law_loops"]) fun _ _ _ _ _ _ us hl => match us, hl with | [_, _, _], _ => rfl
  obtain ⟨fd_47, F_47⟩ := d_47.ex
  have b_47 := F_47.binds (ps := ["_law_source", "_law_most"]) fun _ _ _ _ _ _ us hl => match us, hl with | [_, _], _ => rfl
  obtain ⟨fd_48, F_48⟩ := d_48.ex
  have b_48 := F_48.binds (ps := ["_law_code", "_law_answers_here"]) fun _ _ _ _ _ _ us hl => match us, hl with | [_, _], _ => rfl
  obtain ⟨fd_49, F_49⟩ := d_49.ex
  have b_49 := F_49.binds (ps := ["_law_script"]) fun _ _ _ _ _ _ us hl => match us, hl with | [_], _ => rfl
  obtain ⟨fd_X1, F_X1⟩ := d_X1.ex
  have b_X1 := F_X1.binds (ps := ["self", "number"]) fun _ _ _ _ _ _ us hl => match us, hl with | [_, _], _ => rfl
  obtain ⟨fd_X2, F_X2⟩ := d_X2.ex
  have b_X2 := F_X2.binds (ps := ["self", "number"]) fun _ _ _ _ _ _ us hl => match us, hl with | [_, _], _ => rfl
  obtain ⟨fd_X3, F_X3⟩ := d_X3.ex
  have b_X3 := F_X3.binds (ps := ["self", "at"]) fun _ _ _ _ _ _ us hl => match us, hl with | [_, _], _ => rfl
  obtain ⟨fd_X4, F_X4⟩ := d_X4.ex
  have b_X4 := F_X4.binds (ps := ["self", "limit"]) fun _ _ _ _ _ _ us hl => match us, hl with | [_, _], _ => rfl
  have ar_X1 := Fc.arc_of e0_X1 e1_X1 e2_X1 e3_X1 e4_X1 e5_InvalidCode e6_X1 e7_InvalidCode e8_InvalidCode e9_X1 m_X1 e10_X1
  have ar_X2 := Fc.arc_of e0_X2 e1_X2 e2_X2 e3_X2 e4_X2 e5_InvalidNumber e6_X2 e7_InvalidNumber e8_InvalidNumber e9_X2 m_X2 e10_X2
  have ar_X3 := Fc.arc_of e0_X3 e1_X3 e2_X3 e3_X3 e4_X3 e5_InvalidAnswers e6_X3 e7_InvalidAnswers e8_InvalidAnswers e9_X3 m_X3 e10_X3
  have ar_X4 := Fc.arc_of e0_X4 e1_X4 e2_X4 e3_X4 e4_X4 e5_LimitExceeded e6_X4 e7_LimitExceeded e8_LimitExceeded e9_X4 m_X4 e10_X4
  refine ⟨fd_49, fun s v => ?_, fun base _ _ => ?_⟩
  · obtain ⟨oc, od, kV, doc, pm, an, cdv, ct, osl, rfl, _⟩ := F_49.ex
    exact .of_eq rfl
  have L : Lk (mkG K (fun c => [c0, c1, c2, c3, c4, c5, c6, c7].getD c c5) (fun i => [f_0, f_1, f_2, f_3, f_4, f_5, f_6, f_7, f_8, f_9, f_10, f_0, f_12, f_0, f_14, f_15, f_16, f_17, f_18, f_19, f_20, f_21, f_22, f_23, f_24, f_25, f_26, f_27, f_28, f_29, f_0, f_31, f_32, f_33, f_34, f_35, f_36, f_37, f_38, f_39, f_40, f_41, f_42, f_43, f_44, f_45, f_46, f_47, f_48, f_49].getD i f_0) (fun c => ([[], ["number"], ["number"], ["at"], ["limit"], ["_statements", "_heads", "_parents", "_parts", "_siblings", "_layers"], ["visited", "used", "end"], ["source", "spot", "pending"]] : List (List Str)).getD c []) [(a_SIZES, [("do", (.int (2))), ("call", (.int (2))), ("if", (.int (4))), ("while", (.int (3))), ("seq", (.int (2))), ("break", (.int (2))), ("continue", (.int (2))), ("return", (.int (1))), ("raise", (.int (1))), ("try", (.int (3))), ("final", (.int (3)))]), (a_ENDS, [("normal", (.str "end")), ("return", (.str "return")), ("raise", (.str "raise"))])]) P l.prog w mg base S0 (fun i => [f_0, f_1, f_2, f_3, f_4, f_5, f_6, f_7, f_8, f_9, f_10, f_0, f_12, f_0, f_14, f_15, f_16, f_17, f_18, f_19, f_20, f_21, f_22, f_23, f_24, f_25, f_26, f_27, f_28, f_29, f_0, f_31, f_32, f_33, f_34, f_35, f_36, f_37, f_38, f_39, f_40, f_41, f_42, f_43, f_44, f_45, f_46, f_47, f_48, f_49].getD i f_0) (fun i => [fd_0, fd_1, fd_2, fd_3, fd_4, fd_5, fd_6, fd_7, fd_8, fd_9, fd_10, fd_0, fd_12, fd_0, fd_14, fd_15, fd_16, fd_17, fd_18, fd_19, fd_20, fd_21, fd_22, fd_23, fd_24, fd_25, fd_26, fd_27, fd_28, fd_29, fd_0, fd_31, fd_32, fd_33, fd_34, fd_35, fd_36, fd_37, fd_38, fd_39, fd_40, fd_41, fd_42, fd_43, fd_44, fd_45, fd_46, fd_47, fd_48, fd_49].getD i fd_0) psT :=
    { gok := mkG_ok (fun p hp => by
      rcases List.mem_cons.mp hp with rfl | hp
      · exact ⟨w_SIZES, p_SIZES⟩
      rcases List.mem_cons.mp hp with rfl | hp
      · exact ⟨w_ENDS, p_ENDS⟩
      cases hp),
      fn := all_fn (C := fun i fn => FnL K S0 fn ([f_0, f_1, f_2, f_3, f_4, f_5, f_6, f_7, f_8, f_9, f_10, f_0, f_12, f_0, f_14, f_15, f_16, f_17, f_18, f_19, f_20, f_21, f_22, f_23, f_24, f_25, f_26, f_27, f_28, f_29, f_0, f_31, f_32, f_33, f_34, f_35, f_36, f_37, f_38, f_39, f_40, f_41, f_42, f_43, f_44, f_45, f_46, f_47, f_48, f_49].getD i f_0) ([fd_0, fd_1, fd_2, fd_3, fd_4, fd_5, fd_6, fd_7, fd_8, fd_9, fd_10, fd_0, fd_12, fd_0, fd_14, fd_15, fd_16, fd_17, fd_18, fd_19, fd_20, fd_21, fd_22, fd_23, fd_24, fd_25, fd_26, fd_27, fd_28, fd_29, fd_0, fd_31, fd_32, fd_33, fd_34, fd_35, fd_36, fd_37, fd_38, fd_39, fd_40, fd_41, fd_42, fd_43, fd_44, fd_45, fd_46, fd_47, fd_48, fd_49].getD i fd_0) (psT i)) ⟨⟨_, _, _, _, F_0, sc0, rfl, rfl, ms0, st0⟩, b_0⟩
          ⟨⟨_, _, _, _, F_1, sc1, rfl, rfl, ms1, st1⟩, b_1⟩
          ⟨⟨_, _, _, _, F_2, sc2, rfl, rfl, ms2, st2⟩, b_2⟩
          ⟨⟨_, _, _, _, F_3, sc3, rfl, rfl, ms3, st3⟩, b_3⟩
          ⟨⟨_, _, _, _, F_4, sc4, rfl, rfl, ms4, st4⟩, b_4⟩
          ⟨⟨_, _, _, _, F_5, sc5, rfl, rfl, ms5, st5⟩, b_5⟩
          ⟨⟨_, _, _, _, F_6, sc6, rfl, rfl, ms6, st6⟩, b_6⟩
          ⟨⟨_, _, _, _, F_7, sc7, rfl, rfl, ms7, st7⟩, b_7⟩
          ⟨⟨_, _, _, _, F_8, sc8, rfl, rfl, ms8, st8⟩, b_8⟩
          ⟨⟨_, _, _, _, F_9, sc9, rfl, rfl, ms9, st9⟩, b_9⟩
          ⟨⟨_, _, _, _, F_10, sc10, rfl, rfl, ms10, st10⟩, b_10⟩
          ⟨⟨_, _, _, _, F_12, sc12, rfl, rfl, ms12, st12⟩, b_12⟩
          ⟨⟨_, _, _, _, F_14, sc14, rfl, rfl, ms14, st14⟩, b_14⟩
          ⟨⟨_, _, _, _, F_15, sc15, rfl, rfl, ms15, st15⟩, b_15⟩
          ⟨⟨_, _, _, _, F_16, sc16, rfl, rfl, ms16, st16⟩, b_16⟩
          ⟨⟨_, _, _, _, F_17, sc17, rfl, rfl, ms17, st17⟩, b_17⟩
          ⟨⟨_, _, _, _, F_18, sc18, rfl, rfl, ms18, st18⟩, b_18⟩
          ⟨⟨_, _, _, _, F_19, sc19, rfl, rfl, ms19, st19⟩, b_19⟩
          ⟨⟨_, _, _, _, F_20, sc20, rfl, rfl, ms20, st20⟩, b_20⟩
          ⟨⟨_, _, _, _, F_21, sc21, rfl, rfl, ms21, st21⟩, b_21⟩
          ⟨⟨_, _, _, _, F_22, sc22, rfl, rfl, ms22, st22⟩, b_22⟩
          ⟨⟨_, _, _, _, F_23, sc23, rfl, rfl, ms23, st23⟩, b_23⟩
          ⟨⟨_, _, _, _, F_24, sc24, rfl, rfl, ms24, st24⟩, b_24⟩
          ⟨⟨_, _, _, _, F_25, sc25, rfl, rfl, ms25, st25⟩, b_25⟩
          ⟨⟨_, _, _, _, F_26, sc26, rfl, rfl, ms26, st26⟩, b_26⟩
          ⟨⟨_, _, _, _, F_27, sc27, rfl, rfl, ms27, st27⟩, b_27⟩
          ⟨⟨_, _, _, _, F_28, sc28, rfl, rfl, ms28, st28⟩, b_28⟩
          ⟨⟨_, _, _, _, F_29, sc29, rfl, rfl, ms29, st29⟩, b_29⟩
          ⟨⟨_, _, _, _, F_31, sc31, rfl, rfl, ms31, st31⟩, b_31⟩
          ⟨⟨_, _, _, _, F_32, sc32, rfl, rfl, ms32, st32⟩, b_32⟩
          ⟨⟨_, _, _, _, F_33, sc33, rfl, rfl, ms33, st33⟩, b_33⟩
          ⟨⟨_, _, _, _, F_34, sc34, rfl, rfl, ms34, st34⟩, b_34⟩
          ⟨⟨_, _, _, _, F_35, sc35, rfl, rfl, ms35, st35⟩, b_35⟩
          ⟨⟨_, _, _, _, F_36, sc36, rfl, rfl, ms36, st36⟩, b_36⟩
          ⟨⟨_, _, _, _, F_37, sc37, rfl, rfl, ms37, st37⟩, b_37⟩
          ⟨⟨_, _, _, _, F_38, sc38, rfl, rfl, ms38, st38⟩, b_38⟩
          ⟨⟨_, _, _, _, F_39, sc39, rfl, rfl, ms39, st39⟩, b_39⟩
          ⟨⟨_, _, _, _, F_40, sc40, rfl, rfl, ms40, st40⟩, b_40⟩
          ⟨⟨_, _, _, _, F_41, sc41, rfl, rfl, ms41, st41⟩, b_41⟩
          ⟨⟨_, _, _, _, F_42, sc42, rfl, rfl, ms42, st42⟩, b_42⟩
          ⟨⟨_, _, _, _, F_43, sc43, rfl, rfl, ms43, st43⟩, b_43⟩
          ⟨⟨_, _, _, _, F_44, sc44, rfl, rfl, ms44, st44⟩, b_44⟩
          ⟨⟨_, _, _, _, F_45, sc45, rfl, rfl, ms45, st45⟩, b_45⟩
          ⟨⟨_, _, _, _, F_46, sc46, rfl, rfl, ms46, st46⟩, b_46⟩
          ⟨⟨_, _, _, _, F_47, sc47, rfl, rfl, ms47, st47⟩, b_47⟩
          ⟨⟨_, _, _, _, F_48, sc48, rfl, rfl, ms48, st48⟩, b_48⟩
          ⟨⟨_, _, _, _, F_49, sc49, rfl, rfl, ms49, st49⟩, b_49⟩,
      fns := fun x f h => allL_of (l := S0.fns) (C := fun (x : Str) (f : Nat) => (P.fn f).isSome = true ∧ mg x = some (.ref ([f_0, f_1, f_2, f_3, f_4, f_5, f_6, f_7, f_8, f_9, f_10, f_0, f_12, f_0, f_14, f_15, f_16, f_17, f_18, f_19, f_20, f_21, f_22, f_23, f_24, f_25, f_26, f_27, f_28, f_29, f_0, f_31, f_32, f_33, f_34, f_35, f_36, f_37, f_38, f_39, f_40, f_41, f_42, f_43, f_44, f_45, f_46, f_47, f_48, f_49].getD f f_0))) ⟨⟨rfl, PySem.W.mg_of X Gh a0⟩, ⟨rfl, PySem.W.mg_of X Gh a1⟩, ⟨rfl, PySem.W.mg_of X Gh a2⟩, ⟨rfl, PySem.W.mg_of X Gh a3⟩, ⟨rfl, PySem.W.mg_of X Gh a4⟩, ⟨rfl, PySem.W.mg_of X Gh a5⟩, ⟨rfl, PySem.W.mg_of X Gh a6⟩, ⟨rfl, PySem.W.mg_of X Gh a7⟩, ⟨rfl, PySem.W.mg_of X Gh a23⟩, ⟨rfl, PySem.W.mg_of X Gh a24⟩, ⟨rfl, PySem.W.mg_of X Gh a25⟩, ⟨rfl, PySem.W.mg_of X Gh a26⟩, ⟨rfl, PySem.W.mg_of X Gh a27⟩, ⟨rfl, PySem.W.mg_of X Gh a28⟩, ⟨rfl, PySem.W.mg_of X Gh a37⟩, ⟨rfl, PySem.W.mg_of X Gh a38⟩, ⟨rfl, PySem.W.mg_of X Gh a39⟩, ⟨rfl, PySem.W.mg_of X Gh a40⟩, ⟨rfl, PySem.W.mg_of X Gh a41⟩, ⟨rfl, PySem.W.mg_of X Gh a42⟩, ⟨rfl, PySem.W.mg_of X Gh a43⟩, ⟨rfl, PySem.W.mg_of X Gh a44⟩, ⟨rfl, PySem.W.mg_of X Gh a45⟩, ⟨rfl, PySem.W.mg_of X Gh a46⟩, ⟨rfl, PySem.W.mg_of X Gh a47⟩, ⟨rfl, PySem.W.mg_of X Gh a48⟩, ⟨rfl, PySem.W.mg_of X Gh a49⟩, trivial⟩ x f h,
      fva := fun f h => allM_of (l := S0.fva) (C := fun f => (P.fn f).isSome = true ∧ ((mkG K (fun c => [c0, c1, c2, c3, c4, c5, c6, c7].getD c c5) (fun i => [f_0, f_1, f_2, f_3, f_4, f_5, f_6, f_7, f_8, f_9, f_10, f_0, f_12, f_0, f_14, f_15, f_16, f_17, f_18, f_19, f_20, f_21, f_22, f_23, f_24, f_25, f_26, f_27, f_28, f_29, f_0, f_31, f_32, f_33, f_34, f_35, f_36, f_37, f_38, f_39, f_40, f_41, f_42, f_43, f_44, f_45, f_46, f_47, f_48, f_49].getD i f_0) (fun c => ([[], ["number"], ["number"], ["at"], ["limit"], ["_statements", "_heads", "_parents", "_parts", "_siblings", "_layers"], ["visited", "used", "end"], ["source", "spot", "pending"]] : List (List Str)).getD c []) [(a_SIZES, [("do", (.int (2))), ("call", (.int (2))), ("if", (.int (4))), ("while", (.int (3))), ("seq", (.int (2))), ("break", (.int (2))), ("continue", (.int (2))), ("return", (.int (1))), ("raise", (.int (1))), ("try", (.int (3))), ("final", (.int (3)))]), (a_ENDS, [("normal", (.str "end")), ("return", (.str "return")), ("raise", (.str "raise"))])])).gv (1000 + f) = .ref ([f_0, f_1, f_2, f_3, f_4, f_5, f_6, f_7, f_8, f_9, f_10, f_0, f_12, f_0, f_14, f_15, f_16, f_17, f_18, f_19, f_20, f_21, f_22, f_23, f_24, f_25, f_26, f_27, f_28, f_29, f_0, f_31, f_32, f_33, f_34, f_35, f_36, f_37, f_38, f_39, f_40, f_41, f_42, f_43, f_44, f_45, f_46, f_47, f_48, f_49].getD f f_0)) ⟨⟨rfl, rfl⟩, ⟨rfl, rfl⟩, trivial⟩ f h,
      cls := fun x c h => allL_of (l := S0.cls) (C := fun (x : Str) (c : Nat) => (P.fn (P.init c)).isSome = true ∧ Mk K ((mkG K (fun c => [c0, c1, c2, c3, c4, c5, c6, c7].getD c c5) (fun i => [f_0, f_1, f_2, f_3, f_4, f_5, f_6, f_7, f_8, f_9, f_10, f_0, f_12, f_0, f_14, f_15, f_16, f_17, f_18, f_19, f_20, f_21, f_22, f_23, f_24, f_25, f_26, f_27, f_28, f_29, f_0, f_31, f_32, f_33, f_34, f_35, f_36, f_37, f_38, f_39, f_40, f_41, f_42, f_43, f_44, f_45, f_46, f_47, f_48, f_49].getD i f_0) (fun c => ([[], ["number"], ["number"], ["at"], ["limit"], ["_statements", "_heads", "_parents", "_parts", "_siblings", "_layers"], ["visited", "used", "end"], ["source", "spot", "pending"]] : List (List Str)).getD c []) [(a_SIZES, [("do", (.int (2))), ("call", (.int (2))), ("if", (.int (4))), ("while", (.int (3))), ("seq", (.int (2))), ("break", (.int (2))), ("continue", (.int (2))), ("return", (.int (1))), ("raise", (.int (1))), ("try", (.int (3))), ("final", (.int (3)))]), (a_ENDS, [("normal", (.str "end")), ("return", (.str "return")), ("raise", (.str "raise"))])]).cls c) ([f_0, f_1, f_2, f_3, f_4, f_5, f_6, f_7, f_8, f_9, f_10, f_0, f_12, f_0, f_14, f_15, f_16, f_17, f_18, f_19, f_20, f_21, f_22, f_23, f_24, f_25, f_26, f_27, f_28, f_29, f_0, f_31, f_32, f_33, f_34, f_35, f_36, f_37, f_38, f_39, f_40, f_41, f_42, f_43, f_44, f_45, f_46, f_47, f_48, f_49].getD (P.init c) f_0) ∧ mg x = some (.ref ((mkG K (fun c => [c0, c1, c2, c3, c4, c5, c6, c7].getD c c5) (fun i => [f_0, f_1, f_2, f_3, f_4, f_5, f_6, f_7, f_8, f_9, f_10, f_0, f_12, f_0, f_14, f_15, f_16, f_17, f_18, f_19, f_20, f_21, f_22, f_23, f_24, f_25, f_26, f_27, f_28, f_29, f_0, f_31, f_32, f_33, f_34, f_35, f_36, f_37, f_38, f_39, f_40, f_41, f_42, f_43, f_44, f_45, f_46, f_47, f_48, f_49].getD i f_0) (fun c => ([[], ["number"], ["number"], ["at"], ["limit"], ["_statements", "_heads", "_parents", "_parts", "_siblings", "_layers"], ["visited", "used", "end"], ["source", "spot", "pending"]] : List (List Str)).getD c []) [(a_SIZES, [("do", (.int (2))), ("call", (.int (2))), ("if", (.int (4))), ("while", (.int (3))), ("seq", (.int (2))), ("break", (.int (2))), ("continue", (.int (2))), ("return", (.int (1))), ("raise", (.int (1))), ("try", (.int (3))), ("final", (.int (3)))]), (a_ENDS, [("normal", (.str "end")), ("return", (.str "return")), ("raise", (.str "raise"))])]).cls c)) ∧ PySem.W.keepIn K (.ref ((mkG K (fun c => [c0, c1, c2, c3, c4, c5, c6, c7].getD c c5) (fun i => [f_0, f_1, f_2, f_3, f_4, f_5, f_6, f_7, f_8, f_9, f_10, f_0, f_12, f_0, f_14, f_15, f_16, f_17, f_18, f_19, f_20, f_21, f_22, f_23, f_24, f_25, f_26, f_27, f_28, f_29, f_0, f_31, f_32, f_33, f_34, f_35, f_36, f_37, f_38, f_39, f_40, f_41, f_42, f_43, f_44, f_45, f_46, f_47, f_48, f_49].getD i f_0) (fun c => ([[], ["number"], ["number"], ["at"], ["limit"], ["_statements", "_heads", "_parents", "_parts", "_siblings", "_layers"], ["visited", "used", "end"], ["source", "spot", "pending"]] : List (List Str)).getD c []) [(a_SIZES, [("do", (.int (2))), ("call", (.int (2))), ("if", (.int (4))), ("while", (.int (3))), ("seq", (.int (2))), ("break", (.int (2))), ("continue", (.int (2))), ("return", (.int (1))), ("raise", (.int (1))), ("try", (.int (3))), ("final", (.int (3)))]), (a_ENDS, [("normal", (.str "end")), ("return", (.str "return")), ("raise", (.str "raise"))])]).cls c)) = true) ⟨⟨rfl, ⟨mk_Code, m8, u8, kc_Code⟩, PySem.W.mg_of X Gh x_Code, kc_Code⟩, ⟨rfl, ⟨mk_Run, m29, u29, kc_Run⟩, PySem.W.mg_of X Gh x_Run, kc_Run⟩, ⟨rfl, ⟨mk_Walk, m31, u31, kc_Walk⟩, PySem.W.mg_of X Gh x_Walk, kc_Walk⟩, trivial⟩ x c h,
      mes := fun c m f h => allL_of (l := S0.mes) (C := fun (cm : Nat × Str) (f : Nat) => (P.fn f).isSome = true ∧ Meth K ((mkG K (fun c => [c0, c1, c2, c3, c4, c5, c6, c7].getD c c5) (fun i => [f_0, f_1, f_2, f_3, f_4, f_5, f_6, f_7, f_8, f_9, f_10, f_0, f_12, f_0, f_14, f_15, f_16, f_17, f_18, f_19, f_20, f_21, f_22, f_23, f_24, f_25, f_26, f_27, f_28, f_29, f_0, f_31, f_32, f_33, f_34, f_35, f_36, f_37, f_38, f_39, f_40, f_41, f_42, f_43, f_44, f_45, f_46, f_47, f_48, f_49].getD i f_0) (fun c => ([[], ["number"], ["number"], ["at"], ["limit"], ["_statements", "_heads", "_parents", "_parts", "_siblings", "_layers"], ["visited", "used", "end"], ["source", "spot", "pending"]] : List (List Str)).getD c []) [(a_SIZES, [("do", (.int (2))), ("call", (.int (2))), ("if", (.int (4))), ("while", (.int (3))), ("seq", (.int (2))), ("break", (.int (2))), ("continue", (.int (2))), ("return", (.int (1))), ("raise", (.int (1))), ("try", (.int (3))), ("final", (.int (3)))]), (a_ENDS, [("normal", (.str "end")), ("return", (.str "return")), ("raise", (.str "raise"))])]).cls cm.1) cm.2 ([f_0, f_1, f_2, f_3, f_4, f_5, f_6, f_7, f_8, f_9, f_10, f_0, f_12, f_0, f_14, f_15, f_16, f_17, f_18, f_19, f_20, f_21, f_22, f_23, f_24, f_25, f_26, f_27, f_28, f_29, f_0, f_31, f_32, f_33, f_34, f_35, f_36, f_37, f_38, f_39, f_40, f_41, f_42, f_43, f_44, f_45, f_46, f_47, f_48, f_49].getD f f_0) ∧ cm.2 ∉ (mkG K (fun c => [c0, c1, c2, c3, c4, c5, c6, c7].getD c c5) (fun i => [f_0, f_1, f_2, f_3, f_4, f_5, f_6, f_7, f_8, f_9, f_10, f_0, f_12, f_0, f_14, f_15, f_16, f_17, f_18, f_19, f_20, f_21, f_22, f_23, f_24, f_25, f_26, f_27, f_28, f_29, f_0, f_31, f_32, f_33, f_34, f_35, f_36, f_37, f_38, f_39, f_40, f_41, f_42, f_43, f_44, f_45, f_46, f_47, f_48, f_49].getD i f_0) (fun c => ([[], ["number"], ["number"], ["at"], ["limit"], ["_statements", "_heads", "_parents", "_parts", "_siblings", "_layers"], ["visited", "used", "end"], ["source", "spot", "pending"]] : List (List Str)).getD c []) [(a_SIZES, [("do", (.int (2))), ("call", (.int (2))), ("if", (.int (4))), ("while", (.int (3))), ("seq", (.int (2))), ("break", (.int (2))), ("continue", (.int (2))), ("return", (.int (1))), ("raise", (.int (1))), ("try", (.int (3))), ("final", (.int (3)))]), (a_ENDS, [("normal", (.str "end")), ("return", (.str "return")), ("raise", (.str "raise"))])]).fnm cm.1) ⟨⟨rfl, ⟨m9, u9, v9⟩, (by decide +kernel : ("_keep" : Str) ∉ (["_statements", "_heads", "_parents", "_parts", "_siblings", "_layers"] : List Str))⟩, ⟨rfl, ⟨m10, u10, v10⟩, (by decide +kernel : ("__len__" : Str) ∉ (["_statements", "_heads", "_parents", "_parts", "_siblings", "_layers"] : List Str))⟩, ⟨rfl, ⟨m12, u12, v12⟩, (by decide +kernel : ("__getitem__" : Str) ∉ (["_statements", "_heads", "_parents", "_parts", "_siblings", "_layers"] : List Str))⟩, ⟨rfl, ⟨m14, u14, v14⟩, (by decide +kernel : ("require_number" : Str) ∉ (["_statements", "_heads", "_parents", "_parts", "_siblings", "_layers"] : List Str))⟩, ⟨rfl, ⟨m15, u15, v15⟩, (by decide +kernel : ("require_place" : Str) ∉ (["_statements", "_heads", "_parents", "_parts", "_siblings", "_layers"] : List Str))⟩, ⟨rfl, ⟨m16, u16, v16⟩, (by decide +kernel : ("kind" : Str) ∉ (["_statements", "_heads", "_parents", "_parts", "_siblings", "_layers"] : List Str))⟩, ⟨rfl, ⟨m17, u17, v17⟩, (by decide +kernel : ("parent" : Str) ∉ (["_statements", "_heads", "_parents", "_parts", "_siblings", "_layers"] : List Str))⟩, ⟨rfl, ⟨m18, u18, v18⟩, (by decide +kernel : ("parts" : Str) ∉ (["_statements", "_heads", "_parents", "_parts", "_siblings", "_layers"] : List Str))⟩, ⟨rfl, ⟨m19, u19, v19⟩, (by decide +kernel : ("sibling" : Str) ∉ (["_statements", "_heads", "_parents", "_parts", "_siblings", "_layers"] : List Str))⟩, ⟨rfl, ⟨m20, u20, v20⟩, (by decide +kernel : ("places" : Str) ∉ (["_statements", "_heads", "_parents", "_parts", "_siblings", "_layers"] : List Str))⟩, ⟨rfl, ⟨m21, u21, v21⟩, (by decide +kernel : ("entry" : Str) ∉ (["_statements", "_heads", "_parents", "_parts", "_siblings", "_layers"] : List Str))⟩, ⟨rfl, ⟨m22, u22, v22⟩, (by decide +kernel : ("layers" : Str) ∉ (["_statements", "_heads", "_parents", "_parts", "_siblings", "_layers"] : List Str))⟩, ⟨rfl, ⟨m32, u32, v32⟩, (by decide +kernel : ("ended" : Str) ∉ (["source", "spot", "pending"] : List Str))⟩, ⟨rfl, ⟨m33, u33, v33⟩, (by decide +kernel : ("asks" : Str) ∉ (["source", "spot", "pending"] : List Str))⟩, ⟨rfl, ⟨m34, u34, v34⟩, (by decide +kernel : ("step" : Str) ∉ (["source", "spot", "pending"] : List Str))⟩, ⟨rfl, ⟨m35, u35, v35⟩, (by decide +kernel : ("_leave" : Str) ∉ (["source", "spot", "pending"] : List Str))⟩, ⟨rfl, ⟨m36, u36, v36⟩, (by decide +kernel : ("now" : Str) ∉ (["source", "spot", "pending"] : List Str))⟩, trivial⟩ (c, m) f h,
      fnm := fun c ns h => allL_of (l := S0.fnm) (C := fun (c : Nat) (ns : List Str) => ClsOk (mkG K (fun c => [c0, c1, c2, c3, c4, c5, c6, c7].getD c c5) (fun i => [f_0, f_1, f_2, f_3, f_4, f_5, f_6, f_7, f_8, f_9, f_10, f_0, f_12, f_0, f_14, f_15, f_16, f_17, f_18, f_19, f_20, f_21, f_22, f_23, f_24, f_25, f_26, f_27, f_28, f_29, f_0, f_31, f_32, f_33, f_34, f_35, f_36, f_37, f_38, f_39, f_40, f_41, f_42, f_43, f_44, f_45, f_46, f_47, f_48, f_49].getD i f_0) (fun c => ([[], ["number"], ["number"], ["at"], ["limit"], ["_statements", "_heads", "_parents", "_parts", "_siblings", "_layers"], ["visited", "used", "end"], ["source", "spot", "pending"]] : List (List Str)).getD c []) [(a_SIZES, [("do", (.int (2))), ("call", (.int (2))), ("if", (.int (4))), ("while", (.int (3))), ("seq", (.int (2))), ("break", (.int (2))), ("continue", (.int (2))), ("return", (.int (1))), ("raise", (.int (1))), ("try", (.int (3))), ("final", (.int (3)))]), (a_ENDS, [("normal", (.str "end")), ("return", (.str "return")), ("raise", (.str "raise"))])]) c ∧ (mkG K (fun c => [c0, c1, c2, c3, c4, c5, c6, c7].getD c c5) (fun i => [f_0, f_1, f_2, f_3, f_4, f_5, f_6, f_7, f_8, f_9, f_10, f_0, f_12, f_0, f_14, f_15, f_16, f_17, f_18, f_19, f_20, f_21, f_22, f_23, f_24, f_25, f_26, f_27, f_28, f_29, f_0, f_31, f_32, f_33, f_34, f_35, f_36, f_37, f_38, f_39, f_40, f_41, f_42, f_43, f_44, f_45, f_46, f_47, f_48, f_49].getD i f_0) (fun c => ([[], ["number"], ["number"], ["at"], ["limit"], ["_statements", "_heads", "_parents", "_parts", "_siblings", "_layers"], ["visited", "used", "end"], ["source", "spot", "pending"]] : List (List Str)).getD c []) [(a_SIZES, [("do", (.int (2))), ("call", (.int (2))), ("if", (.int (4))), ("while", (.int (3))), ("seq", (.int (2))), ("break", (.int (2))), ("continue", (.int (2))), ("return", (.int (1))), ("raise", (.int (1))), ("try", (.int (3))), ("final", (.int (3)))]), (a_ENDS, [("normal", (.str "end")), ("return", (.str "return")), ("raise", (.str "raise"))])]).fnm c = ns) ⟨⟨⟨⟨pg_Code, hd_Code, po_Code, sa_Code⟩, fun n hn => allM_of (l := ["_statements", "_heads", "_parents", "_parts", "_siblings", "_layers"]) (C := fun n => NoAttr K c5 n) ⟨n_Code_0, n_Code_1, n_Code_2, n_Code_3, n_Code_4, n_Code_5, trivial⟩ n hn, (by decide +kernel : (["_statements", "_heads", "_parents", "_parts", "_siblings", "_layers"] : List Str).Nodup), (by decide : (["_statements", "_heads", "_parents", "_parts", "_siblings", "_layers"] : List Str).length < 1000)⟩, rfl⟩, ⟨⟨⟨pg_Run, hd_Run, po_Run, sa_Run⟩, fun n hn => allM_of (l := ["visited", "used", "end"]) (C := fun n => NoAttr K c6 n) ⟨n_Run_0, n_Run_1, n_Run_2, trivial⟩ n hn, (by decide +kernel : (["visited", "used", "end"] : List Str).Nodup), (by decide : (["visited", "used", "end"] : List Str).length < 1000)⟩, rfl⟩, ⟨⟨⟨pg_Walk, hd_Walk, po_Walk, sa_Walk⟩, fun n hn => allM_of (l := ["source", "spot", "pending"]) (C := fun n => NoAttr K c7 n) ⟨n_Walk_0, n_Walk_1, n_Walk_2, trivial⟩ n hn, (by decide +kernel : (["source", "spot", "pending"] : List Str).Nodup), (by decide : (["source", "spot", "pending"] : List Str).length < 1000)⟩, rfl⟩, trivial⟩ c ns h,
      gi := fun c f h => allL_of (l := S0.mes) (C := fun (cm : Nat × Str) (f : Nat) => cm.2 = ("__getitem__" : Str) → ∀ g, PySem.W.findIn K (.ref ((mkG K (fun c => [c0, c1, c2, c3, c4, c5, c6, c7].getD c c5) (fun i => [f_0, f_1, f_2, f_3, f_4, f_5, f_6, f_7, f_8, f_9, f_10, f_0, f_12, f_0, f_14, f_15, f_16, f_17, f_18, f_19, f_20, f_21, f_22, f_23, f_24, f_25, f_26, f_27, f_28, f_29, f_0, f_31, f_32, f_33, f_34, f_35, f_36, f_37, f_38, f_39, f_40, f_41, f_42, f_43, f_44, f_45, f_46, f_47, f_48, f_49].getD i f_0) (fun c => ([[], ["number"], ["number"], ["at"], ["limit"], ["_statements", "_heads", "_parents", "_parts", "_siblings", "_layers"], ["visited", "used", "end"], ["source", "spot", "pending"]] : List (List Str)).getD c []) [(a_SIZES, [("do", (.int (2))), ("call", (.int (2))), ("if", (.int (4))), ("while", (.int (3))), ("seq", (.int (2))), ("break", (.int (2))), ("continue", (.int (2))), ("return", (.int (1))), ("raise", (.int (1))), ("try", (.int (3))), ("final", (.int (3)))]), (a_ENDS, [("normal", (.str "end")), ("return", (.str "return")), ("raise", (.str "raise"))])]).cls cm.1)) "__getitem__" = some (some (.ref g)) → PySem.W.fnIn K g = true) ⟨(fun z => absurd z (by decide +kernel)), (fun z => absurd z (by decide +kernel)), (fun _ g hg => by cases m12.symm.trans hg; exact gi12), (fun z => absurd z (by decide +kernel)), (fun z => absurd z (by decide +kernel)), (fun z => absurd z (by decide +kernel)), (fun z => absurd z (by decide +kernel)), (fun z => absurd z (by decide +kernel)), (fun z => absurd z (by decide +kernel)), (fun z => absurd z (by decide +kernel)), (fun z => absurd z (by decide +kernel)), (fun z => absurd z (by decide +kernel)), (fun z => absurd z (by decide +kernel)), (fun z => absurd z (by decide +kernel)), (fun z => absurd z (by decide +kernel)), (fun z => absurd z (by decide +kernel)), (fun z => absurd z (by decide +kernel)), trivial⟩ (c, "__getitem__") f h rfl,
      exf := fun c f h => allL_of (l := S0.exf) (C := fun (c : Nat) (f : Str) => (mkG K (fun c => [c0, c1, c2, c3, c4, c5, c6, c7].getD c c5) (fun i => [f_0, f_1, f_2, f_3, f_4, f_5, f_6, f_7, f_8, f_9, f_10, f_0, f_12, f_0, f_14, f_15, f_16, f_17, f_18, f_19, f_20, f_21, f_22, f_23, f_24, f_25, f_26, f_27, f_28, f_29, f_0, f_31, f_32, f_33, f_34, f_35, f_36, f_37, f_38, f_39, f_40, f_41, f_42, f_43, f_44, f_45, f_46, f_47, f_48, f_49].getD i f_0) (fun c => ([[], ["number"], ["number"], ["at"], ["limit"], ["_statements", "_heads", "_parents", "_parts", "_siblings", "_layers"], ["visited", "used", "end"], ["source", "spot", "pending"]] : List (List Str)).getD c []) [(a_SIZES, [("do", (.int (2))), ("call", (.int (2))), ("if", (.int (4))), ("while", (.int (3))), ("seq", (.int (2))), ("break", (.int (2))), ("continue", (.int (2))), ("return", (.int (1))), ("raise", (.int (1))), ("try", (.int (3))), ("final", (.int (3)))]), (a_ENDS, [("normal", (.str "end")), ("return", (.str "return")), ("raise", (.str "raise"))])]).fnm c = [f]) ⟨rfl, rfl, rfl, rfl, trivial⟩ c f h,
      exs := fun x c h => allL_of (l := S0.exs) (C := fun (x : Str) (c : Nat) => ∃ (fI : Addr) (fd : FuncData) (ps : List Str) (fn : Str), Fc.ArC K ((mkG K (fun c => [c0, c1, c2, c3, c4, c5, c6, c7].getD c c5) (fun i => [f_0, f_1, f_2, f_3, f_4, f_5, f_6, f_7, f_8, f_9, f_10, f_0, f_12, f_0, f_14, f_15, f_16, f_17, f_18, f_19, f_20, f_21, f_22, f_23, f_24, f_25, f_26, f_27, f_28, f_29, f_0, f_31, f_32, f_33, f_34, f_35, f_36, f_37, f_38, f_39, f_40, f_41, f_42, f_43, f_44, f_45, f_46, f_47, f_48, f_49].getD i f_0) (fun c => ([[], ["number"], ["number"], ["at"], ["limit"], ["_statements", "_heads", "_parents", "_parts", "_siblings", "_layers"], ["visited", "used", "end"], ["source", "spot", "pending"]] : List (List Str)).getD c []) [(a_SIZES, [("do", (.int (2))), ("call", (.int (2))), ("if", (.int (4))), ("while", (.int (3))), ("seq", (.int (2))), ("break", (.int (2))), ("continue", (.int (2))), ("return", (.int (1))), ("raise", (.int (1))), ("try", (.int (3))), ("final", (.int (3)))]), (a_ENDS, [("normal", (.str "end")), ("return", (.str "return")), ("raise", (.str "raise"))])]).cls c) fI fn ∧ (mkG K (fun c => [c0, c1, c2, c3, c4, c5, c6, c7].getD c c5) (fun i => [f_0, f_1, f_2, f_3, f_4, f_5, f_6, f_7, f_8, f_9, f_10, f_0, f_12, f_0, f_14, f_15, f_16, f_17, f_18, f_19, f_20, f_21, f_22, f_23, f_24, f_25, f_26, f_27, f_28, f_29, f_0, f_31, f_32, f_33, f_34, f_35, f_36, f_37, f_38, f_39, f_40, f_41, f_42, f_43, f_44, f_45, f_46, f_47, f_48, f_49].getD i f_0) (fun c => ([[], ["number"], ["number"], ["at"], ["limit"], ["_statements", "_heads", "_parents", "_parts", "_siblings", "_layers"], ["visited", "used", "end"], ["source", "spot", "pending"]] : List (List Str)).getD c []) [(a_SIZES, [("do", (.int (2))), ("call", (.int (2))), ("if", (.int (4))), ("while", (.int (3))), ("seq", (.int (2))), ("break", (.int (2))), ("continue", (.int (2))), ("return", (.int (1))), ("raise", (.int (1))), ("try", (.int (3))), ("final", (.int (3)))]), (a_ENDS, [("normal", (.str "end")), ("return", (.str "return")), ("raise", (.str "raise"))])]).fnm c = [fn] ∧ FnOk l.prog w K mg base (L2.CX l.prog w) 1 fI fd ps (Fc.spExc ((mkG K (fun c => [c0, c1, c2, c3, c4, c5, c6, c7].getD c c5) (fun i => [f_0, f_1, f_2, f_3, f_4, f_5, f_6, f_7, f_8, f_9, f_10, f_0, f_12, f_0, f_14, f_15, f_16, f_17, f_18, f_19, f_20, f_21, f_22, f_23, f_24, f_25, f_26, f_27, f_28, f_29, f_0, f_31, f_32, f_33, f_34, f_35, f_36, f_37, f_38, f_39, f_40, f_41, f_42, f_43, f_44, f_45, f_46, f_47, f_48, f_49].getD i f_0) (fun c => ([[], ["number"], ["number"], ["at"], ["limit"], ["_statements", "_heads", "_parents", "_parts", "_siblings", "_layers"], ["visited", "used", "end"], ["source", "spot", "pending"]] : List (List Str)).getD c []) [(a_SIZES, [("do", (.int (2))), ("call", (.int (2))), ("if", (.int (4))), ("while", (.int (3))), ("seq", (.int (2))), ("break", (.int (2))), ("continue", (.int (2))), ("return", (.int (1))), ("raise", (.int (1))), ("try", (.int (3))), ("final", (.int (3)))]), (a_ENDS, [("normal", (.str "end")), ("return", (.str "return")), ("raise", (.str "raise"))])]).cls c) fn) ∧ Binds K fd ps [] ∧ mg x = some (.ref ((mkG K (fun c => [c0, c1, c2, c3, c4, c5, c6, c7].getD c c5) (fun i => [f_0, f_1, f_2, f_3, f_4, f_5, f_6, f_7, f_8, f_9, f_10, f_0, f_12, f_0, f_14, f_15, f_16, f_17, f_18, f_19, f_20, f_21, f_22, f_23, f_24, f_25, f_26, f_27, f_28, f_29, f_0, f_31, f_32, f_33, f_34, f_35, f_36, f_37, f_38, f_39, f_40, f_41, f_42, f_43, f_44, f_45, f_46, f_47, f_48, f_49].getD i f_0) (fun c => ([[], ["number"], ["number"], ["at"], ["limit"], ["_statements", "_heads", "_parents", "_parts", "_siblings", "_layers"], ["visited", "used", "end"], ["source", "spot", "pending"]] : List (List Str)).getD c []) [(a_SIZES, [("do", (.int (2))), ("call", (.int (2))), ("if", (.int (4))), ("while", (.int (3))), ("seq", (.int (2))), ("break", (.int (2))), ("continue", (.int (2))), ("return", (.int (1))), ("raise", (.int (1))), ("try", (.int (3))), ("final", (.int (3)))]), (a_ENDS, [("normal", (.str "end")), ("return", (.str "return")), ("raise", (.str "raise"))])]).cls c))) ⟨⟨_, _, _, _, ar_X1, rfl, ok_exc ar_X1 F_X1 scx1 rfl (by decide +kernel) (by decide +kernel) (by decide +kernel) (by decide +kernel), b_X1, PySem.W.mg_of X Gh x_InvalidCode⟩, ⟨_, _, _, _, ar_X2, rfl, ok_exc ar_X2 F_X2 scx2 rfl (by decide +kernel) (by decide +kernel) (by decide +kernel) (by decide +kernel), b_X2, PySem.W.mg_of X Gh x_InvalidNumber⟩, ⟨_, _, _, _, ar_X3, rfl, ok_exc ar_X3 F_X3 scx3 rfl (by decide +kernel) (by decide +kernel) (by decide +kernel) (by decide +kernel), b_X3, PySem.W.mg_of X Gh x_InvalidAnswers⟩, ⟨_, _, _, _, ar_X4, rfl, ok_exc ar_X4 F_X4 scx4 rfl (by decide +kernel) (by decide +kernel) (by decide +kernel) (by decide +kernel), b_X4, PySem.W.mg_of X Gh x_LimitExceeded⟩, trivial⟩ x c h,
      gls := fun x g h => allL_of (l := S0.gls) (C := fun (x : Str) (g : Nat) => ∃ v u, mg x = some u ∧ RelV v u ∧ ∀ F, Fz (mkG K (fun c => [c0, c1, c2, c3, c4, c5, c6, c7].getD c c5) (fun i => [f_0, f_1, f_2, f_3, f_4, f_5, f_6, f_7, f_8, f_9, f_10, f_0, f_12, f_0, f_14, f_15, f_16, f_17, f_18, f_19, f_20, f_21, f_22, f_23, f_24, f_25, f_26, f_27, f_28, f_29, f_0, f_31, f_32, f_33, f_34, f_35, f_36, f_37, f_38, f_39, f_40, f_41, f_42, f_43, f_44, f_45, f_46, f_47, f_48, f_49].getD i f_0) (fun c => ([[], ["number"], ["number"], ["at"], ["limit"], ["_statements", "_heads", "_parents", "_parts", "_siblings", "_layers"], ["visited", "used", "end"], ["source", "spot", "pending"]] : List (List Str)).getD c []) [(a_SIZES, [("do", (.int (2))), ("call", (.int (2))), ("if", (.int (4))), ("while", (.int (3))), ("seq", (.int (2))), ("break", (.int (2))), ("continue", (.int (2))), ("return", (.int (1))), ("raise", (.int (1))), ("try", (.int (3))), ("final", (.int (3)))]), (a_ENDS, [("normal", (.str "end")), ("return", (.str "return")), ("raise", (.str "raise"))])]) F v (P.gd g)) ⟨⟨.int _, _, PySem.W.mg_of X Gh x_MOST_STATEMENTS, ⟨_, rfl⟩, fun F => .int _⟩, ⟨.int _, _, PySem.W.mg_of X Gh x_MOST_LEVELS, ⟨_, rfl⟩, fun F => .int _⟩, ⟨.int _, _, PySem.W.mg_of X Gh x_MOST_BLOCKS, ⟨_, rfl⟩, fun F => .int _⟩, ⟨.int _, _, PySem.W.mg_of X Gh x_LONGEST_NAME, ⟨_, rfl⟩, fun F => .int _⟩, ⟨.ref _, _, PySem.W.mg_of X Gh x_SIZES, rfl, fun F => wdt_of (ps := [("do", (.int (2))), ("call", (.int (2))), ("if", (.int (4))), ("while", (.int (3))), ("seq", (.int (2))), ("break", (.int (2))), ("continue", (.int (2))), ("return", (.int (1))), ("raise", (.int (1))), ("try", (.int (3))), ("final", (.int (3)))]) List.mem_cons_self (fun p hp => allM_of (l := [("do", (.int (2))), ("call", (.int (2))), ("if", (.int (4))), ("while", (.int (3))), ("seq", (.int (2))), ("break", (.int (2))), ("continue", (.int (2))), ("return", (.int (1))), ("raise", (.int (1))), ("try", (.int (3))), ("final", (.int (3)))]) (C := fun p : Str × D => ∀ F, Fz (mkG K (fun c => [c0, c1, c2, c3, c4, c5, c6, c7].getD c c5) (fun i => [f_0, f_1, f_2, f_3, f_4, f_5, f_6, f_7, f_8, f_9, f_10, f_0, f_12, f_0, f_14, f_15, f_16, f_17, f_18, f_19, f_20, f_21, f_22, f_23, f_24, f_25, f_26, f_27, f_28, f_29, f_0, f_31, f_32, f_33, f_34, f_35, f_36, f_37, f_38, f_39, f_40, f_41, f_42, f_43, f_44, f_45, f_46, f_47, f_48, f_49].getD i f_0) (fun c => ([[], ["number"], ["number"], ["at"], ["limit"], ["_statements", "_heads", "_parents", "_parts", "_siblings", "_layers"], ["visited", "used", "end"], ["source", "spot", "pending"]] : List (List Str)).getD c []) [(a_SIZES, [("do", (.int (2))), ("call", (.int (2))), ("if", (.int (4))), ("while", (.int (3))), ("seq", (.int (2))), ("break", (.int (2))), ("continue", (.int (2))), ("return", (.int (1))), ("raise", (.int (1))), ("try", (.int (3))), ("final", (.int (3)))]), (a_ENDS, [("normal", (.str "end")), ("return", (.str "return")), ("raise", (.str "raise"))])]) F (vD p.2) p.2) ⟨fun _ => .int _, fun _ => .int _, fun _ => .int _, fun _ => .int _, fun _ => .int _, fun _ => .int _, fun _ => .int _, fun _ => .int _, fun _ => .int _, fun _ => .int _, fun _ => .int _, trivial⟩ p hp) F⟩, ⟨.ref _, _, PySem.W.mg_of X Gh x_NAMED, rfl, litT_of (G := (mkG K (fun c => [c0, c1, c2, c3, c4, c5, c6, c7].getD c c5) (fun i => [f_0, f_1, f_2, f_3, f_4, f_5, f_6, f_7, f_8, f_9, f_10, f_0, f_12, f_0, f_14, f_15, f_16, f_17, f_18, f_19, f_20, f_21, f_22, f_23, f_24, f_25, f_26, f_27, f_28, f_29, f_0, f_31, f_32, f_33, f_34, f_35, f_36, f_37, f_38, f_39, f_40, f_41, f_42, f_43, f_44, f_45, f_46, f_47, f_48, f_49].getD i f_0) (fun c => ([[], ["number"], ["number"], ["at"], ["limit"], ["_statements", "_heads", "_parents", "_parts", "_siblings", "_layers"], ["visited", "used", "end"], ["source", "spot", "pending"]] : List (List Str)).getD c []) [(a_SIZES, [("do", (.int (2))), ("call", (.int (2))), ("if", (.int (4))), ("while", (.int (3))), ("seq", (.int (2))), ("break", (.int (2))), ("continue", (.int (2))), ("return", (.int (1))), ("raise", (.int (1))), ("try", (.int (3))), ("final", (.int (3)))]), (a_ENDS, [("normal", (.str "end")), ("return", (.str "return")), ("raise", (.str "raise"))])])) (lit_of 3) w_NAMED⟩, ⟨.ref _, _, PySem.W.mg_of X Gh x_JUMPS, rfl, litT_of (G := (mkG K (fun c => [c0, c1, c2, c3, c4, c5, c6, c7].getD c c5) (fun i => [f_0, f_1, f_2, f_3, f_4, f_5, f_6, f_7, f_8, f_9, f_10, f_0, f_12, f_0, f_14, f_15, f_16, f_17, f_18, f_19, f_20, f_21, f_22, f_23, f_24, f_25, f_26, f_27, f_28, f_29, f_0, f_31, f_32, f_33, f_34, f_35, f_36, f_37, f_38, f_39, f_40, f_41, f_42, f_43, f_44, f_45, f_46, f_47, f_48, f_49].getD i f_0) (fun c => ([[], ["number"], ["number"], ["at"], ["limit"], ["_statements", "_heads", "_parents", "_parts", "_siblings", "_layers"], ["visited", "used", "end"], ["source", "spot", "pending"]] : List (List Str)).getD c []) [(a_SIZES, [("do", (.int (2))), ("call", (.int (2))), ("if", (.int (4))), ("while", (.int (3))), ("seq", (.int (2))), ("break", (.int (2))), ("continue", (.int (2))), ("return", (.int (1))), ("raise", (.int (1))), ("try", (.int (3))), ("final", (.int (3)))]), (a_ENDS, [("normal", (.str "end")), ("return", (.str "return")), ("raise", (.str "raise"))])])) (lit_of 3) w_JUMPS⟩, ⟨.ref _, _, PySem.W.mg_of X Gh x_PAIRS, rfl, litT_of (G := (mkG K (fun c => [c0, c1, c2, c3, c4, c5, c6, c7].getD c c5) (fun i => [f_0, f_1, f_2, f_3, f_4, f_5, f_6, f_7, f_8, f_9, f_10, f_0, f_12, f_0, f_14, f_15, f_16, f_17, f_18, f_19, f_20, f_21, f_22, f_23, f_24, f_25, f_26, f_27, f_28, f_29, f_0, f_31, f_32, f_33, f_34, f_35, f_36, f_37, f_38, f_39, f_40, f_41, f_42, f_43, f_44, f_45, f_46, f_47, f_48, f_49].getD i f_0) (fun c => ([[], ["number"], ["number"], ["at"], ["limit"], ["_statements", "_heads", "_parents", "_parts", "_siblings", "_layers"], ["visited", "used", "end"], ["source", "spot", "pending"]] : List (List Str)).getD c []) [(a_SIZES, [("do", (.int (2))), ("call", (.int (2))), ("if", (.int (4))), ("while", (.int (3))), ("seq", (.int (2))), ("break", (.int (2))), ("continue", (.int (2))), ("return", (.int (1))), ("raise", (.int (1))), ("try", (.int (3))), ("final", (.int (3)))]), (a_ENDS, [("normal", (.str "end")), ("return", (.str "return")), ("raise", (.str "raise"))])])) (lit_of 3) w_PAIRS⟩, ⟨.ref _, _, PySem.W.mg_of X Gh x_ENTERED, rfl, litT_of (G := (mkG K (fun c => [c0, c1, c2, c3, c4, c5, c6, c7].getD c c5) (fun i => [f_0, f_1, f_2, f_3, f_4, f_5, f_6, f_7, f_8, f_9, f_10, f_0, f_12, f_0, f_14, f_15, f_16, f_17, f_18, f_19, f_20, f_21, f_22, f_23, f_24, f_25, f_26, f_27, f_28, f_29, f_0, f_31, f_32, f_33, f_34, f_35, f_36, f_37, f_38, f_39, f_40, f_41, f_42, f_43, f_44, f_45, f_46, f_47, f_48, f_49].getD i f_0) (fun c => ([[], ["number"], ["number"], ["at"], ["limit"], ["_statements", "_heads", "_parents", "_parts", "_siblings", "_layers"], ["visited", "used", "end"], ["source", "spot", "pending"]] : List (List Str)).getD c []) [(a_SIZES, [("do", (.int (2))), ("call", (.int (2))), ("if", (.int (4))), ("while", (.int (3))), ("seq", (.int (2))), ("break", (.int (2))), ("continue", (.int (2))), ("return", (.int (1))), ("raise", (.int (1))), ("try", (.int (3))), ("final", (.int (3)))]), (a_ENDS, [("normal", (.str "end")), ("return", (.str "return")), ("raise", (.str "raise"))])])) (lit_of 3) w_ENTERED⟩, ⟨.ref _, _, PySem.W.mg_of X Gh x_PLACELESS, rfl, litT_of (G := (mkG K (fun c => [c0, c1, c2, c3, c4, c5, c6, c7].getD c c5) (fun i => [f_0, f_1, f_2, f_3, f_4, f_5, f_6, f_7, f_8, f_9, f_10, f_0, f_12, f_0, f_14, f_15, f_16, f_17, f_18, f_19, f_20, f_21, f_22, f_23, f_24, f_25, f_26, f_27, f_28, f_29, f_0, f_31, f_32, f_33, f_34, f_35, f_36, f_37, f_38, f_39, f_40, f_41, f_42, f_43, f_44, f_45, f_46, f_47, f_48, f_49].getD i f_0) (fun c => ([[], ["number"], ["number"], ["at"], ["limit"], ["_statements", "_heads", "_parents", "_parts", "_siblings", "_layers"], ["visited", "used", "end"], ["source", "spot", "pending"]] : List (List Str)).getD c []) [(a_SIZES, [("do", (.int (2))), ("call", (.int (2))), ("if", (.int (4))), ("while", (.int (3))), ("seq", (.int (2))), ("break", (.int (2))), ("continue", (.int (2))), ("return", (.int (1))), ("raise", (.int (1))), ("try", (.int (3))), ("final", (.int (3)))]), (a_ENDS, [("normal", (.str "end")), ("return", (.str "return")), ("raise", (.str "raise"))])])) (lit_of 3) w_PLACELESS⟩, ⟨.ref _, _, PySem.W.mg_of X Gh x_NORMAL, rfl, litT_of (G := (mkG K (fun c => [c0, c1, c2, c3, c4, c5, c6, c7].getD c c5) (fun i => [f_0, f_1, f_2, f_3, f_4, f_5, f_6, f_7, f_8, f_9, f_10, f_0, f_12, f_0, f_14, f_15, f_16, f_17, f_18, f_19, f_20, f_21, f_22, f_23, f_24, f_25, f_26, f_27, f_28, f_29, f_0, f_31, f_32, f_33, f_34, f_35, f_36, f_37, f_38, f_39, f_40, f_41, f_42, f_43, f_44, f_45, f_46, f_47, f_48, f_49].getD i f_0) (fun c => ([[], ["number"], ["number"], ["at"], ["limit"], ["_statements", "_heads", "_parents", "_parts", "_siblings", "_layers"], ["visited", "used", "end"], ["source", "spot", "pending"]] : List (List Str)).getD c []) [(a_SIZES, [("do", (.int (2))), ("call", (.int (2))), ("if", (.int (4))), ("while", (.int (3))), ("seq", (.int (2))), ("break", (.int (2))), ("continue", (.int (2))), ("return", (.int (1))), ("raise", (.int (1))), ("try", (.int (3))), ("final", (.int (3)))]), (a_ENDS, [("normal", (.str "end")), ("return", (.str "return")), ("raise", (.str "raise"))])])) (lit_of 3) w_NORMAL⟩, ⟨.ref _, _, PySem.W.mg_of X Gh x_RAISE, rfl, litT_of (G := (mkG K (fun c => [c0, c1, c2, c3, c4, c5, c6, c7].getD c c5) (fun i => [f_0, f_1, f_2, f_3, f_4, f_5, f_6, f_7, f_8, f_9, f_10, f_0, f_12, f_0, f_14, f_15, f_16, f_17, f_18, f_19, f_20, f_21, f_22, f_23, f_24, f_25, f_26, f_27, f_28, f_29, f_0, f_31, f_32, f_33, f_34, f_35, f_36, f_37, f_38, f_39, f_40, f_41, f_42, f_43, f_44, f_45, f_46, f_47, f_48, f_49].getD i f_0) (fun c => ([[], ["number"], ["number"], ["at"], ["limit"], ["_statements", "_heads", "_parents", "_parts", "_siblings", "_layers"], ["visited", "used", "end"], ["source", "spot", "pending"]] : List (List Str)).getD c []) [(a_SIZES, [("do", (.int (2))), ("call", (.int (2))), ("if", (.int (4))), ("while", (.int (3))), ("seq", (.int (2))), ("break", (.int (2))), ("continue", (.int (2))), ("return", (.int (1))), ("raise", (.int (1))), ("try", (.int (3))), ("final", (.int (3)))]), (a_ENDS, [("normal", (.str "end")), ("return", (.str "return")), ("raise", (.str "raise"))])])) (lit_of 3) w_RAISE⟩, ⟨.ref _, _, PySem.W.mg_of X Gh x_AGAIN, rfl, litT_of (G := (mkG K (fun c => [c0, c1, c2, c3, c4, c5, c6, c7].getD c c5) (fun i => [f_0, f_1, f_2, f_3, f_4, f_5, f_6, f_7, f_8, f_9, f_10, f_0, f_12, f_0, f_14, f_15, f_16, f_17, f_18, f_19, f_20, f_21, f_22, f_23, f_24, f_25, f_26, f_27, f_28, f_29, f_0, f_31, f_32, f_33, f_34, f_35, f_36, f_37, f_38, f_39, f_40, f_41, f_42, f_43, f_44, f_45, f_46, f_47, f_48, f_49].getD i f_0) (fun c => ([[], ["number"], ["number"], ["at"], ["limit"], ["_statements", "_heads", "_parents", "_parts", "_siblings", "_layers"], ["visited", "used", "end"], ["source", "spot", "pending"]] : List (List Str)).getD c []) [(a_SIZES, [("do", (.int (2))), ("call", (.int (2))), ("if", (.int (4))), ("while", (.int (3))), ("seq", (.int (2))), ("break", (.int (2))), ("continue", (.int (2))), ("return", (.int (1))), ("raise", (.int (1))), ("try", (.int (3))), ("final", (.int (3)))]), (a_ENDS, [("normal", (.str "end")), ("return", (.str "return")), ("raise", (.str "raise"))])])) (lit_of 3) w_AGAIN⟩, ⟨.ref _, _, PySem.W.mg_of X Gh x_ENDS, rfl, fun F => wdt_of (ps := [("normal", (.str "end")), ("return", (.str "return")), ("raise", (.str "raise"))]) (List.mem_cons_of_mem _ List.mem_cons_self) (fun p hp => allM_of (l := [("normal", (.str "end")), ("return", (.str "return")), ("raise", (.str "raise"))]) (C := fun p : Str × D => ∀ F, Fz (mkG K (fun c => [c0, c1, c2, c3, c4, c5, c6, c7].getD c c5) (fun i => [f_0, f_1, f_2, f_3, f_4, f_5, f_6, f_7, f_8, f_9, f_10, f_0, f_12, f_0, f_14, f_15, f_16, f_17, f_18, f_19, f_20, f_21, f_22, f_23, f_24, f_25, f_26, f_27, f_28, f_29, f_0, f_31, f_32, f_33, f_34, f_35, f_36, f_37, f_38, f_39, f_40, f_41, f_42, f_43, f_44, f_45, f_46, f_47, f_48, f_49].getD i f_0) (fun c => ([[], ["number"], ["number"], ["at"], ["limit"], ["_statements", "_heads", "_parents", "_parts", "_siblings", "_layers"], ["visited", "used", "end"], ["source", "spot", "pending"]] : List (List Str)).getD c []) [(a_SIZES, [("do", (.int (2))), ("call", (.int (2))), ("if", (.int (4))), ("while", (.int (3))), ("seq", (.int (2))), ("break", (.int (2))), ("continue", (.int (2))), ("return", (.int (1))), ("raise", (.int (1))), ("try", (.int (3))), ("final", (.int (3)))]), (a_ENDS, [("normal", (.str "end")), ("return", (.str "return")), ("raise", (.str "raise"))])]) F (vD p.2) p.2) ⟨fun _ => .str _, fun _ => .str _, fun _ => .str _, trivial⟩ p hp) F⟩, ⟨.int _, _, PySem.W.mg_of X Gh x_MOST_ANSWERS, ⟨_, rfl⟩, fun F => .int _⟩, ⟨.ref _, _, PySem.W.mg_of X Gh x_ASKING, rfl, litT_of (G := (mkG K (fun c => [c0, c1, c2, c3, c4, c5, c6, c7].getD c c5) (fun i => [f_0, f_1, f_2, f_3, f_4, f_5, f_6, f_7, f_8, f_9, f_10, f_0, f_12, f_0, f_14, f_15, f_16, f_17, f_18, f_19, f_20, f_21, f_22, f_23, f_24, f_25, f_26, f_27, f_28, f_29, f_0, f_31, f_32, f_33, f_34, f_35, f_36, f_37, f_38, f_39, f_40, f_41, f_42, f_43, f_44, f_45, f_46, f_47, f_48, f_49].getD i f_0) (fun c => ([[], ["number"], ["number"], ["at"], ["limit"], ["_statements", "_heads", "_parents", "_parts", "_siblings", "_layers"], ["visited", "used", "end"], ["source", "spot", "pending"]] : List (List Str)).getD c []) [(a_SIZES, [("do", (.int (2))), ("call", (.int (2))), ("if", (.int (4))), ("while", (.int (3))), ("seq", (.int (2))), ("break", (.int (2))), ("continue", (.int (2))), ("return", (.int (1))), ("raise", (.int (1))), ("try", (.int (3))), ("final", (.int (3)))]), (a_ENDS, [("normal", (.str "end")), ("return", (.str "return")), ("raise", (.str "raise"))])])) (lit_of 3) w_ASKING⟩, ⟨.ref _, _, PySem.W.mg_of X Gh a39, rfl, fun F => Fz.gl (G := (mkG K (fun c => [c0, c1, c2, c3, c4, c5, c6, c7].getD c c5) (fun i => [f_0, f_1, f_2, f_3, f_4, f_5, f_6, f_7, f_8, f_9, f_10, f_0, f_12, f_0, f_14, f_15, f_16, f_17, f_18, f_19, f_20, f_21, f_22, f_23, f_24, f_25, f_26, f_27, f_28, f_29, f_0, f_31, f_32, f_33, f_34, f_35, f_36, f_37, f_38, f_39, f_40, f_41, f_42, f_43, f_44, f_45, f_46, f_47, f_48, f_49].getD i f_0) (fun c => ([[], ["number"], ["number"], ["at"], ["limit"], ["_statements", "_heads", "_parents", "_parts", "_siblings", "_layers"], ["visited", "used", "end"], ["source", "spot", "pending"]] : List (List Str)).getD c []) [(a_SIZES, [("do", (.int (2))), ("call", (.int (2))), ("if", (.int (4))), ("while", (.int (3))), ("seq", (.int (2))), ("break", (.int (2))), ("continue", (.int (2))), ("return", (.int (1))), ("raise", (.int (1))), ("try", (.int (3))), ("final", (.int (3)))]), (a_ENDS, [("normal", (.str "end")), ("return", (.str "return")), ("raise", (.str "raise"))])])) 1039⟩, ⟨.ref _, _, PySem.W.mg_of X Gh a40, rfl, fun F => Fz.gl (G := (mkG K (fun c => [c0, c1, c2, c3, c4, c5, c6, c7].getD c c5) (fun i => [f_0, f_1, f_2, f_3, f_4, f_5, f_6, f_7, f_8, f_9, f_10, f_0, f_12, f_0, f_14, f_15, f_16, f_17, f_18, f_19, f_20, f_21, f_22, f_23, f_24, f_25, f_26, f_27, f_28, f_29, f_0, f_31, f_32, f_33, f_34, f_35, f_36, f_37, f_38, f_39, f_40, f_41, f_42, f_43, f_44, f_45, f_46, f_47, f_48, f_49].getD i f_0) (fun c => ([[], ["number"], ["number"], ["at"], ["limit"], ["_statements", "_heads", "_parents", "_parts", "_siblings", "_layers"], ["visited", "used", "end"], ["source", "spot", "pending"]] : List (List Str)).getD c []) [(a_SIZES, [("do", (.int (2))), ("call", (.int (2))), ("if", (.int (4))), ("while", (.int (3))), ("seq", (.int (2))), ("break", (.int (2))), ("continue", (.int (2))), ("return", (.int (1))), ("raise", (.int (1))), ("try", (.int (3))), ("final", (.int (3)))]), (a_ENDS, [("normal", (.str "end")), ("return", (.str "return")), ("raise", (.str "raise"))])])) 1040⟩, trivial⟩ x g h,
      tys := fun x g h => allL_of (l := S0.tys) (C := fun (x : Str) (g : Nat) => ∃ v u, mg x = none ∧ bootBuiltins x = some u ∧ RelV v u ∧ ∀ F, Fz (mkG K (fun c => [c0, c1, c2, c3, c4, c5, c6, c7].getD c c5) (fun i => [f_0, f_1, f_2, f_3, f_4, f_5, f_6, f_7, f_8, f_9, f_10, f_0, f_12, f_0, f_14, f_15, f_16, f_17, f_18, f_19, f_20, f_21, f_22, f_23, f_24, f_25, f_26, f_27, f_28, f_29, f_0, f_31, f_32, f_33, f_34, f_35, f_36, f_37, f_38, f_39, f_40, f_41, f_42, f_43, f_44, f_45, f_46, f_47, f_48, f_49].getD i f_0) (fun c => ([[], ["number"], ["number"], ["at"], ["limit"], ["_statements", "_heads", "_parents", "_parts", "_siblings", "_layers"], ["visited", "used", "end"], ["source", "spot", "pending"]] : List (List Str)).getD c []) [(a_SIZES, [("do", (.int (2))), ("call", (.int (2))), ("if", (.int (4))), ("while", (.int (3))), ("seq", (.int (2))), ("break", (.int (2))), ("continue", (.int (2))), ("return", (.int (1))), ("raise", (.int (1))), ("try", (.int (3))), ("final", (.int (3)))]), (a_ENDS, [("normal", (.str "end")), ("return", (.str "return")), ("raise", (.str "raise"))])]) F v (P.gd g)) ⟨⟨.ty "int", .type "int", PySem.W.mg_none_of X Gh z_int, rfl, rfl, fun F => Fz.gl (G := (mkG K (fun c => [c0, c1, c2, c3, c4, c5, c6, c7].getD c c5) (fun i => [f_0, f_1, f_2, f_3, f_4, f_5, f_6, f_7, f_8, f_9, f_10, f_0, f_12, f_0, f_14, f_15, f_16, f_17, f_18, f_19, f_20, f_21, f_22, f_23, f_24, f_25, f_26, f_27, f_28, f_29, f_0, f_31, f_32, f_33, f_34, f_35, f_36, f_37, f_38, f_39, f_40, f_41, f_42, f_43, f_44, f_45, f_46, f_47, f_48, f_49].getD i f_0) (fun c => ([[], ["number"], ["number"], ["at"], ["limit"], ["_statements", "_heads", "_parents", "_parts", "_siblings", "_layers"], ["visited", "used", "end"], ["source", "spot", "pending"]] : List (List Str)).getD c []) [(a_SIZES, [("do", (.int (2))), ("call", (.int (2))), ("if", (.int (4))), ("while", (.int (3))), ("seq", (.int (2))), ("break", (.int (2))), ("continue", (.int (2))), ("return", (.int (1))), ("raise", (.int (1))), ("try", (.int (3))), ("final", (.int (3)))]), (a_ENDS, [("normal", (.str "end")), ("return", (.str "return")), ("raise", (.str "raise"))])])) 0⟩, ⟨.ty "bool", .type "bool", PySem.W.mg_none_of X Gh z_bool, rfl, rfl, fun F => Fz.gl (G := (mkG K (fun c => [c0, c1, c2, c3, c4, c5, c6, c7].getD c c5) (fun i => [f_0, f_1, f_2, f_3, f_4, f_5, f_6, f_7, f_8, f_9, f_10, f_0, f_12, f_0, f_14, f_15, f_16, f_17, f_18, f_19, f_20, f_21, f_22, f_23, f_24, f_25, f_26, f_27, f_28, f_29, f_0, f_31, f_32, f_33, f_34, f_35, f_36, f_37, f_38, f_39, f_40, f_41, f_42, f_43, f_44, f_45, f_46, f_47, f_48, f_49].getD i f_0) (fun c => ([[], ["number"], ["number"], ["at"], ["limit"], ["_statements", "_heads", "_parents", "_parts", "_siblings", "_layers"], ["visited", "used", "end"], ["source", "spot", "pending"]] : List (List Str)).getD c []) [(a_SIZES, [("do", (.int (2))), ("call", (.int (2))), ("if", (.int (4))), ("while", (.int (3))), ("seq", (.int (2))), ("break", (.int (2))), ("continue", (.int (2))), ("return", (.int (1))), ("raise", (.int (1))), ("try", (.int (3))), ("final", (.int (3)))]), (a_ENDS, [("normal", (.str "end")), ("return", (.str "return")), ("raise", (.str "raise"))])])) 1⟩, ⟨.ty "str", .type "str", PySem.W.mg_none_of X Gh z_str, rfl, rfl, fun F => Fz.gl (G := (mkG K (fun c => [c0, c1, c2, c3, c4, c5, c6, c7].getD c c5) (fun i => [f_0, f_1, f_2, f_3, f_4, f_5, f_6, f_7, f_8, f_9, f_10, f_0, f_12, f_0, f_14, f_15, f_16, f_17, f_18, f_19, f_20, f_21, f_22, f_23, f_24, f_25, f_26, f_27, f_28, f_29, f_0, f_31, f_32, f_33, f_34, f_35, f_36, f_37, f_38, f_39, f_40, f_41, f_42, f_43, f_44, f_45, f_46, f_47, f_48, f_49].getD i f_0) (fun c => ([[], ["number"], ["number"], ["at"], ["limit"], ["_statements", "_heads", "_parents", "_parts", "_siblings", "_layers"], ["visited", "used", "end"], ["source", "spot", "pending"]] : List (List Str)).getD c []) [(a_SIZES, [("do", (.int (2))), ("call", (.int (2))), ("if", (.int (4))), ("while", (.int (3))), ("seq", (.int (2))), ("break", (.int (2))), ("continue", (.int (2))), ("return", (.int (1))), ("raise", (.int (1))), ("try", (.int (3))), ("final", (.int (3)))]), (a_ENDS, [("normal", (.str "end")), ("return", (.str "return")), ("raise", (.str "raise"))])])) 2⟩, ⟨.ty "tuple", .type "tuple", PySem.W.mg_none_of X Gh z_tuple, rfl, rfl, fun F => Fz.gl (G := (mkG K (fun c => [c0, c1, c2, c3, c4, c5, c6, c7].getD c c5) (fun i => [f_0, f_1, f_2, f_3, f_4, f_5, f_6, f_7, f_8, f_9, f_10, f_0, f_12, f_0, f_14, f_15, f_16, f_17, f_18, f_19, f_20, f_21, f_22, f_23, f_24, f_25, f_26, f_27, f_28, f_29, f_0, f_31, f_32, f_33, f_34, f_35, f_36, f_37, f_38, f_39, f_40, f_41, f_42, f_43, f_44, f_45, f_46, f_47, f_48, f_49].getD i f_0) (fun c => ([[], ["number"], ["number"], ["at"], ["limit"], ["_statements", "_heads", "_parents", "_parts", "_siblings", "_layers"], ["visited", "used", "end"], ["source", "spot", "pending"]] : List (List Str)).getD c []) [(a_SIZES, [("do", (.int (2))), ("call", (.int (2))), ("if", (.int (4))), ("while", (.int (3))), ("seq", (.int (2))), ("break", (.int (2))), ("continue", (.int (2))), ("return", (.int (1))), ("raise", (.int (1))), ("try", (.int (3))), ("final", (.int (3)))]), (a_ENDS, [("normal", (.str "end")), ("return", (.str "return")), ("raise", (.str "raise"))])])) 3⟩, ⟨.ty "list", .type "list", PySem.W.mg_none_of X Gh z_list, rfl, rfl, fun F => Fz.gl (G := (mkG K (fun c => [c0, c1, c2, c3, c4, c5, c6, c7].getD c c5) (fun i => [f_0, f_1, f_2, f_3, f_4, f_5, f_6, f_7, f_8, f_9, f_10, f_0, f_12, f_0, f_14, f_15, f_16, f_17, f_18, f_19, f_20, f_21, f_22, f_23, f_24, f_25, f_26, f_27, f_28, f_29, f_0, f_31, f_32, f_33, f_34, f_35, f_36, f_37, f_38, f_39, f_40, f_41, f_42, f_43, f_44, f_45, f_46, f_47, f_48, f_49].getD i f_0) (fun c => ([[], ["number"], ["number"], ["at"], ["limit"], ["_statements", "_heads", "_parents", "_parts", "_siblings", "_layers"], ["visited", "used", "end"], ["source", "spot", "pending"]] : List (List Str)).getD c []) [(a_SIZES, [("do", (.int (2))), ("call", (.int (2))), ("if", (.int (4))), ("while", (.int (3))), ("seq", (.int (2))), ("break", (.int (2))), ("continue", (.int (2))), ("return", (.int (1))), ("raise", (.int (1))), ("try", (.int (3))), ("final", (.int (3)))]), (a_ENDS, [("normal", (.str "end")), ("return", (.str "return")), ("raise", (.str "raise"))])])) 4⟩, ⟨.ty "dict", .type "dict", PySem.W.mg_none_of X Gh z_dict, rfl, rfl, fun F => Fz.gl (G := (mkG K (fun c => [c0, c1, c2, c3, c4, c5, c6, c7].getD c c5) (fun i => [f_0, f_1, f_2, f_3, f_4, f_5, f_6, f_7, f_8, f_9, f_10, f_0, f_12, f_0, f_14, f_15, f_16, f_17, f_18, f_19, f_20, f_21, f_22, f_23, f_24, f_25, f_26, f_27, f_28, f_29, f_0, f_31, f_32, f_33, f_34, f_35, f_36, f_37, f_38, f_39, f_40, f_41, f_42, f_43, f_44, f_45, f_46, f_47, f_48, f_49].getD i f_0) (fun c => ([[], ["number"], ["number"], ["at"], ["limit"], ["_statements", "_heads", "_parents", "_parts", "_siblings", "_layers"], ["visited", "used", "end"], ["source", "spot", "pending"]] : List (List Str)).getD c []) [(a_SIZES, [("do", (.int (2))), ("call", (.int (2))), ("if", (.int (4))), ("while", (.int (3))), ("seq", (.int (2))), ("break", (.int (2))), ("continue", (.int (2))), ("return", (.int (1))), ("raise", (.int (1))), ("try", (.int (3))), ("final", (.int (3)))]), (a_ENDS, [("normal", (.str "end")), ("return", (.str "return")), ("raise", (.str "raise"))])])) 5⟩, trivial⟩ x g h,
      blt := allM_of (l := S0.blt) (C := fun x => mg x = none) ⟨PySem.W.mg_none_of X Gh z_int, PySem.W.mg_none_of X Gh z_bool, PySem.W.mg_none_of X Gh z_str, PySem.W.mg_none_of X Gh z_tuple, PySem.W.mg_none_of X Gh z_list, PySem.W.mg_none_of X Gh z_dict, PySem.W.mg_none_of X Gh z_len, PySem.W.mg_none_of X Gh z_isinstance, PySem.W.mg_none_of X Gh z_all, PySem.W.mg_none_of X Gh z_sum, PySem.W.mg_none_of X Gh z_range, PySem.W.mg_none_of X Gh z_enumerate, PySem.W.mg_none_of X Gh z_reversed, trivial⟩,
      exh := fun x c h => allL_of (l := S0.exh) (C := fun (x : Str) (c : Nat) => mg x = some (.ref ((mkG K (fun c => [c0, c1, c2, c3, c4, c5, c6, c7].getD c c5) (fun i => [f_0, f_1, f_2, f_3, f_4, f_5, f_6, f_7, f_8, f_9, f_10, f_0, f_12, f_0, f_14, f_15, f_16, f_17, f_18, f_19, f_20, f_21, f_22, f_23, f_24, f_25, f_26, f_27, f_28, f_29, f_0, f_31, f_32, f_33, f_34, f_35, f_36, f_37, f_38, f_39, f_40, f_41, f_42, f_43, f_44, f_45, f_46, f_47, f_48, f_49].getD i f_0) (fun c => ([[], ["number"], ["number"], ["at"], ["limit"], ["_statements", "_heads", "_parents", "_parts", "_siblings", "_layers"], ["visited", "used", "end"], ["source", "spot", "pending"]] : List (List Str)).getD c []) [(a_SIZES, [("do", (.int (2))), ("call", (.int (2))), ("if", (.int (4))), ("while", (.int (3))), ("seq", (.int (2))), ("break", (.int (2))), ("continue", (.int (2))), ("return", (.int (1))), ("raise", (.int (1))), ("try", (.int (3))), ("final", (.int (3)))]), (a_ENDS, [("normal", (.str "end")), ("return", (.str "return")), ("raise", (.str "raise"))])]).cls c)) ∧ ∀ d b, P.sub d c = some b → PySem.W.exmOne K (.ref ((mkG K (fun c => [c0, c1, c2, c3, c4, c5, c6, c7].getD c c5) (fun i => [f_0, f_1, f_2, f_3, f_4, f_5, f_6, f_7, f_8, f_9, f_10, f_0, f_12, f_0, f_14, f_15, f_16, f_17, f_18, f_19, f_20, f_21, f_22, f_23, f_24, f_25, f_26, f_27, f_28, f_29, f_0, f_31, f_32, f_33, f_34, f_35, f_36, f_37, f_38, f_39, f_40, f_41, f_42, f_43, f_44, f_45, f_46, f_47, f_48, f_49].getD i f_0) (fun c => ([[], ["number"], ["number"], ["at"], ["limit"], ["_statements", "_heads", "_parents", "_parts", "_siblings", "_layers"], ["visited", "used", "end"], ["source", "spot", "pending"]] : List (List Str)).getD c []) [(a_SIZES, [("do", (.int (2))), ("call", (.int (2))), ("if", (.int (4))), ("while", (.int (3))), ("seq", (.int (2))), ("break", (.int (2))), ("continue", (.int (2))), ("return", (.int (1))), ("raise", (.int (1))), ("try", (.int (3))), ("final", (.int (3)))]), (a_ENDS, [("normal", (.str "end")), ("return", (.str "return")), ("raise", (.str "raise"))])]).cls d)) (.ref ((mkG K (fun c => [c0, c1, c2, c3, c4, c5, c6, c7].getD c c5) (fun i => [f_0, f_1, f_2, f_3, f_4, f_5, f_6, f_7, f_8, f_9, f_10, f_0, f_12, f_0, f_14, f_15, f_16, f_17, f_18, f_19, f_20, f_21, f_22, f_23, f_24, f_25, f_26, f_27, f_28, f_29, f_0, f_31, f_32, f_33, f_34, f_35, f_36, f_37, f_38, f_39, f_40, f_41, f_42, f_43, f_44, f_45, f_46, f_47, f_48, f_49].getD i f_0) (fun c => ([[], ["number"], ["number"], ["at"], ["limit"], ["_statements", "_heads", "_parents", "_parts", "_siblings", "_layers"], ["visited", "used", "end"], ["source", "spot", "pending"]] : List (List Str)).getD c []) [(a_SIZES, [("do", (.int (2))), ("call", (.int (2))), ("if", (.int (4))), ("while", (.int (3))), ("seq", (.int (2))), ("break", (.int (2))), ("continue", (.int (2))), ("return", (.int (1))), ("raise", (.int (1))), ("try", (.int (3))), ("final", (.int (3)))]), (a_ENDS, [("normal", (.str "end")), ("return", (.str "return")), ("raise", (.str "raise"))])]).cls c)) = some b) ⟨⟨PySem.W.mg_of X Gh x_InvalidAnswers, fun d b hb => by
        have hm := sub_mem hb
        simp only [idsT, List.mem_cons, List.not_mem_nil, or_false] at hm
        rcases hm with rfl | rfl | rfl | rfl | rfl
        · cases hb; exact PySem.W.exm_ref e7_InvalidAnswers e5_InvalidAnswers e8_InvalidAnswers s_CopyError_InvalidAnswers
        · cases hb; exact PySem.W.exm_ref e7_InvalidAnswers e5_InvalidAnswers e8_InvalidAnswers s_InvalidCode_InvalidAnswers
        · cases hb; exact PySem.W.exm_ref e7_InvalidAnswers e5_InvalidAnswers e8_InvalidAnswers s_InvalidNumber_InvalidAnswers
        · cases hb; exact PySem.W.exm_ref e7_InvalidAnswers e5_InvalidAnswers e8_InvalidAnswers s_InvalidAnswers_InvalidAnswers
        · cases hb; exact PySem.W.exm_ref e7_InvalidAnswers e5_InvalidAnswers e8_InvalidAnswers s_LimitExceeded_InvalidAnswers⟩, ⟨PySem.W.mg_of X Gh x_CopyError, fun d b hb => by
        have hm := sub_mem hb
        simp only [idsT, List.mem_cons, List.not_mem_nil, or_false] at hm
        rcases hm with rfl | rfl | rfl | rfl | rfl
        · cases hb; exact PySem.W.exm_ref e7_CopyError e5_CopyError e8_CopyError s_CopyError_CopyError
        · cases hb; exact PySem.W.exm_ref e7_CopyError e5_CopyError e8_CopyError s_InvalidCode_CopyError
        · cases hb; exact PySem.W.exm_ref e7_CopyError e5_CopyError e8_CopyError s_InvalidNumber_CopyError
        · cases hb; exact PySem.W.exm_ref e7_CopyError e5_CopyError e8_CopyError s_InvalidAnswers_CopyError
        · cases hb; exact PySem.W.exm_ref e7_CopyError e5_CopyError e8_CopyError s_LimitExceeded_CopyError⟩, trivial⟩ x c h }
  exact (Lk.all L 10 49 f49 rfl).imp (law_sp (G := (mkG K (fun c => [c0, c1, c2, c3, c4, c5, c6, c7].getD c c5) (fun i => [f_0, f_1, f_2, f_3, f_4, f_5, f_6, f_7, f_8, f_9, f_10, f_0, f_12, f_0, f_14, f_15, f_16, f_17, f_18, f_19, f_20, f_21, f_22, f_23, f_24, f_25, f_26, f_27, f_28, f_29, f_0, f_31, f_32, f_33, f_34, f_35, f_36, f_37, f_38, f_39, f_40, f_41, f_42, f_43, f_44, f_45, f_46, f_47, f_48, f_49].getD i f_0) (fun c => ([[], ["number"], ["number"], ["at"], ["limit"], ["_statements", "_heads", "_parents", "_parts", "_siblings", "_layers"], ["visited", "used", "end"], ["source", "spot", "pending"]] : List (List Str)).getD c []) [(a_SIZES, [("do", (.int (2))), ("call", (.int (2))), ("if", (.int (4))), ("while", (.int (3))), ("seq", (.int (2))), ("break", (.int (2))), ("continue", (.int (2))), ("return", (.int (1))), ("raise", (.int (1))), ("try", (.int (3))), ("final", (.int (3)))]), (a_ENDS, [("normal", (.str "end")), ("return", (.str "return")), ("raise", (.str "raise"))])])) fun ns => ⟨_, law_ok 0 ns⟩)

theorem walk {l : PySem.W.OpenLaw} {q : Program} {loose : List Str} {XP : (Str → Option Value) → Heap → Prop} {YP : World → Heap → Prop} {d : DefRec} {K : Params → PySem.W.Frag} (hn : l.most = some 63) (hdf : d.params.defaults = [])
    (hY : ∀ (w : World) (h : Heap), YP w h → (K w.params).In h)
    (F : ∀ (w : World) (mg : Str → Option Value) (fa : Addr) (h : Heap), (K w.params).In h → h.Ns mainGlobals mg → mg d.name = some (.ref fa) →
      ∃ fd : FuncData, (∀ (s : Shared) (u : Value), BindsTo s fd ⟨[u], []⟩ [("_law_script", u)]) ∧ ∀ base : Heap, (K w.params).In base → base.Ns mainGlobals mg → FnOk l.prog w (K w.params) mg base (L2.CX l.prog w) (lev 10) fa fd ["_law_script"] (spLaw (K w.params))) :
    PySem.W.WalkO q loose XP YP l.row.toRowW d [] (fun f vs => PySem.call f vs) :=
  L2.walk_of (n := 63) (k := lev 10) (x := "_law_script") (CX := fun w => L2.CX l.prog w) (sp := fun w => spLaw (K w.params)) hn (by decide) hdf ⟨rfl, by decide, by decide⟩ hY F (fun _ _ a ns hl _ hS => ⟨a, ns, rfl, hS, fun _ => rfl⟩) fun _ _ _ _ _ z => by
    obtain ⟨_, _, _, _, _, _, _, _, _, _, _, _, z⟩ := z
    exact z
end K8
end Dn
end L2
set_option Elab.async false
set_option linter.all false
open PySem PySem.W PyProof.Rows in
set_option maxRecDepth 100000 in
set_option maxHeartbeats 0 in
theorem PySem.Challenge.cw_finallycopies_k08_invalid_answers_holds : PySem.Challenge.rw_finallycopies_k08_invalid_answers.Holds := by
  w_on; o_law; k_head; (case hw => w_witness2)
  k_fill
  refine L2.Dn.K8.walk (l := PySem.Challenge.rw_finallycopies_k08_invalid_answers) rfl rfl (fun w h Y => PySem.W.kIn_of Y) ?F
  case F =>
    intro w mg fa h KX G hmg
    refine' L2.Dn.K8.all_mk KX G hmg ?x_CopyError ?x_InvalidCode ?x_InvalidNumber ?x_InvalidAnswers ?x_LimitExceeded ?x_Code ?x_Run ?x_Walk ?a0 ?a1 ?a2 ?a3 ?a4 ?a5 ?a6 ?a7 ?m8 ?u8 ?v8 ?m9 ?u9 ?v9 ?m10 ?u10 ?v10 ?m12 ?u12 ?v12 ?m14 ?u14 ?v14 ?m15 ?u15 ?v15 ?m16 ?u16 ?v16 ?m17 ?u17 ?v17 ?m18 ?u18 ?v18 ?m19 ?u19 ?v19 ?m20 ?u20 ?v20 ?m21 ?u21 ?v21 ?m22 ?u22 ?v22 ?a23 ?a24 ?a25 ?a26 ?a27 ?a28 ?m29 ?u29 ?v29 ?m31 ?u31 ?v31 ?m32 ?u32 ?v32 ?m33 ?u33 ?v33 ?m34 ?u34 ?v34 ?m35 ?u35 ?v35 ?m36 ?u36 ?v36 ?a37 ?a38 ?a39 ?a40 ?a41 ?a42 ?a43 ?a44 ?a45 ?a46 ?a47 ?a48 ?a49 ?gi12 ?x_MOST_STATEMENTS ?x_MOST_LEVELS ?x_MOST_BLOCKS ?x_LONGEST_NAME ?x_MOST_ANSWERS ?x_NAMED ?x_JUMPS ?x_PAIRS ?x_ENTERED ?x_PLACELESS ?x_NORMAL ?x_RAISE ?x_AGAIN ?x_ASKING ?x_SIZES ?x_ENDS ?z_int ?z_bool ?z_str ?z_tuple ?z_list ?z_dict ?z_len ?z_isinstance ?z_all ?z_sum ?z_range ?z_enumerate ?z_reversed ?pg_Code ?hd_Code ?po_Code ?sa_Code ?mk_Code ?kc_Code ?n_Code_0 ?n_Code_1 ?n_Code_2 ?n_Code_3 ?n_Code_4 ?n_Code_5 ?pg_Run ?hd_Run ?po_Run ?sa_Run ?mk_Run ?kc_Run ?n_Run_0 ?n_Run_1 ?n_Run_2 ?pg_Walk ?hd_Walk ?po_Walk ?sa_Walk ?mk_Walk ?kc_Walk ?n_Walk_0 ?n_Walk_1 ?n_Walk_2 ?m_X1 ?e0_X1 ?e1_X1 ?e2_X1 ?e3_X1 ?e4_X1 ?e5_InvalidCode ?e6_X1 ?e7_InvalidCode ?e8_InvalidCode ?e9_X1 ?e10_X1 ?m_X2 ?e0_X2 ?e1_X2 ?e2_X2 ?e3_X2 ?e4_X2 ?e5_InvalidNumber ?e6_X2 ?e7_InvalidNumber ?e8_InvalidNumber ?e9_X2 ?e10_X2 ?m_X3 ?e0_X3 ?e1_X3 ?e2_X3 ?e3_X3 ?e4_X3 ?e5_InvalidAnswers ?e6_X3 ?e7_InvalidAnswers ?e8_InvalidAnswers ?e9_X3 ?e10_X3 ?m_X4 ?e0_X4 ?e1_X4 ?e2_X4 ?e3_X4 ?e4_X4 ?e5_LimitExceeded ?e6_X4 ?e7_LimitExceeded ?e8_LimitExceeded ?e9_X4 ?e10_X4 ?e5_CopyError ?e7_CopyError ?e8_CopyError ?s_CopyError_InvalidAnswers ?s_InvalidCode_InvalidAnswers ?s_InvalidNumber_InvalidAnswers ?s_InvalidAnswers_InvalidAnswers ?s_LimitExceeded_InvalidAnswers ?s_CopyError_CopyError ?s_InvalidCode_CopyError ?s_InvalidNumber_CopyError ?s_InvalidAnswers_CopyError ?s_LimitExceeded_CopyError ?w_NAMED ?w_JUMPS ?w_PAIRS ?w_ENTERED ?w_PLACELESS ?w_NORMAL ?w_RAISE ?w_AGAIN ?w_ASKING ?w_SIZES ?p_SIZES ?w_ENDS ?p_ENDS ?d_0 ?d_1 ?d_2 ?d_3 ?d_4 ?d_5 ?d_6 ?d_7 ?d_8 ?d_9 ?d_10 ?d_12 ?d_14 ?d_15 ?d_16 ?d_17 ?d_18 ?d_19 ?d_20 ?d_21 ?d_22 ?d_23 ?d_24 ?d_25 ?d_26 ?d_27 ?d_28 ?d_29 ?d_31 ?d_32 ?d_33 ?d_34 ?d_35 ?d_36 ?d_37 ?d_38 ?d_39 ?d_40 ?d_41 ?d_42 ?d_43 ?d_44 ?d_45 ?d_46 ?d_47 ?d_48 ?d_49 ?d_X1 ?d_X2 ?d_X3 ?d_X4
    (case x_CopyError => k_is)
    (case x_InvalidCode => k_is)
    (case x_InvalidNumber => k_is)
    (case x_InvalidAnswers => k_is)
    (case x_LimitExceeded => k_is)
    (case x_Code => k_is)
    (case x_Run => k_is)
    (case x_Walk => k_is)
    (case a0 => k_is)
    (case a1 => k_is)
    (case a2 => k_is)
    (case a3 => k_is)
    (case a4 => k_is)
    (case a5 => k_is)
    (case a6 => k_is)
    (case a7 => k_is)
    (case m8 => k_is)
    (case u8 => k_is)
    (case v8 => k_is)
    (case m9 => k_is)
    (case u9 => k_is)
    (case v9 => k_is)
    (case m10 => k_is)
    (case u10 => k_is)
    (case v10 => k_is)
    (case m12 => k_is)
    (case u12 => k_is)
    (case v12 => k_is)
    (case m14 => k_is)
    (case u14 => k_is)
    (case v14 => k_is)
    (case m15 => k_is)
    (case u15 => k_is)
    (case v15 => k_is)
    (case m16 => k_is)
    (case u16 => k_is)
    (case v16 => k_is)
    (case m17 => k_is)
    (case u17 => k_is)
    (case v17 => k_is)
    (case m18 => k_is)
    (case u18 => k_is)
    (case v18 => k_is)
    (case m19 => k_is)
    (case u19 => k_is)
    (case v19 => k_is)
    (case m20 => k_is)
    (case u20 => k_is)
    (case v20 => k_is)
    (case m21 => k_is)
    (case u21 => k_is)
    (case v21 => k_is)
    (case m22 => k_is)
    (case u22 => k_is)
    (case v22 => k_is)
    (case a23 => k_is)
    (case a24 => k_is)
    (case a25 => k_is)
    (case a26 => k_is)
    (case a27 => k_is)
    (case a28 => k_is)
    (case m29 => k_is)
    (case u29 => k_is)
    (case v29 => k_is)
    (case m31 => k_is)
    (case u31 => k_is)
    (case v31 => k_is)
    (case m32 => k_is)
    (case u32 => k_is)
    (case v32 => k_is)
    (case m33 => k_is)
    (case u33 => k_is)
    (case v33 => k_is)
    (case m34 => k_is)
    (case u34 => k_is)
    (case v34 => k_is)
    (case m35 => k_is)
    (case u35 => k_is)
    (case v35 => k_is)
    (case m36 => k_is)
    (case u36 => k_is)
    (case v36 => k_is)
    (case a37 => k_is)
    (case a38 => k_is)
    (case a39 => k_is)
    (case a40 => k_is)
    (case a41 => k_is)
    (case a42 => k_is)
    (case a43 => k_is)
    (case a44 => k_is)
    (case a45 => k_is)
    (case a46 => k_is)
    (case a47 => k_is)
    (case a48 => k_is)
    (case a49 => k_is)
    (case gi12 => k_is)
    (case x_MOST_STATEMENTS => k_is)
    (case x_MOST_LEVELS => k_is)
    (case x_MOST_BLOCKS => k_is)
    (case x_LONGEST_NAME => k_is)
    (case x_MOST_ANSWERS => k_is)
    (case x_NAMED => k_is)
    (case x_JUMPS => k_is)
    (case x_PAIRS => k_is)
    (case x_ENTERED => k_is)
    (case x_PLACELESS => k_is)
    (case x_NORMAL => k_is)
    (case x_RAISE => k_is)
    (case x_AGAIN => k_is)
    (case x_ASKING => k_is)
    (case x_SIZES => k_is)
    (case x_ENDS => k_is)
    (case z_int => k_is)
    (case z_bool => k_is)
    (case z_str => k_is)
    (case z_tuple => k_is)
    (case z_list => k_is)
    (case z_dict => k_is)
    (case z_len => k_is)
    (case z_isinstance => k_is)
    (case z_all => k_is)
    (case z_sum => k_is)
    (case z_range => k_is)
    (case z_enumerate => k_is)
    (case z_reversed => k_is)
    (case pg_Code => k_is)
    (case hd_Code => k_is)
    (case po_Code => k_is)
    (case sa_Code => k_is)
    (case mk_Code => k_is)
    (case kc_Code => k_is)
    (case n_Code_0 => k_is)
    (case n_Code_1 => k_is)
    (case n_Code_2 => k_is)
    (case n_Code_3 => k_is)
    (case n_Code_4 => k_is)
    (case n_Code_5 => k_is)
    (case pg_Run => k_is)
    (case hd_Run => k_is)
    (case po_Run => k_is)
    (case sa_Run => k_is)
    (case mk_Run => k_is)
    (case kc_Run => k_is)
    (case n_Run_0 => k_is)
    (case n_Run_1 => k_is)
    (case n_Run_2 => k_is)
    (case pg_Walk => k_is)
    (case hd_Walk => k_is)
    (case po_Walk => k_is)
    (case sa_Walk => k_is)
    (case mk_Walk => k_is)
    (case kc_Walk => k_is)
    (case n_Walk_0 => k_is)
    (case n_Walk_1 => k_is)
    (case n_Walk_2 => k_is)
    (case m_X1 => k_is)
    (case e0_X1 => k_is)
    (case e1_X1 => decide +kernel)
    (case e2_X1 => k_is)
    (case e3_X1 => k_is)
    (case e4_X1 => k_is)
    (case e5_InvalidCode => k_is)
    (case e6_X1 => k_is)
    (case e7_InvalidCode => k_is)
    (case e8_InvalidCode => k_is)
    (case e9_X1 => k_is)
    (case e10_X1 => k_is)
    (case m_X2 => k_is)
    (case e0_X2 => k_is)
    (case e1_X2 => decide +kernel)
    (case e2_X2 => k_is)
    (case e3_X2 => k_is)
    (case e4_X2 => k_is)
    (case e5_InvalidNumber => k_is)
    (case e6_X2 => k_is)
    (case e7_InvalidNumber => k_is)
    (case e8_InvalidNumber => k_is)
    (case e9_X2 => k_is)
    (case e10_X2 => k_is)
    (case m_X3 => k_is)
    (case e0_X3 => k_is)
    (case e1_X3 => decide +kernel)
    (case e2_X3 => k_is)
    (case e3_X3 => k_is)
    (case e4_X3 => k_is)
    (case e5_InvalidAnswers => k_is)
    (case e6_X3 => k_is)
    (case e7_InvalidAnswers => k_is)
    (case e8_InvalidAnswers => k_is)
    (case e9_X3 => k_is)
    (case e10_X3 => k_is)
    (case m_X4 => k_is)
    (case e0_X4 => k_is)
    (case e1_X4 => decide +kernel)
    (case e2_X4 => k_is)
    (case e3_X4 => k_is)
    (case e4_X4 => k_is)
    (case e5_LimitExceeded => k_is)
    (case e6_X4 => k_is)
    (case e7_LimitExceeded => k_is)
    (case e8_LimitExceeded => k_is)
    (case e9_X4 => k_is)
    (case e10_X4 => k_is)
    (case e5_CopyError => k_is)
    (case e7_CopyError => k_is)
    (case e8_CopyError => k_is)
    (case s_CopyError_InvalidAnswers => k_is)
    (case s_InvalidCode_InvalidAnswers => k_is)
    (case s_InvalidNumber_InvalidAnswers => k_is)
    (case s_InvalidAnswers_InvalidAnswers => k_is)
    (case s_LimitExceeded_InvalidAnswers => k_is)
    (case s_CopyError_CopyError => k_is)
    (case s_InvalidCode_CopyError => k_is)
    (case s_InvalidNumber_CopyError => k_is)
    (case s_InvalidAnswers_CopyError => k_is)
    (case s_LimitExceeded_CopyError => k_is)
    (case w_NAMED => kernel_rfl)
    (case w_JUMPS => kernel_rfl)
    (case w_PAIRS => kernel_rfl)
    (case w_ENTERED => kernel_rfl)
    (case w_PLACELESS => kernel_rfl)
    (case w_NORMAL => kernel_rfl)
    (case w_RAISE => kernel_rfl)
    (case w_AGAIN => kernel_rfl)
    (case w_ASKING => kernel_rfl)
    (case w_SIZES => kernel_rfl)
    (case p_SIZES => kernel_rfl)
    (case w_ENDS => kernel_rfl)
    (case p_ENDS => kernel_rfl)
    (case d_0 => refine' L2.Fc.DefF.of ?l ?c ?k; (case l => k_is); (case c => k_is); (case k => k_is))
    (case d_1 => refine' L2.Fc.DefF.of ?l ?c ?k; (case l => k_is); (case c => k_is); (case k => k_is))
    (case d_2 => refine' L2.Fc.DefF.of ?l ?c ?k; (case l => k_is); (case c => k_is); (case k => k_is))
    (case d_3 => refine' L2.Fc.DefF.of ?l ?c ?k; (case l => k_is); (case c => k_is); (case k => k_is))
    (case d_4 => refine' L2.Fc.DefF.of ?l ?c ?k; (case l => k_is); (case c => k_is); (case k => k_is))
    (case d_5 => refine' L2.Fc.DefF.of ?l ?c ?k; (case l => k_is); (case c => k_is); (case k => k_is))
    (case d_6 => refine' L2.Fc.DefF.of ?l ?c ?k; (case l => k_is); (case c => k_is); (case k => k_is))
    (case d_7 => refine' L2.Fc.DefF.of ?l ?c ?k; (case l => k_is); (case c => k_is); (case k => k_is))
    (case d_8 => refine' L2.Fc.DefF.of ?l ?c ?k; (case l => k_is); (case c => k_is); (case k => k_is))
    (case d_9 => refine' L2.Fc.DefF.of ?l ?c ?k; (case l => k_is); (case c => k_is); (case k => k_is))
    (case d_10 => refine' L2.Fc.DefF.of ?l ?c ?k; (case l => k_is); (case c => k_is); (case k => k_is))
    (case d_12 => refine' L2.Fc.DefF.of ?l ?c ?k; (case l => k_is); (case c => k_is); (case k => k_is))
    (case d_14 => refine' L2.Fc.DefF.of ?l ?c ?k; (case l => k_is); (case c => k_is); (case k => k_is))
    (case d_15 => refine' L2.Fc.DefF.of ?l ?c ?k; (case l => k_is); (case c => k_is); (case k => k_is))
    (case d_16 => refine' L2.Fc.DefF.of ?l ?c ?k; (case l => k_is); (case c => k_is); (case k => k_is))
    (case d_17 => refine' L2.Fc.DefF.of ?l ?c ?k; (case l => k_is); (case c => k_is); (case k => k_is))
    (case d_18 => refine' L2.Fc.DefF.of ?l ?c ?k; (case l => k_is); (case c => k_is); (case k => k_is))
    (case d_19 => refine' L2.Fc.DefF.of ?l ?c ?k; (case l => k_is); (case c => k_is); (case k => k_is))
    (case d_20 => refine' L2.Fc.DefF.of ?l ?c ?k; (case l => k_is); (case c => k_is); (case k => k_is))
    (case d_21 => refine' L2.Fc.DefF.of ?l ?c ?k; (case l => k_is); (case c => k_is); (case k => k_is))
    (case d_22 => refine' L2.Fc.DefF.of ?l ?c ?k; (case l => k_is); (case c => k_is); (case k => k_is))
    (case d_23 => refine' L2.Fc.DefF.of ?l ?c ?k; (case l => k_is); (case c => k_is); (case k => k_is))
    (case d_24 => refine' L2.Fc.DefF.of ?l ?c ?k; (case l => k_is); (case c => k_is); (case k => k_is))
    (case d_25 => refine' L2.Fc.DefF.of ?l ?c ?k; (case l => k_is); (case c => k_is); (case k => k_is))
    (case d_26 => refine' L2.Fc.DefF.of ?l ?c ?k; (case l => k_is); (case c => k_is); (case k => k_is))
    (case d_27 => refine' L2.Fc.DefF.of ?l ?c ?k; (case l => k_is); (case c => k_is); (case k => k_is))
    (case d_28 => refine' L2.Fc.DefF.of ?l ?c ?k; (case l => k_is); (case c => k_is); (case k => k_is))
    (case d_29 => refine' L2.Fc.DefF.of ?l ?c ?k; (case l => k_is); (case c => k_is); (case k => k_is))
    (case d_31 => refine' L2.Fc.DefF.of ?l ?c ?k; (case l => k_is); (case c => k_is); (case k => k_is))
    (case d_32 => refine' L2.Fc.DefF.of ?l ?c ?k; (case l => k_is); (case c => k_is); (case k => k_is))
    (case d_33 => refine' L2.Fc.DefF.of ?l ?c ?k; (case l => k_is); (case c => k_is); (case k => k_is))
    (case d_34 => refine' L2.Fc.DefF.of ?l ?c ?k; (case l => k_is); (case c => k_is); (case k => k_is))
    (case d_35 => refine' L2.Fc.DefF.of ?l ?c ?k; (case l => k_is); (case c => k_is); (case k => k_is))
    (case d_36 => refine' L2.Fc.DefF.of ?l ?c ?k; (case l => k_is); (case c => k_is); (case k => k_is))
    (case d_37 => refine' L2.Fc.DefF.of ?l ?c ?k; (case l => k_is); (case c => k_is); (case k => k_is))
    (case d_38 => refine' L2.Fc.DefF.of ?l ?c ?k; (case l => k_is); (case c => k_is); (case k => k_is))
    (case d_39 => refine' L2.Fc.DefF.of ?l ?c ?k; (case l => k_is); (case c => k_is); (case k => k_is))
    (case d_40 => refine' L2.Fc.DefF.of ?l ?c ?k; (case l => k_is); (case c => k_is); (case k => k_is))
    (case d_41 => refine' L2.Fc.DefF.of ?l ?c ?k; (case l => k_is); (case c => k_is); (case k => k_is))
    (case d_42 => refine' L2.Fc.DefF.of ?l ?c ?k; (case l => k_is); (case c => k_is); (case k => k_is))
    (case d_43 => refine' L2.Fc.DefF.of ?l ?c ?k; (case l => k_is); (case c => k_is); (case k => k_is))
    (case d_44 => refine' L2.Fc.DefF.of ?l ?c ?k; (case l => k_is); (case c => k_is); (case k => k_is))
    (case d_45 => refine' L2.Fc.DefF.of ?l ?c ?k; (case l => k_is); (case c => k_is); (case k => k_is))
    (case d_46 => refine' L2.Fc.DefF.of ?l ?c ?k; (case l => k_is); (case c => k_is); (case k => k_is))
    (case d_47 => refine' L2.Fc.DefF.of ?l ?c ?k; (case l => k_is); (case c => k_is); (case k => k_is))
    (case d_48 => refine' L2.Fc.DefF.of ?l ?c ?k; (case l => k_is); (case c => k_is); (case k => k_is))
    (case d_49 => refine' L2.Fc.DefF.of ?l ?c ?k; (case l => k_is); (case c => k_is); (case k => k_is))
    (case d_X1 => refine' L2.Fc.DefF.of ?l ?c ?k; (case l => k_is); (case c => k_is); (case k => k_is))
    (case d_X2 => refine' L2.Fc.DefF.of ?l ?c ?k; (case l => k_is); (case c => k_is); (case k => k_is))
    (case d_X3 => refine' L2.Fc.DefF.of ?l ?c ?k; (case l => k_is); (case c => k_is); (case k => k_is))
    (case d_X4 => refine' L2.Fc.DefF.of ?l ?c ?k; (case l => k_is); (case c => k_is); (case k => k_is))
#print axioms PySem.Challenge.cw_finallycopies_k08_invalid_answers_holds
