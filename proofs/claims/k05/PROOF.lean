import PyProof.Rows.All
import Wide.All
import OpenK.AllK
import Wide.FinOn
import HandS.ForMost
import HandS.ForExc
import HandS.ExcInit
import HandS.ExcField
import HandS.TryMany
import KE.KExcInit
import HandS.Codes
import HandS.IsInst
import HandS.Style
import KE.KExcIs
import HandS.MakeKwOnly
import HandS.ExcValue
import HandS.More
import HandS.Iter
import HandS.HeadHook3
import PySem.Challenge.RW_finallycopies_k05_error_classes_and_inte
set_option Elab.async false
set_option linter.all false
set_option maxRecDepth 100000
set_option maxHeartbeats 4000000
/-! Exceptions of the program: direct or indirect subclasses of ArithmeticError, with an own __init__ that stores one field. -/
namespace L2
namespace Fc
open PySem PySem.Spec PyProof.Rows Builtin Builtin.ObjectAttr
open PySem.W (Frag findIn subIn typeIn keepIn hasDictIn clsIn)

/-! ### classes over ArithmeticError -/
abbrev arTail : List Value := [.type "ArithmeticError", .type "Exception", .type "BaseException", .type "object"]
def arOver : List Value → Bool
  | .ref _ :: more => arOver more
  | rest => rest == arTail
theorem arOver_split : ∀ l : List Value, arOver l = true → (∃ (c : Addr) (r : List Value), l = Value.ref c :: r ∧ arOver r = true) ∨ l = arTail := by
  intro l e
  match l, e with
  | [], e => exact Or.inr (beq_iff_eq.mp e)
  | x :: r, e =>
    cases x
    case ref c => exact Or.inl ⟨c, r, rfl, e⟩
    all_goals exact Or.inr (beq_iff_eq.mp e)
theorem arOver_pass (v : Value) : ∀ l : List Value, arOver l = true → PySem.refuseLoop v "__setattr__" l = pure () := by
  intro l
  induction l with
  | nil => intro e; exact absurd e (by decide)
  | cons a r ih =>
    intro e
    rcases arOver_split (a :: r) e with ⟨c, r', q, h'⟩ | q
    · obtain ⟨q1, q2⟩ := List.cons.inj q
      rw [q1, refuseLoop_ref]
      exact ih (q2 ▸ h')
    · rw [q]
      exact F.store_ArithmeticError.passes v
theorem arOver_has (T : String) : ∀ l : List Value, arOver l = true → l.contains (.type T) = arTail.contains (.type T) := by
  intro l
  induction l with
  | nil => intro e; exact absurd e (by decide)
  | cons a r ih =>
    intro e
    rcases arOver_split (a :: r) e with ⟨c, r', q, h'⟩ | q
    · obtain ⟨q1, q2⟩ := List.cons.inj q
      rw [q1, List.contains_cons, ih (q2 ▸ h')]
      rfl
    · rw [q]
theorem arOver_some {l : List Value} (e : arOver l = true) : l.isEmpty = false := by
  match l, e with
  | [], e => exact absurd e (by decide)
  | _ :: _, _ => rfl

open PySem.HandSPX in
/-- the first field of an exception that has no dict -/
theorem ar_store {prog : Program} {w : World} {A : Around} {R : Result → Shared → Prop} {hp : Heap} {g : Array GenState} {d : Drawn} {t : Nat} {os : OsState} {K : Frag} {name : Str} {tk : Tok} {v : Value} {x C : Addr} {fv : Array Value} {cd : ClassData}
    (KI : K.In hp) (hx : hp.get? x = some { cls := .ref C, data := .fields fv }) (hcd : clsIn K C = some cd) (hm : arOver cd.mro = true) (hh : cd.hasDict = true) (ha : findIn K (.ref C) name = some none)
    (hq : ∀ (h' : Heap) (tk' : Nat) (dx : Addr), (∀ b o, b ≠ x → hp.get? b = some o → h'.get? b = some o) → hp.objs.size ≤ dx → dx ≠ x → h'.get? x = some { cls := .ref C, dict := some dx, data := .fields fv } →
      h'.Ns1 dx (fun y => if y = name then some v else none) → R (.ok (.ret .none)) ⟨h', g, d, tk', os⟩) :
    codeAny (model prog w) A (.call (.builtin "object.__setattr__") ⟨[.ref x, .str name tk, v], []⟩) R ⟨hp, g, d, t, os⟩ := by
  have inst : W.InstAt hp x { cls := .ref C, data := .fields fv } C none := ⟨hx, rfl, rfl, trivial⟩
  have SF := F.store_object
  have nem := arOver_some hm
  have hasO : cd.mro.contains (.type "object") = true := (arOver_has "object" _ hm).trans (by decide +kernel)
  have far : x ≠ hp.objs.size := Nat.ne_of_lt (Heap.lt_size hx)
  have isO : W.Looks (model prog w) hp (isInstance (.ref x) (.type "object")) true := by
    refine inst.type.andThen (W.looks_mroIn KI ?_)
    unfold W.mroIn
    rw [hcd, Option.bind_some, if_neg (by rw [nem]; decide), hasO]
  refine codeAny_call_builtin SF.slot.plain SF.entry ?_
  refine @W.check_slot (model prog w) _ _ ⟨hp, g, d, t, os⟩ "object.__setattr__" "object" "__setattr__" (.ref x) [.str name tk, v] [] _ SF.kind SF.split isO (SF.args (.ref x) (.str name tk) v) ?_
  have lm : W.Looks (model prog w) hp (mroOf (.ref C)) cd.mro := (W.looks_clsIn KI hcd).andThen .now
  have lt : W.Looks (model prog w) hp (storeTaker? none) none := .now
  have lc : W.Looks (model prog w) hp (classData C) cd := W.looks_clsIn KI hcd
  rw [W.osa_eq, refuse_eq]
  refine wpAny_bind (wpAny_bind (inst.type.at (wpAny_bind (lm.at ?_))))
  rw [arOver_pass _ _ hm]
  refine wpAny_pure (wpAny_bind (inst.type.at (wpAny_bind ((W.looks_findIn KI ha).at (wpAny_bind (lt.at ?_))))))
  show wpAny _ _ (storeInOwnDict (.ref x) (.ref C) (.str name tk) name v false) _ _ _
  obtain ⟨nm, bs, mro, ns, qn, hd, sn, sb, ab, col, del⟩ := cd
  dsimp only at hh
  subst hh
  unfold storeInOwnDict ownDictForStores
  repeat (first | with_reducible refine store_in_new ?_ ?_ | with_reducible refine wpAny_loadPart_at hx ?_ | with_reducible refine lc.at ?_ | wp_step)
  · refine ⟨_, #[], _, (Heap.get?_update_ne _ _ _ _ far.symm).trans (Heap.get?_push_at rfl rfl), rfl, ?_, fun _ => rfl⟩
    intro e he
    exact absurd he (by simp)
  · intro h' tk' hn' hs
    have hx1 : (hp.push { cls := .type "dict", data := .dict #[] }).get? x = some { cls := .ref C, data := .fields fv } := Heap.get?_push_of_some _ hx
    refine hq h' tk' hp.objs.size ?_ (Nat.le_refl _) far.symm ?_ hn'
    · intro b o hb ho
      refine (hs.2 b (Nat.ne_of_lt (Heap.lt_size ho))).trans ?_
      exact (Heap.get?_update_ne _ _ _ _ hb).trans (Heap.get?_push_of_some _ ho)
    · exact (hs.2 x far).trans (Heap.get?_update_self _ hx1 rfl)

/-- what the written part says of an exception class C whose one field is f and whose __init__ is at fI -/
structure ArC (K : Frag) (C fI : Addr) (f : Str) : Prop where
  cls : ∃ nm q N bs bm sn sub ab col dd k0 k1 k2 k3 k5, K.lookup C = some (excClassObj nm q C N bs bm true sn sub ab col dd k0 k1 k2 k3 k5 "ArithmeticError.__new__") ∧ arOver bm = true
  sa : findIn K (.ref C) "__setattr__" = some (some (.builtin "object.__setattr__"))
  ga : findIn K (.ref C) "__getattribute__" = some (some (.builtin "BaseException.__getattribute__"))
  gg : findIn K (.ref C) "__getattr__" = some none
  hd : hasDictIn K C = true
  nf : findIn K (.ref C) f = some none
  exC : subIn K (.ref C) (.type "BaseException") = some true
  tyC : typeIn K (.ref C) = some (.type "type")
  kC : keepIn K (.ref C) = true
  iC : findIn K (.ref C) "__init__" = some (some (.ref fI))
  tI : typeIn K (.ref fI) = some (.type "function")
theorem ArC.xf {K : Frag} {C fI : Addr} {f : Str} (T : ArC K C fI f) : XfC K C := ⟨T.ga, T.gg, T.exC, T.hd⟩

section
variable {X : Cx} {pins : List (Addr × Obj)} {σ : St} {H : Hp} {s : Shared} {a C fI : Addr} {f : Str} {y : V} {u : Value}
theorem ar_put {Q : Unit → Shared → Prop} {E : Value → Shared → Prop} {A : Around} (T : ArC X.K C fI f) (I : Inv X pins σ H s) (e : H a = some (exo a C none)) (ry : RelV y u)
    (h : ∀ dx s', H dx = none → dx ≠ a → Inv X pins σ (upd (upd H dx (exd dx [(f, y)])) a (exo a C (some dx))) s' → Q () s') : wpAny (model X.prog X.w) A (setAttr (.ref a) f u) Q E s := by
  obtain ⟨nm, q, N, bs, bm, sn, sub, ab, col, dd, k0, k1, k2, k3, k5, hC, hbm⟩ := T.cls
  have hcl : clsIn X.K C = some { name := nm, bases := bs, mro := .ref C :: bm, ns := N, qualname := q, hasDict := true, slotNames := sn, subclasses := sub, abstract := ab, collection := col, hasDel := false } := by
    unfold PySem.W.clsIn
    rw [hC] <;> rfl
  obtain ⟨t1, ho⟩ := exo_at I.hok e
  obtain ⟨hp, g, d, t, os⟩ := s
  refine PySem.W.set_plain I.kIn (ox := { cls := .ref C, dict := none, data := .fields #[.ref t1, .none, .none, .none, .bool false, .none] }) (od := none) ⟨ho, rfl, rfl, trivial⟩ T.sa ?_
  refine ar_store I.kIn ho hcl (show arOver (.ref C :: bm) = true from hbm) rfl T.nf ?_
  intro h' tk' dx k dn dne hx hn
  have free : H dx = none := I.hok.fresh dn
  have nd : ∀ {b : Addr} {o : Obj}, hp.get? b = some o → b ≠ dx := fun {b o} q => Nat.ne_of_lt (Nat.lt_of_lt_of_le (Heap.lt_size q) dn)
  have na : ∀ {b : Addr}, H b = none → b ≠ a := fun {b} n z => by
    rw [z, e] at n
    cases n
  have U : Un X.fs [] H (upd (upd H dx (exd dx [(f, y)])) a (exo a C (some dx))) hp h' := by
    constructor
    · intro b o q n _ _
      exact k b o (na n) q
    · intro b o q n _ _
      exact ⟨o.slots, k b o (na n) q⟩
    · intro b o q n _
      rw [upd_ne (na n), upd_ne (nd q)]
      exact n
    · intro b o q _
      by_cases hb : b = a
      · exact ⟨_, by rw [hb]; exact hx⟩
      · exact ⟨o, k b o hb q⟩
    · intro b xs q
      rw [upd_ne (at_ne e q exo_tup), upd_ne (ne_of_none q free)]
      exact q
    · intro b o v q
      rw [upd_ne (at_ne e q exo_frz), upd_ne (ne_of_none q free)]
      exact q
    · intro b ps q
      refine ⟨#[], ?_⟩
      rw [upd_ne (at_ne e q exo_tbl), upd_ne (ne_of_none q free), q]
      simp
  refine h dx _ free dne (I.un (t' := tk') U ?_)
  intro b o q
  by_cases hb : b = a
  · subst hb
    rw [upd_same] at q
    cases q
    exact exo_ok hx
  · rw [upd_ne hb] at q
    by_cases hd : b = dx
    · subst hd
      rw [upd_same] at q
      cases q
      exact exd_ok hn (relO_put (fs := []) ry fun g => True.intro)
    · rw [upd_ne hd] at q
      refine (I.hok b o q).stay ?_ ?_ ?_
      · intro c v hc z
        refine k c v ?_ z
        rcases hc with hc | hc
        · rw [hc]
          exact hb
        · exact at_ne e hc exo_own
      · intro c hc
        rw [upd_ne (at_ne e hc exo_own), upd_ne (ne_of_none hc free)]
        exact hc
      · intro c xs hc
        rw [upd_ne (at_ne e hc exo_tup), upd_ne (ne_of_none hc free)]
        exact hc
end

/-! ### __init__: self.f = v -/
def spExc (C : Addr) (f : Str) : Sp := fun vs H Q _ => ∃ (a : Addr) (y : V), vs = [.ref a, y] ∧ H a = some (exo a C none) ∧
  ∀ dx, H dx = none → dx ≠ a → Q .non (upd (upd H dx (exd dx [(f, y)])) a (exo a C (some dx)))
/-- self.f = e, the first field -/
def tArSet (K : Frag) (f : Str) (to te : TE) : TS := fun D σ H => te σ H fun y H1 => to σ H1 fun x H2 => ∃ a C fI : Addr, x = .ref a ∧ ArC K C fI f ∧
  H2 a = some (exo a C none) ∧ ∀ dx, H2 dx = none → dx ≠ a → D.nx σ (upd (upd H2 dx (exd dx [(f, y)])) a (exo a C (some dx)))
theorem ps_arset {X : Cx} {o e : Expr} {to te : TE} {f : Str} {p' pos : Pos} (ho : PE X o to) (he : PE X e te) (hs : swapsWith e (some (.Attribute o f p')) pos.line X.env = pure false := by rfl) :
    PS X (.Assign [.Attribute o f p'] e pos) (tArSet X.K f to te) := by
  refine ⟨fun pins s σ H D I h => ?_⟩
  refine plainObj_wpAny_Assign_Attribute (thn (he.run pins s σ H _ I h) fun v s1 hv => ?_) hs
  obtain ⟨y, H1, I1, r1, q1⟩ := hv
  refine thn (ho.run pins s1 σ H1 _ I1 q1) fun u s2 hu => ?_
  obtain ⟨x, H2, I2, r2, a, C, fI, ex, T, ea, q⟩ := hu
  subst ex
  obtain rfl : u = Value.ref a := r2
  exact ar_put T I2 ea r1 fun dx s' n ne J => ⟨σ, _, J, q dx n ne⟩

/-! ### C(e), to be raised -/
def tArMk (C : Addr) (f : Str) (ta : TA) : St → Hp → XK → Prop := fun σ H Q => ta σ H fun vs H1 => ∃ y, vs = [y] ∧ ∀ d, H1 d = none → Q (.ref C) (some d) (upd H1 d (.xd [(f, y)]))
theorem ar_end {H1 : Hp} {a d C : Addr} {f : Str} {y : V} (n : H1 a = none) (dn : d ≠ a) :
    upd (del (upd (upd (upd H1 a (exo a C none)) d (exd d [(f, y)])) a (exo a C (some d))) a) d (.xd [(f, y)]) = upd H1 d (.xd [(f, y)]) := by
  funext b
  by_cases hb : b = d
  · rw [hb, upd_same, upd_same]
  · rw [upd_ne hb, upd_ne hb]
    by_cases ha : b = a
    · rw [ha, del_same, n]
    · rw [del_ne ha, upd_ne ha, upd_ne hb, upd_ne ha]
section
variable {X : Cx} {CX : CXT} {C fI : Addr} {f x : Str} {k : Nat} {fd : FuncData} {ta : TA} {e : Expr} {es : List Expr} {p pos : Pos}
theorem pmk_ar {ps : List Str} (T : ArC X.K C fI f) (F1 : FnOk X.prog X.w X.K X.mg X.base CX k fI fd ps (spExc C f)) (hr : Room (k + 1) X.A) (hb : Binds X.K fd ps [])
    (hx : Passes CX X (fun _ _ _ => False)) (hg : Gl X x) (hm : X.mg x = some (.ref C)) (ha : PA X (e :: es) ta)
    (hdb : (x == ("__debug__" : Str)) = false := by decide) (he : starEach (e :: es) X.env = (false, eval e X.env) :: starEach es X.env := by rfl) (hpl : (backTo pos (starEach es X.env)).any (·.1) = false := by rfl) :
    PMk X (.Call (.Name x p) (e :: es) [] pos) (tArMk C f ta) := by
  intro pins s σ H Q I h
  obtain ⟨nm, q, N, bs, bm, sn, sub, ab, col, dd, k0, k1, k2, k3, k5, hC, hbm⟩ := T.cls
  refine wpAny_Call_Name_kw (ld_glob I hg hm ?_ hdb)
  refine PySem.W.callWith_K (h₀ := X.base) I.ok.mod.kin T.kC (thn (ha.run pos pins s σ H _ I h) fun us s1 hh => ?_) he hpl
  obtain ⟨vs, H1, I1, r1, y, ey, q1⟩ := hh
  subst ey
  refine ⟨I1.kIn, ?_⟩
  show wpAny _ _ (call (.ref C) us) _ _ _
  obtain ⟨hp, g, dr, tk, os⟩ := s1
  have hsz : hp.objs.size ≤ hp.objs.size + 1 := Nat.le_succ _
  have hn : H1 (hp.objs.size + 1) = none := I1.hok.fresh hsz
  have keep2 : ∀ b o, hp.get? b = some o → ((hp.push (PySem.W.kdv_tup us)).push (PySem.HandSPX.excO C hp.objs.size)).get? b = some o := fun b o z => Heap.get?_push_of_some _ (Heap.get?_push_of_some _ z)
  have hget : ((hp.push (PySem.W.kdv_tup us)).push (PySem.HandSPX.excO C hp.objs.size)).get? (hp.objs.size + 1) = some (PySem.HandSPX.excO C hp.objs.size) := by heap_get
  have I2 : Inv X pins σ (upd H1 (hp.objs.size + 1) (exo (hp.objs.size + 1) C none)) ⟨(hp.push (PySem.W.kdv_tup us)).push (PySem.HandSPX.excO C hp.objs.size), g, dr, tk, os⟩ :=
    I1.laid (t' := tk) (a := hp.objs.size + 1) (o := exo (hp.objs.size + 1) C none) keep2 hsz (exo_ok hget)
  have r2 : Vals [V.ref (hp.objs.size + 1), y] (Value.ref (hp.objs.size + 1) :: (us ++ [])) := .cons rfl (by rw [List.append_nil]; exact r1)
  have call1 : spExc C f [V.ref (hp.objs.size + 1), y] (upd H1 (hp.objs.size + 1) (exo (hp.objs.size + 1) C none))
      (fun v H2 => v = .non ∧ ∃ d : Addr, H2 (hp.objs.size + 1) = some (exo (hp.objs.size + 1) C (some d)) ∧ H2 d = some (exd d [(f, y)]) ∧ H1 d = none ∧ Q (.ref C) (some d) (upd (del H2 (hp.objs.size + 1)) d (.xd [(f, y)]))) (fun _ _ _ => False) := by
    refine ⟨_, y, rfl, upd_same, fun dx n ne => ⟨rfl, dx, upd_same, by rw [upd_ne ne]; exact upd_same, by rw [upd_ne ne] at n; exact n, ?_⟩⟩
    rw [ar_end hn ne]
    exact q1 dx (by rw [upd_ne ne] at n; exact n)
  have hl : (Value.ref (hp.objs.size + 1) :: us ++ []).length = ps.length := by
    have z := r2.length
    rw [F1.len _ _ _ _ call1] at z
    exact z.symm
  have hus : us.length ≤ sizeLine := by
    rw [← Paired.length r1, sizeLine_eq]
    exact (by decide : 1 ≤ 16777216)
  have hbb := hb _ (Value.ref (hp.objs.size + 1) :: us) I2.kIn hl
  rw [List.cons_append] at hbb
  refine wpAny_call (PySem.HandSPX.call_own F.excBase_ArithmeticError (fun Y => arOver_has Y bm hbm) (I1.kIn _ _ hC) (PySem.W.looks_findIn I1.kIn T.iC) (fun self => PySem.W.bind_fn I1.kIn self T.tI) hus ?_)
  refine codeAny_mono (F1.run _ X.stack _ _ ⟨Value.ref (hp.objs.size + 1) :: us, []⟩ (Value.ref (hp.objs.size + 1) :: (us ++ [])) _ _ (fun _ _ _ => False) (hr.make C us []) (I2.env0.make C us []) hbb r2 call1) fun r s' hq' => ?_
  cases r with
  | error er => exact hx pins σ _ _ er s' I2 hq'
  | ok fl =>
    cases fl with
    | ret u =>
      obtain ⟨v, H2, os2, bare2, un2, hok2, rv, ev, d, ea, ed, hd1, q2⟩ := hq'
      subst ev
      obtain ⟨h2, g2, d2, t2, os'⟩ := s'
      exact ⟨rv, mk_end (raises_own T.exC T.tyC) I1 hsz keep2 un2 hok2 os2 bare2 ea ed hd1 q2⟩
    | next => exact False.elim hq'
    | brk => exact False.elim hq'
    | cont => exact False.elim hq'
end
end Fc
end L2
set_option Elab.async false
set_option linter.all false
set_option maxRecDepth 100000
set_option maxHeartbeats 4000000
/-! Objects as they are passed to Code, and the numbering of statements as a machine over a stack. -/
namespace L2
namespace Fc
open PySem PySem.Spec PyProof.Rows

/-- an object, as far as Code looks at it -/
inductive O where
  | non | bl (b : Bool) | int (i : Int) | str (x : Str) | tup (os : List O) | lst | dct
/-- the name of an object's type -/
def O.ty : O → String
  | .non => "NoneType" | .bl _ => "bool" | .int _ => "int" | .str _ => "str" | .tup _ => "tuple" | .lst => "list" | .dct => "dict"

mutual
/-- the value v is the object o -/
inductive Ob (K : PySem.W.Frag) (H : Hp) : V → O → Prop
  | non : Ob K H .non .non
  | bl (b : Bool) : Ob K H (.bl b) (.bl b)
  | int (i : Int) : Ob K H (.int i) (.int i)
  | str (x : Str) : x.length ≤ sizeLine → Ob K H (.str x) (.str x)
  | tup {a : Addr} {xs : List V} {os : List O} : SqT K H a xs → Obs K H xs os → os.length < 20000 → Ob K H (.ref a) (.tup os)
  | lst {a : Addr} {xs : List V} : H a = some (.lst xs) → Ob K H (.ref a) .lst
  | dct {a : Addr} {kvs : List (Key × V)} : H a = some (.dK kvs) → Ob K H (.ref a) .dct
inductive Obs (K : PySem.W.Frag) (H : Hp) : List V → List O → Prop
  | nil : Obs K H [] []
  | cons {v : V} {vs : List V} {o : O} {os : List O} : Ob K H v o → Obs K H vs os → Obs K H (v :: vs) (o :: os)
end
theorem Same.sqt {K : PySem.W.Frag} {H H' : Hp} {a : Addr} {xs : List V} (e : Same H H') (h : SqT K H a xs) : SqT K H' a xs := by
  rcases h with (h | ⟨o, h⟩) | h
  · exact .inl (.inl (e _ _ h))
  · exact .inl (.inr ⟨o, e _ _ h⟩)
  · exact .inr h
mutual
theorem Ob.mono {K : PySem.W.Frag} {H H' : Hp} (e : Same H H') : ∀ {v : V} {o : O}, Ob K H v o → Ob K H' v o
  | _, _, .non => .non
  | _, _, .bl b => .bl b
  | _, _, .int i => .int i
  | _, _, .str x h => .str x h
  | _, _, .tup h r b => .tup (Same.sqt e h) (Obs.mono e r) b
  | _, _, .lst h => .lst (e _ _ h)
  | _, _, .dct h => .dct (e _ _ h)
theorem Obs.mono {K : PySem.W.Frag} {H H' : Hp} (e : Same H H') : ∀ {vs : List V} {os : List O}, Obs K H vs os → Obs K H' vs os
  | _, _, .nil => .nil
  | _, _, .cons h r => .cons (Ob.mono e h) (Obs.mono e r)
end
theorem Obs.len {K : PySem.W.Frag} {H : Hp} : ∀ {vs : List V} {os : List O}, Obs K H vs os → vs.length = os.length
  | _, _, .nil => rfl
  | _, _, .cons _ r => by rw [List.length_cons, List.length_cons, Obs.len r]
theorem Obs.get {K : PySem.W.Frag} {H : Hp} : ∀ {vs : List V} {os : List O} {i : Nat} {o : O}, Obs K H vs os → os[i]? = some o → ∃ v, vs[i]? = some v ∧ Ob K H v o
  | _, _, 0, _, .cons h _, e => ⟨_, rfl, by cases e; exact h⟩
  | _, _, i + 1, _, .cons _ r, e => by
    obtain ⟨v, h1, h2⟩ := Obs.get (i := i) r e
    exact ⟨v, h1, h2⟩
theorem Obs.snoc {K : PySem.W.Frag} {H : Hp} {v : V} {o : O} : ∀ {vs : List V} {os : List O}, Obs K H vs os → Ob K H v o → Obs K H (vs ++ [v]) (os ++ [o])
  | _, _, .nil, h => .cons h .nil
  | _, _, .cons g r, h => .cons g (Obs.snoc r h)
theorem Obs.drop {K : PySem.W.Frag} {H : Hp} : ∀ {vs : List V} {os : List O} (n : Nat), Obs K H vs os → Obs K H (vs.drop n) (os.drop n)
  | _, _, 0, r => r
  | _, _, _ + 1, .nil => .nil
  | _, _, n + 1, .cons _ r => Obs.drop n r
/-- its type, as isinstance asks -/
theorem Ob.tyx {K : PySem.W.Frag} {H : Hp} {v : V} {o : O} (h : Ob K H v o) : TyX K H v (.type o.ty) := by
  cases h with
  | non => exact .base .non
  | bl b => exact .base (.bl b)
  | int i => exact .base (.int i)
  | str x _ => exact .base (.str x)
  | tup h r _ =>
    rcases h with (h | ⟨ob, h⟩) | ⟨ob, its, n, h1, h2, _⟩
    · exact .base (.tup h)
    · exact .fTuple h
    · exact .kTuple h1 h2
  | lst h => exact .base (.lst h)
  | dct h => exact .base (.dK h)
def O.is (o : O) (n : String) : Bool := (kitB o.ty n).getD false
theorem isi_of {K : PySem.W.Frag} {H : Hp} {v : V} {o : O} {n : String} {Q : VK} (h : Ob K H v o) (hn : (kitB o.ty n).isSome = true) (q : Q (.bl (o.is n)) H) : rIsi K [v, .ty n] H Q := by
  obtain ⟨b, hb⟩ := Option.isSome_iff_exists.mp hn
  have e : o.is n = b := by
    unfold O.is
    rw [hb]
    rfl
  rw [e] at q
  exact ⟨v, .ty n, .type o.ty, .type n, b, rfl, .ty n, h.tyx, kit_ty hb, q⟩
def tyNames : List String := ["NoneType", "bool", "int", "str", "tuple", "list", "dict"]
theorem ty_mem (o : O) : o.ty ∈ tyNames := by cases o <;> simp [O.ty, tyNames]
theorem kit_str (o : O) : (kitB o.ty "str").isSome = true := (show ∀ t ∈ tyNames, (kitB t "str").isSome = true by decide +kernel) _ (ty_mem o)
theorem kit_tuple (o : O) : (kitB o.ty "tuple").isSome = true := (show ∀ t ∈ tyNames, (kitB t "tuple").isSome = true by decide +kernel) _ (ty_mem o)
theorem kit_int (o : O) : (kitB o.ty "int").isSome = true := (show ∀ t ∈ tyNames, (kitB t "int").isSome = true by decide +kernel) _ (ty_mem o)
theorem kit_bool (o : O) : (kitB o.ty "bool").isSome = true := (show ∀ t ∈ tyNames, (kitB t "bool").isSome = true by decide +kernel) _ (ty_mem o)
theorem kb_of {o : O} {n : String} (h : (kitB o.ty n).isSome = true) : kitB o.ty n = some (o.is n) := by
  obtain ⟨b, hb⟩ := Option.isSome_iff_exists.mp h
  unfold O.is
  rw [hb]
  rfl
theorem kb_str (o : O) : kitB o.ty "str" = some (o.is "str") := kb_of (kit_str o)
theorem kb_tuple (o : O) : kitB o.ty "tuple" = some (o.is "tuple") := kb_of (kit_tuple o)
theorem kb_int (o : O) : kitB o.ty "int" = some (o.is "int") := kb_of (kit_int o)
theorem kb_bool (o : O) : kitB o.ty "bool" = some (o.is "bool") := kb_of (kit_bool o)
def O.isStr : O → Bool | .str _ => true | _ => false
def O.isTup : O → Bool | .tup _ => true | _ => false
def O.isInt : O → Bool | .int _ => true | _ => false
theorem is_str (o : O) : o.is "str" = o.isStr := by
  refine ((show ∀ t ∈ tyNames, (kitB t "str").getD false = (t == "str") by decide +kernel) _ (ty_mem o)).trans ?_
  cases o <;> simp [O.ty, O.isStr]
theorem is_tuple (o : O) : o.is "tuple" = o.isTup := by
  refine ((show ∀ t ∈ tyNames, (kitB t "tuple").getD false = (t == "tuple") by decide +kernel) _ (ty_mem o)).trans ?_
  cases o <;> simp [O.ty, O.isTup]
theorem is_int (o : O) : (o.is "int" && !o.is "bool") = o.isInt := by
  refine ((show ∀ t ∈ tyNames, ((kitB t "int").getD false && !(kitB t "bool").getD false) = (t == "int") by decide +kernel) _ (ty_mem o)).trans ?_
  cases o <;> simp [O.ty, O.isInt]

theorem Ob.lenv {K : PySem.W.Frag} {H : Hp} {v : V} {x : Str} (h : Ob K H v (.str x)) : LenV K v H x.length := by
  cases h with
  | str _ h => exact ⟨h, rfl⟩
theorem Ob.str_eq {K : PySem.W.Frag} {H : Hp} {v : V} {x : Str} (h : Ob K H v (.str x)) : v = .str x := by
  cases h with
  | str _ h => rfl
theorem Ob.int_eq {K : PySem.W.Frag} {H : Hp} {v : V} {i : Int} (h : Ob K H v (.int i)) : v = .int i := by
  cases h with
  | int _ => rfl
theorem Ob.tup_eq {K : PySem.W.Frag} {H : Hp} {v : V} {os : List O} (h : Ob K H v (.tup os)) : ∃ (a : Addr) (xs : List V), v = .ref a ∧ SqT K H a xs ∧ Obs K H xs os := by
  cases h with
  | tup h r _ => exact ⟨_, _, rfl, h, r⟩
theorem Ob.tup_lt {K : PySem.W.Frag} {H : Hp} {v : V} {os : List O} (h : Ob K H v (.tup os)) : os.length < 20000 := by
  cases h with
  | tup _ _ b => exact b
theorem Ob.lent {K : PySem.W.Frag} {H : Hp} {v : V} {os : List O} (h : Ob K H v (.tup os)) : LenV K v H os.length := by
  cases h with
  | tup h r _ => exact Or.inr ⟨_, h, (Obs.len r).symm⟩

/-! ### walks by their turns -/
theorem lc_it {J : It} {n : Nat} {g : TG} {tt : TT} {te : TE} {vs : List Nat} {σ : St} {H1 : Hp} {D : Addr} {Qd : Hp → Prop} (Pv : Nat → Hp → Prop) (h0 : Pv 0 (upd H1 D (.lst [])))
    (hgo : ∀ i H, i < n → Pv i H → J.go i H) (hst : ∀ H, Pv n H → J.stop n H)
    (hs : ∀ i x H H', i < n → Pv i H → J.yld i H x H' → g x (wipe σ vs) H' fun σ2 H2 => wipe σ2 vs = wipe σ vs ∧ tt σ2 H2 fun b H3 =>
      if b = true then te σ2 H3 fun y H4 => ∃ acc, H4 D = some (.lst acc) ∧ acc.length < sizeLine ∧ Pv (i + 1) (upd H4 D (.lst (acc ++ [y]))) else Pv (i + 1) H3) (hd : ∀ H, Pv n H → Qd H) :
    ∃ W : Nat → Nat → Hp → Prop, (∃ m, W 0 m (upd H1 D (.lst []))) ∧ ∀ i m H, W i m H →
      (J.stop i H ∧ Qd H) ∨ (J.go i H ∧ ∃ Nx : Hp → Prop, (∀ H', Nx H' → ∃ m', m' < m ∧ W (i + 1) m' H') ∧ ∀ x H', J.yld i H x H' → g x (wipe σ vs) H' fun σ2 H2 => wipe σ2 vs = wipe σ vs ∧ tt σ2 H2 fun b H3 =>
        if b = true then te σ2 H3 fun y H4 => ∃ acc, H4 D = some (.lst acc) ∧ acc.length < sizeLine ∧ Nx (upd H4 D (.lst (acc ++ [y]))) else Nx H3) := by
  refine ⟨fun i m H => m = n - i ∧ i ≤ n ∧ Pv i H, ⟨n, by simp, Nat.zero_le _, h0⟩, ?_⟩
  rintro i m H ⟨rfl, hi, p⟩
  rcases Nat.lt_or_ge i n with hlt | hge
  · exact Or.inr ⟨hgo i H hlt p, Pv (i + 1), fun H' p' => ⟨n - (i + 1), by omega, rfl, hlt, p'⟩, fun x H' y => hs i x H H' hlt p y⟩
  · obtain rfl : i = n := Nat.le_antisymm hi hge
    exact Or.inl ⟨hst H p, hd H p⟩
theorem for_it {J : It} {n : Nat} {g : TG} {tb : TS} {D : Ends} {σ : St} {H : Hp} (Pv : Nat → St → Hp → Prop) (h0 : Pv 0 σ H)
    (hgo : ∀ i σ H, i < n → Pv i σ H → J.go i H) (hst : ∀ σ H, Pv n σ H → J.stop n H)
    (hs : ∀ i x σ H H', i < n → Pv i σ H → J.yld i H x H' → g x σ H' fun σ2 H2 => tb { D with nx := Pv (i + 1), ct := Pv (i + 1), bk := D.nx } σ2 H2) (hd : ∀ σ H, Pv n σ H → D.nx σ H) :
    ∃ W : Nat → Nat → St → Hp → Prop, (∃ m, W 0 m σ H) ∧ ∀ i m σ H, W i m σ H →
      (J.stop i H ∧ D.nx σ H) ∨ (J.go i H ∧ ∃ N : St → Hp → Prop, (∀ σ' H', N σ' H' → ∃ m', m' < m ∧ W (i + 1) m' σ' H') ∧ ∀ x H', J.yld i H x H' → g x σ H' fun σ2 H2 => tb { D with nx := N, ct := N, bk := D.nx } σ2 H2) := by
  refine ⟨fun i m σ H => m = n - i ∧ i ≤ n ∧ Pv i σ H, ⟨n, by simp, Nat.zero_le _, h0⟩, ?_⟩
  rintro i m σ H ⟨rfl, hi, p⟩
  rcases Nat.lt_or_ge i n with hlt | hge
  · exact Or.inr ⟨hgo i σ H hlt p, Pv (i + 1), fun σ' H' p' => ⟨n - (i + 1), by omega, rfl, hlt, p'⟩, fun x H' y => hs i x σ H H' hlt p y⟩
  · obtain rfl : i = n := Nat.le_antisymm hi hge
    exact Or.inl ⟨hst σ H p, hd σ H p⟩
theorem upd_none {H : Hp} {a b : Addr} {o : HO} (h : upd H a o b = none) : b ≠ a ∧ H b = none := by
  by_cases e : b = a
  · rw [e, upd_same] at h
    cases h
  · exact ⟨e, by rw [upd_ne e] at h; exact h⟩
/-- a new object beside what was tracked -/
theorem Same.new {H H' : Hp} {p : Addr} {o : HO} (e : Same H H') (n : H' p = none) : Same H (upd H' p o) := fun b u q => by
  rw [upd_ne (ne_of_none (e b u q) n)]
  exact e b u q
/-- a change of an object that was not tracked then -/
theorem Same.chg {H H' : Hp} {p : Addr} {o : HO} (e : Same H H') (n : H p = none) : Same H (upd H' p o) := fun b u q => by
  rw [upd_ne (ne_of_none q n)]
  exact e b u q
theorem Same.put {H : Hp} {p : Addr} {o : HO} (n : H p = none) : Same H (upd H p o) := Same.chg (Same.refl H) n

/-! ### what a statement is -/
def nameOk (x : Str) : Bool := decide (1 ≤ x.length) && (decide (x.length ≤ 8) && x.cps.toList.all fun ch => decide (97 ≤ ch) && decide (ch ≤ 122))
def O.isName : O → Bool | .str x => nameOk x | _ => false
/-- how many items the tuple of a kind has -/
def szOf (k : Str) : Option Nat :=
  if k = "do" then some 2 else if k = "call" then some 2 else if k = "if" then some 4 else if k = "while" then some 3 else if k = "seq" then some 2 else if k = "break" then some 2 else
  if k = "continue" then some 2 else if k = "return" then some 1 else if k = "raise" then some 1 else if k = "try" then some 3 else if k = "final" then some 3 else none
def O.hasKind : O → Bool
  | .tup (.str k :: r) => szOf k == some (r.length + 1)
  | _ => false
def named (k : Str) : Bool := decide (k = "do") || (decide (k = "call") || (decide (k = "if") || decide (k = "while")))
def jumps (k : Str) : Bool := decide (k = "break") || decide (k = "continue")
def pairs (k : Str) : Bool := decide (k = "try") || decide (k = "final")
def O.jumpOk (wh : Nat) : O → Bool
  | .int i => decide (1 ≤ i) && decide (i ≤ wh)
  | _ => false
def O.seqOk : O → Bool
  | .tup os => !os.isEmpty
  | _ => false
def O.items : O → List O
  | .tup os => os
  | _ => []
def tailOk (wh : Nat) (k : Str) (r : List O) : Bool := if named k then (r.headD .non).isName else if jumps k then (r.headD .non).jumpOk wh else if k = "seq" then (r.headD .non).seqOk else true
def O.isStmt (o : O) (wh : Nat) : Bool := o.hasKind && (match o with
  | .tup (.str k :: r) => tailOk wh k r
  | _ => false)
def O.parts : O → List O
  | .tup (.str k :: r) => if k = "seq" then (r.headD .non).items else if pairs k then r else r.drop 1
  | _ => []
/-- a flat tuple that tells all but what its parts are -/
def O.head : O → List O
  | .tup (.str k :: r) => if k = "seq" then [.str k, .int (r.headD .non).items.length] else if (named k || jumps k) = true then [.str k, r.headD .non] else [.str k]
  | _ => []
def O.kind : O → Str
  | .tup (.str k :: _) => k
  | _ => ""

theorem named_cases {z : Str} (h : named z = true) : z = "do" ∨ z = "call" ∨ z = "if" ∨ z = "while" := by
  unfold named at h
  simp only [Bool.or_eq_true, decide_eq_true_eq] at h
  exact h
theorem jumps_cases {z : Str} (h : jumps z = true) : z = "break" ∨ z = "continue" := by
  unfold jumps at h
  simp only [Bool.or_eq_true, decide_eq_true_eq] at h
  exact h
theorem sz_named {z : Str} (h : named z = true) : szOf z ≠ some 1 := by
  rcases named_cases h with rfl | rfl | rfl | rfl <;> decide +kernel
theorem sz_jumps {z : Str} (h : jumps z = true) : szOf z ≠ some 1 := by
  rcases jumps_cases h with rfl | rfl <;> decide +kernel
theorem beq_dec (a b : Str) : (a == b) = decide (b = a) := by
  by_cases h : a = b
  · subst h
    simp
  · rw [decide_eq_false (fun q => h q.symm)]
    simpa using h
theorem inV_named (z : Str) : (if false = true then !inV (.str z) [.str "do", .str "call", .str "if", .str "while"] else inV (.str z) [.str "do", .str "call", .str "if", .str "while"]) = named z := by
  rw [if_neg Bool.false_ne_true]
  show ((("do" : Str) == z) || ((("call" : Str) == z) || ((("if" : Str) == z) || ((("while" : Str) == z) || false)))) = named z
  rw [beq_dec, beq_dec, beq_dec, beq_dec, Bool.or_false]
  rfl
theorem inV_jumps (z : Str) : (if false = true then !inV (.str z) [.str "break", .str "continue"] else inV (.str z) [.str "break", .str "continue"]) = jumps z := by
  rw [if_neg Bool.false_ne_true]
  show ((("break" : Str) == z) || ((("continue" : Str) == z) || false)) = jumps z
  rw [beq_dec, beq_dec, Bool.or_false]
  rfl
theorem inV_pairs (z : Str) : (if false = true then !inV (.str z) [.str "try", .str "final"] else inV (.str z) [.str "try", .str "final"]) = pairs z := by
  rw [if_neg Bool.false_ne_true]
  show ((("try" : Str) == z) || ((("final" : Str) == z) || false)) = pairs z
  rw [beq_dec, beq_dec, Bool.or_false]
  rfl
theorem hasKind_of {o : O} (h : o.hasKind = true) : ∃ (z : Str) (r : List O), o = .tup (.str z :: r) ∧ szOf z = some (r.length + 1) := by
  match o, h with
  | .tup (.str z :: r), h => exact ⟨z, r, rfl, beq_iff_eq.mp h⟩

/-! ### the numbering -/
inductive Err where
  | bad (n : Nat) | lim (n : Nat)
structure Spot where
  (o : O) (par : Option Nat) (lev wh : Nat) (lay : List Nat)
def judge (n : Nat) (s : Spot) : Option Err :=
  if 400 ≤ n then some (.lim 400) else if 100 < s.lev then some (.lim 100) else if 25 < s.lay.length then some (.lim 25) else if s.o.isStmt s.wh then none else some (.bad n)
def inner (n : Nat) (s : Spot) (o : O) : Spot := { o := o, par := some n, lev := s.lev + 1, wh := if s.o.kind = "while" then s.wh + 1 else s.wh, lay := s.lay }
def inBlock (n : Nat) (s : Spot) (o : O) : Spot := { inner n s o with lay := s.lay ++ [n] }
def inside (n : Nat) (s : Spot) : List Spot := if s.o.kind = "final" then (match s.o.parts with | [o1, o2] => [inner n s o1, inBlock n s o2] | _ => []) else s.o.parts.map (inner n s)
/-- the machine: what stands on the stack (the next one first), what is numbered, how it ends -/
inductive Runs : List Spot → List Spot → Except Err (List Spot) → Prop
  | nil {rows : List Spot} : Runs [] rows (.ok rows)
  | bad {s : Spot} {rest rows : List Spot} {e : Err} : judge rows.length s = some e → Runs (s :: rest) rows (.error e)
  | step {s : Spot} {rest rows : List Spot} {r : Except Err (List Spot)} : judge rows.length s = none → Runs (inside rows.length s ++ rest) (rows ++ [s]) r → Runs (s :: rest) rows r
/-- what is wished of an error -/
def ErrE (cBad cLim : Addr) (H : Hp) (E : XK) : Err → Prop
  | .bad n => ∀ H' d, Same H H' → H d = none → H' d = some (.xd [(("number" : Str), V.int (n : Nat))]) → E (.ref cBad) (some d) H'
  | .lim n => ∀ H' d, Same H H' → H d = none → H' d = some (.xd [(("limit" : Str), V.int (n : Nat))]) → E (.ref cLim) (some d) H'
def optV : Option Nat → V
  | none => .non
  | some n => .int (n : Nat)
def intsV (l : List Nat) : List V := l.map fun n => V.int (n : Nat)
/-- the tuple of a spot stands at p -/
def SpotAt (K : PySem.W.Frag) (H : Hp) (p : Addr) (s : Spot) : Prop := ∃ (v : V) (la : Addr), SqT K H p [v, optV s.par, .int (s.lev : Nat), .int (s.wh : Nat), .ref la] ∧ Ob K H v s.o ∧ H la = some (.lst (intsV s.lay))
theorem SpotAt.mono {K : PySem.W.Frag} {H H' : Hp} {p : Addr} {s : Spot} (e : Same H H') (h : SpotAt K H p s) : SpotAt K H' p s := by
  obtain ⟨v, la, h1, h2, h3⟩ := h
  exact ⟨v, la, Same.sqt e h1, h2.mono e, e _ _ h3⟩
def root (o : O) : Spot := ⟨o, none, 1, 0, []⟩
/-- what Code makes of an object -/
def Codes (o : O) (r : Except Err (List Spot)) : Prop := Runs [root o] [] r

/-! ### a frozen part F of a heap H: what is never changed; both grow -/
structure Grow (F H F' H' : Hp) : Prop where
  hh : Same H H'
  ff : Same F F'
  fh : Same F' H'
  out : ∀ b, F b = none → H b ≠ none → F' b = none
theorem Grow.refl {F H : Hp} (e : Same F H) : Grow F H F H := ⟨Same.refl H, Same.refl F, e, fun _ n _ => n⟩
theorem Grow.trans {F H F1 H1 F2 H2 : Hp} (a : Grow F H F1 H1) (b : Grow F1 H1 F2 H2) : Grow F H F2 H2 :=
  ⟨a.hh.trans b.hh, a.ff.trans b.ff, b.fh, fun x n m => b.out x (a.out x n m) fun z => m (a.hh.free z)⟩
/-- a new object that is never changed -/
theorem Grow.add {F H : Hp} {p : Addr} {o : HO} (e : Same F H) (n : H p = none) : Grow F H (upd F p o) (upd H p o) := by
  refine ⟨Same.put n, Same.put (e.free n), ?_, fun b h m => ?_⟩
  · intro b u q
    by_cases hb : b = p
    · subst hb
      rw [upd_same] at q ⊢
      exact q
    · rw [upd_ne hb] at q ⊢
      exact e b u q
  · rw [upd_ne (fun z => m (by rw [z]; exact n))]
    exact h
/-- a new object that may be changed -/
theorem Grow.mut {F H : Hp} {p : Addr} {o : HO} (e : Same F H) (n : H p = none) : Grow F H F (upd H p o) := ⟨Same.put n, Same.refl F, e.trans (Same.put n), fun _ h _ => h⟩
theorem Grow.chg {F H F' H' : Hp} {p : Addr} {o : HO} (g : Grow F H F' H') (n : H p = none) (m : F' p = none) : Grow F H F' (upd H' p o) := ⟨Same.chg g.hh n, g.ff, Same.chg g.fh m, g.out⟩
theorem Ob.parts_lt {K : PySem.W.Frag} {H : Hp} {v : V} {o : O} (h : Ob K H v o) : o.parts.length < 20000 := by
  match o, h with
  | .tup (.str k :: r), h =>
    have b := h.tup_lt
    show (if k = "seq" then (r.headD .non).items else if pairs k then r else r.drop 1).length < 20000
    by_cases e : k = "seq"
    · rw [if_pos e]
      match r, h with
      | [], _ => exact (by decide : 0 < 20000)
      | .tup os :: r, h =>
        obtain ⟨a, xs, _, _, hs⟩ := h.tup_eq
        obtain ⟨y, _, hy⟩ := hs.get (i := 1) (o := .tup os) rfl
        exact hy.tup_lt
      | .non :: _, _ => exact (by decide : 0 < 20000)
      | .bl _ :: _, _ => exact (by decide : 0 < 20000)
      | .int _ :: _, _ => exact (by decide : 0 < 20000)
      | .str _ :: _, _ => exact (by decide : 0 < 20000)
      | .lst :: _, _ => exact (by decide : 0 < 20000)
      | .dct :: _, _ => exact (by decide : 0 < 20000)
    · rw [if_neg e]
      rw [List.length_cons] at b
      split
      · omega
      · rw [List.length_drop]
        omega
  | .non, _ => exact (by decide : 0 < 20000)
  | .bl _, _ => exact (by decide : 0 < 20000)
  | .int _, _ => exact (by decide : 0 < 20000)
  | .str _, _ => exact (by decide : 0 < 20000)
  | .lst, _ => exact (by decide : 0 < 20000)
  | .dct, _ => exact (by decide : 0 < 20000)
  | .tup [], _ => exact (by decide : 0 < 20000)
  | .tup (.non :: _), _ => exact (by decide : 0 < 20000)
  | .tup (.bl _ :: _), _ => exact (by decide : 0 < 20000)
  | .tup (.int _ :: _), _ => exact (by decide : 0 < 20000)
  | .tup (.tup _ :: _), _ => exact (by decide : 0 < 20000)
  | .tup (.lst :: _), _ => exact (by decide : 0 < 20000)
  | .tup (.dct :: _), _ => exact (by decide : 0 < 20000)
theorem Paired.map2 {α β : Type} {R S : α → β → Prop} (f : ∀ a b, R a b → S a b) : ∀ {l : List α} {m : List β}, Paired R l m → Paired S l m
  | _, _, .nil => .nil
  | _, _, .cons r t => .cons (f _ _ r) (Paired.map2 f t)
theorem Paired.snoc {α β : Type} {R : α → β → Prop} {a : α} {b : β} (r : R a b) : ∀ {l : List α} {m : List β}, Paired R l m → Paired R (l ++ [a]) (m ++ [b])
  | _, _, .nil => .cons r .nil
  | _, _, .cons q t => .cons q (Paired.snoc r t)

/-! ### bundles of defs that may raise, of exception classes -/
structure ExcOk (P : Program) (w : World) (K : PySem.W.Frag) (mg : Str → Option Value) (base : Heap) (k : Nat) (x : Str) (C : Addr) (f : Str) : Prop where
  ex : ∃ (fI : Addr) (fd : FuncData) (ps : List Str), ArC K C fI f ∧ FnOk P w K mg base CX0 k fI fd ps (spExc C f) ∧ Binds K fd ps [] ∧ mg x = some (.ref C)
structure CalX (P : Program) (w : World) (K : PySem.W.Frag) (mg : Str → Option Value) (base : Heap) (k : Nat) (x : Str) (sp : Sp) : Prop where
  ex : ∃ (f : Addr) (fd : FuncData) (ps : List Str), FnOk P w K mg base (L2.CX P w) k f fd ps sp ∧ mg x = some (.ref f) ∧ PySem.W.keepIn K (.ref f) = true ∧ Binds K fd ps []
section
variable {X : Cx} {C : Addr} {f x : Str} {k j : Nat} {ta : TA} {e : Expr} {es : List Expr} {p pos : Pos} {sp : Sp}
theorem pmk_x (c : ExcOk X.prog X.w X.K X.mg X.base k x C f) (hr : Room j X.A) (hk : k + 1 ≤ j) (hg : Gl X x) (ha : PA X (e :: es) ta)
    (hdb : (x == ("__debug__" : Str)) = false := by decide) (he : starEach (e :: es) X.env = (false, eval e X.env) :: starEach es X.env := by rfl) (hpl : (backTo pos (starEach es X.env)).any (·.1) = false := by rfl) :
    PMk X (.Call (.Name x p) (e :: es) [] pos) (tArMk C f ta) := by
  obtain ⟨fI, fd, ps, T, F, b, hm⟩ := c.ex
  exact pmk_ar T F (hr.mono hk) b pass0 hg hm ha hdb he hpl
/-- a def that may raise, called where its errors are let out -/
theorem pe_cx {E : XK} {W : WX} (c : CalX X.prog X.w X.K X.mg X.base k x sp) (hr : Room j X.A) (hk : k ≤ j) (tk : Takes X W) (hW : ∀ cls d σ H, E cls d H → W cls d σ H) (hg : Gl X x) (ha : PA X (e :: es) ta)
    (hdb : (x == ("__debug__" : Str)) = false := by decide) (he : starEach (e :: es) X.env = (false, eval e X.env) :: starEach es X.env := by rfl) (hpl : (backTo pos (starEach es X.env)).any (·.1) = false := by rfl) :
    PE X (.Call (.Name x p) (e :: es) [] pos) (tCall sp [] E ta) := by
  obtain ⟨g, fd, ps, F, hm, kp, b⟩ := c.ex
  exact pe_call F (hr.mono hk) hg hm kp b .nil (passes_call tk hW) ha hdb he hpl
end
end Fc
end L2
set_option Elab.async false
set_option linter.all false
set_option maxRecDepth 100000
set_option maxHeartbeats 4000000
/-! What a Code object is, by what is numbered in it. -/
namespace L2
namespace Fc
open PySem PySem.Spec PyProof.Rows

/-- the fields of a Code -/
def cf (S D A B L : Addr) : List (Str × V) := putF "_layers" (.ref L) (putF "_parts" (.ref B) (putF "_parents" (.ref A) (putF "_heads" (.ref D) (putF "_statements" (.ref S) []))))
section
variable {S D A B L : Addr}
theorem cf_S : (cf S D A B L).lookup ("_statements" : Str) = some (V.ref S) := by
  unfold cf
  rw [lookup_putF, if_neg (by decide +kernel), lookup_putF, if_neg (by decide +kernel), lookup_putF, if_neg (by decide +kernel), lookup_putF, if_neg (by decide +kernel), lookup_putF, if_pos rfl]
theorem cf_D : (cf S D A B L).lookup ("_heads" : Str) = some (V.ref D) := by
  unfold cf
  rw [lookup_putF, if_neg (by decide +kernel), lookup_putF, if_neg (by decide +kernel), lookup_putF, if_neg (by decide +kernel), lookup_putF, if_pos rfl]
theorem cf_A : (cf S D A B L).lookup ("_parents" : Str) = some (V.ref A) := by
  unfold cf
  rw [lookup_putF, if_neg (by decide +kernel), lookup_putF, if_neg (by decide +kernel), lookup_putF, if_pos rfl]
theorem cf_B : (cf S D A B L).lookup ("_parts" : Str) = some (V.ref B) := by
  unfold cf
  rw [lookup_putF, if_neg (by decide +kernel), lookup_putF, if_pos rfl]
theorem cf_L : (cf S D A B L).lookup ("_layers" : Str) = some (V.ref L) := by
  unfold cf
  rw [lookup_putF, if_pos rfl]
theorem cf_no {m : Str} (h1 : ¬ m = "_statements") (h2 : ¬ m = "_heads") (h3 : ¬ m = "_parents") (h4 : ¬ m = "_parts") (h5 : ¬ m = "_layers") : (cf S D A B L).lookup m = none := by
  unfold cf
  rw [lookup_putF, if_neg h5, lookup_putF, if_neg h4, lookup_putF, if_neg h3, lookup_putF, if_neg h2, lookup_putF, if_neg h1]
  rfl
end
/-- the numbers of the parts of the statement i -/
def kids (rows : List Spot) (i : Nat) : List Nat := rows.zipIdx.filterMap fun p => if p.1.par = some i then some p.2 else none
theorem kids_snoc (rows : List Spot) (s : Spot) (i : Nat) : kids (rows ++ [s]) i = kids rows i ++ (if s.par = some i then [rows.length] else []) := by
  unfold kids
  rw [List.zipIdx_append, List.filterMap_append]
  congr 1
  by_cases h : s.par = some i
  · rw [if_pos h]
    simp [List.zipIdx_cons, h]
  · rw [if_neg h]
    simp [List.zipIdx_cons, h]
theorem kids_len (rows : List Spot) (i : Nat) : (kids rows i).length ≤ rows.length := by
  unfold kids
  exact Nat.le_trans (List.length_filterMap_le _ _) (by rw [List.length_zipIdx]; exact Nat.le_refl _)
theorem kids_none {rows : List Spot} {i : Nat} (h : ∀ s ∈ rows, ∀ m, s.par = some m → m < i) : kids rows i = [] := by
  unfold kids
  rw [List.filterMap_eq_nil_iff]
  rintro ⟨s, j⟩ hm
  have hs : s ∈ rows := (List.mem_zipIdx hm).2.2 ▸ List.getElem_mem _
  show (if s.par = some i then some j else none) = none
  rw [if_neg]
  intro q
  exact absurd (h s hs i q) (Nat.lt_irrefl _)
/-- the Code at p -/
structure CodeSt (K : PySem.W.Frag) (C : Addr) (F H : Hp) (p dx S D A B L : Addr) (ts : List Addr) (rows : List Spot) : Prop where
  ins : H p = some (.ins C dx (cf S D A B L))
  ow : H dx = some (.own p)
  st : ∃ vs, H S = some (.lst vs) ∧ Obs K F vs (rows.map (·.o))
  hd : ∃ hs : List Addr, H D = some (.lst (hs.map V.ref)) ∧ Paired (fun h (s : Spot) => ∃ ys, F h = some (.tup ys) ∧ Obs K F ys s.o.head) hs rows
  pa : H A = some (.lst (rows.map fun s => optV s.par))
  pt : H B = some (.lst (ts.map V.ref))
  cl : ts.length = rows.length
  ch : ∀ i t, ts[i]? = some t → H t = some (.lst (intsV (kids rows i)))
  la : ∃ ls : List Addr, H L = some (.lst (ls.map V.ref)) ∧ Paired (fun l (s : Spot) => F l = some (.lst (intsV s.lay))) ls rows
  nd : (S :: D :: A :: B :: L :: ts).Nodup
/-- the addresses of a Code -/
def own (p dx S D A B L : Addr) (ts : List Addr) : List Addr := p :: dx :: S :: D :: A :: B :: L :: ts
/-- nothing of it is tracked in R -/
def Off (R : Hp) (l : List Addr) : Prop := ∀ b ∈ l, R b = none
theorem Off.of {R R' : Hp} {l : List Addr} (h : Off R' l) (e : Same R R') : Off R l := fun b m => Same.free e (h b m)
theorem CodeSt.keep {K : PySem.W.Frag} {C : Addr} {F H F' H' : Hp} {p dx S D A B L : Addr} {ts : List Addr} {rows : List Spot} (c : CodeSt K C F H p dx S D A B L ts rows) (f : Same F F') (h : Same H H') : CodeSt K C F' H' p dx S D A B L ts rows where
  ins := h _ _ c.ins
  ow := h _ _ c.ow
  st := by
    obtain ⟨vs, e, o⟩ := c.st
    exact ⟨vs, h _ _ e, o.mono f⟩
  hd := by
    obtain ⟨hs, e, q⟩ := c.hd
    exact ⟨hs, h _ _ e, Paired.map2 (fun a b ⟨ys, e, o⟩ => ⟨ys, f _ _ e, o.mono f⟩) q⟩
  pa := h _ _ c.pa
  pt := h _ _ c.pt
  cl := c.cl
  ch := fun i t e => h _ _ (c.ch i t e)
  la := by
    obtain ⟨ls, e, q⟩ := c.la
    exact ⟨ls, h _ _ e, Paired.map2 (fun a b e => f _ _ e) q⟩
  nd := c.nd
theorem CodeSt.there {K : PySem.W.Frag} {C : Addr} {F H : Hp} {p dx S D A B L : Addr} {ts : List Addr} {rows : List Spot} (c : CodeSt K C F H p dx S D A B L ts rows) : ∀ b ∈ own p dx S D A B L ts, H b ≠ none := by
  have go : ∀ {b : Addr} {o : HO}, H b = some o → H b ≠ none := fun e z => by
    rw [z] at e
    cases e
  intro b m
  unfold own at m
  simp only [List.mem_cons] at m
  rcases m with rfl | rfl | rfl | rfl | rfl | rfl | rfl | m
  · exact go c.ins
  · exact go c.ow
  · obtain ⟨_, e, _⟩ := c.st
    exact go e
  · obtain ⟨_, e, _⟩ := c.hd
    exact go e
  · exact go c.pa
  · exact go c.pt
  · obtain ⟨_, e, _⟩ := c.la
    exact go e
  · obtain ⟨i, hi, e⟩ := List.mem_iff_getElem.mp m
    exact go (c.ch i b (by rw [List.getElem?_eq_getElem hi, e]))
theorem CodeSt.loc {K : PySem.W.Frag} {C : Addr} {F H H' : Hp} {p dx S D A B L : Addr} {ts : List Addr} {rows : List Spot} (c : CodeSt K C F H p dx S D A B L ts rows) (h : ∀ b ∈ own p dx S D A B L ts, H' b = H b) : CodeSt K C F H' p dx S D A B L ts rows where
  ins := by rw [h p (by simp [own])]; exact c.ins
  ow := by rw [h dx (by simp [own])]; exact c.ow
  st := by rw [h S (by simp [own])]; exact c.st
  hd := by rw [h D (by simp [own])]; exact c.hd
  pa := by rw [h A (by simp [own])]; exact c.pa
  pt := by rw [h B (by simp [own])]; exact c.pt
  cl := c.cl
  ch := fun i t e => by rw [h t (by unfold own; simp [List.mem_of_getElem? e])]; exact c.ch i t e
  la := by rw [h L (by simp [own])]; exact c.la
  nd := c.nd
theorem upd_id {H : Hp} {a : Addr} {o : HO} (e : H a = some o) : upd H a o = H := by
  funext b
  by_cases hb : b = a
  · rw [hb, upd_same, e]
  · rw [upd_ne hb]
theorem ErrE.mono {cB cL : Addr} {R H : Hp} {E : XK} {e : Err} (s : Same R H) (h : ErrE cB cL R E e) : ErrE cB cL H E e := by
  cases e with
  | bad n => exact fun H' d s2 n2 e2 => h H' d (s.trans s2) (Same.free s n2) e2
  | lim n => exact fun H' d s2 n2 e2 => h H' d (s.trans s2) (Same.free s n2) e2
theorem Paired.app {α β : Type} {R : α → β → Prop} : ∀ {l l' : List α} {m m' : List β}, Paired R l m → Paired R l' m' → Paired R (l ++ l') (m ++ m')
  | _, _, _, _, .nil, q => q
  | _, _, _, _, .cons r t, q => .cons r (Paired.app t q)
theorem own_snoc {p dx S D A B L t b : Addr} {ts : List Addr} (h : b ∈ own p dx S D A B L (ts ++ [t])) : b ∈ own p dx S D A B L ts ∨ b = t := by
  unfold own at h ⊢
  simp only [List.mem_cons, List.mem_append, List.mem_nil_iff, or_false] at h ⊢
  rcases h with z | z | z | z | z | z | z | z | z <;> simp [z]
/-- a heap without some addresses -/
def hide (l : List Addr) (H : Hp) : Hp := fun b => if b ∈ l then none else H b
theorem hide_in {l : List Addr} {H : Hp} {b : Addr} (h : b ∈ l) : hide l H b = none := if_pos h
theorem hide_out {l : List Addr} {H : Hp} {b : Addr} (h : b ∉ l) : hide l H b = H b := if_neg h
theorem hide_same (l : List Addr) (H : Hp) : Same (hide l H) H := fun b o e => by
  by_cases h : b ∈ l
  · rw [hide_in h] at e
    cases e
  · rwa [hide_out h] at e
theorem Same.hide {l : List Addr} {R H : Hp} (e : Same R H) (off : Off R l) : Same R (hide l H) := fun b o q => by
  rw [hide_out (fun m => by rw [off b m] at q; cases q)]
  exact e b o q
theorem off_hide (l : List Addr) (H : Hp) : Off (hide l H) l := fun _ m => hide_in m
theorem Same.plus {F H : Hp} {p : Addr} {o : HO} (e : Same F H) (h : H p = some o) : Same (upd F p o) H := by
  intro b u q
  by_cases hb : b = p
  · subst hb
    rw [upd_same] at q
    rw [h]
    exact q
  · rw [upd_ne hb] at q
    exact e b u q
end Fc
end L2
set_option Elab.async false
set_option linter.all false
set_option maxRecDepth 100000
set_option maxHeartbeats 4000000
/-! len of an own object; an own class made where its __init__ may raise; try with clauses with and without names. -/
namespace L2
namespace Fc
open PySem PySem.Spec PyProof.Rows

section
variable {X : Cx} {C f : Addr} {k : Nat} {fd : FuncData} {sp : Sp}
/-- len(x), x an instance of C, by its own __len__ -/
def rLenI (C : Addr) (sp : Sp) : List V → Hp → VK → Prop := fun xs H Q => ∃ (a dx : Addr) (fs : List (Str × V)), xs = [.ref a] ∧ H a = some (.ins C dx fs) ∧
  sp [.ref a] H (fun v H' => ∃ n : Int, v = .int n ∧ (0 ≤ n ∧ n < 2 ^ 63) ∧ Q (.int n) H') E0
theorem call_lenI (hs : PySem.W.findIn X.K (.ref C) "__len__" = some (some (.ref f))) (hf : PySem.W.isFn X.K (.ref f) = true) (F : FnOk X.prog X.w X.K X.mg X.base CX0 k f fd ["self"] sp)
    (hb : Binds X.K fd ["self"] []) (hr : Room (k + 1) X.A) : CallR X (.builtin "len") (rLenI C sp) := by
  intro pins s σ H xs us Q I r h
  obtain ⟨a, dx, fs, rfl, ea, q⟩ := h
  obtain ⟨u, rfl, rx⟩ := vals1 r
  cases rx
  obtain ⟨m, fr⟩ := I.fr
  obtain ⟨mA, O, _⟩ := ins_get I.hok ea
  obtain ⟨od, J, _⟩ := O.look
  refine PySem.W.len_K fr I.ok.mod.kin J hs hf ?_
  have hv : Vals [V.ref a] [Value.ref a] := .cons rfl .nil
  have hbb := hb s [Value.ref a] I.kIn rfl
  rw [List.append_nil] at hbb
  refine wpAny_call (codeAny_mono (F.run X.A.in1 X.stack s H ⟨[Value.ref a], []⟩ [Value.ref a] [V.ref a] _ E0 hr.in1 I.env0.in1 hbb hv q) fun r s' hq => ?_)
  cases r with
  | error e => exact False.elim hq
  | ok fl =>
    cases fl with
    | ret u =>
      obtain ⟨v, H', I', rv, n, rfl, hn, q2⟩ := I.after hq
      obtain ⟨t, rfl⟩ := rv
      exact ⟨hn, ⟨.int n, H', I'.tok _, ⟨_, rfl⟩, q2⟩⟩
    | next => exact False.elim hq
    | brk => exact False.elim hq
    | cont => exact False.elim hq
end

/-! ### C(e, ..), C's own __init__ may raise -/
structure MakX (P : Program) (w : World) (K : PySem.W.Frag) (mg : Str → Option Value) (base : Heap) (k : Nat) (x : Str) (C : Addr) (sp : Sp) : Prop where
  ex : ∃ (f : Addr) (fd : FuncData) (ps : List Str), Mk K C f ∧ FnOk P w K mg base (L2.CX P w) k f fd ps sp ∧ mg x = some (.ref C) ∧ Binds K fd ps []
def tMakeS (C : Addr) (sp : Sp) (W : WX) (t : TA) : TE := fun σ H Q => t σ H fun vs H1 => ∀ x dx, H1 x = none → H1 dx = none → dx ≠ x →
  sp (.ref x :: vs) (upd (upd H1 dx (.own x)) x (.ins C dx [])) (fun v H2 => v = .non ∧ Q (.ref x) H2) (WE W σ)
theorem pe_mkx {X : Cx} {C : Addr} {x : Str} {k j : Nat} {sp : Sp} {W : WX} {t : TA} {e : Expr} {es : List Expr} {p pos : Pos} (c : MakX X.prog X.w X.K X.mg X.base k x C sp) (hr : Room j X.A) (hk : k + 1 ≤ j) (tk : Takes X W) (hg : Gl X x) (ha : PA X (e :: es) t)
    (hdb : (x == ("__debug__" : Str)) = false := by decide) (he : starEach (e :: es) X.env = (false, eval e X.env) :: starEach es X.env := by rfl) (hpl : (backTo pos (starEach es X.env)).any (·.1) = false := by rfl) :
    PE X (.Call (.Name x p) (e :: es) [] pos) (tMakeS C sp W t) := by
  obtain ⟨f, fd, ps, M, F, hm, hb⟩ := c.ex
  have hr2 : Room (k + 1) X.A := hr.mono hk
  refine ⟨fun pins s σ H Q I h => ?_⟩
  refine wpAny_Call_Name_kw (ld_glob I hg hm ?_ hdb)
  refine PySem.W.callWith_K (h₀ := X.base) I.ok.mod.kin M.kp (thn (ha.run pos pins s σ H _ I h) fun us s1 hh => ?_) he hpl
  obtain ⟨vs, H1, I1, r, h1⟩ := hh
  refine ⟨I1.kIn, ?_⟩
  have hq := h1 (s1.heap.objs.size + 1) s1.heap.objs.size (I1.hok.fresh (Nat.le_succ _)) (I1.hok.fresh (Nat.le_refl _)) (Nat.ne_of_lt (Nat.lt_succ_self _))
  have I2 := Inv.made (C := C) I1
  have r2 : Vals (V.ref (s1.heap.objs.size + 1) :: vs) (Value.ref (s1.heap.objs.size + 1) :: us) := .cons rfl r
  have hl : (Value.ref (s1.heap.objs.size + 1) :: us ++ []).length = ps.length := by
    have z := r2.length
    rw [F.len _ _ _ _ hq] at z
    rw [List.append_nil]
    exact z.symm
  have hbb := hb _ (Value.ref (s1.heap.objs.size + 1) :: us) I2.kIn hl
  rw [List.append_nil] at hbb
  refine wpAny_call (make_map (f := f) I1.kIn M.makes M.init (beq_iff_eq.mp M.fn) ?_)
  refine codeAny_mono (F.run _ X.stack _ _ ⟨Value.ref (s1.heap.objs.size + 1) :: us, []⟩ (Value.ref (s1.heap.objs.size + 1) :: us) _ _ (WE W σ) (hr2.make C us []) (I2.env0.make C us []) hbb r2 hq) fun r s' hq' => ?_
  cases r with
  | error e => exact passAt tk σ pins _ _ e s' I2 hq'
  | ok fl =>
    cases fl with
    | ret u =>
      obtain ⟨v, H', I3, rv, ev, q3⟩ := I2.after hq'
      subst ev
      exact ⟨rv, ⟨V.ref (s1.heap.objs.size + 1), H', I3, rfl, q3⟩⟩
    | next => exact False.elim hq'
    | brk => exact False.elim hq'
    | cont => exact False.elim hq'

/-! ### try .. except A as n: .. except B: .. -/
abbrev Clause := Value × Option Nat × (Addr → Value → Option Addr → TS)
def wCl (K : PySem.W.Frag) (Wout : WX) (D : Ends) : List Clause → WX
  | [] => Wout
  | (c, none, ts) :: more => fun cls d σ H => ∃ b, PySem.W.exmOne K cls c = some b ∧ (b = true → ∀ a, H a = none → ts a cls d D σ H) ∧ (b = false → wCl K Wout D more cls d σ H)
  | (c, some i, ts) :: more => fun cls d σ H => ∃ b, PySem.W.exmOne K cls c = some b ∧
      (b = true → ∀ a, H a = none → ts a cls d { nx := fun τ G => D.nx (τ.set i none) G, rt := D.rt, bk := fun τ G => D.bk (τ.set i none) G, ct := fun τ G => D.ct (τ.set i none) G } (σ.set i (some (.ref a))) H) ∧ (b = false → wCl K Wout D more cls d σ H)
inductive Cls2 (X : Cx) : List ExceptHandler → List Clause → Prop
  | nil : Cls2 X [] []
  | bare {x : Str} {c : Value} {ts : Addr → Value → Option Addr → TS} {b0 : Stmt} {su : List Stmt} {p1 p2 : Pos} {hs : List ExceptHandler} {l : List Clause} : Names X x c →
      (∀ (a : Addr) (oe : Obj) (cls : Value) (d : Option Addr) (pn : List (Addr × Obj)), Zc cls d oe → (∃ vs, oe.data = .fields vs) → PSs (X.suite a ((a, oe) :: pn)) (b0 :: su) (ts a cls d)) → Cls2 X hs l →
      Cls2 X (.ExceptHandler (some (.Name x p1)) none (b0 :: su) p2 :: hs) ((c, none, ts) :: l)
  | named {x n : Str} {i : Nat} {c : Value} {ts : Addr → Value → Option Addr → TS} {b0 : Stmt} {su : List Stmt} {p1 p2 : Pos} {hs : List ExceptHandler} {l : List Clause} : Names X x c → X.N[i]? = some n → X.env.kindOf n = some .local →
      (∀ (a : Addr) (oe : Obj) (cls : Value) (d : Option Addr) (pn : List (Addr × Obj)), Zc cls d oe → (∃ vs, oe.data = .fields vs) → PSs (X.suite a ((a, oe) :: pn)) (b0 :: su) (ts a cls d)) → Cls2 X hs l →
      Cls2 X (.ExceptHandler (some (.Name x p1)) (some n) (b0 :: su) p2 :: hs) ((c, some i, ts) :: l)
section
variable {X : Cx} {body : List Stmt} {h1 : ExceptHandler} {hs : List ExceptHandler} {l : List Clause} {pos : Pos} {tb : WX → TS} {Wout : WX}
theorem ps_try2 (hstk : X.stack = X.env :: X.outer) (hfr : X.env.frame = some X.env.locals) (hN : X.N.Nodup) (tk : Takes X Wout)
    (hb : ∀ (W : WX) (pn : List (Addr × Obj)) (xe : Value → Shared → Prop), Takes (X.tr pn xe) W → PassesOwn (model X.prog X.w) X.A X.env xe → PSs (X.tr pn xe) body (tb W))
    (hh : Cls2 X (h1 :: hs) l) : PS X (.Try body (h1 :: hs) [] [] pos) (fun D σ H => tb (wCl X.K Wout D l) D σ H) := by
  refine ⟨fun pins s σ H D I h => ?_⟩
  have ok := I.ok
  have frames : X.A.frames = some (X.env :: X.outer) := by rw [ok.frames, hstk]
  refine wpAny_Try_except ?_
  refine wpAny_mono ((hb (wCl X.K Wout D l) (X.pn ++ pins) (fun e s1 => wpAny (model X.prog X.w) X.A (noteFrame e X.env) (fun _ s2 => wpAny (model X.prog X.w) X.A (setFlight e none) (fun _ s3 =>
    wpAny (model X.prog X.w) X.A (handleBy e X.env (h1 :: hs)) (SP X pins D) X.xe s3) X.xe s2) X.xe s1) (fun u s' xx => ?_) PassesOwn.looking).run [] s σ H D (I.toTry _) h) (fun f s1 hsp => ?_) (fun e s1 he => he)
  · obtain ⟨a, B, sI, pins', σ', H', cls, d, rfl, J0, nb, up, sky, na, os, ag, wish⟩ := xx
    have J : Inv X pins σ' H' sI := J0.ofTry ok
    have sky2 : Sky B (X.env :: X.outer) a (Zc cls d) X.env.locals s'.heap := by rw [← hstk]; exact sky
    show wpAny (model X.prog X.w) X.A (noteFrame (.ref a) X.env) _ _ _
    refine Sky.land Zc.steady frames hfr sky2 fun g3 fl3 up3 => ?_
    have J3 : Inv X pins σ' H' { s' with heap := g3 } := J.landed nb fl3.1 (up.trans up3) os ag
    obtain ⟨oe3, vs3, at3, hz3, hd3⟩ := fl3.there
    have far : a ∉ frs (X.env :: X.outer) := by
      intro hm
      obtain ⟨_, o', e', hnf⟩ := Heap.FunFrames.mem fl3.2.2.1 hm
      rw [at3] at e'
      cases e'
      exact hnf _ hd3
    have nL : a ≠ X.env.locals := fun z => far (List.mem_filterMap.mpr ⟨X.env, List.mem_cons_self, by rw [hfr, z]⟩)
    have nF : a ∉ X.fs := by
      intro hm
      obtain ⟨e, he, q⟩ := List.mem_filterMap.mp hm
      exact far (List.mem_filterMap.mpr ⟨e, List.mem_cons_of_mem _ he, q⟩)
    have S3 := J3.suite at3 hd3 na nL nF
    have LT : PySem.W.Looks (model X.prog X.w) g3 (typeOf (.ref a)) cls := fun A Q E s k q => wpAny_typeOf_ref (k _ _ at3) (by rw [hz3.1]; exact q)
    have look : ∀ {x : Str} {c : Value} {np : Pos}, Names X x c → ∀ {Q : Value → Shared → Prop} {E : Value → Shared → Prop}, Q c { s' with heap := g3 } →
        wpAny (model X.prog X.w) (X.A.mark (some (.ref a))) (eval (.Name x np) X.env) Q E { s' with heap := g3 } := by
      intro x c np hc Q E q
      obtain ⟨hg, hdbg, hm | ⟨hm, hv, hnn⟩⟩ := hc
      · exact ld_glob (X := X.suite a ((a, oe3) :: (X.pn ++ pins))) S3 hg hm q hdbg
      · exact ld_blt (X := X.suite a ((a, oe3) :: (X.pn ++ pins))) S3 hg hm hv q hnn hdbg
    have go : ∀ {hs' : List ExceptHandler} {l' : List Clause}, Cls2 X hs' l' → wCl X.K Wout D l' cls d σ' H' → wpAny (model X.prog X.w) X.A (handleBy (.ref a) X.env hs') (SP X pins D) X.xe { s' with heap := g3 } := by
      intro hs' l' hk
      induction hk with
      | nil =>
        intro wz
        refine wpAny_handleBy_nil ?_
        obtain ⟨k1, k2, k3, oe, vs, T, oT, ts', he, hz, hd, hf1, hrr⟩ := id fl3
        unfold PySem.passOn
        refine wpAny_bind (wpAny_field he hd hf1 ?_)
        rw [if_neg (show ¬ ((Value.ref T == Value.none) = true) from by simp)]
        have out : wpAny (model X.prog X.w) X.A (setFlight (.ref a) X.env.frame) (fun _ s4 => wpAny (model X.prog X.w) X.A (throw (.ref a) : Sem Flow) (SP X pins D) X.xe s4) X.xe { s' with heap := g3 } := by
          rw [hfr]
          refine HandSPX.setFlight_upZ fl3 fun g4 hh4 up4 => wpAny_throw (tk _ _ ?_)
          exact ⟨a, B, sI, pins, σ', H', cls, d, rfl, J, nb, (up.trans up3).trans up4, .inr (.inr (by rw [hstk]; exact hh4)), na, os, ag, wz⟩
        first
          | exact wpAny_bind (wpAny_pure (wpAny_bind out))
          | exact wpAny_bind out
      | @bare x c ts b0 su p1 p2 hs2 l2 hc hsu r ih =>
        intro wz
        obtain ⟨b, hb1, yes, no⟩ := wz
        refine wpAny_handleBy_cons (codeAny_handlers_test ?_) (by intro q; cases q)
        have LM := PySem.W.exm_one (M := model X.prog X.w) (J3.kIn) LT hb1
        refine look hc (LM.here ?_)
        cases b with
        | true =>
          refine codeAny_handlers_suite ?_
          refine HandSPX.lands_againZ fl3 fun g4 fl4 up4 => ?_
          have J4 : Inv X pins σ' H' { s' with heap := g4 } := J.landed nb fl4.1 ((up.trans up3).trans up4) os ag
          obtain ⟨oe4, vs4, at4, hz4, hd4⟩ := fl4.there
          have S4 := J4.suite at4 hd4 na nL nF
          refine wpAny_mono ((hsu a oe4 cls d (X.pn ++ pins) hz4 ⟨_, hd4⟩).run [] _ _ H' _ S4 (yes rfl a na)) (fun f s6 hsp => ?_) (fun _ _ z => False.elim z)
          cases f with
          | ret u =>
            obtain ⟨v6, σ6, H6, S6, r6, q6⟩ := hsp
            exact ⟨_, _, _, S6.unsuite ok, r6, q6⟩
          | next =>
            obtain ⟨σ6, H6, S6, q6⟩ := hsp
            exact ⟨_, _, S6.unsuite ok, q6⟩
          | brk =>
            obtain ⟨σ6, H6, S6, q6⟩ := hsp
            exact ⟨_, _, S6.unsuite ok, q6⟩
          | cont =>
            obtain ⟨σ6, H6, S6, q6⟩ := hsp
            exact ⟨_, _, S6.unsuite ok, q6⟩
        | false =>
          show wpAny _ X.A (handleBy (.ref a) X.env hs2) _ _ _
          exact ih (no rfl)
      | @named x n i c ts b0 su p1 p2 hs2 l2 hc hi hln hsu r ih =>
        intro wz
        obtain ⟨b, hb1, yes, no⟩ := wz
        have hloc : Loc X.env.scope n := .inl hln
        refine wpAny_handleBy_cons (codeAny_handlers_test ?_) (by intro q; cases q)
        have LM := PySem.W.exm_one (M := model X.prog X.w) (J3.kIn) LT hb1
        refine look hc (LM.here ?_)
        cases b with
        | true =>
          refine codeAny_handlers_suite_as ?_
          refine HandSPX.lands_againZ fl3 fun g4 fl4 up4 => ?_
          have J4 : Inv X pins σ' H' { s' with heap := g4 } := J.landed nb fl4.1 ((up.trans up3).trans up4) os ag
          obtain ⟨oe4, vs4, at4, hz4, hd4⟩ := fl4.there
          have S4 := J4.suite at4 hd4 na nL nF
          refine store_ok (X := X.suite a ((a, oe4) :: (X.pn ++ pins))) (v := .ref a) S4 hN hi hloc rfl (fun s5 S5 => ?_) (.inr hln)
          refine wpAny_mono ((hsu a oe4 cls d (X.pn ++ pins) hz4 ⟨_, hd4⟩).run [] s5 _ H' _ S5 (yes rfl a na)) (fun f s6 hsp => ?_) (fun _ _ z => False.elim z)
          have gone : ∀ {σ6 : St} {H6 : Hp} {Q : Shared → Prop}, Inv (X.suite a ((a, oe4) :: (X.pn ++ pins))) [] σ6 H6 s6 → (∀ s7, Inv X pins (σ6.set i none) H6 s7 → Q s7) →
              wpAny (model X.prog X.w) X.A (do bindName X.env n .none; unbindBehindTheSuite X.env n p2) (fun _ s7 => Q s7) X.xe s6 := fun {σ6 H6 Q} S6 hq => gone_ok (S6.unsuite ok) hN hi hln hq
          cases f with
          | ret u =>
            obtain ⟨v6, σ6, H6, S6, r6, q6⟩ := hsp
            exact gone S6 fun s7 J7 => ⟨_, _, _, J7, r6, q6⟩
          | next =>
            obtain ⟨σ6, H6, S6, q6⟩ := hsp
            exact gone S6 fun s7 J7 => ⟨_, _, J7, q6⟩
          | brk =>
            obtain ⟨σ6, H6, S6, q6⟩ := hsp
            exact gone S6 fun s7 J7 => ⟨_, _, J7, q6⟩
          | cont =>
            obtain ⟨σ6, H6, S6, q6⟩ := hsp
            exact gone S6 fun s7 J7 => ⟨_, _, J7, q6⟩
        | false =>
          show wpAny _ X.A (handleBy (.ref a) X.env hs2) _ _ _
          exact ih (no rfl)
    exact go hh wish
  cases f with
  | ret u =>
    obtain ⟨v, σ', H', J', r, q⟩ := hsp
    exact ⟨v, σ', H', J'.ofTry ok, r, q⟩
  | next =>
    obtain ⟨σ', H', J', q⟩ := hsp
    exact wpAny_execs_nil ⟨σ', H', J'.ofTry ok, q⟩
  | brk =>
    obtain ⟨σ', H', J', q⟩ := hsp
    exact ⟨σ', H', J'.ofTry ok, q⟩
  | cont =>
    obtain ⟨σ', H', J', q⟩ := hsp
    exact ⟨σ', H', J'.ofTry ok, q⟩
end
end Fc
end L2
set_option Elab.async false
set_option linter.all false
set_option maxRecDepth 100000
set_option maxHeartbeats 4000000
/-! A source of draws at a: the one thing that a law's helpers change; all else is frozen. -/
namespace L2
namespace Fc
open PySem PySem.Spec PyProof.Rows
def Src (H : Hp) (a : Addr) : Prop := ∃ x y z : Int, H a = some (.lst [.int x, .int y, .int z])
theorem Src.upd {H : Hp} {a : Addr} {x y z : Int} : Src (upd H a (.lst [.int x, .int y, .int z])) a := ⟨x, y, z, upd_same⟩
theorem Src.some {H : Hp} {a : Addr} (s : Src H a) : H a ≠ none := by
  obtain ⟨x, y, z, e⟩ := s
  intro q
  rw [e] at q
  cases q
/-- all but the source -/
abbrev Fz (a : Addr) (H : Hp) : Hp := hide [a] H
theorem fz_ne {a b : Addr} {H : Hp} (h : b ≠ a) : Fz a H b = H b := hide_out (by simpa using h)
theorem fz_at {a : Addr} {H : Hp} : Fz a H a = none := hide_in (by simp)
/-- what a helper does to the heap -/
structure Adv (a : Addr) (H H' : Hp) : Prop where
  fz : Same (Fz a H) (Fz a H')
  src : Src H' a
theorem Adv.refl {a : Addr} {H : Hp} (s : Src H a) : Adv a H H := ⟨Same.refl _, s⟩
theorem Adv.trans {a : Addr} {H H1 H2 : Hp} (p : Adv a H H1) (q : Adv a H1 H2) : Adv a H H2 := ⟨p.fz.trans q.fz, q.src⟩
theorem Adv.get {a b : Addr} {H H' : Hp} {o : HO} (p : Adv a H H') (n : b ≠ a) (e : H b = some o) : H' b = some o := by
  have z := p.fz b o (by rw [fz_ne n]; exact e)
  rw [fz_ne n] at z
  exact z
theorem Adv.of_same {a : Addr} {H H' : Hp} (s : Src H a) (e : Same H H') : Adv a H H' := by
  refine ⟨fun b o q => ?_, ?_⟩
  · by_cases hb : b = a
    · subst hb
      rw [fz_at] at q
      cases q
    · rw [fz_ne hb] at q ⊢
      exact e b o q
  · obtain ⟨x, y, z, es⟩ := s
    exact ⟨x, y, z, e _ _ es⟩
theorem Adv.new {a p : Addr} {H H' : Hp} {o : HO} (q : Adv a H H') (n : H' p = none) : Adv a H (upd H' p o) := q.trans (Adv.of_same q.src (Same.put n))
theorem Adv.draw {a : Addr} {H : Hp} {x y z : Int} : Adv a H (upd H a (.lst [.int x, .int y, .int z])) := by
  refine ⟨fun b o q => ?_, Src.upd⟩
  by_cases hb : b = a
  · subst hb
    rw [fz_at] at q
    cases q
  · rw [fz_ne hb] at q ⊢
    rw [upd_ne hb]
    exact q
theorem Adv.ob {K : PySem.W.Frag} {a : Addr} {H H' : Hp} {v : V} {o : O} (p : Adv a H H') (h : Ob K (Fz a H) v o) : Ob K (Fz a H') v o := h.mono p.fz
theorem fz_same {a : Addr} {H : Hp} : Same (Fz a H) H := hide_same _ _
/-- a new tuple -/
theorem tup_new {K : PySem.W.Frag} {a p : Addr} {H : Hp} {xs : List V} {os : List O} (s : Src H a) (n : H p = none) (h : Obs K (Fz a H) xs os) (l : os.length < 20000) : Ob K (Fz a (upd H p (.tup xs))) (.ref p) (.tup os) := by
  have hp : p ≠ a := fun z => s.some (by rw [← z]; exact n)
  refine .tup (SqT.of ?_) (h.mono (Adv.new (Adv.refl s) n).fz) l
  rw [fz_ne hp]
  exact upd_same
theorem str_ob {K : PySem.W.Frag} {H : Hp} (x : Str) (h : x.length ≤ 100 := by decide) : Ob K H (.str x) (.str x) := .str x (Nat.le_trans h (by decide))

/-! ### what is laid around an object -/
inductive Wr : O → O → Prop
  | seq (o : O) : Wr o (.tup [.str "seq", .tup [o]])
  | whi (o : O) : Wr o (.tup [.str "while", .str "w", o])
  | try_ (o : O) : Wr o (.tup [.str "try", o, .tup [.str "do", .str "h"]])
  | fin (o : O) : Wr o (.tup [.str "final", o, .tup [.str "do", .str "f"]])
  | if_ (o : O) : Wr o (.tup [.str "if", .str "i", o, .tup [.str "raise"]])
inductive Wraps : Nat → O → O → Prop
  | zero (o : O) : Wraps 0 o o
  | succ {n : Nat} {o u t : O} : Wraps n o u → Wr u t → Wraps (n + 1) o t
def block (o : O) : O := .tup [.str "final", .tup [.str "call", .str "x"], o]
def blocks : Nat → O → O
  | 0, o => o
  | n + 1, o => block (blocks n o)
end Fc
end L2
set_option Elab.async false
set_option linter.all false
set_option maxRecDepth 100000
set_option maxHeartbeats 4000000
/-! An own class over ArithmeticError is called with values and with keywords: what comes of it. -/
namespace L2
namespace Fc
open PySem PySem.Spec PyProof.Rows Builtin PySem.W PySem.Calls PySem.HandSPX
abbrev arNew : String := "ArithmeticError.__new__"
/-- the class object that stands at C, its bases' order bm -/
structure ArO (h : Heap) (C : Addr) (bm : List Value) : Prop where
  at_ : ∃ nm q N bs hdct sn sub ab col dd k0 k1 k2 k3 k5, h.get? C = some (excClassObj nm q C N bs bm hdct sn sub ab col dd k0 k1 k2 k3 k5 arNew)
  over : arOver bm = true
section
variable {M : Model} {A : Around} {E : Value → Shared → Prop} {prog : Program} {w : World} {R : Result → Shared → Prop} {s : Shared} {C fI : Addr} {bm us : List Value} {kw : List (Str × Value)}
theorem ArO.has (o : ArO s.heap C bm) (T : String) : (Value.ref C :: bm).contains (.type T) = arTail.contains (.type T) := by
  rw [List.contains_cons, arOver_has T bm o.over]
  rfl
/-- its __new__ takes whatever is given -/
theorem ar_new_checked {Q : Unit → Shared → Prop} (o : ArO s.heap C bm) (hq : Q () s) : wpAny M A (checkBuiltinCall arNew ⟨.ref C :: us, kw⟩) Q E s := by
  have B := F.excBase_ArithmeticError
  have yes := o.has "ArithmeticError"
  have star := B.noStar
  obtain ⟨nm, q, N, bs, hdct, sn, sub, ab, col, dd, k0, k1, k2, k3, k5, at_⟩ := o.at_
  obtain ⟨h, g, d, t, os⟩ := s
  rw [show arTail.contains (.type "ArithmeticError") = true by decide +kernel] at yes
  simp only [checkBuiltinCall, B.newKind, B.newSplit, B.newRow]
  repeat
    first
    | refine wpAny_loadPart_at at_ ?_
    | (refine wpAny_isSubtype_exc at_ ?_; rw [yes])
    | refine wpAny_staticBase_exc at_ ?_
    | refine wpAny_madeBy_exc at_ ?_
    | simp only [bne_self_eq_false, Bool.false_eq_true, if_false]
    | wp_step
  exact hq
/-- what has been laid when __new__ is through -/
def arLaid (s : Shared) (C : Addr) (us : List Value) : Shared := { s with heap := (s.heap.push (W.kdv_tup us)).push (excO C s.heap.objs.size) }
theorem ar_new_runs (o : ArO s.heap C bm) (few : us.length ≤ sizeLine) (hq : R (.ok (.ret (.ref (s.heap.objs.size + 1)))) (arLaid s C us)) : codeAny (model prog w) A (.builtin arNew ⟨.ref C :: us, kw⟩) R s := by
  have B := F.excBase_ArithmeticError
  have ends := B.ends
  have y1 := o.has "ArithmeticError"
  have y2 := o.has "AttributeError"
  have y3 := o.has "NameError"
  rw [show arTail.contains (.type "ArithmeticError") = true by decide +kernel] at y1
  rw [show arTail.contains (.type "AttributeError") = false by decide +kernel] at y2
  rw [show arTail.contains (.type "NameError") = false by decide +kernel] at y3
  obtain ⟨nm, q, N, bs, hdct, sn, sub, ab, col, dd, k0, k1, k2, k3, k5, at_⟩ := o.at_
  obtain ⟨h, g, d, t, os⟩ := s
  refine codeAny_builtinAt B.entry ?_
  unfold Builtin.«BaseException.__new__»
  refine PySem.wpAt_bind ?_
  show PySem.wpAt _ _ _ (stack >>= _) _ _ _
  refine PySem.wpAt_bind (PySem.wpAt_stack fun _ _ => PySem.wpAt_of_wpAny ?_)
  wp_walk
  refine PySem.wpAt_of_wpAny ?_
  rw [B.owner]
  repeat
    first
    | with_reducible refine wpAny_madeHere_exc B.canon at_ ?_
    | with_reducible refine wpAny_loadPart_at at_ ?_
    | (with_reducible refine wpAny_isSubtype_exc at_ ?_; first | rw [y1] | rw [y2] | rw [y3])
    | wp_step
  show R _ _
  rw [Heap.size_push]
  exact hq
/-- the call: a new object, then the own __init__ with the same values and keywords -/
theorem ar_called (o : ArO s.heap C bm) (few : us.length ≤ sizeLine) (init : W.Looks (model prog w) s.heap (typeLookup (.ref C) "__init__") (some (.ref fI))) (bound : ∀ self, W.Looks (model prog w) s.heap (bindSpecial (.ref fI) self) (.ref fI, [self]))
    (hq : codeAny (model prog w) (A.under (.builtin "type.__call__" ⟨.ref C :: us, kw⟩)) (.call (.ref fI) ⟨.ref (s.heap.objs.size + 1) :: us, kw⟩) (W.InitBack (s.heap.objs.size + 1) R) (arLaid s C us)) : codeAny (model prog w) A (.call (.ref C) ⟨us, kw⟩) R s := by
  have B := F.excBase_ArithmeticError
  have g1 := tc_lookup
  have g2 := tc_bind (.ref C)
  have o2 := o
  obtain ⟨nm, q, N, bs, hdct, sn, sub, ab, col, dd, k0, k1, k2, k3, k5, at_⟩ := o.at_
  obtain ⟨h, g, d, t, os⟩ := s
  have isT : (⟨h, g, d, t, os⟩ : Shared).TypeIs (.ref C) "type" := ⟨_, at_, rfl⟩
  refine codeAny_of_tree ?_
  show wpAny _ _ (callAny (.ref C) _) _ _ _
  repeat (any_goals (first | assumption | with_reducible refine wpAny_loadPart_at at_ ?_ | wp_step))
  refine ⟨rfl, ?_⟩
  refine codeAny_call_builtin_at (Code.quiet_builtin _ (by decide +kernel)) entry_typeCall (wpAny_check_type_call_sub at_ ?_)
  -- type.__call__ itself
  repeat
    first
    | with_reducible refine wpAny_loadPart_at at_ ?_
    | with_reducible refine wpAny_madeBy_exc at_ ?_
    | wp_step
  refine codeAny_call_builtin_code (Code.quiet_builtin _ B.quiet) (ar_new_checked (s := ⟨h, g, d, t, os⟩) o2 (ar_new_runs (s := ⟨h, g, d, t, os⟩) o2 few ?_))
  show wpAny _ _ _ _ _ _
  unfold arLaid at hq ⊢
  dsimp only at hq ⊢
  have on : ∀ b u, h.get? b = some u → ((h.push (W.kdv_tup us)).push (excO C h.objs.size)).get? b = some u := fun b u e => Heap.get?_push_of_some _ (Heap.get?_push_of_some _ e)
  have at2 := on _ _ at_
  have new : ((h.push (W.kdv_tup us)).push (excO C h.objs.size)).get? (h.objs.size + 1) = some (excO C h.objs.size) := by heap_get
  have self_ : (Value.ref C :: bm).contains (.ref C) = true := by simp
  have init2 := init.keeps on
  have bound2 := (bound (.ref (h.objs.size + 1))).keeps on
  unfold isInstance
  repeat (first | with_reducible refine wpAny_loadPart_at new ?_ | wp_step)
  show wpAny _ _ (isSubtype (.ref C) (.ref C)) _ _ _
  refine wpAny_isSubtype_exc at2 ?_
  rw [self_]
  repeat wp_step
  show wpAny _ _ (typeLookup (.ref C) _) _ _ _
  refine init2.at ?_
  refine wpAny_holding (wpAny_bind (bound2.at ?_))
  refine wpAny_bind (wpAny_call (codeAny_mono hq fun r s' z => ?_))
  rcases r with er | (v | _ | _ | _)
  all_goals first | exact z | exact z.elim | skip
  obtain ⟨none_, z⟩ := z
  subst none_
  first
  | exact wpAny_pure (wpAny_pure z)
  | (wp_walk; exact z)
end
end Fc
end L2
set_option Elab.async false
set_option linter.all false
set_option maxRecDepth 100000
set_option maxHeartbeats 4000000
/-! Errors with one field as values. -/
namespace L2
namespace Fc
open PySem PySem.Spec PyProof.Rows
/-- at a: an error of the class at C whose one field f is y -/
def ExAt (H : Hp) (a C : Addr) (f : Str) (y : V) : Prop := ∃ d, H a = some (exo a C (some d)) ∧ H d = some (exd d [(f, y)])
section
variable {X : Cx} {C fI : Addr} {f x : Str} {k : Nat} {fd : FuncData} {ps : List Str} {pins : List (Addr × Obj)} {σ : St} {H : Hp} {s : Shared} {p pos kpos : Pos} {e : Expr} {te : TE}
theorem run_ar {Q : VK} {us : List Value} {kw : List (Str × Value)} {y : V} {u : Value} (T : ArC X.K C fI f) (F1 : FnOk X.prog X.w X.K X.mg X.base CX0 k fI fd ps (spExc C f)) (hr : Room (k + 1) X.A) (I : Inv X pins σ H s) (hus : us.length ≤ sizeLine)
    (hb : ∀ (s : Shared) (a : Value), X.K.In s.heap → BindsTo s fd ⟨a :: us, kw⟩ (ps.zip [a, u])) (ry : RelV y u)
    (h : ∀ a H', Same H H' → H a = none → ExAt H' a C f y → Q (.ref a) H') : wpAny (model X.prog X.w) X.A (call (.ref C) us kw) (EP X pins σ Q) X.xe s := by
  obtain ⟨nm, q, N, bs, bm, sn, sub, ab, col, dd, k0, k1, k2, k3, k5, hC, hbm⟩ := T.cls
  obtain ⟨hp, g, dr, tk, os⟩ := s
  have hsz : hp.objs.size ≤ hp.objs.size + 1 := Nat.le_succ _
  have hn : H (hp.objs.size + 1) = none := I.hok.fresh hsz
  have keep2 : ∀ b o, hp.get? b = some o → ((hp.push (PySem.W.kdv_tup us)).push (PySem.HandSPX.excO C hp.objs.size)).get? b = some o := fun b o z => Heap.get?_push_of_some _ (Heap.get?_push_of_some _ z)
  have hget : ((hp.push (PySem.W.kdv_tup us)).push (PySem.HandSPX.excO C hp.objs.size)).get? (hp.objs.size + 1) = some (PySem.HandSPX.excO C hp.objs.size) := by heap_get
  have I2 : Inv X pins σ (upd H (hp.objs.size + 1) (exo (hp.objs.size + 1) C none)) ⟨(hp.push (PySem.W.kdv_tup us)).push (PySem.HandSPX.excO C hp.objs.size), g, dr, tk, os⟩ :=
    I.laid (t' := tk) (a := hp.objs.size + 1) (o := exo (hp.objs.size + 1) C none) keep2 hsz (exo_ok hget)
  have r2 : Vals [V.ref (hp.objs.size + 1), y] [Value.ref (hp.objs.size + 1), u] := .cons rfl (.cons ry .nil)
  have call1 : spExc C f [V.ref (hp.objs.size + 1), y] (upd H (hp.objs.size + 1) (exo (hp.objs.size + 1) C none)) (fun v H2 => v = .non ∧ Q (.ref (hp.objs.size + 1)) H2) (fun _ _ _ => False) := by
    refine ⟨_, y, rfl, upd_same, fun dx n ne => ⟨rfl, ?_⟩⟩
    have n0 : H dx = none := by
      rw [upd_ne ne] at n
      exact n
    refine h _ _ ?_ hn ⟨dx, upd_same, by rw [upd_ne ne]; exact upd_same⟩
    intro b o eb
    rw [upd_ne (ne_of_none eb hn), upd_ne (ne_of_none eb n0), upd_ne (ne_of_none eb hn)]
    exact eb
  refine wpAny_call (ar_called (s := ⟨hp, g, dr, tk, os⟩) ⟨⟨nm, q, N, bs, true, sn, sub, ab, col, dd, k0, k1, k2, k3, k5, I.kIn _ _ hC⟩, hbm⟩ hus (PySem.W.looks_findIn I.kIn T.iC) (fun self => PySem.W.bind_fn I.kIn self T.tI) ?_)
  refine codeAny_mono (F1.run _ X.stack _ _ ⟨Value.ref (hp.objs.size + 1) :: us, kw⟩ [Value.ref (hp.objs.size + 1), u] _ _ (fun _ _ _ => False) (hr.make C us kw) (I2.env0.make C us kw) (hb _ _ I2.kIn) r2 call1) fun r s' hq' => ?_
  cases r with
  | error er => exact pass0 pins σ _ _ er _ I2 hq'
  | ok fl =>
    cases fl with
    | ret w =>
      obtain ⟨v, H', I3, rv, ev, q3⟩ := I2.after hq'
      subst ev
      exact ⟨rv, ⟨V.ref (hp.objs.size + 1), H', I3, rfl, q3⟩⟩
    | next => exact False.elim hq'
    | brk => exact False.elim hq'
    | cont => exact False.elim hq'
/-- C(e), a value -/
def tAr (C : Addr) (f : Str) (ta : TA) : TE := fun σ H Q => ta σ H fun vs H1 => ∃ y, vs = [y] ∧ ∀ a H', Same H1 H' → H1 a = none → ExAt H' a C f y → Q (.ref a) H'
structure ExcV (P : Program) (w : World) (K : PySem.W.Frag) (mg : Str → Option Value) (base : Heap) (k : Nat) (x : Str) (C : Addr) (f : Str) : Prop where
  ex : ∃ (fI : Addr) (fd : FuncData) (ps : List Str), ArC K C fI f ∧ FnOk P w K mg base CX0 k fI fd ps (spExc C f) ∧ (∀ (s : Shared) (a u : Value), K.In s.heap → BindsTo s fd ⟨[a, u], []⟩ (ps.zip [a, u])) ∧
    (∀ (s : Shared) (a u : Value), K.In s.heap → BindsTo s fd ⟨[a], [(f, u)]⟩ (ps.zip [a, u])) ∧ mg x = some (.ref C)
theorem pe_ar {j : Nat} {ta : TA} {es : List Expr} (c : ExcV X.prog X.w X.K X.mg X.base k x C f) (hr : Room j X.A) (hk : k + 1 ≤ j) (hg : Gl X x) (ha : PA X (e :: es) ta)
    (hdb : (x == ("__debug__" : Str)) = false := by decide) (hs : starEach (e :: es) X.env = (false, eval e X.env) :: starEach es X.env := by rfl) (hpl : (backTo pos (starEach es X.env)).any (·.1) = false := by rfl) :
    PE X (.Call (.Name x p) (e :: es) [] pos) (tAr C f ta) := by
  obtain ⟨fI, fd, ps, T, F1, hb, _, hm⟩ := c.ex
  refine ⟨fun pins s σ H Q I h => ?_⟩
  refine wpAny_Call_Name_kw (ld_glob I hg hm ?_ hdb)
  refine PySem.W.callWith_K (h₀ := X.base) I.ok.mod.kin T.kC (thn (ha.run pos pins s σ H _ I h) fun us s1 hh => ?_) hs hpl
  obtain ⟨vs, H1, I1, r1, y, ey, q1⟩ := hh
  subst ey
  obtain ⟨u, rfl, ry⟩ := vals1 r1
  exact ⟨I1.kIn, run_ar T F1 (hr.mono hk) I1 (by rw [sizeLine_eq]; exact (by decide : 1 ≤ 16777216)) (fun s a kI => hb s a u kI) ry q1⟩
/-- C(f = e), a value -/
theorem pe_ark {j : Nat} {tk : TA} (c : ExcV X.prog X.w X.K X.mg X.base k x C f) (hr : Room j X.A) (hk : k + 1 ≤ j) (hg : Gl X x) (hkw : PK X [⟨some f, e, kpos⟩] tk)
    (hdb : (x == ("__debug__" : Str)) = false := by decide) (hall : (backToKw pos (keywordEach [⟨some f, e, kpos⟩] X.env)).all (·.1.isSome) = true := by rfl) (hks : (backToKw pos (keywordEach [⟨some f, e, kpos⟩] X.env)).filterMap (·.1) = [f] := by rfl)
    (hpl : ((backTo pos (starEach [] X.env)).any (·.1) || (backToKw pos (keywordEach [⟨some f, e, kpos⟩] X.env)).any (·.1.isNone)) = false := by rfl) :
    PE X (.Call (.Name x p) [] [⟨some f, e, kpos⟩] pos) (tAr C f tk) := by
  obtain ⟨fI, fd, ps, T, F1, _, hb, hm⟩ := c.ex
  refine ⟨fun pins s σ H Q I h => ?_⟩
  refine wpAny_Call_Name_kw (ld_glob I hg hm ?_ hdb)
  refine PySem.W.callWith_KW0 (h₀ := X.base) I.ok.mod.kin T.kC hall ?_ hpl
  refine thn (hkw.run pos pins s σ H _ I h) fun ws s1 hh => ?_
  obtain ⟨vs, H1, I1, r1, y, ey, q1⟩ := hh
  subst ey
  obtain ⟨u, rfl, ry⟩ := vals1 r1
  rw [hks]
  exact ⟨I1.kIn, run_ar T F1 (hr.mono hk) I1 (Nat.zero_le _) (fun s a kI => hb s a u kI) ry q1⟩
/-- e.f, e such a value -/
def tAf (K : PySem.W.Frag) (f : Str) (te : TE) : TE := fun σ H Q => te σ H fun x H1 => ∃ (a C fI : Addr) (y : V), x = .ref a ∧ ArC K C fI f ∧ ExAt H1 a C f y ∧ Q y H1
theorem pe_af {n : Str} (he : PE X e te) (hb : attributeBase e n X.env (eval e X.env) = eval e X.env := by rfl) : PE X (.Attribute e n pos) (tAf X.K n te) := by
  refine ⟨fun pins s σ H Q I h => ?_⟩
  refine attr_of hb (thn (he.run pins s σ H _ I h) fun u s1 hh => ?_)
  obtain ⟨x, H1, I1, rx, a, C, fI, y, ex, T, ⟨d, ea, ed⟩, q⟩ := hh
  subst ex
  obtain rfl : u = Value.ref a := rx
  obtain ⟨t1, ho⟩ := exo_at I1.hok ea
  have hd : ObjOk X.prog X.w H1 s1.heap d (exd d [(n, y)]) := I1.hok d _ ed
  obtain ⟨⟨mA, hns, hr⟩, _⟩ := hd
  obtain ⟨od, hod, hl⟩ := lookIn_ns hns
  have hone : ([(n, y)] : List (Str × V)).lookup n = some y := by simp
  have hrn := hr n
  rw [hone] at hrn
  obtain ⟨u, hu, ru⟩ := RelO.some_of (v := y) (o := mA n) hrn
  have J : PySem.W.InstAt s1.heap a _ C (some od) := ⟨ho, rfl, rfl, hod⟩
  exact PySem.HandSPX.exc_get I1.kIn J T.ga T.gg T.exC (PySem.W.findObj_own T.hd T.nf rfl (by rw [hl, hu])) (handed_of ru) ⟨y, H1, I1.tok _, ru, q⟩
/-- C(), C over ArithmeticError without an own __init__ -/
def tAr0 (C : Addr) : TE := fun _ H Q => ∀ a, H a = none → Q (.ref a) (upd H a (exo a C none))
theorem pe_ar0 (q : PySem.W.excIn X.K C arTail "ArithmeticError.__new__" = true) (gC : X.mg x = some (.ref C)) (kC : PySem.W.keepIn X.K (.ref C) = true) (hg : Gl X x) (hdb : (x == ("__debug__" : Str)) = false := by decide) :
    PE X (.Call (.Name x p) [] [] pos) (tAr0 C) := by
  refine ⟨fun pins s σ H Q I h => ?_⟩
  refine wpAny_Call_Name_kw (ld_glob I hg gC ?_ hdb)
  refine PySem.W.callWith_K0 I.kIn kC ?_
  obtain ⟨bm, N, nm, qn, bs, hdct, sn, sub, ab, col, dd, k0, k1, k2, k3, k5, mN, hC, hN, hni, T⟩ := exc_obj I.kIn q
  refine wpAny_call_exc_subT F.excBase_ArithmeticError T hC hN hni (fun h' a hm => ?_) (Nat.zero_le _)
  have hn : H a = none := I.hok.gone hm.new
  obtain ⟨t, ht, _, _⟩ := hm.there
  exact ⟨.ref a, upd H a (exo a C none), I.laidN hm.keeps hm.new hn (exo_ok ht), rfl, h a hn⟩
/-! ### isinstance of such a value -/
structure IsC (K : PySem.W.Frag) (D : Addr) : Prop where
  hl : (PySem.W.clsIn K D).isSome = true
  hg : PySem.W.findIn K (.ref D) "__getattribute__" = some (some (.builtin "BaseException.__getattribute__"))
  hk : PySem.W.findIn K (.ref D) "__getattr__" = some none
  hs : PySem.W.subIn K (.ref D) (.type "BaseException") = some true
  ha : PySem.W.findIn K (.ref D) "__class__" = some (some (.builtin "object.__class__"))
  hn : PySem.W.specialIn K (.builtin "object.__class__") "__get__" = some (some (.builtin "getset_descriptor.__get__"))
  ht : PySem.W.takesIn K (.builtin "object.__class__") = some true
  hm : PySem.W.mroIn K D (.type "object") = some true
/-- at a: an error of the class at C -/
def ExIn (H : Hp) (a C : Addr) : Prop := H a = some (exo a C none) ∨ ∃ f y, ExAt H a C f y
theorem ex_kit {a : Addr} (c : IsC X.K C) (I : Inv X pins σ H s) (h : ExIn H a C) : ∃ P : Heap → Prop, PySem.W.KitX X.K (.ref a) (.ref C) P ∧ P s.heap := by
  rcases h with h | ⟨f, y, d, h, hd⟩
  · obtain ⟨t1, ho⟩ := exo_at I.hok h
    exact ⟨_, PySem.W.kitx_exc (od := none) c.hl c.hg c.hk c.hs c.ha c.hn c.ht c.hm, ho, rfl, rfl, trivial⟩
  · obtain ⟨t1, ho⟩ := exo_at I.hok h
    obtain ⟨mA, hns, hr⟩ := exd_at I.hok hd
    obtain ⟨od, hod, hl⟩ := lookIn_ns hns
    exact ⟨_, PySem.W.kitx_exc (od := some od) c.hl c.hg c.hk c.hs c.ha c.hn c.ht c.hm, ho, rfl, rfl, hod⟩
def rIsA (K : PySem.W.Frag) : List V → Hp → VK → Prop := fun xs H Q => ∃ (a C : Addr) (c : V) (u : Value) (b : Bool), xs = [.ref a, c] ∧ ClsV c u ∧ IsC K C ∧ ExIn H a C ∧ PySem.W.kitOne K (.ref C) u = some b ∧ Q (.bl b) H
theorem call_isA : CallR X (.builtin "isinstance") (rIsA X.K) := by
  intro pins s σ H xs us Q I r h
  obtain ⟨a, C, c, u, b, rfl, k, ci, hx, e, q⟩ := h
  obtain ⟨u1, u2, rfl, r1, r2⟩ := vals2 r
  obtain rfl : u1 = Value.ref a := r1
  have e2 := k.eq r2
  subst e2
  obtain ⟨P, Z, p⟩ := ex_kit ci I hx
  exact PySem.W.kia_one Z I.kIn p e (fun z => nomatch z) fun tk => ⟨.bl b, H, I.tok tk, rfl, q⟩
def rIsAT (K : PySem.W.Frag) : List V → Hp → VK → Prop := fun xs H Q => ∃ (a C tp : Addr) (cs : List V) (us : List Value) (b : Bool), xs = [.ref a, .ref tp] ∧ H tp = some (.tup cs) ∧ Paired ClsV cs us ∧ IsC K C ∧ ExIn H a C ∧ PySem.W.kitAny K (.ref C) us = some b ∧ Q (.bl b) H
theorem call_isAT : CallR X (.builtin "isinstance") (rIsAT X.K) := by
  intro pins s σ H xs us Q I r h
  obtain ⟨a, C, tp, cs, ws, b, rfl, hT, k, ci, hx, e, q⟩ := h
  obtain ⟨u1, u2, rfl, r1, r2⟩ := vals2 r
  obtain rfl : u1 = Value.ref a := r1
  obtain rfl : u2 = Value.ref tp := r2
  obtain ⟨P, Z, p⟩ := ex_kit ci I hx
  obtain ⟨_, its, rv, o, h1, h2, n, h3⟩ := (show ObjOk X.prog X.w H s.heap tp (.tup cs) from I.hok tp _ hT)
  have e3 := ClsV.all k rv
  subst e3
  obtain ⟨oc, od, dt, sl⟩ := o
  simp only at h2 h3
  subst h2 h3
  exact PySem.W.kia_tup Z I.kIn p h1 e (fun z => nomatch z) fun tk => ⟨.bl b, H, I.tok tk, rfl, q⟩
end
end Fc
end L2
set_option Elab.async false
set_option linter.all false
set_option maxRecDepth 100000
set_option maxHeartbeats 8000000
namespace L2
namespace K5
open PySem PySem.Spec PyProof.Rows Fc C8
def top (i : Nat) : Stmt := PySem.Challenge.pw_finallycopies_k05_error_classes_and_inte.main.body.getD i (.Pass ⟨0, 0, 0, 0⟩)
/-- the addresses of the ten classes, of the one above them, of their __init__ -/
structure Cs where
  (cE iE : Nat → Addr)
  cB : Addr
structure Txt (K : PySem.W.Frag) (mg : Str → Option Value) (w : World) (c : Cs) : Prop where
  n_len : mg "len" = none
  n_int : mg "int" = none
  n_bool : mg "bool" = none
  n_isinstance : mg "isinstance" = none
  n_range : mg "range" = none
  n_all : mg "all" = none
  n_enumerate : mg "enumerate" = none
  n_ArithmeticError : mg "ArithmeticError" = none
  n_ValueError : mg "ValueError" = none
  n_TypeError : mg "TypeError" = none
  n_LookupError : mg "LookupError" = none
  g_InvalidCode : ∃ u, mg "InvalidCode" = some u ∧ RelV (.ref (c.cE 0)) u
  g_InvalidNumber : ∃ u, mg "InvalidNumber" = some u ∧ RelV (.ref (c.cE 1)) u
  g_InvalidAnswers : ∃ u, mg "InvalidAnswers" = some u ∧ RelV (.ref (c.cE 2)) u
  g_InvalidWay : ∃ u, mg "InvalidWay" = some u ∧ RelV (.ref (c.cE 3)) u
  g_InvalidTable : ∃ u, mg "InvalidTable" = some u ∧ RelV (.ref (c.cE 4)) u
  g_InvalidFinals : ∃ u, mg "InvalidFinals" = some u ∧ RelV (.ref (c.cE 5)) u
  g_InvalidBound : ∃ u, mg "InvalidBound" = some u ∧ RelV (.ref (c.cE 6)) u
  g_InvalidText : ∃ u, mg "InvalidText" = some u ∧ RelV (.ref (c.cE 7)) u
  g_NotWaiting : ∃ u, mg "NotWaiting" = some u ∧ RelV (.ref (c.cE 8)) u
  g_LimitExceeded : ∃ u, mg "LimitExceeded" = some u ∧ RelV (.ref (c.cE 9)) u
  ar0 : ArC K (c.cE 0) (c.iE 0) "number"
  ar1 : ArC K (c.cE 1) (c.iE 1) "number"
  ar2 : ArC K (c.cE 2) (c.iE 2) "at"
  ar3 : ArC K (c.cE 3) (c.iE 3) "way"
  ar4 : ArC K (c.cE 4) (c.iE 4) "at"
  ar5 : ArC K (c.cE 5) (c.iE 5) "at"
  ar6 : ArC K (c.cE 6) (c.iE 6) "bound"
  ar7 : ArC K (c.cE 7) (c.iE 7) "at"
  ar8 : ArC K (c.cE 8) (c.iE 8) "end"
  ar9 : ArC K (c.cE 9) (c.iE 9) "limit"
  g_CopyError : ∃ u, mg "CopyError" = some u ∧ RelV (.ref c.cB) u
  m_CopyError : mg "CopyError" = some (.ref c.cB)
  xB : PySem.W.excIn K c.cB arTail "ArithmeticError.__new__" = true
  kcB : PySem.W.keepIn K (.ref c.cB) = true
  isE : ∀ i, i < 10 → IsC K (c.cE i)
  isB : IsC K c.cB
  kit : ∀ i j, i < 10 → j < 10 → PySem.W.kitOne K (.ref (c.cE i)) (.ref (c.cE j)) = some (decide (i = j))
  kB : ∀ j, j < 10 → PySem.W.kitOne K (.ref c.cB) (.ref (c.cE j)) = some false
  kEB : ∀ i, i < 10 → PySem.W.kitOne K (.ref (c.cE i)) (.ref c.cB) = some true
  kEA : ∀ i, i < 10 → PySem.W.kitOne K (.ref (c.cE i)) (.type "ArithmeticError") = some true
  kBA : PySem.W.kitOne K (.ref c.cB) (.type "ArithmeticError") = some true
  kEN : ∀ i, i < 10 → PySem.W.kitAny K (.ref (c.cE i)) [.type "ValueError", .type "TypeError", .type "LookupError"] = some false
section
variable {P : Program} {w : World} {K : PySem.W.Frag} {mg : Str → Option Value} {base : Heap} {c : Cs}
/-! ### the draws -/
def spDraw : Sp := fun vs H Q _ => ∃ (a : Addr) (m : Int), vs = [.ref a, .int m] ∧ Src H a ∧ 0 < m ∧ m < 1073741824 ∧
  ∀ r x y z : Int, 0 ≤ r → r < m → Q (.int r) (upd H a (.lst [.int x, .int y, .int z]))

abbrev s_draw : Stmt := top 17
theorem sc_draw : FnScope ["_law_source", "_law_many", "_law_found", "_law_mixed"] ["_law_source", "_law_many"] (defScope s_draw) := ⟨rfl, rfl, rfl, by decide +kernel, rfl, by decide +kernel, by decide +kernel⟩
theorem fmod_in {x m : Int} (h : 0 < m) : 0 ≤ x.fmod m ∧ x.fmod m < m := ⟨Int.fmod_nonneg_of_pos x h, Int.fmod_lt_of_pos x h⟩
theorem ok_draw {f : Addr} {fd : FuncData} (F : Fun K "_law_draw" "_law_draw" s_draw f fd) (T : Txt K mg w c) : FnOk P w K mg base CX0 1 f fd ["_law_source", "_law_many"] spDraw := by
  refine F.ok sc_draw (fun vs H Q E h => ?_) (fun cdv A outer s H vs Q E hr h => ?_)
  · obtain ⟨a, m, rfl, _⟩ := h
    rfl
  · obtain ⟨a, m, rfl, ⟨x, y, z, hs⟩, m0, m1, k⟩ := h
    refine ⟨_, (pss_cons (ps_if (pt_cmpR op_gt (pe_ix ix_list (pv 0) pe_int (fun _ _ => rfl)) pe_int (nomark _))
(pss_cons (ps_set (i := 2) sc_draw.nd rfl (Or.inl rfl) (pe_op op_modN (pe_callTy call_int1 (by rfl) T.n_int (by decide +kernel) (pa_cons (pe_ix ix_list (pv 0) pe_int (fun _ _ => rfl)) pa_nil)) (pv 1)))
(pss_cons (ps_asg (pe_op op_fdivN (pe_ix ix_list (pv 0) pe_int (fun _ _ => rfl)) (pv 1)) (pg_sub (pv 0) pe_int set_list))
(pss_one (ps_ret (pv 2)))))
pss_nil)
(pss_cons (ps_asg (pe_op op_add (pe_ix ix_list (pv 0) pe_int (fun _ _ => rfl)) pe_int) (pg_sub (pv 0) pe_int set_list))
(pss_cons (ps_set (i := 3) sc_draw.nd rfl (Or.inl rfl) (pe_op op_mod (pe_callTy call_int1 (by rfl) T.n_int (by decide +kernel) (pa_cons (pe_op op_mul (pe_op op_add (pe_ix ix_list (pv 0) pe_int (fun _ _ => rfl)) (pe_op op_mul pe_int (pe_ix ix_list (pv 0) pe_int (fun _ _ => rfl)))) pe_int) pa_nil)) pe_int))
(pss_cons (ps_set (i := 3) sc_draw.nd rfl (Or.inl rfl) (pe_op op_mod (pe_callTy call_int1 (by rfl) T.n_int (by decide +kernel) (pa_cons (pe_op op_mul (pv 3) (pe_op op_add (pe_op op_add (pe_op op_fdiv (pv 3) pe_int) pe_int) (pe_ix ix_list (pv 0) pe_int (fun _ _ => rfl)))) pa_nil)) pe_int))
(pss_one (ps_ret (pe_op op_modN (pe_callTy call_int1 (by rfl) T.n_int (by decide +kernel) (pa_cons (pe_op op_fdiv (pe_op op_mod (pe_callTy call_int1 (by rfl) T.n_int (by decide +kernel) (pa_cons (pe_op op_mul (pv 3) (pe_op op_add (pe_op op_fdiv (pv 3) pe_int) pe_int)) pa_nil)) pe_int) pe_int) pa_nil)) (pv 1)))))))), ?_⟩
    -- if _law_source[0] > 0
    refine ⟨_, rfl, a, _, _, _, rfl, rfl, SqL.of hs, at_of rfl rfl, _, _, rfl, rfl, _, rfl, ?_⟩
    refine ite2 (fun _ => ?_) (fun _ => ?_)
    · refine ⟨_, rfl, a, _, _, _, rfl, rfl, SqL.of hs, at_of rfl rfl, .inl ⟨_, rfl, ?_⟩⟩
      refine ⟨_, rfl, _, _, rfl, rfl, by omega, ?_⟩
      refine ⟨_, rfl, a, _, _, _, rfl, rfl, SqL.of hs, at_of rfl rfl, _, rfl, _, _, rfl, rfl, ⟨by omega, by omega⟩, ?_⟩
      refine ⟨_, rfl, a, _, _, 0, rfl, rfl, hs, rfl, ?_⟩
      refine ⟨_, rfl, ?_⟩
      exact k _ _ _ _ (fmod_in m0).1 (fmod_in m0).2
    · refine ⟨_, rfl, a, _, _, _, rfl, rfl, SqL.of hs, at_of rfl rfl, _, _, rfl, rfl, ?_⟩
      refine ⟨_, rfl, a, _, _, 2, rfl, rfl, hs, rfl, ?_⟩
      have hs1 : upd H a (.lst [.int x, .int y, .int (z + 1)]) a = some (.lst [.int x, .int y, .int (z + 1)]) := upd_same
      refine ⟨_, rfl, a, _, _, _, rfl, rfl, SqL.of hs1, at_of rfl rfl, _, rfl, a, _, _, _, rfl, rfl, SqL.of hs1, at_of rfl rfl, 8191, z + 1, rfl, rfl, .inl ⟨by decide, by decide⟩, ?_⟩
      refine ⟨y, 8191 * (z + 1), rfl, rfl, y + 8191 * (z + 1), 48271, rfl, rfl, .inr ⟨by decide, by decide⟩, .inl ⟨_, rfl, ?_⟩⟩
      refine ⟨_, 2147483647, rfl, rfl, (by show (0 : Int) < 2147483647; decide), ?_⟩
      have b1 : -(2 ^ 64) < (y + 8191 * (z + 1)) * 48271 % 2147483647 ∧ (y + 8191 * (z + 1)) * 48271 % 2147483647 < 2 ^ 64 := by omega
      refine ⟨_, rfl, _, rfl, _, 1021, rfl, rfl, ⟨by decide, by decide⟩, _, 69621, rfl, rfl, _, rfl, a, _, _, _, rfl, rfl, SqL.of hs1, at_of rfl rfl, _, z + 1, rfl, rfl, ?_⟩
      refine ⟨_, _, rfl, rfl, .inl b1, .inl ⟨_, rfl, ?_⟩⟩
      refine ⟨_, 2147483587, rfl, rfl, (by show (0 : Int) < 2147483587; decide), ?_⟩
      refine ⟨_, rfl, _, rfl, _, 2011, rfl, rfl, ⟨by decide, by decide⟩, _, 40692, rfl, rfl, ?_⟩
      refine ⟨_, _, rfl, rfl, .inl ⟨?_, ?_⟩, .inl ⟨_, rfl, ?_⟩⟩
      · have q := fun u : Int => Int.emod_nonneg u (b := 2147483587) (by decide)
        exact Int.lt_of_lt_of_le (by decide) (q _)
      · have q := fun u : Int => Int.emod_lt_of_pos u (b := 2147483587) (by decide)
        exact Int.lt_trans (q _) (by decide)
      refine ⟨_, 2147483549, rfl, rfl, (by show (0 : Int) < 2147483549; decide), ?_⟩
      refine ⟨_, 13, rfl, rfl, ⟨by decide, by decide⟩, .inl ⟨_, rfl, ?_⟩⟩
      refine ⟨_, rfl, _, m, rfl, rfl, by omega, ?_⟩
      exact k _ _ _ _ (fmod_in m0).1 (fmod_in m0).2
/-! ### _law_cell_at, _law_source_of -/
def spCellAt (K : PySem.W.Frag) : Sp := fun vs H Q _ => ∃ (l : Addr) (ns : List Int), vs = [.ref l, .int 0] ∧ SqL K H l (ns.map V.int) ∧ ∀ i, Q (.int i) H
abbrev s_cell_at : Stmt := top 15
theorem sc_cell_at : FnScope ["_law_script", "_law_k"] ["_law_script", "_law_k"] (defScope s_cell_at) := ⟨rfl, rfl, rfl, by decide +kernel, rfl, by decide +kernel, by decide +kernel⟩
theorem ok_cell_at {f : Addr} {fd : FuncData} (Fn : Fun K "_law_cell_at" "_law_cell_at" s_cell_at f fd) (T : Txt K mg w c) : FnOk P w K mg base CX0 1 f fd ["_law_script", "_law_k"] (spCellAt K) := by
  refine Fn.ok sc_cell_at (fun vs H Q E h => ?_) (fun cdv A0 outer s0 H vs Q E hr h => ?_)
  · obtain ⟨l, ns, rfl, _⟩ := h
    rfl
  · obtain ⟨l, ns, rfl, hl, k⟩ := h
    refine ⟨_, (pss_one (ps_ret (pe_ifExp (pt_cmpR op_lt (pv 1) (pe_callB call_len_seq (by rfl) T.n_len (by decide +kernel) (pa_cons (pv 0) pa_nil)) (nomark _)) (pe_ix ix_list (pv 0) (pv 1) (fun _ _ => rfl)) pe_int))), ?_⟩
    refine ⟨_, rfl, _, rfl, l, _, rfl, .inl hl, _, _, rfl, rfl, _, rfl, ?_⟩
    cases ns with
    | nil => exact iteF (k 0)
    | cons n ns =>
      refine (if_pos (decide_eq_true (by rw [List.length_map, List.length_cons]; omega))).mpr ?_
      exact ⟨_, rfl, _, rfl, l, _, 0, _, rfl, rfl, hl, at_of rfl rfl, k n⟩
def spSourceOf : Sp := fun vs H Q _ => ∃ i : Int, vs = [.int i] ∧ ∀ (p : Addr) (x y z : Int), H p = none → Q (.ref p) (upd H p (.lst [.int x, .int y, .int z]))
abbrev s_source_of : Stmt := top 16
theorem sc_source_of : FnScope ["_law_cell"] ["_law_cell"] (defScope s_source_of) := ⟨rfl, rfl, rfl, by decide +kernel, rfl, by decide +kernel, by decide +kernel⟩
theorem ok_source_of {f : Addr} {fd : FuncData} (Fn : Fun K "_law_source_of" "_law_source_of" s_source_of f fd) (T : Txt K mg w c) : FnOk P w K mg base CX0 1 f fd ["_law_cell"] spSourceOf := by
  refine Fn.ok sc_source_of (fun vs H Q E h => ?_) (fun cdv A0 outer s0 H vs Q E hr h => ?_)
  · obtain ⟨i, rfl, _⟩ := h
    rfl
  · obtain ⟨i, rfl, k⟩ := h
    refine ⟨_, (pss_one (ps_ret (pe_lst (pa_cons (pe_op op_mul (pv 0) (pe_callTy call_int1 (by rfl) T.n_int (by decide +kernel) (pa_cons (pe_cmpR op_ge (pv 0) (pe_op op_pow pe_int pe_int) (nomark _)) pa_nil))) (pa_cons (pe_op op_add (pe_op op_mod (pe_callTy call_int1 (by rfl) T.n_int (by decide +kernel) (pa_cons (pv 0) pa_nil)) pe_int) pe_int) (pa_cons pe_int pa_nil)))))), ?_⟩
    refine ⟨_, rfl, _, rfl, 10, 18, rfl, rfl, ⟨by decide, by decide, by decide⟩, _, _, rfl, rfl, .inr ⟨_, rfl, ?_⟩⟩
    refine ⟨_, _, rfl, rfl, .inr ?_, ?_⟩
    · cases decide ((10 : Int) ^ (18 : Int).toNat ≤ i) <;> exact ⟨by decide, by decide⟩
    refine ⟨_, rfl, .inl ⟨_, rfl, _, _, rfl, rfl, (by show (0 : Int) < 2147483629; decide), _, _, rfl, rfl, ?_⟩⟩
    refine ⟨by show 3 ≤ sizeLine; decide, fun p np => ?_⟩
    exact k p _ _ _ np

def spIsInt (K : PySem.W.Frag) : Sp := fun vs H Q _ => ∃ (v : V) (o : O), vs = [v] ∧ Ob K H v o ∧ Q (.bl o.isInt) H
abbrev s_is_integer : Stmt := top 1
theorem sc_is_integer : FnScope ["value"] ["value"] (defScope s_is_integer) := ⟨rfl, rfl, rfl, by decide +kernel, rfl, by decide +kernel, by decide +kernel⟩
theorem ok_is_integer {f : Addr} {fd : FuncData} (F : Fun K "is_integer" "is_integer" s_is_integer f fd) (T : Txt K mg w c) : FnOk P w K mg base CX0 1 f fd ["value"] (spIsInt K) := by
  refine F.ok sc_is_integer (fun vs H Q E h => ?_) (fun cdv A outer s H vs Q E hr h => ?_)
  · obtain ⟨v, o, rfl, _⟩ := h
    rfl
  · obtain ⟨v, o, rfl, ho, k⟩ := h
    refine ⟨_, (pss_one (ps_ret (pe_and (pe_callB call_isi (by rfl) T.n_isinstance (by decide +kernel) (pa_cons (pv 0) (pa_cons (pe_bltn (v := .ty "int") rfl T.n_int (by decide +kernel) rfl) pa_nil))) (pe_one (pe_not (pe_callB call_isi (by rfl) T.n_isinstance (by decide +kernel) (pa_cons (pv 0) (pa_cons (pe_bltn (v := .ty "bool") rfl T.n_bool (by decide +kernel) rfl) pa_nil)))))))), ?_⟩
    rw [← is_int] at k
    refine ⟨_, rfl, v, _, _, _, _, rfl, .ty _, ho.tyx, kit_ty (kb_int o), _, rfl, ?_⟩
    cases e : o.is "int" with
    | true =>
      rw [e] at k
      exact iteT ⟨_, rfl, v, _, _, _, _, rfl, .ty _, ho.tyx, kit_ty (kb_bool o), _, rfl, k⟩
    | false =>
      rw [e] at k
      exact iteF k


/-! ### _law_kinds -/
theorem exIn_mono {H H' : Hp} {a C : Addr} (h : ExIn H a C) (e : Same H H') : ExIn H' a C := by
  rcases h with h | ⟨f, y, d, h1, h2⟩
  · exact .inl (e _ _ h)
  · exact .inr ⟨f, y, d, e _ _ h1, e _ _ h2⟩
theorem exAt_mono {H H' : Hp} {a C : Addr} {f : Str} {y : V} (h : ExAt H a C f y) (e : Same H H') : ExAt H' a C f y := by
  obtain ⟨d, h1, h2⟩ := h
  exact ⟨d, e _ _ h1, e _ _ h2⟩
def ten (k : Nat → Bool) : List Bool := [k 0, k 1, k 2, k 3, k 4, k 5, k 6, k 7, k 8, k 9]
theorem getTen {k : Nat → Bool} {i : Nat} (h : i < 10) : ((ten k).map V.bl)[i]? = some (.bl ((ten k).getD i false)) := by
  match i, h with
  | 0, _ => rfl
  | 1, _ => rfl
  | 2, _ => rfl
  | 3, _ => rfl
  | 4, _ => rfl
  | 5, _ => rfl
  | 6, _ => rfl
  | 7, _ => rfl
  | 8, _ => rfl
  | 9, _ => rfl
theorem tenT {k : Nat → Bool} {i : Nat} (h : (ten k).getD i false = true) : (((List.range (i + 1)).filter fun j => (ten k).getD j false).map fun j => V.int (j : Nat)) = (((List.range i).filter fun j => (ten k).getD j false).map fun j => V.int (j : Nat)) ++ [V.int (i : Nat)] := by
  rw [List.range_succ, List.filter_append, List.map_append, List.filter_cons, if_pos h]
  rfl
theorem tenF {k : Nat → Bool} {i : Nat} (h : (ten k).getD i false = false) : (((List.range (i + 1)).filter fun j => (ten k).getD j false).map fun j => V.int (j : Nat)) = (((List.range i).filter fun j => (ten k).getD j false).map fun j => V.int (j : Nat)) := by
  rw [List.range_succ, List.filter_append, List.map_append, List.filter_cons, if_neg (by rw [h]; exact Bool.false_ne_true)]
  exact List.append_nil _
theorem tenL {k : Nat → Bool} {i : Nat} (h : i < 10) : (((List.range i).filter fun j => (ten k).getD j false).map fun j => V.int (j : Nat)).length < sizeLine := by
  rw [List.length_map]
  have z := List.length_filter_le (fun j => (ten k).getD j false) (List.range i)
  rw [List.length_range] at z
  exact small1000 (by omega)
def spKinds (K : PySem.W.Frag) (c : Cs) : Sp := fun vs H Q _ => ∃ (a C : Addr) (k : Nat → Bool), vs = [.ref a] ∧ IsC K C ∧ ExIn H a C ∧ (∀ j, j < 10 → PySem.W.kitOne K (.ref C) (.ref (c.cE j)) = some (k j)) ∧
  ∀ H' p, Same H H' → H p = none → H' p = some (.lst (((List.range 10).filter fun i => (ten k).getD i false).map fun i => V.int (i : Nat))) → Q (.ref p) H'
abbrev s_kinds : Stmt := top 19
theorem sc_kinds : FnScope ["_law_e", "_law_some", "_law_k_so", "_law_mark"] ["_law_e"] (defScope s_kinds) := ⟨rfl, rfl, rfl, by decide +kernel, rfl, by decide +kernel, by decide +kernel⟩
theorem ok_kinds {f : Addr} {fd : FuncData} (Fn : Fun K "_law_kinds" "_law_kinds" s_kinds f fd) (T : Txt K mg w c) : FnOk P w K mg base CX0 1 f fd ["_law_e"] (spKinds K c) := by
  refine Fn.ok sc_kinds (fun vs H Q E h => ?_) (fun cdv A0 outer s0 H vs Q E hr h => ?_)
  · obtain ⟨a, C, k, rfl, _⟩ := h
    rfl
  · obtain ⟨a, C, kb, rfl, ic, hx, hk, k⟩ := h
    refine ⟨_, (pss_cons (ps_set (i := 1) sc_kinds.nd rfl (Or.inl rfl) (pe_lst (pa_cons (pe_callB call_isA (by rfl) T.n_isinstance (by decide +kernel) (pa_cons (pv 0) (pa_cons (pe_gc rfl T.g_InvalidCode) pa_nil))) (pa_cons (pe_callB call_isA (by rfl) T.n_isinstance (by decide +kernel) (pa_cons (pv 0) (pa_cons (pe_gc rfl T.g_InvalidNumber) pa_nil))) (pa_cons (pe_callB call_isA (by rfl) T.n_isinstance (by decide +kernel) (pa_cons (pv 0) (pa_cons (pe_gc rfl T.g_InvalidAnswers) pa_nil))) pa_nil)))))
(pss_cons (ps_set (i := 1) sc_kinds.nd rfl (Or.inl rfl) (pe_op op_cat (pv 1) (pe_lst (pa_cons (pe_callB call_isA (by rfl) T.n_isinstance (by decide +kernel) (pa_cons (pv 0) (pa_cons (pe_gc rfl T.g_InvalidWay) pa_nil))) (pa_cons (pe_callB call_isA (by rfl) T.n_isinstance (by decide +kernel) (pa_cons (pv 0) (pa_cons (pe_gc rfl T.g_InvalidTable) pa_nil))) (pa_cons (pe_callB call_isA (by rfl) T.n_isinstance (by decide +kernel) (pa_cons (pv 0) (pa_cons (pe_gc rfl T.g_InvalidFinals) pa_nil))) pa_nil))))))
(pss_cons (ps_set (i := 1) sc_kinds.nd rfl (Or.inl rfl) (pe_op op_cat (pv 1) (pe_lst (pa_cons (pe_callB call_isA (by rfl) T.n_isinstance (by decide +kernel) (pa_cons (pv 0) (pa_cons (pe_gc rfl T.g_InvalidBound) pa_nil))) (pa_cons (pe_callB call_isA (by rfl) T.n_isinstance (by decide +kernel) (pa_cons (pv 0) (pa_cons (pe_gc rfl T.g_InvalidText) pa_nil))) (pa_cons (pe_callB call_isA (by rfl) T.n_isinstance (by decide +kernel) (pa_cons (pv 0) (pa_cons (pe_gc rfl T.g_NotWaiting) pa_nil))) pa_nil))))))
(pss_cons (ps_expr (pe_bm PySem.F.plainAttrs_list PySem.F.slot_list_append PySem.F.type_list_append mt_append (pv 1) (pa_cons (pe_callB call_isA (by rfl) T.n_isinstance (by decide +kernel) (pa_cons (pv 0) (pa_cons (pe_gc rfl T.g_LimitExceeded) pa_nil))) pa_nil)))
(pss_one (ps_ret (pe_lc (g := gTup K 2 (gCons (gName 2) (gCons (gName 3) gNil))) (own := [("_law_k_so", 2), ("_law_mark", 3)]) rfl sc_kinds.nd (pi_enum rfl T.n_enumerate (pa_cons (pv 1) pa_nil)) (blkOk_by (N := ["_law_e", "_law_some", "_law_k_so", "_law_mark"]) (sc := defScope s_kinds) (by decide +kernel)) (fun _ _ _ _ _ => pg_tup rfl (pgs_cons (pg_name (i := 2) sc_kinds.nd rfl (Or.inl rfl) (Or.inr rfl)) (pgs_cons (pg_name (i := 3) sc_kinds.nd rfl (Or.inl rfl) (Or.inr rfl)) pgs_nil))) (fun _ _ _ _ _ => (pts_one (pt_val (pv 3)))) (fun _ _ _ _ _ => (pv 2))))))))), ?_⟩
    have q3 : (3 : Nat) ≤ sizeLine := by decide
    refine ⟨_, rfl, a, C, _, _, _, rfl, .own _, ic, exIn_mono hx (Same.refl H), hk 0 (by decide), _, rfl, a, C, _, _, _, rfl, .own _, ic, exIn_mono hx (Same.refl H), hk 1 (by decide), _, rfl, a, C, _, _, _, rfl, .own _, ic, exIn_mono hx (Same.refl H), hk 2 (by decide), q3, fun l1 n1 => ?_⟩
    have s1 : Same H (upd H l1 (.lst [.bl (kb 0), .bl (kb 1), .bl (kb 2)])) := Fc.Same.put n1
    refine ⟨_, rfl, _, rfl, a, C, _, _, _, rfl, .own _, ic, exIn_mono hx s1, hk 3 (by decide), _, rfl, a, C, _, _, _, rfl, .own _, ic, exIn_mono hx s1, hk 4 (by decide), _, rfl, a, C, _, _, _, rfl, .own _, ic, exIn_mono hx s1, hk 5 (by decide), q3, fun l2 n2 => ?_⟩
    have s2 := Fc.Same.new (o := .lst [.bl (kb 3), .bl (kb 4), .bl (kb 5)]) s1 n2
    have e1 : upd (upd H l1 (.lst [.bl (kb 0), .bl (kb 1), .bl (kb 2)])) l2 (.lst [.bl (kb 3), .bl (kb 4), .bl (kb 5)]) l1 = some (.lst [.bl (kb 0), .bl (kb 1), .bl (kb 2)]) := by
      rw [upd_ne (ne_of_none upd_same n2)]
      exact upd_same
    refine ⟨l1, l2, _, _, rfl, rfl, e1, upd_same, by show 6 ≤ sizeLine; decide, fun p1 m1 => ?_⟩
    have s3 := Fc.Same.new (o := .lst ([.bl (kb 0), .bl (kb 1), .bl (kb 2)] ++ [.bl (kb 3), .bl (kb 4), .bl (kb 5)])) s2 m1
    refine ⟨_, rfl, _, rfl, a, C, _, _, _, rfl, .own _, ic, exIn_mono hx s3, hk 6 (by decide), _, rfl, a, C, _, _, _, rfl, .own _, ic, exIn_mono hx s3, hk 7 (by decide), _, rfl, a, C, _, _, _, rfl, .own _, ic, exIn_mono hx s3, hk 8 (by decide), q3, fun l3 n3 => ?_⟩
    have s4 := Fc.Same.new (o := .lst [.bl (kb 6), .bl (kb 7), .bl (kb 8)]) s3 n3
    refine ⟨p1, l3, _, _, rfl, rfl, by rw [upd_ne (ne_of_none upd_same n3)]; exact upd_same, upd_same, by show 9 ≤ sizeLine; decide, fun p2 m2 => ?_⟩
    have s5 := Fc.Same.new (o := .lst ([.bl (kb 0), .bl (kb 1), .bl (kb 2)] ++ [.bl (kb 3), .bl (kb 4), .bl (kb 5)] ++ [.bl (kb 6), .bl (kb 7), .bl (kb 8)])) s4 m2
    obtain ⟨H1, eH⟩ : ∃ H1, H1 = upd (upd (upd (upd (upd H l1 (.lst [.bl (kb 0), .bl (kb 1), .bl (kb 2)])) l2 (.lst [.bl (kb 3), .bl (kb 4), .bl (kb 5)])) p1 (.lst ([.bl (kb 0), .bl (kb 1), .bl (kb 2)] ++ [.bl (kb 3), .bl (kb 4), .bl (kb 5)]))) l3 (.lst [.bl (kb 6), .bl (kb 7), .bl (kb 8)])) p2
        (.lst ([.bl (kb 0), .bl (kb 1), .bl (kb 2)] ++ [.bl (kb 3), .bl (kb 4), .bl (kb 5)] ++ [.bl (kb 6), .bl (kb 7), .bl (kb 8)])) := ⟨_, rfl⟩
    have ep2 : H1 p2 = some (.lst ([.bl (kb 0), .bl (kb 1), .bl (kb 2)] ++ [.bl (kb 3), .bl (kb 4), .bl (kb 5)] ++ [.bl (kb 6), .bl (kb 7), .bl (kb 8)])) := by
      rw [eH]
      exact upd_same
    have hp2 : H p2 = none := Same.free s4 m2
    rw [← eH] at s5 ⊢
    clear eH m2 n3 m1 n2 n1 s1 s2 s3 s4 e1
    refine ⟨_, rfl, .inl ⟨rfl, _, SqL.of ep2⟩, _, rfl, a, C, _, _, _, rfl, .own _, ic, exIn_mono hx s5, hk 9 (by decide), p2, _, _, rfl, rfl, ep2, by show 9 < sizeLine; decide, ?_⟩
    have s6 := Fc.Same.chg (o := .lst ((ten kb).map V.bl)) s5 hp2
    have e10 : upd H1 p2 (.lst ([V.bl (kb 0), .bl (kb 1), .bl (kb 2)] ++ [.bl (kb 3), .bl (kb 4), .bl (kb 5)] ++ [.bl (kb 6), .bl (kb 7), .bl (kb 8)] ++ [.bl (kb 9)])) = upd H1 p2 (.lst ((ten kb).map V.bl)) := rfl
    rw [e10]
    refine ⟨_, rfl, p2, _, rfl, SqL.of upd_same, fun D hD => ?_⟩
    refine lc_it (n := 10) (fun i H' => Same (upd H1 p2 (.lst ((ten kb).map V.bl))) H' ∧ H' D = some (.lst (((List.range i).filter fun j => (ten kb).getD j false).map fun j => V.int (j : Nat)))) ⟨Fc.Same.put hD, upd_same⟩ ?_ ?_ ?_ ?_
    · rintro i H' hi ⟨s7, e7⟩
      exact ⟨_, .bl ((ten kb).getD i false), SqL.of (s7 _ _ upd_same), getTen hi⟩
    · rintro H' ⟨s7, e7⟩
      exact ⟨_, SqL.of (s7 _ _ upd_same), Nat.le_refl _⟩
    · rintro i v H2 H3 hi ⟨s7, e7⟩ ⟨T0, x, rfl, nT, rfl, hT⟩
      have ex := hT _ (SqL.of (s7 _ _ upd_same))
      rw [getTen hi] at ex
      cases ex
      have s8 := Fc.Same.new (o := .tup [.int (i : Nat), .bl ((ten kb).getD i false)]) s7 nT
      have e8 : upd H2 T0 (.tup [.int (i : Nat), .bl ((ten kb).getD i false)]) D = some (.lst (((List.range i).filter fun j => (ten kb).getD j false).map fun j => V.int (j : Nat))) := by
        rw [upd_ne (ne_of_none e7 nT)]
        exact e7
      refine ⟨T0, _, rfl, SqT.of upd_same, rfl, _, _, rfl, _, _, rfl, rfl, rfl, _, rfl, _, rfl, ?_⟩
      cases hb : (ten kb).getD i false with
      | true =>
        rw [hb] at s8 e8
        refine iteT ⟨_, rfl, _, e8, tenL hi, Fc.Same.chg s8 hD, ?_⟩
        rw [upd_same, tenT hb]
      | false =>
        rw [hb] at s8 e8
        refine iteF ⟨s8, ?_⟩
        rw [e8, tenF hb]
    · rintro H' ⟨s7, e7⟩
      exact k H' D (fun b o q => s7 b o (s6 b o q)) (Same.free s6 hD) e7
end
end K5
end L2
set_option Elab.async false
set_option linter.all false
set_option maxRecDepth 100000
set_option maxHeartbeats 8000000
namespace L2
namespace K5
open PySem PySem.Spec PyProof.Rows Fc C8
/-- ten errors that hold y -/
structure Errs (c : Cs) (A : Nat → Addr) (y : V) (H : Hp) : Prop where
  x0 : ExAt H (A 0) (c.cE 0) "number" y
  x1 : ExAt H (A 1) (c.cE 1) "number" y
  x2 : ExAt H (A 2) (c.cE 2) "at" y
  x3 : ExAt H (A 3) (c.cE 3) "way" y
  x4 : ExAt H (A 4) (c.cE 4) "at" y
  x5 : ExAt H (A 5) (c.cE 5) "at" y
  x6 : ExAt H (A 6) (c.cE 6) "bound" y
  x7 : ExAt H (A 7) (c.cE 7) "at" y
  x8 : ExAt H (A 8) (c.cE 8) "end" y
  x9 : ExAt H (A 9) (c.cE 9) "limit" y
theorem errs_mono {c : Cs} {A : Nat → Addr} {y : V} {H H' : Hp} (e : Errs c A y H) (s : Same H H') : Errs c A y H' :=
  ⟨exAt_mono e.x0 s, exAt_mono e.x1 s, exAt_mono e.x2 s, exAt_mono e.x3 s, exAt_mono e.x4 s, exAt_mono e.x5 s, exAt_mono e.x6 s, exAt_mono e.x7 s, exAt_mono e.x8 s, exAt_mono e.x9 s⟩
def refs (A : Nat → Addr) : List V := [.ref (A 0), .ref (A 1), .ref (A 2), .ref (A 3), .ref (A 4), .ref (A 5), .ref (A 6), .ref (A 7), .ref (A 8), .ref (A 9)]
section
variable {P : Program} {w : World} {K : PySem.W.Frag} {mg : Str → Option Value} {base : Heap} {c : Cs}
theorem errs_in {A : Nat → Addr} {y : V} {H : Hp} (e : Errs c A y H) : ∀ i, i < 10 → ExIn H (A i) (c.cE i)
  | 0, _ => .inr ⟨_, _, e.x0⟩
  | 1, _ => .inr ⟨_, _, e.x1⟩
  | 2, _ => .inr ⟨_, _, e.x2⟩
  | 3, _ => .inr ⟨_, _, e.x3⟩
  | 4, _ => .inr ⟨_, _, e.x4⟩
  | 5, _ => .inr ⟨_, _, e.x5⟩
  | 6, _ => .inr ⟨_, _, e.x6⟩
  | 7, _ => .inr ⟨_, _, e.x7⟩
  | 8, _ => .inr ⟨_, _, e.x8⟩
  | 9, _ => .inr ⟨_, _, e.x9⟩

/-! ### _law_fields -/
def spFields (c : Cs) : Sp := fun vs H Q _ => ∃ (l : Addr) (A : Nat → Addr) (y : V), vs = [.ref l] ∧ H l = some (.lst (refs A)) ∧ Errs c A y H ∧ ∀ H' p, Same H H' → H p = none → H' p = some (.lst (List.replicate 10 y)) → Q (.ref p) H'
abbrev s_fields : Stmt := top 20
theorem sc_fields : FnScope ["_law_errors", "_law_found"] ["_law_errors"] (defScope s_fields) := ⟨rfl, rfl, rfl, by decide +kernel, rfl, by decide +kernel, by decide +kernel⟩
theorem ok_fields {f : Addr} {fd : FuncData} (Fn : Fun K "_law_fields" "_law_fields" s_fields f fd) (T : Txt K mg w c) : FnOk P w K mg base CX0 1 f fd ["_law_errors"] (spFields c) := by
  refine Fn.ok sc_fields (fun vs H Q E h => ?_) (fun cdv A0 outer s0 H vs Q E hr h => ?_)
  · obtain ⟨l, A, y, rfl, _⟩ := h
    rfl
  · obtain ⟨l, A, y, rfl, hl, e, k⟩ := h
    refine ⟨_, (pss_cons (ps_set (i := 1) sc_fields.nd rfl (Or.inl rfl) (pe_lst (pa_cons (pe_af (pe_ix ix_list (pv 0) pe_int (fun _ _ => rfl))) (pa_cons (pe_af (pe_ix ix_list (pv 0) pe_int (fun _ _ => rfl))) (pa_cons (pe_af (pe_ix ix_list (pv 0) pe_int (fun _ _ => rfl))) (pa_cons (pe_af (pe_ix ix_list (pv 0) pe_int (fun _ _ => rfl))) (pa_cons (pe_af (pe_ix ix_list (pv 0) pe_int (fun _ _ => rfl))) (pa_cons (pe_af (pe_ix ix_list (pv 0) pe_int (fun _ _ => rfl))) pa_nil))))))))
(pss_one (ps_ret (pe_op op_cat (pv 1) (pe_lst (pa_cons (pe_af (pe_ix ix_list (pv 0) pe_int (fun _ _ => rfl))) (pa_cons (pe_af (pe_ix ix_list (pv 0) pe_int (fun _ _ => rfl))) (pa_cons (pe_af (pe_ix ix_list (pv 0) pe_int (fun _ _ => rfl))) (pa_cons (pe_af (pe_ix ix_list (pv 0) pe_int (fun _ _ => rfl))) pa_nil))))))))), ?_⟩
    refine ⟨_, rfl, l, _, _, _, rfl, rfl, SqL.of hl, at_of rfl rfl, _, _, _, _, rfl, T.ar0, e.x0, _, rfl, l, _, _, _, rfl, rfl, SqL.of hl, at_of rfl rfl, _, _, _, _, rfl, T.ar1, e.x1, _, rfl, l, _, _, _, rfl, rfl, SqL.of hl, at_of rfl rfl, _, _, _, _, rfl, T.ar2, e.x2, _, rfl, l, _, _, _, rfl, rfl, SqL.of hl, at_of rfl rfl, _, _, _, _, rfl, T.ar3, e.x3, _, rfl, l, _, _, _, rfl, rfl, SqL.of hl, at_of rfl rfl, _, _, _, _, rfl, T.ar4, e.x4, _, rfl, l, _, _, _, rfl, rfl, SqL.of hl, at_of rfl rfl, _, _, _, _, rfl, T.ar5, e.x5, (by show 6 ≤ sizeLine; decide), fun l1 n1 => ?_⟩
    have s1 : Same H (upd H l1 (.lst [y, y, y, y, y, y])) := Fc.Same.put n1
    have e1 := errs_mono e s1
    have hl1 : upd H l1 (.lst [y, y, y, y, y, y]) l = some (.lst (refs A)) := s1 _ _ hl
    refine ⟨_, rfl, _, rfl, l, _, _, _, rfl, rfl, SqL.of hl1, at_of rfl rfl, _, _, _, _, rfl, T.ar6, e1.x6, _, rfl, l, _, _, _, rfl, rfl, SqL.of hl1, at_of rfl rfl, _, _, _, _, rfl, T.ar7, e1.x7, _, rfl, l, _, _, _, rfl, rfl, SqL.of hl1, at_of rfl rfl, _, _, _, _, rfl, T.ar8, e1.x8, _, rfl, l, _, _, _, rfl, rfl, SqL.of hl1, at_of rfl rfl, _, _, _, _, rfl, T.ar9, e1.x9, (by show 4 ≤ sizeLine; decide), fun l2 n2 => ?_⟩
    refine ⟨l1, l2, _, _, rfl, rfl, by rw [upd_ne (ne_of_none upd_same n2)]; exact upd_same, upd_same, by show 10 ≤ sizeLine; decide, fun p np => ?_⟩
    have s2 := Fc.Same.new (o := .lst [y, y, y, y]) s1 n2
    exact k _ p (Fc.Same.new s2 np) (Same.free s2 np) upd_same
end
end K5
end L2
set_option Elab.async false
set_option linter.all false
set_option maxRecDepth 100000
set_option maxHeartbeats 8000000
namespace L2
namespace K5
open PySem PySem.Spec PyProof.Rows Fc C8
/-- the ten classes, to be called -/
structure Vs (P : Program) (w : World) (K : PySem.W.Frag) (mg : Str → Option Value) (base : Heap) (c : Cs) : Prop where
  v0 : ExcV P w K mg base 1 "InvalidCode" (c.cE 0) "number"
  v1 : ExcV P w K mg base 1 "InvalidNumber" (c.cE 1) "number"
  v2 : ExcV P w K mg base 1 "InvalidAnswers" (c.cE 2) "at"
  v3 : ExcV P w K mg base 1 "InvalidWay" (c.cE 3) "way"
  v4 : ExcV P w K mg base 1 "InvalidTable" (c.cE 4) "at"
  v5 : ExcV P w K mg base 1 "InvalidFinals" (c.cE 5) "at"
  v6 : ExcV P w K mg base 1 "InvalidBound" (c.cE 6) "bound"
  v7 : ExcV P w K mg base 1 "InvalidText" (c.cE 7) "at"
  v8 : ExcV P w K mg base 1 "NotWaiting" (c.cE 8) "end"
  v9 : ExcV P w K mg base 1 "LimitExceeded" (c.cE 9) "limit"
theorem exAt_upd {G : Hp} {p a C : Addr} {f : Str} {y : V} {xs zs : List V} (hp : G p = some (.lst xs)) (h : ExAt G a C f y) : ExAt (upd G p (.lst zs)) a C f y := by
  obtain ⟨d, h1, h2⟩ := h
  have na : a ≠ p := fun z => by
    rw [z, hp] at h1
    exact nomatch h1
  have nd : d ≠ p := fun z => by
    rw [z, hp] at h2
    exact nomatch h2
  exact ⟨d, by rw [upd_ne na]; exact h1, by rw [upd_ne nd]; exact h2⟩
mutual
theorem dp_mono {K : PySem.W.Frag} {H H' : Hp} (s : Same H H') : ∀ {v : V} {d : PyData}, Dp K H v d → Dp K H' v d
  | _, _, .non => .non
  | _, _, .bl b => .bl b
  | _, _, .int i => .int i
  | _, _, .str x => .str x
  | _, _, .lst h r => .lst (L2.Same.seq s h) (dpa_mono s r)
  | _, _, .tup h r => .tup (Fc.Same.sqt s h) (dpa_mono s r)
theorem dpa_mono {K : PySem.W.Frag} {H H' : Hp} (s : Same H H') : ∀ {vs : List V} {ds : List PyData}, DpAll K H vs ds → DpAll K H' vs ds
  | _, _, .nil => .nil
  | _, _, .cons h r => .cons (dp_mono s h) (dpa_mono s r)
end
theorem dpa_rep {K : PySem.W.Frag} {H : Hp} {v : V} {d : PyData} (h : Dp K H v d) : ∀ n, DpAll K H (List.replicate n v) (List.replicate n d)
  | 0 => .nil
  | n + 1 => by
    rw [List.replicate_succ, List.replicate_succ]
    exact .cons h (dpa_rep h n)
theorem eqv_of {d : PyData} (h : SeqAt.shaped d = true) : PyData.eqv d d = true := SeqAt.eqv_refl d (SeqAt.canLay_of_shaped h)
theorem ne_data {K : PySem.W.Frag} {H : Hp} {p m : Addr} {xs ys : List V} {ds : List PyData} {Q : VK} (hp : H p = some (.lst xs)) (hm : H m = some (.lst ys)) (d1 : DpAll K H xs ds) (d2 : DpAll K H ys ds)
    (sh : SeqAt.shaped (.list ds) = true) (q : Q (.bl false) H) : rNeD K (.ref p) (.ref m) H Q := by
  refine ⟨.list ds, .list ds, .lst (SqL.of hp) d1, .lst (SqL.of hm) d2, sh, sh, ?_⟩
  rw [eqv_of sh]
  exact q
theorem refs_get {A : Nat → Addr} {i : Nat} (h : i < 10) : (refs A)[i]? = some (.ref (A i)) := by
  match i, h with
  | 0, _ => rfl
  | 1, _ => rfl
  | 2, _ => rfl
  | 3, _ => rfl
  | 4, _ => rfl
  | 5, _ => rfl
  | 6, _ => rfl
  | 7, _ => rfl
  | 8, _ => rfl
  | 9, _ => rfl
theorem only_one {i : Nat} (h : i < 10) : (((List.range 10).filter fun m => (ten fun j => decide (i = j)).getD m false).map fun m => V.int (m : Nat)) = [V.int (i : Nat)] := by
  match i, h with
  | 0, _ => rfl
  | 1, _ => rfl
  | 2, _ => rfl
  | 3, _ => rfl
  | 4, _ => rfl
  | 5, _ => rfl
  | 6, _ => rfl
  | 7, _ => rfl
  | 8, _ => rfl
  | 9, _ => rfl
/-- lists of one number each, from n on -/
def Ones (H : Hp) : Nat → List Addr → Prop
  | _, [] => True
  | n, q :: qs => H q = some (.lst [.int (n : Nat)]) ∧ Ones H (n + 1) qs
theorem ones_mono {H H' : Hp} (s : Same H H') : ∀ {n : Nat} {qs : List Addr}, Ones H n qs → Ones H' n qs
  | _, [], _ => trivial
  | _, _ :: _, h => ⟨s _ _ h.1, ones_mono s h.2⟩
theorem ones_snoc {H : Hp} {q : Addr} : ∀ {n : Nat} {qs : List Addr}, Ones H n qs → H q = some (.lst [.int ((n + qs.length : Nat) : Int)]) → Ones H n (qs ++ [q])
  | _, [], _, h => ⟨h, trivial⟩
  | n, _ :: qs, g, h => ⟨g.1, ones_snoc g.2 (by rw [h, List.length_cons]; congr 5; omega)⟩
theorem ones_off {H : Hp} {D : Addr} {rs : List Addr} {o : HO} (hD : H D = some (.lst (rs.map V.ref))) : ∀ {n : Nat} {qs : List Addr}, Ones H n qs → Ones (upd H D o) n qs
  | _, [], _ => trivial
  | n, q :: qs, h => by
    have nq : q ≠ D := fun z => by
      have e := h.1
      rw [z, hD] at e
      cases rs with
      | nil => cases e
      | cons r rs => cases e
    exact ⟨by rw [upd_ne nq]; exact h.1, ones_off hD h.2⟩
def onesD : Nat → Nat → List PyData
  | _, 0 => []
  | n, k + 1 => .list [.int (n : Nat)] :: onesD (n + 1) k
theorem ones_dp {K : PySem.W.Frag} {H : Hp} : ∀ {n : Nat} {qs : List Addr}, Ones H n qs → DpAll K H (qs.map V.ref) (onesD n qs.length)
  | _, [], _ => .nil
  | _, _ :: _, h => .cons (.lst (SqL.of h.1) (.cons (.int _) .nil)) (ones_dp h.2)
section
variable {P : Program} {w : World} {K : PySem.W.Frag} {mg : Str → Option Value} {base : Heap} {c : Cs}

/-! ### _law_right -/
def spRight (K : PySem.W.Frag) : Sp := fun vs H Q _ => ∃ (y : V) (d : PyData), vs = [y] ∧ Dp K H y d ∧ SeqAt.shaped (.list (List.replicate 10 d)) = true ∧ ∀ H', Same H H' → Q (.bl true) H'
abbrev s_right : Stmt := top 21
theorem sc_right : FnScope ["_law_field", "_law_errors", "_law_named", "_law_some", "_law_e", "_law_k_so"] ["_law_field"] (defScope s_right) := ⟨rfl, rfl, rfl, by decide +kernel, rfl, by decide +kernel, by decide +kernel⟩
theorem ok_right {f : Addr} {fd : FuncData} (Fn : Fun K "_law_right" "_law_right" s_right f fd) (T : Txt K mg w c) (v : Vs P w K mg base c) (c_fields : Cal P w K mg base 1 "_law_fields" (spFields c) []) (c_kinds : Cal P w K mg base 1 "_law_kinds" (spKinds K c) []) :
    FnOk P w K mg base CX0 3 f fd ["_law_field"] (spRight K) := by
  refine Fn.ok sc_right (fun vs H Q E h => ?_) (fun cdv A0 outer s0 H vs Q E hr h => ?_)
  · obtain ⟨y, d, rfl, _⟩ := h
    rfl
  · obtain ⟨y, d, rfl, dy, sh, k⟩ := h
    refine ⟨_, (pss_cons (ps_set (i := 1) sc_right.nd rfl (Or.inl rfl) (pe_lst (pa_cons (pe_ar v.v0 hr (by decide) rfl (pa_cons (pv 0) pa_nil)) (pa_cons (pe_ar v.v1 hr (by decide) rfl (pa_cons (pv 0) pa_nil)) (pa_cons (pe_ar v.v2 hr (by decide) rfl (pa_cons (pv 0) pa_nil)) (pa_cons (pe_ar v.v3 hr (by decide) rfl (pa_cons (pv 0) pa_nil)) (pa_cons (pe_ar v.v4 hr (by decide) rfl (pa_cons (pv 0) pa_nil)) pa_nil)))))))
(pss_cons (ps_set (i := 1) sc_right.nd rfl (Or.inl rfl) (pe_op op_cat (pv 1) (pe_lst (pa_cons (pe_ar v.v5 hr (by decide) rfl (pa_cons (pv 0) pa_nil)) (pa_cons (pe_ar v.v6 hr (by decide) rfl (pa_cons (pv 0) pa_nil)) (pa_cons (pe_ar v.v7 hr (by decide) rfl (pa_cons (pv 0) pa_nil)) (pa_cons (pe_ar v.v8 hr (by decide) rfl (pa_cons (pv 0) pa_nil)) pa_nil)))))))
(pss_cons (ps_expr (pe_bm PySem.F.plainAttrs_list PySem.F.slot_list_append PySem.F.type_list_append mt_append (pv 1) (pa_cons (pe_ar v.v9 hr (by decide) rfl (pa_cons (pv 0) pa_nil)) pa_nil)))
(pss_cons (ps_set (i := 2) sc_right.nd rfl (Or.inl rfl) (pe_lst (pa_cons (pe_ark v.v0 hr (by decide) rfl (pk_cons (pv 0) pk_nil)) (pa_cons (pe_ark v.v1 hr (by decide) rfl (pk_cons (pv 0) pk_nil)) (pa_cons (pe_ark v.v2 hr (by decide) rfl (pk_cons (pv 0) pk_nil)) (pa_cons (pe_ark v.v3 hr (by decide) rfl (pk_cons (pv 0) pk_nil)) pa_nil))))))
(pss_cons (ps_set (i := 2) sc_right.nd rfl (Or.inl rfl) (pe_op op_cat (pv 2) (pe_lst (pa_cons (pe_ark v.v4 hr (by decide) rfl (pk_cons (pv 0) pk_nil)) (pa_cons (pe_ark v.v5 hr (by decide) rfl (pk_cons (pv 0) pk_nil)) (pa_cons (pe_ark v.v6 hr (by decide) rfl (pk_cons (pv 0) pk_nil)) (pa_cons (pe_ark v.v7 hr (by decide) rfl (pk_cons (pv 0) pk_nil)) pa_nil)))))))
(pss_cons (ps_set (i := 2) sc_right.nd rfl (Or.inl rfl) (pe_op op_cat (pv 2) (pe_lst (pa_cons (pe_ark v.v8 hr (by decide) rfl (pk_cons (pv 0) pk_nil)) (pa_cons (pe_ark v.v9 hr (by decide) rfl (pk_cons (pv 0) pk_nil)) pa_nil)))))
(pss_cons (ps_for PassesOwn.never rfl (pi_tup (pe_tup (pa_cons (pv 1) (pa_cons (pv 2) pa_nil)))) (pg_name (i := 3) sc_right.nd rfl (Or.inl rfl))
(pss_cons (ps_if (PW.pt (pw_or (pt_cmpR (op_neD hr.units) (pe_c c_fields hr (by decide) rfl (pa_cons (pv 3) pa_nil)) (pe_op op_rep (pe_lst (pa_cons (pv 0) pa_nil)) pe_int) (nomark _)) (pw_or1 (pt_cmpR (op_neD hr.units) (pe_lc (own := [("_law_e", 4)]) rfl sc_right.nd (pi_list (pv 3)) (blkOk_by (N := ["_law_field", "_law_errors", "_law_named", "_law_some", "_law_e", "_law_k_so"]) (sc := defScope s_right) (by decide +kernel)) (fun _ _ _ _ _ => pg_name (i := 4) sc_right.nd rfl (Or.inl rfl)) (fun _ _ _ _ _ => pts_nil) (fun _ _ _ _ _ => (pe_c c_kinds hr (by decide) rfl (pa_cons (pv 4) pa_nil)))) (pe_lc (own := [("_law_k_so", 5)]) rfl sc_right.nd (pi_range1 rfl T.n_range (pa_cons pe_int pa_nil)) (blkOk_by (N := ["_law_field", "_law_errors", "_law_named", "_law_some", "_law_e", "_law_k_so"]) (sc := defScope s_right) (by decide +kernel)) (fun _ _ _ _ _ => pg_name (i := 5) sc_right.nd rfl (Or.inl rfl)) (fun _ _ _ _ _ => pts_nil) (fun _ _ _ _ _ => (pe_lst (pa_cons (pv 5) pa_nil)))) (nomark _)))))
(pss_one (ps_ret pe_bl))
pss_nil)
(pss_cons (ps_if (pt_not (pt_val (pe_callB (cr_all rfl) (by rfl) T.n_all (by decide +kernel) (pa_cons (pe_lc (te := tAndV (tCB (rIsA K) (tCons (tVar 4) (tCons (tC (.ref c.cB)) tNil))) (tCB (rIsA K) (tCons (tVar 4) (tCons (tC (.ty "ArithmeticError")) tNil)))) (own := [("_law_e", 4)]) rfl sc_right.nd (pi_list (pv 3)) (blkOk_by (N := ["_law_field", "_law_errors", "_law_named", "_law_some", "_law_e", "_law_k_so"]) (sc := defScope s_right) (by decide +kernel)) (fun _ _ _ _ _ => pg_name (i := 4) sc_right.nd rfl (Or.inl rfl)) (fun _ _ _ _ _ => pts_nil) (fun _ _ _ _ _ => (pe_and (pe_callB call_isA (by rfl) T.n_isinstance (by decide +kernel) (pa_cons (pv 4) (pa_cons (pe_gc rfl T.g_CopyError) pa_nil))) (pe_one (pe_callB call_isA (by rfl) T.n_isinstance (by decide +kernel) (pa_cons (pv 4) (pa_cons (pe_bltn (v := .ty "ArithmeticError") rfl T.n_ArithmeticError (by decide +kernel) rfl) pa_nil))))))) pa_nil))))
(pss_one (ps_ret pe_bl))
pss_nil)
(pss_one (ps_if (pt_cmpR (op_neD hr.units) (pe_lc (tt := tB (tCB (rIsAT K) (tCons (tVar 4) (tCons (tTup (tCons (tC (.ty "ValueError")) (tCons (tC (.ty "TypeError")) (tCons (tC (.ty "LookupError")) tNil)))) tNil)))) (own := [("_law_e", 4)]) rfl sc_right.nd (pi_list (pv 3)) (blkOk_by (N := ["_law_field", "_law_errors", "_law_named", "_law_some", "_law_e", "_law_k_so"]) (sc := defScope s_right) (by decide +kernel)) (fun _ _ _ _ _ => pg_name (i := 4) sc_right.nd rfl (Or.inl rfl)) (fun _ _ _ _ _ => (pts_one (pt_val (pe_callB call_isAT (by rfl) T.n_isinstance (by decide +kernel) (pa_cons (pv 4) (pa_cons (pe_tup (pa_cons (pe_bltn (v := .ty "ValueError") rfl T.n_ValueError (by decide +kernel) rfl) (pa_cons (pe_bltn (v := .ty "TypeError") rfl T.n_TypeError (by decide +kernel) rfl) (pa_cons (pe_bltn (v := .ty "LookupError") rfl T.n_LookupError (by decide +kernel) rfl) pa_nil)))) pa_nil)))))) (fun _ _ _ _ _ => pe_int)) (pe_lst pa_nil) (nomark _))
(pss_one (ps_ret pe_bl))
pss_nil)))))
(pss_one (ps_ret pe_bl))))))))), ?_⟩
    refine ⟨_, rfl, y, rfl, fun ea0 eG0 er0 en0 ex0 => ⟨_, rfl, y, rfl, fun ea1 eG1 er1 en1 ex1 => ⟨_, rfl, y, rfl, fun ea2 eG2 er2 en2 ex2 => ⟨_, rfl, y, rfl, fun ea3 eG3 er3 en3 ex3 => ⟨_, rfl, y, rfl, fun ea4 eG4 er4 en4 ex4 => ⟨(by show 5 ≤ sizeLine; decide), fun l1 m1 => ?_⟩⟩⟩⟩⟩⟩
    have et0 : Same H eG0 := er0
    have et1 : Same H eG1 := fun b o q => er1 b o (et0 b o q)
    have et2 : Same H eG2 := fun b o q => er2 b o (et1 b o q)
    have et3 : Same H eG3 := fun b o q => er3 b o (et2 b o q)
    have et4 : Same H eG4 := fun b o q => er4 b o (et3 b o q)
    have q1 : Same H (upd eG4 l1 (.lst [.ref ea0, .ref ea1, .ref ea2, .ref ea3, .ref ea4])) := Fc.Same.new et4 m1
    refine ⟨_, rfl, _, rfl, y, rfl, fun ea5 eG5 er5 en5 ex5 => ⟨_, rfl, y, rfl, fun ea6 eG6 er6 en6 ex6 => ⟨_, rfl, y, rfl, fun ea7 eG7 er7 en7 ex7 => ⟨_, rfl, y, rfl, fun ea8 eG8 er8 en8 ex8 => ⟨(by show 4 ≤ sizeLine; decide), fun l2 m2 => ?_⟩⟩⟩⟩⟩
    have et5 : Same H eG5 := fun b o q => er5 b o (q1 b o q)
    have et6 : Same H eG6 := fun b o q => er6 b o (et5 b o q)
    have et7 : Same H eG7 := fun b o q => er7 b o (et6 b o q)
    have et8 : Same H eG8 := fun b o q => er8 b o (et7 b o q)
    have h1 : eG8 l1 = some (.lst [.ref ea0, .ref ea1, .ref ea2, .ref ea3, .ref ea4]) := er8 _ _ (er7 _ _ (er6 _ _ (er5 _ _ upd_same)))
    refine ⟨l1, l2, _, _, rfl, rfl, by rw [upd_ne (ne_of_none h1 m2)]; exact h1, upd_same, by show 9 ≤ sizeLine; decide, fun p1 m3 => ?_⟩
    have q2 := Fc.Same.new (o := .lst [.ref ea5, .ref ea6, .ref ea7, .ref ea8]) et8 m2
    have hp1 : H p1 = none := Same.free q2 m3
    have q3 := Fc.Same.new (o := .lst ([.ref ea0, .ref ea1, .ref ea2, .ref ea3, .ref ea4] ++ [.ref ea5, .ref ea6, .ref ea7, .ref ea8])) q2 m3
    refine ⟨_, rfl, .inl ⟨rfl, _, SqL.of upd_same⟩, _, rfl, y, rfl, fun ea9 eG9 er9 en9 ex9 => ⟨p1, _, _, rfl, rfl, er9 _ _ upd_same, (by show 9 < sizeLine; decide), ?_⟩⟩
    have et9 : Same H eG9 := fun b o q => er9 b o (q3 b o q)
    have w8 : Same eG8 eG9 := fun b o q => er9 b o (Fc.Same.new (Fc.Same.put m2) m3 b o q)
    have w7 : Same eG7 eG9 := fun b o q => w8 b o (er8 b o q)
    have w6 : Same eG6 eG9 := fun b o q => w7 b o (er7 b o q)
    have w5 : Same eG5 eG9 := fun b o q => w6 b o (er6 b o q)
    have w4 : Same eG4 eG9 := fun b o q => w5 b o (er5 b o (Fc.Same.put m1 b o q))
    have w3 : Same eG3 eG9 := fun b o q => w4 b o (er4 b o q)
    have w2 : Same eG2 eG9 := fun b o q => w3 b o (er3 b o q)
    have w1 : Same eG1 eG9 := fun b o q => w2 b o (er2 b o q)
    have w0 : Same eG0 eG9 := fun b o q => w1 b o (er1 b o q)
    have e9 : eG9 p1 = some (.lst ([.ref ea0, .ref ea1, .ref ea2, .ref ea3, .ref ea4] ++ [.ref ea5, .ref ea6, .ref ea7, .ref ea8])) := er9 _ _ upd_same
    let A : Nat → Addr := fun i => [ea0, ea1, ea2, ea3, ea4, ea5, ea6, ea7, ea8, ea9].getD i 0
    have EE : Errs c A y (upd eG9 p1 (.lst (refs A))) := ⟨exAt_upd e9 (exAt_mono ex0 w0), exAt_upd e9 (exAt_mono ex1 w1), exAt_upd e9 (exAt_mono ex2 w2), exAt_upd e9 (exAt_mono ex3 w3), exAt_upd e9 (exAt_mono ex4 w4), exAt_upd e9 (exAt_mono ex5 w5), exAt_upd e9 (exAt_mono ex6 w6), exAt_upd e9 (exAt_mono ex7 w7), exAt_upd e9 (exAt_mono ex8 w8), exAt_upd e9 ex9⟩
    have HN : Same H (upd eG9 p1 (.lst (refs A))) := Fc.Same.chg et9 hp1
    have eN : upd eG9 p1 (.lst ([.ref ea0, .ref ea1, .ref ea2, .ref ea3, .ref ea4] ++ [.ref ea5, .ref ea6, .ref ea7, .ref ea8] ++ [.ref ea9])) = upd eG9 p1 (.lst (refs A)) := rfl
    rw [eN]
    have hN1 : upd eG9 p1 (.lst (refs A)) p1 = some (.lst (refs A)) := upd_same
    obtain ⟨N0, eN0⟩ : ∃ N0, N0 = upd eG9 p1 (.lst (refs A)) := ⟨_, rfl⟩
    rw [← eN0] at EE HN hN1 ⊢
    clear eN eN0 w0 w1 w2 w3 w4 w5 w6 w7 w8 e9 et9 et8 et7 et6 et5 et4 et3 et2 et1 et0 q1 q2 q3 m1 m2 m3 h1 hp1 ex0 ex1 ex2 ex3 ex4 ex5 ex6 ex7 ex8 ex9 er0 er1 er2 er3 er4 er5 er6 er7 er8 er9
    clear_value A
    refine ⟨_, rfl, y, rfl, fun na0 nG0 nr0 nn0 nx0 => ⟨_, rfl, y, rfl, fun na1 nG1 nr1 nn1 nx1 => ⟨_, rfl, y, rfl, fun na2 nG2 nr2 nn2 nx2 => ⟨_, rfl, y, rfl, fun na3 nG3 nr3 nn3 nx3 => ⟨(by show 4 ≤ sizeLine; decide), fun l4 m4 => ?_⟩⟩⟩⟩⟩
    refine ⟨_, rfl, _, rfl, y, rfl, fun na4 nG4 nr4 nn4 nx4 => ⟨_, rfl, y, rfl, fun na5 nG5 nr5 nn5 nx5 => ⟨_, rfl, y, rfl, fun na6 nG6 nr6 nn6 nx6 => ⟨_, rfl, y, rfl, fun na7 nG7 nr7 nn7 nx7 => ⟨(by show 4 ≤ sizeLine; decide), fun l5 m5 => ?_⟩⟩⟩⟩⟩
    have h4 : nG7 l4 = some (.lst [.ref na0, .ref na1, .ref na2, .ref na3]) := nr7 _ _ (nr6 _ _ (nr5 _ _ (nr4 _ _ upd_same)))
    refine ⟨l4, l5, _, _, rfl, rfl, by rw [upd_ne (ne_of_none h4 m5)]; exact h4, upd_same, by show 8 ≤ sizeLine; decide, fun p3 m6 => ?_⟩
    refine ⟨_, rfl, _, rfl, y, rfl, fun na8 nG8 nr8 nn8 nx8 => ⟨_, rfl, y, rfl, fun na9 nG9 nr9 nn9 nx9 => ⟨(by show 2 ≤ sizeLine; decide), fun l6 m7 => ?_⟩⟩⟩
    have h6 : nG9 p3 = some (.lst ([.ref na0, .ref na1, .ref na2, .ref na3] ++ [.ref na4, .ref na5, .ref na6, .ref na7])) := nr9 _ _ (nr8 _ _ upd_same)
    refine ⟨p3, l6, _, _, rfl, rfl, by rw [upd_ne (ne_of_none h6 m7)]; exact h6, upd_same, by show 10 ≤ sizeLine; decide, fun p4 m8 => ?_⟩
    let B : Nat → Addr := fun i => [na0, na1, na2, na3, na4, na5, na6, na7, na8, na9].getD i 0
    obtain ⟨Z, eZ⟩ : ∃ Z, Z = upd (upd nG9 l6 (.lst [.ref na8, .ref na9])) p4 (.lst (refs B)) := ⟨_, rfl⟩
    have eZ2 : upd (upd nG9 l6 (.lst [.ref na8, .ref na9])) p4 (.lst ([.ref na0, .ref na1, .ref na2, .ref na3] ++ [.ref na4, .ref na5, .ref na6, .ref na7] ++ [.ref na8, .ref na9])) = Z := eZ.symm
    have u9 : Same nG9 Z := by
      rw [eZ]
      exact Fc.Same.new (Fc.Same.put m7) m8
    have u8 : Same nG8 Z := fun b o q => u9 b o (nr9 b o q)
    have u7 : Same nG7 Z := fun b o q => u8 b o (nr8 b o (Fc.Same.new (Fc.Same.put m5) m6 b o q))
    have u6 : Same nG6 Z := fun b o q => u7 b o (nr7 b o q)
    have u5 : Same nG5 Z := fun b o q => u6 b o (nr6 b o q)
    have u4 : Same nG4 Z := fun b o q => u5 b o (nr5 b o q)
    have u3 : Same nG3 Z := fun b o q => u4 b o (nr4 b o (Fc.Same.put m4 b o q))
    have u2 : Same nG2 Z := fun b o q => u3 b o (nr3 b o q)
    have u1 : Same nG1 Z := fun b o q => u2 b o (nr2 b o q)
    have u0 : Same nG0 Z := fun b o q => u1 b o (nr1 b o q)
    have uN : Same N0 Z := fun b o q => u0 b o (nr0 b o q)
    have EN : Errs c B y Z := ⟨exAt_mono nx0 u0, exAt_mono nx1 u1, exAt_mono nx2 u2, exAt_mono nx3 u3, exAt_mono nx4 u4, exAt_mono nx5 u5, exAt_mono nx6 u6, exAt_mono nx7 u7, exAt_mono nx8 u8, exAt_mono nx9 u9⟩
    have EZ := errs_mono EE uN
    have HZ : Same H Z := fun b o q => uN b o (HN b o q)
    have z1 : Z p1 = some (.lst (refs A)) := uN _ _ hN1
    have z4 : Z p4 = some (.lst (refs B)) := by
      rw [eZ]
      exact upd_same
    rw [eZ2]
    clear eZ eZ2 u0 u1 u2 u3 u4 u5 u6 u7 u8 u9 uN HN hN1 EE h4 h6 m4 m5 m6 m7 m8 nx0 nx1 nx2 nx3 nx4 nx5 nx6 nx7 nx8 nx9 nr0 nr1 nr2 nr3 nr4 nr5 nr6 nr7 nr8 nr9
    clear_value B
    -- the loop over both lists
    refine ⟨_, rfl, _, rfl, by show 2 ≤ sizeLine; decide, fun t nt => ?_⟩
    have ZT : Same Z (upd Z t (.tup [.ref p1, .ref p4])) := Fc.Same.put nt
    obtain ⟨Z1, eZ1⟩ : ∃ Z1, Z1 = upd Z t (.tup [.ref p1, .ref p4]) := ⟨_, rfl⟩
    have ht : Z1 t = some (.tup [.ref p1, .ref p4]) := by
      rw [eZ1]
      exact upd_same
    rw [← eZ1] at ZT ⊢
    have HZ1 : Same H Z1 := fun b o q => ZT b o (HZ b o q)
    clear eZ1 nt HZ
    refine ⟨t, rfl, ⟨_, SqT.of ht⟩, for_tup (K := K) (a := t) (xs := [.ref p1, .ref p4]) (fun i σ H' => ∃ x3, σ = [some y, some (.ref p1), some (.ref p4), x3, none, none] ∧ Same Z1 H') ⟨none, rfl, Same.refl Z1⟩ (fun i σ H' _ ⟨_, _, s⟩ => SqT.of (s _ _ ht)) ?_ ?_⟩
    · rintro i x σ H1 hi ⟨x3, rfl, s1⟩
      obtain ⟨l, A', rfl, hl, ee⟩ : ∃ l A', x = V.ref l ∧ H1 l = some (.lst (refs A')) ∧ Errs c A' y H1 := by
        have hj : i < 2 := (List.getElem?_eq_some_iff.mp hi).1
        match i, hj, hi with
        | 0, _, hi =>
          cases hi
          exact ⟨p1, A, rfl, s1 _ _ (ZT _ _ z1), errs_mono EZ fun b o q => s1 b o (ZT b o q)⟩
        | 1, _, hi =>
          cases hi
          exact ⟨p4, B, rfl, s1 _ _ (ZT _ _ z4), errs_mono EN fun b o q => s1 b o (ZT b o q)⟩
      have dy1 : Dp K H1 y d := dp_mono (fun b o q => s1 b o (HZ1 b o q)) dy
      -- the fields
      refine ⟨_, rfl, l, A', y, rfl, hl, ee, fun H2 p s2 np hp => ?_⟩
      refine ⟨_, rfl, by show 1 ≤ sizeLine; decide, fun l7 m7 => ⟨l7, 10, [y], rfl, rfl, upd_same, by decide, by decide, (by show 1 * 10 ≤ sizeLine; decide), fun q nq => ?_⟩⟩
      have hrep : (List.replicate (Int.toNat 10) [y]).flatten = List.replicate 10 y := List.flatten_replicate_singleton
      rw [hrep]
      have s3 : Same H2 (upd (upd H2 l7 (.lst [y])) q (.lst (List.replicate 10 y))) := Fc.Same.new (Fc.Same.put m7) nq
      have dy2 : Dp K (upd (upd H2 l7 (.lst [y])) q (.lst (List.replicate 10 y))) y d := dp_mono (fun b o u => s3 b o (s2 b o u)) dy1
      refine ne_data (s3 _ _ hp) upd_same (dpa_rep dy2 10) (dpa_rep dy2 10) sh ⟨_, rfl, iteF ?_⟩
      have s4 : Same H1 (upd (upd H2 l7 (.lst [y])) q (.lst (List.replicate 10 y))) := fun b o u => s3 b o (s2 b o u)
      obtain ⟨H3, e3⟩ : ∃ H3, H3 = upd (upd H2 l7 (.lst [y])) q (.lst (List.replicate 10 y)) := ⟨_, rfl⟩
      rw [← e3] at s4 ⊢
      clear e3 s3 dy2 hrep nq m7 hp np s2 dy1
      have ee3 := errs_mono ee s4
      have hl3 := s4 _ _ hl
      -- the kinds
      refine ⟨_, rfl, l, rfl, ⟨_, SqL.of hl3⟩, fun D nD => ?_⟩
      refine lc_it (n := 10) (fun i H' => Same H3 H' ∧ ∃ qs : List Addr, qs.length = i ∧ H' D = some (.lst (qs.map V.ref)) ∧ Ones H' 0 qs) ⟨Fc.Same.put nD, [], rfl, upd_same, trivial⟩ ?_ ?_ ?_ ?_
      · rintro i H' hi ⟨s5, _⟩
        exact ⟨_, _, SqL.of (s5 _ _ hl3), refs_get hi⟩
      · rintro H' ⟨s5, _⟩
        exact ⟨_, SqL.of (s5 _ _ hl3), Nat.le_refl _⟩
      · rintro i x H4 H4' hi ⟨s5, qs, lq, hD, on⟩ ⟨rfl, hx⟩
        have ex := hx _ (SqL.of (s5 _ _ hl3))
        rw [refs_get hi] at ex
        cases ex
        refine ⟨rfl, ?_⟩
        refine ⟨_, rfl, A' i, c.cE i, fun j => decide (i = j), rfl, T.isE i hi, errs_in (errs_mono ee3 s5) i hi, fun j hj => T.kit i j hi hj, fun H5 p5 s6 n5 h5 => ?_⟩
        rw [only_one hi] at h5
        have hD5 := s6 _ _ hD
        have s7 : Same H3 H5 := fun b o u => s6 b o (s5 b o u)
        refine ⟨_, hD5, by rw [List.length_map, lq]; exact small1000 (by omega), Fc.Same.chg s7 nD, qs ++ [p5], by rw [List.length_append, List.length_singleton, lq], by rw [upd_same, List.map_append]; rfl, ?_⟩
        refine ones_snoc (ones_off hD5 (ones_mono s6 on)) ?_
        rw [upd_ne (ne_of_none hD n5).symm, h5, Nat.zero_add, lq]
      · rintro H4 ⟨s5, qs, lq, hD, on⟩
        refine ⟨10, rfl, by decide, by decide, fun D2 nD2 => ?_⟩
        refine lc_it (n := 10) (fun i H' => Same H4 H' ∧ ∃ ps : List Addr, ps.length = i ∧ H' D2 = some (.lst (ps.map V.ref)) ∧ Ones H' 0 ps) ⟨Fc.Same.put nD2, [], rfl, upd_same, trivial⟩ (fun i H' hi _ => hi) (fun H' _ => Nat.le_refl _) ?_ ?_
        · rintro i x H5 H5' hi ⟨s6, ps, lp, hp, op⟩ ⟨rfl, rfl⟩
          refine ⟨rfl, ?_⟩
          refine ⟨_, rfl, by show 1 ≤ sizeLine; decide, fun p6 n6 => ?_⟩
          have hp6 : upd H5' p6 (.lst [.int (0 + (i : Int))]) D2 = some (.lst (ps.map V.ref)) := by
            rw [upd_ne (ne_of_none hp n6)]
            exact hp
          refine ⟨_, hp6, by rw [List.length_map, lp]; exact small1000 (by omega), Fc.Same.chg (Fc.Same.new s6 n6) nD2, ps ++ [p6], by rw [List.length_append, List.length_singleton, lp], by rw [upd_same, List.map_append]; rfl, ?_⟩
          refine ones_snoc (ones_off hp6 (ones_mono (Fc.Same.put n6) op)) ?_
          rw [upd_ne (ne_of_none hp n6).symm, upd_same, Nat.zero_add, lp, Int.zero_add]
        · rintro H5 ⟨s6, ps, lp, hp, op⟩
          have on5 := ones_dp (K := K) (ones_mono s6 on)
          have op5 := ones_dp (K := K) op
          rw [lq] at on5
          rw [lp] at op5
          refine ne_data (s6 _ _ hD) hp on5 op5 (by decide +kernel) ⟨_, rfl, iteF ?_⟩
          have s7 : Same H3 H5 := fun b o u => s6 b o (s5 b o u)
          have ee5 := errs_mono ee3 s7
          have hl5 := s7 _ _ hl3
          have s8 : Same H1 H5 := fun b o u => s7 b o (s4 b o u)
          clear on5 op5 on op hD hp lq lp s5 s6 s7 nD nD2
          -- all of them are errors of the package, and arithmetic ones
          refine ⟨_, rfl, l, rfl, ⟨_, SqL.of hl5⟩, fun D3 nD3 => ?_⟩
          refine lc_it (n := 10) (fun i H' => Same H5 H' ∧ H' D3 = some (.lst ((List.replicate i true).map V.bl))) ⟨Fc.Same.put nD3, upd_same⟩ ?_ ?_ ?_ ?_
          · rintro i H' hi ⟨s5, _⟩
            exact ⟨_, _, SqL.of (s5 _ _ hl5), refs_get hi⟩
          · rintro H' ⟨s5, _⟩
            exact ⟨_, SqL.of (s5 _ _ hl5), Nat.le_refl _⟩
          · rintro i x H6 H6' hi ⟨s9, hD⟩ ⟨rfl, hx⟩
            have ex := hx _ (SqL.of (s9 _ _ hl5))
            rw [refs_get hi] at ex
            cases ex
            have ei := errs_in (errs_mono ee5 s9) i hi
            refine ⟨rfl, ?_⟩
            refine ⟨_, rfl, A' i, c.cE i, _, _, _, rfl, .own _, T.isE i hi, ei, T.kEB i hi, _, rfl, ?_⟩
            refine iteT ⟨_, rfl, A' i, c.cE i, _, _, _, rfl, .ty _, T.isE i hi, ei, T.kEA i hi, ?_⟩
            refine ⟨_, hD, by rw [List.length_map, List.length_replicate]; exact small1000 (by omega), Fc.Same.chg s9 nD3, ?_⟩
            rw [upd_same, List.replicate_succ', List.map_append]
            rfl
          · rintro H6 ⟨s9, hD⟩
            refine ⟨D3, List.replicate 10 true, rfl, SqL.of hD, _, rfl, iteF ?_⟩
            have ee6 := errs_mono ee5 s9
            have hl6 := s9 _ _ hl5
            -- none is of another kind
            refine ⟨_, rfl, l, rfl, ⟨_, SqL.of hl6⟩, fun D4 nD4 => ?_⟩
            refine lc_it (n := 10) (fun i H' => Same H6 H' ∧ H' D4 = some (.lst [])) ⟨Fc.Same.put nD4, upd_same⟩ ?_ ?_ ?_ ?_
            · rintro i H' hi ⟨s5, _⟩
              exact ⟨_, _, SqL.of (s5 _ _ hl6), refs_get hi⟩
            · rintro H' ⟨s5, _⟩
              exact ⟨_, SqL.of (s5 _ _ hl6), Nat.le_refl _⟩
            · rintro i x H7 H7' hi ⟨s10, hD4⟩ ⟨rfl, hx⟩
              have ex := hx _ (SqL.of (s10 _ _ hl6))
              rw [refs_get hi] at ex
              cases ex
              refine ⟨rfl, ?_⟩
              refine ⟨_, rfl, by show 3 ≤ sizeLine; decide, fun t3 n3 => ?_⟩
              have s11 := Fc.Same.new (o := .tup [.ty "ValueError", .ty "TypeError", .ty "LookupError"]) s10 n3
              refine ⟨A' i, c.cE i, t3, _, _, _, rfl, upd_same, .cons (.ty _) (.cons (.ty _) (.cons (.ty _) .nil)), T.isE i hi, errs_in (errs_mono ee6 s11) i hi, T.kEN i hi, _, rfl, ?_⟩
              refine iteF ⟨s11, ?_⟩
              rw [upd_ne (ne_of_none hD4 n3)]
              exact hD4
            · rintro H7 ⟨s10, hD4⟩
              refine ⟨Nat.zero_le _, fun m nm => ?_⟩
              refine ne_data (ds := []) (by rw [upd_ne (ne_of_none hD4 nm)]; exact hD4) upd_same .nil .nil (by decide +kernel) ⟨_, rfl, iteF ?_⟩
              exact ⟨_, rfl, Fc.Same.new (fun b o u => s10 b o (s9 b o (s8 b o (s1 b o u)))) nm⟩
    · rintro σ H1 ⟨x3, rfl, s1⟩
      exact k H1 fun b o q => s1 b o (HZ1 b o q)
end
end K5
end L2
set_option Elab.async false
set_option linter.all false
set_option maxRecDepth 100000
set_option maxHeartbeats 8000000
namespace L2
namespace K5
open PySem PySem.Spec PyProof.Rows Fc C8
/-- a def of one parameter n that is called by its keyword -/
structure CalK (P : Program) (w : World) (K : PySem.W.Frag) (mg : Str → Option Value) (base : Heap) (k : Nat) (x n : Str) (sp : Sp) : Prop where
  ex : ∃ (f : Addr) (fd : FuncData) (ps : List Str), FnOk P w K mg base CX0 k f fd ps sp ∧ mg x = some (.ref f) ∧ PySem.W.keepIn K (.ref f) = true ∧ ∀ (s : Shared) (u : Value), K.In s.heap → BindsTo s fd ⟨[], [(n, u)]⟩ (ps.zip [u])
def tK0 (sp : Sp) (tk : TA) : TE := fun σ H Q => tk σ H fun zs H1 => ∃ y, zs = [y] ∧ sp [y] H1 Q E0
theorem pe_k0 {X : Cx} {x n : Str} {k j : Nat} {sp : Sp} {tk : TA} {e : Expr} {p pos kpos : Pos} (c : CalK X.prog X.w X.K X.mg X.base k x n sp) (hr : Room j X.A) (hk : k ≤ j) (hg : Gl X x) (hkw : PK X [⟨some n, e, kpos⟩] tk)
    (hdb : (x == ("__debug__" : Str)) = false := by decide) (hall : (backToKw pos (keywordEach [⟨some n, e, kpos⟩] X.env)).all (·.1.isSome) = true := by rfl) (hks : (backToKw pos (keywordEach [⟨some n, e, kpos⟩] X.env)).filterMap (·.1) = [n] := by rfl)
    (hpl : ((backTo pos (starEach [] X.env)).any (·.1) || (backToKw pos (keywordEach [⟨some n, e, kpos⟩] X.env)).any (·.1.isNone)) = false := by rfl) :
    PE X (.Call (.Name x p) [] [⟨some n, e, kpos⟩] pos) (tK0 sp tk) := by
  obtain ⟨f, fd, ps, F, hm, kp, hb⟩ := c.ex
  refine ⟨fun pins s σ H Q I h => ?_⟩
  refine wpAny_Call_Name_kw (ld_glob I hg hm ?_ hdb)
  refine PySem.W.callWith_KW0 (h₀ := X.base) I.ok.mod.kin kp hall ?_ hpl
  refine thn (hkw.run pos pins s σ H _ I h) fun ws s1 hh => ?_
  obtain ⟨vs, H1, I1, r1, y, ey, q1⟩ := hh
  subst ey
  obtain ⟨u, rfl, ry⟩ := vals1 r1
  rw [hks]
  refine ⟨I1.kIn, ?_⟩
  refine wpAny_call (codeAny_mono (F.run X.A X.stack s1 H1 ⟨[], [(n, u)]⟩ [u] [y] Q E0 (hr.mono hk) I1.env0 (hb s1 u I1.kIn) (.cons ry .nil) q1) fun r s' hq => ?_)
  cases r with
  | error er => exact pass0 pins σ _ _ er _ I1 hq
  | ok fl =>
    cases fl with
    | ret w => exact I1.after hq
    | next => exact False.elim hq
    | brk => exact False.elim hq
    | cont => exact False.elim hq
theorem sh_int (n : Int) : SeqAt.shaped (.list (List.replicate 10 (.int n))) = true := rfl
theorem sh_tup (n : Int) : SeqAt.shaped (.list (List.replicate 10 (.tuple [.str "break", .int n]))) = true := by
  refine Bool.and_eq_true_iff.mpr ⟨?_, rfl⟩
  have h1 : PyData.canLay0 (.tuple [.str "break", .int n]) = true := by
    have h2 : PyData.canLay0 (.str "break") = true := by decide +kernel
    have h3 : PyData.canLay0 (.int n) = true := rfl
    simp only [PyData.canLay0, PyData.canLayAll0] at h2 h3 ⊢
    simp only [h2, Bool.and_true]
  have h4 : ∀ k, PyData.canLayAll0 (List.replicate k (.tuple [.str "break", .int n])) = true := by
    intro k
    induction k with
    | zero => rfl
    | succ k ih =>
      rw [List.replicate_succ]
      show (PyData.canLay0 _ && PyData.canLayAll0 _) = true
      rw [h1, ih]
      rfl
  exact h4 10
theorem sh_lst (n : Int) : SeqAt.shaped (.list (List.replicate 10 (.list [.int n]))) = true := rfl
section
variable {P : Program} {w : World} {K : PySem.W.Frag} {mg : Str → Option Value} {base : Heap} {c : Cs}
/-! ### law -/
def spLaw (K : PySem.W.Frag) : Sp := fun vs H Q _ => ∃ (l : Addr) (ns : List Int), vs = [.ref l] ∧ SqL K H l (ns.map V.int) ∧ ∀ H', Q (.bl true) H'
abbrev s_law : Stmt := top 22
theorem sc_law : FnScope ["_law_script", "_law_cell", "_law_source", "_law_num", "_law_field", "_law_base", "_law_one_here"] ["_law_script"] (defScope s_law) := ⟨rfl, rfl, rfl, by decide +kernel, rfl, by decide +kernel, by decide +kernel⟩
theorem ok_law {f : Addr} {fd : FuncData} (Fn : Fun K "law" "law" s_law f fd) (T : Txt K mg w c) (c_cell : Cal P w K mg base 1 "_law_cell_at" (spCellAt K) []) (c_source : Cal P w K mg base 1 "_law_source_of" spSourceOf [])
    (c_draw : Cal P w K mg base 1 "_law_draw" spDraw []) (c_right : Cal P w K mg base 3 "_law_right" (spRight K) []) (c_kinds : Cal P w K mg base 1 "_law_kinds" (spKinds K c) []) (c_int : Cal P w K mg base 1 "is_integer" (spIsInt K) []) (k_int : CalK P w K mg base 1 "is_integer" "value" (spIsInt K)) :
    FnOk P w K mg base CX0 4 f fd ["_law_script"] (spLaw K) := by
  refine Fn.ok sc_law (fun vs H Q E h => ?_) (fun cdv A0 outer s0 H vs Q E hr h => ?_)
  · obtain ⟨l, ns, rfl, _⟩ := h
    rfl
  · obtain ⟨l, ns, rfl, hl, k⟩ := h
    refine ⟨_, (pss_cons (ps_for PassesOwn.never rfl (pi_list (pe_op op_cat (pe_lst (pa_cons (pe_c c_cell hr (by decide) rfl (pa_cons (pv 0) (pa_cons pe_int pa_nil))) pa_nil)) (pe_slice sl_list (pv 0) (po_some pe_int) (po_some pe_int)))) (pg_name (i := 1) sc_law.nd rfl (Or.inl rfl))
(pss_cons (ps_set (i := 2) sc_law.nd rfl (Or.inl rfl) (pe_c c_source hr (by decide) rfl (pa_cons (pv 1) pa_nil)))
(pss_cons (ps_set (i := 3) sc_law.nd rfl (Or.inl rfl) (pe_c c_draw hr (by decide) rfl (pa_cons (pv 2) (pa_cons (pe_op op_pow pe_int pe_int) pa_nil))))
(pss_cons (ps_for PassesOwn.never rfl (pi_list (pe_lst (pa_cons (pv 3) (pa_cons (pe_op op_sub pe_int (pv 3)) (pa_cons pe_non (pa_cons pe_str (pa_cons (pe_tup (pa_cons pe_str (pa_cons (pv 3) pa_nil))) (pa_cons (pe_lst (pa_cons (pv 3) pa_nil)) pa_nil)))))))) (pg_name (i := 4) sc_law.nd rfl (Or.inl rfl))
(pss_one (ps_if (pt_not (pt_val (pe_c c_right hr (by decide) rfl (pa_cons (pv 4) pa_nil))))
(pss_one (ps_ret pe_bl))
pss_nil)))
(pss_cons (ps_set (i := 5) sc_law.nd rfl (Or.inl rfl) (pe_ar0 T.xB T.m_CopyError T.kcB rfl))
(pss_cons (ps_if (PW.pt (pw_or (pt_cmpR (op_neD hr.units) (pe_c c_kinds hr (by decide) rfl (pa_cons (pv 5) pa_nil)) (pe_lst pa_nil) (nomark _)) (pw_or1 (pt_not (pt_val (pe_callB call_isA (by rfl) T.n_isinstance (by decide +kernel) (pa_cons (pv 5) (pa_cons (pe_bltn (v := .ty "ArithmeticError") rfl T.n_ArithmeticError (by decide +kernel) rfl) pa_nil))))))))
(pss_one (ps_ret pe_bl))
pss_nil)
(pss_cons (ps_if (pt_not (pt_val (pe_callB (cr_all rfl) (by rfl) T.n_all (by decide +kernel) (pa_cons (pe_lc (own := [("_law_one_here", 6)]) rfl sc_law.nd (pi_list (pe_lst (pa_cons (pv 3) (pa_cons (pe_op op_sub pe_int (pv 3)) (pa_cons pe_int (pa_cons (pe_op op_pow pe_int pe_int) pa_nil)))))) (blkOk_by (N := ["_law_script", "_law_cell", "_law_source", "_law_num", "_law_field", "_law_base", "_law_one_here"]) (sc := defScope s_law) (by decide +kernel)) (fun _ _ _ _ _ => pg_name (i := 6) sc_law.nd rfl (Or.inl rfl)) (fun _ _ _ _ _ => pts_nil) (fun _ _ _ _ _ => (pe_cmpR op_isBl (pe_c c_int hr (by decide) rfl (pa_cons (pv 6) pa_nil)) pe_bl (nomark _)))) pa_nil))))
(pss_one (ps_ret pe_bl))
pss_nil)
(pss_one (ps_if (pt_cmpR (op_neD hr.units) (pe_lc (own := [("_law_one_here", 6)]) rfl sc_law.nd (pi_list (pe_lst (pa_cons pe_bl (pa_cons pe_bl (pa_cons pe_non (pa_cons pe_str (pa_cons (pe_tup (pa_cons pe_int pa_nil)) (pa_cons (pe_lst (pa_cons pe_int pa_nil)) (pa_cons pe_dnewK pa_nil))))))))) (blkOk_by (N := ["_law_script", "_law_cell", "_law_source", "_law_num", "_law_field", "_law_base", "_law_one_here"]) (sc := defScope s_law) (by decide +kernel)) (fun _ _ _ _ _ => pg_name (i := 6) sc_law.nd rfl (Or.inl rfl)) (fun _ _ _ _ _ => (pts_one (pt_cmpR op_notBl (pe_k0 k_int hr (by decide) rfl (pk_cons (pv 6) pk_nil)) pe_bl (nomark _)))) (fun _ _ _ _ _ => pe_int)) (pe_lst pa_nil) (nomark _))
(pss_one (ps_ret pe_bl))
pss_nil)))))))))
(pss_one (ps_ret pe_bl))), ?_⟩
    refine ⟨_, rfl, l, ns, rfl, hl, fun i => ⟨by show 1 ≤ sizeLine; decide, fun p np => ?_⟩⟩
    have hl2 : SqL K (upd H p (.lst [.int i])) l (ns.map V.int) := L2.Same.seq (Fc.Same.put np) hl
    refine ⟨_, rfl, 1, rfl, 6, rfl, l, _, rfl, hl2, fun q nq => ?_⟩
    obtain ⟨ms, hm, lm⟩ : ∃ ms : List Int, cutV (ns.map V.int) (some 1) (some 6) = ms.map V.int ∧ ms.length ≤ 6 := by
      refine ⟨(ns.drop (HT.sIx (ns.map V.int).length 0 (some 1))).take (HT.sIx (ns.map V.int).length (ns.map V.int).length (some 6) - HT.sIx (ns.map V.int).length 0 (some 1)), ?_, ?_⟩
      · rw [List.map_take, List.map_drop]
        rfl
      · rw [List.length_take]
        have h6 : HT.sIx (ns.map V.int).length (ns.map V.int).length (some 6) ≤ 6 := by
          rw [show (6 : Int) = ((6 : Nat) : Int) from rfl, HT.sIx_nat]
          exact Nat.min_le_left _ _
        omega
    rw [hm]
    refine ⟨p, q, [.int i], _, rfl, rfl, by rw [upd_ne (ne_of_none upd_same nq)]; exact upd_same, upd_same, by rw [List.length_map]; exact Nat.le_trans (show 1 + ms.length ≤ 7 by omega) (by decide), fun z nz => ?_⟩
    obtain ⟨Hz, ez⟩ : ∃ Hz, Hz = upd (upd (upd H p (.lst [.int i])) q (.lst (ms.map V.int))) z (.lst ([.int i] ++ ms.map V.int)) := ⟨_, rfl⟩
    have hz : Hz z = some (.lst ((i :: ms).map V.int)) := by
      rw [ez]
      exact upd_same
    rw [← ez]
    clear ez nz nq hm hl2 np
    refine ⟨z, rfl, ⟨_, SqL.of hz⟩, for_list (K := K) (a := z) (xs := (i :: ms).map V.int) (fun j σ H' => ∃ x1 x2 x3 x4 x5, σ = [some (.ref l), x1, x2, x3, x4, x5, none] ∧ H' z = some (.lst ((i :: ms).map V.int))) ⟨none, none, none, none, none, rfl, hz⟩ (fun j σ H' _ ⟨_, _, _, _, _, _, e⟩ => SqL.of e) ?_ ?_⟩
    · rintro j x σ H1 hj ⟨x1, x2, x3, x4, x5, rfl, hz1⟩
      obtain ⟨m, rfl⟩ : ∃ m, x = V.int m := by
        rw [List.getElem?_map] at hj
        cases e : (i :: ms)[j]? with
        | none =>
          rw [e] at hj
          cases hj
        | some m =>
          rw [e] at hj
          exact ⟨m, (Option.some.inj hj).symm⟩
      refine ⟨_, rfl, m, rfl, fun a xa ya za na => ?_⟩
      have nza : z ≠ a := ne_of_none hz1 na
      have hz2 : upd H1 a (.lst [.int xa, .int ya, .int za]) z = some (.lst ((i :: ms).map V.int)) := by
        rw [upd_ne nza]
        exact hz1
      refine ⟨_, rfl, 10, 9, rfl, rfl, ⟨by decide, by decide, by decide⟩, a, _, rfl, Src.upd, by decide, by decide, fun num xb yb zb _ _ => ?_⟩
      obtain ⟨H2, e2⟩ : ∃ H2, H2 = upd (upd H1 a (.lst [.int xa, .int ya, .int za])) a (.lst [.int xb, .int yb, .int zb]) := ⟨_, rfl⟩
      have hz3 : H2 z = some (.lst ((i :: ms).map V.int)) := by
        rw [e2, upd_ne nza]
        exact hz2
      rw [← e2]
      clear e2 hz2 hz1 na
      -- the fields
      refine ⟨_, rfl, _, rfl, _, _, rfl, rfl, _, rfl, by show 2 ≤ sizeLine; decide, fun t nt => ⟨_, rfl, by show 1 ≤ sizeLine; decide, fun l8 n8 => ⟨by show 6 ≤ sizeLine; decide, fun l9 n9 => ?_⟩⟩⟩
      have s3 : Same H2 (upd (upd (upd H2 t (.tup [.str "break", .int num])) l8 (.lst [.int num])) l9 (.lst [.int num, .int (0 - num), .non, .str "end", .ref t, .ref l8])) := Fc.Same.new (Fc.Same.new (Fc.Same.put nt) n8) n9
      obtain ⟨H3, e3⟩ : ∃ H3, H3 = upd (upd (upd H2 t (.tup [.str "break", .int num])) l8 (.lst [.int num])) l9 (.lst [.int num, .int (0 - num), .non, .str "end", .ref t, .ref l8]) := ⟨_, rfl⟩
      have h9 : H3 l9 = some (.lst [.int num, .int (0 - num), .non, .str "end", .ref t, .ref l8]) := by
        rw [e3]
        exact upd_same
      have h8 : H3 l8 = some (.lst [.int num]) := by
        rw [e3, upd_ne (ne_of_none upd_same n9)]
        exact upd_same
      have ht : H3 t = some (.tup [.str "break", .int num]) := by
        have u : upd (upd H2 t (.tup [.str "break", .int num])) l8 (.lst [.int num]) t = some (.tup [.str "break", .int num]) := by
          rw [upd_ne (ne_of_none upd_same n8)]
          exact upd_same
        rw [e3, upd_ne (ne_of_none u n9)]
        exact u
      rw [← e3] at s3 ⊢
      clear e3 nt n8 n9
      refine ⟨l9, rfl, ⟨_, SqL.of h9⟩, for_list (K := K) (a := l9) (xs := [.int num, .int (0 - num), .non, .str "end", .ref t, .ref l8]) (fun i σ H' => ∃ x4, σ = [some (.ref l), some (.int m), some (.ref a), some (.int num), x4, x5, none] ∧ Same H3 H') ⟨x4, rfl, Same.refl H3⟩ (fun i σ H' _ ⟨_, _, s⟩ => SqL.of (s _ _ h9)) ?_ ?_⟩
      · rintro i x σ H4 hi ⟨x4, rfl, s4⟩
        obtain ⟨d, hd, sh⟩ : ∃ d, Dp K H4 x d ∧ SeqAt.shaped (.list (List.replicate 10 d)) = true := by
          have hj : i < 6 := (List.getElem?_eq_some_iff.mp hi).1
          match i, hj, hi with
          | 0, _, hi =>
            cases hi
            exact ⟨_, .int _, sh_int _⟩
          | 1, _, hi =>
            cases hi
            exact ⟨_, .int _, sh_int _⟩
          | 2, _, hi =>
            cases hi
            exact ⟨_, .non, by decide +kernel⟩
          | 3, _, hi =>
            cases hi
            exact ⟨_, .str _, by decide +kernel⟩
          | 4, _, hi =>
            cases hi
            exact ⟨_, .tup (SqT.of (s4 _ _ ht)) (.cons (.str _) (.cons (.int _) .nil)), sh_tup _⟩
          | 5, _, hi =>
            cases hi
            exact ⟨_, .lst (SqL.of (s4 _ _ h8)) (.cons (.int _) .nil), sh_lst _⟩
        refine ⟨_, rfl, x, d, rfl, hd, sh, fun H5 s5 => ⟨_, rfl, iteF ?_⟩⟩
        exact ⟨_, rfl, fun b o u => s5 b o (s4 b o u)⟩
      · rintro σ H4 ⟨x4, rfl, s4⟩
        -- CopyError()
        intro b nb
        have s5 : Same H2 (upd H4 b (exo b c.cB none)) := Fc.Same.new (fun b o u => s4 b o (s3 b o u)) nb
        refine ⟨_, rfl, b, c.cB, fun _ => false, rfl, T.isB, .inl upd_same, fun j hj => T.kB j hj, fun H5 p s6 np hp => ⟨Nat.zero_le _, fun m1 nm => ?_⟩⟩
        have hp0 : H5 p = some (.lst []) := hp
        have hb5 := s6 _ _ (upd_same (H := H4) (a := b) (o := exo b c.cB none))
        have s7 := Fc.Same.new (o := .lst []) s6 nm
        refine ne_data (ds := []) (by rw [upd_ne (ne_of_none hp0 nm)]; exact hp0) upd_same .nil .nil (by decide +kernel) ⟨_, rfl, iteF ?_⟩
        refine ⟨_, rfl, b, c.cB, _, _, _, rfl, .ty _, T.isB, .inl (s7 _ _ upd_same), T.kBA, _, rfl, iteF ?_⟩
        obtain ⟨H6, e6⟩ : ∃ H6, H6 = upd H5 m1 (.lst []) := ⟨_, rfl⟩
        have s8 : Same H2 H6 := fun b o u => by
          rw [e6]
          exact s7 b o (s5 b o u)
        rw [← e6]
        clear e6 s7 hp hp0 nm np nb s6 hb5 s5
        -- integers
        refine ⟨_, rfl, _, rfl, _, _, rfl, rfl, 10, 39, rfl, rfl, ⟨by decide, by decide, by decide⟩, by show 4 ≤ sizeLine; decide, fun l10 n10 => ?_⟩
        have h10 : upd H6 l10 (.lst [.int num, .int (0 - num), .int 0, .int (10 ^ Int.toNat 39)]) l10 = some (.lst [.int num, .int (0 - num), .int 0, .int (10 ^ Int.toNat 39)]) := upd_same
        have get4 : ∀ i, i < 4 → ∃ u : Int, ([V.int num, .int (0 - num), .int 0, .int (10 ^ Int.toNat 39)])[i]? = some (.int u) := by
          intro i hi
          match i, hi with
          | 0, _ => exact ⟨_, rfl⟩
          | 1, _ => exact ⟨_, rfl⟩
          | 2, _ => exact ⟨_, rfl⟩
          | 3, _ => exact ⟨_, rfl⟩
        obtain ⟨H7, e7⟩ : ∃ H7, H7 = upd H6 l10 (.lst [.int num, .int (0 - num), .int 0, .int (10 ^ Int.toNat 39)]) := ⟨_, rfl⟩
        have s9 : Same H2 H7 := by
          rw [e7]
          exact Fc.Same.new s8 n10
        rw [← e7] at h10 ⊢
        clear e7 n10 s8
        have l4 : ([V.int num, .int (0 - num), .int 0, .int (10 ^ Int.toNat 39)]).length ≤ 4 := Nat.le_refl 4
        refine ⟨l10, rfl, ⟨_, SqL.of h10⟩, fun D nD => ?_⟩
        refine lc_it (n := 4) (fun i H' => Same H7 H' ∧ H' D = some (.lst ((List.replicate i true).map V.bl))) ⟨Fc.Same.put nD, upd_same⟩ ?_ ?_ ?_ ?_
        · rintro i H' hi ⟨s10, _⟩
          obtain ⟨u, hu⟩ := get4 i hi
          exact ⟨_, _, SqL.of (s10 _ _ h10), hu⟩
        · rintro H' ⟨s10, _⟩
          exact ⟨_, SqL.of (s10 _ _ h10), l4⟩
        · rintro i x H8 H8' hi ⟨s10, hD⟩ ⟨rfl, hx⟩
          have ex := hx _ (SqL.of (s10 _ _ h10))
          obtain ⟨u, hu⟩ := get4 i hi
          rw [hu] at ex
          cases ex
          refine ⟨rfl, ?_⟩
          refine ⟨_, rfl, .int u, .int u, rfl, .int u, _, _, rfl, rfl, ?_⟩
          refine ⟨_, hD, by rw [List.length_map, List.length_replicate]; exact small1000 (by omega), Fc.Same.chg s10 nD, ?_⟩
          rw [upd_same, List.replicate_succ', List.map_append]
          rfl
        · rintro H8 ⟨s10, hD⟩
          refine ⟨D, List.replicate 4 true, rfl, SqL.of hD, _, rfl, iteF ?_⟩
          -- others
          refine ⟨by show 1 ≤ sizeLine; decide, fun t5 n5 => ⟨by show 1 ≤ sizeLine; decide, fun l11 n11 => fun d1 nd1 => ⟨by show 7 ≤ sizeLine; decide, fun l12 n12 => ?_⟩⟩⟩
          have s11 : Same H8 (upd (upd (upd (upd H8 t5 (.tup [.int 5])) l11 (.lst [.int 5])) d1 (.dK [])) l12 (.lst [.bl true, .bl false, .non, .str "5", .ref t5, .ref l11, .ref d1])) := Fc.Same.new (Fc.Same.new (Fc.Same.new (Fc.Same.put n5) n11) nd1) n12
          obtain ⟨H9, e9⟩ : ∃ H9, H9 = upd (upd (upd (upd H8 t5 (.tup [.int 5])) l11 (.lst [.int 5])) d1 (.dK [])) l12 (.lst [.bl true, .bl false, .non, .str "5", .ref t5, .ref l11, .ref d1]) := ⟨_, rfl⟩
          have h12 : H9 l12 = some (.lst [.bl true, .bl false, .non, .str "5", .ref t5, .ref l11, .ref d1]) := by
            rw [e9]
            exact upd_same
          have hd1 : H9 d1 = some (.dK []) := by
            rw [e9, upd_ne (ne_of_none upd_same n12)]
            exact upd_same
          have h11 : H9 l11 = some (.lst [.int 5]) := by
            rw [e9]
            exact (Fc.Same.new (Fc.Same.put nd1) n12) _ _ upd_same
          have h5 : H9 t5 = some (.tup [.int 5]) := by
            rw [e9]
            exact (Fc.Same.new (Fc.Same.new (Fc.Same.put n11) nd1) n12) _ _ upd_same
          rw [← e9] at s11 ⊢
          clear e9 n5 n11 nd1 n12
          have get7 : ∀ (i : Nat) (H' : Hp), i < 7 → Same H9 H' → ∃ (x : V) (o : O), ([V.bl true, .bl false, .non, .str "5", .ref t5, .ref l11, .ref d1])[i]? = some x ∧ Ob K H' x o ∧ o.isInt = false := by
            intro i H' hi s
            match i, hi with
            | 0, _ => exact ⟨_, _, rfl, .bl true, rfl⟩
            | 1, _ => exact ⟨_, _, rfl, .bl false, rfl⟩
            | 2, _ => exact ⟨_, _, rfl, .non, rfl⟩
            | 3, _ => exact ⟨_, _, rfl, str_ob "5", rfl⟩
            | 4, _ => exact ⟨_, _, rfl, .tup (SqT.of (s _ _ h5)) (.cons (.int 5) .nil) (by simp), rfl⟩
            | 5, _ => exact ⟨_, _, rfl, .lst (s _ _ h11), rfl⟩
            | 6, _ => exact ⟨_, _, rfl, .dct (s _ _ hd1), rfl⟩
          refine ⟨l12, rfl, ⟨_, SqL.of h12⟩, fun D2 nD2 => ?_⟩
          refine lc_it (n := 7) (fun i H' => Same H9 H' ∧ H' D2 = some (.lst [])) ⟨Fc.Same.put nD2, upd_same⟩ ?_ ?_ ?_ ?_
          · rintro i H' hi ⟨s12, _⟩
            obtain ⟨x, o, hx, _⟩ := get7 i _ hi s12
            exact ⟨_, _, SqL.of (s12 _ _ h12), hx⟩
          · rintro H' ⟨s12, _⟩
            exact ⟨_, SqL.of (s12 _ _ h12), Nat.le_refl _⟩
          · rintro i x H10 H10' hi ⟨s12, hD2⟩ ⟨rfl, hx⟩
            have ex := hx _ (SqL.of (s12 _ _ h12))
            obtain ⟨x', o, hx', ob, oi⟩ := get7 i _ hi s12
            rw [hx'] at ex
            cases ex
            refine ⟨rfl, ?_⟩
            refine ⟨_, rfl, x, rfl, x, o, rfl, ob, ?_⟩
            rw [oi]
            exact ⟨_, _, rfl, rfl, _, rfl, iteF ⟨s12, hD2⟩⟩
          · rintro H10 ⟨s12, hD2⟩
            refine ⟨Nat.zero_le _, fun m2 nm2 => ?_⟩
            refine ne_data (ds := []) (by rw [upd_ne (ne_of_none hD2 nm2)]; exact hD2) upd_same .nil .nil (by decide +kernel) ⟨_, rfl, iteF ?_⟩
            exact ⟨_, _, _, _, _, rfl, Fc.Same.new (fun b o u => s12 b o (s11 b o (s10 b o (s9 b o u)))) nm2 _ _ hz3⟩
    · rintro σ H1 ⟨_, _, _, _, _, rfl, hz1⟩
      exact k H1
end
end K5
end L2
set_option Elab.async false
set_option linter.all false
set_option maxRecDepth 100000
set_option maxHeartbeats 8000000
namespace L2
namespace K5
open PySem PySem.Spec PyProof.Rows Fc C8
section
variable {P : Program} {w : World} {K : PySem.W.Frag} {mg : Str → Option Value} {base : Heap} {c : Cs}
/-! ### the errors' __init__ -/
abbrev s_e0 : Stmt := inClass (top 4) 0
theorem sc_e0 : FnScope ["self", "number"] ["self", "number"] (defScope s_e0) := ⟨rfl, rfl, rfl, by decide +kernel, rfl, by decide +kernel, by decide +kernel⟩
theorem ok_e0 {f : Addr} {fd : FuncData} (Fn : Fun K "__init__" "InvalidCode.__init__" s_e0 f fd) (T : Txt K mg w c) : FnOk P w K mg base CX0 1 f fd ["self", "number"] (spExc (c.cE 0) "number") := by
  refine Fn.ok sc_e0 (fun vs H Q E h => ?_) (fun cdv A0 outer s0 H vs Q E hr h => ?_)
  · obtain ⟨a, y, rfl, _⟩ := h
    rfl
  · obtain ⟨a, y, rfl, ha, k⟩ := h
    exact ⟨_, pss_one (ps_arset (pv 0) (pv 1)), _, rfl, _, rfl, a, c.cE 0, c.iE 0, rfl, T.ar0, ha, k⟩
abbrev s_e1 : Stmt := inClass (top 5) 0
theorem sc_e1 : FnScope ["self", "number"] ["self", "number"] (defScope s_e1) := ⟨rfl, rfl, rfl, by decide +kernel, rfl, by decide +kernel, by decide +kernel⟩
theorem ok_e1 {f : Addr} {fd : FuncData} (Fn : Fun K "__init__" "InvalidNumber.__init__" s_e1 f fd) (T : Txt K mg w c) : FnOk P w K mg base CX0 1 f fd ["self", "number"] (spExc (c.cE 1) "number") := by
  refine Fn.ok sc_e1 (fun vs H Q E h => ?_) (fun cdv A0 outer s0 H vs Q E hr h => ?_)
  · obtain ⟨a, y, rfl, _⟩ := h
    rfl
  · obtain ⟨a, y, rfl, ha, k⟩ := h
    exact ⟨_, pss_one (ps_arset (pv 0) (pv 1)), _, rfl, _, rfl, a, c.cE 1, c.iE 1, rfl, T.ar1, ha, k⟩
abbrev s_e2 : Stmt := inClass (top 6) 0
theorem sc_e2 : FnScope ["self", "at"] ["self", "at"] (defScope s_e2) := ⟨rfl, rfl, rfl, by decide +kernel, rfl, by decide +kernel, by decide +kernel⟩
theorem ok_e2 {f : Addr} {fd : FuncData} (Fn : Fun K "__init__" "InvalidAnswers.__init__" s_e2 f fd) (T : Txt K mg w c) : FnOk P w K mg base CX0 1 f fd ["self", "at"] (spExc (c.cE 2) "at") := by
  refine Fn.ok sc_e2 (fun vs H Q E h => ?_) (fun cdv A0 outer s0 H vs Q E hr h => ?_)
  · obtain ⟨a, y, rfl, _⟩ := h
    rfl
  · obtain ⟨a, y, rfl, ha, k⟩ := h
    exact ⟨_, pss_one (ps_arset (pv 0) (pv 1)), _, rfl, _, rfl, a, c.cE 2, c.iE 2, rfl, T.ar2, ha, k⟩
abbrev s_e3 : Stmt := inClass (top 7) 0
theorem sc_e3 : FnScope ["self", "way"] ["self", "way"] (defScope s_e3) := ⟨rfl, rfl, rfl, by decide +kernel, rfl, by decide +kernel, by decide +kernel⟩
theorem ok_e3 {f : Addr} {fd : FuncData} (Fn : Fun K "__init__" "InvalidWay.__init__" s_e3 f fd) (T : Txt K mg w c) : FnOk P w K mg base CX0 1 f fd ["self", "way"] (spExc (c.cE 3) "way") := by
  refine Fn.ok sc_e3 (fun vs H Q E h => ?_) (fun cdv A0 outer s0 H vs Q E hr h => ?_)
  · obtain ⟨a, y, rfl, _⟩ := h
    rfl
  · obtain ⟨a, y, rfl, ha, k⟩ := h
    exact ⟨_, pss_one (ps_arset (pv 0) (pv 1)), _, rfl, _, rfl, a, c.cE 3, c.iE 3, rfl, T.ar3, ha, k⟩
abbrev s_e4 : Stmt := inClass (top 8) 0
theorem sc_e4 : FnScope ["self", "at"] ["self", "at"] (defScope s_e4) := ⟨rfl, rfl, rfl, by decide +kernel, rfl, by decide +kernel, by decide +kernel⟩
theorem ok_e4 {f : Addr} {fd : FuncData} (Fn : Fun K "__init__" "InvalidTable.__init__" s_e4 f fd) (T : Txt K mg w c) : FnOk P w K mg base CX0 1 f fd ["self", "at"] (spExc (c.cE 4) "at") := by
  refine Fn.ok sc_e4 (fun vs H Q E h => ?_) (fun cdv A0 outer s0 H vs Q E hr h => ?_)
  · obtain ⟨a, y, rfl, _⟩ := h
    rfl
  · obtain ⟨a, y, rfl, ha, k⟩ := h
    exact ⟨_, pss_one (ps_arset (pv 0) (pv 1)), _, rfl, _, rfl, a, c.cE 4, c.iE 4, rfl, T.ar4, ha, k⟩
abbrev s_e5 : Stmt := inClass (top 9) 0
theorem sc_e5 : FnScope ["self", "at"] ["self", "at"] (defScope s_e5) := ⟨rfl, rfl, rfl, by decide +kernel, rfl, by decide +kernel, by decide +kernel⟩
theorem ok_e5 {f : Addr} {fd : FuncData} (Fn : Fun K "__init__" "InvalidFinals.__init__" s_e5 f fd) (T : Txt K mg w c) : FnOk P w K mg base CX0 1 f fd ["self", "at"] (spExc (c.cE 5) "at") := by
  refine Fn.ok sc_e5 (fun vs H Q E h => ?_) (fun cdv A0 outer s0 H vs Q E hr h => ?_)
  · obtain ⟨a, y, rfl, _⟩ := h
    rfl
  · obtain ⟨a, y, rfl, ha, k⟩ := h
    exact ⟨_, pss_one (ps_arset (pv 0) (pv 1)), _, rfl, _, rfl, a, c.cE 5, c.iE 5, rfl, T.ar5, ha, k⟩
abbrev s_e6 : Stmt := inClass (top 10) 0
theorem sc_e6 : FnScope ["self", "bound"] ["self", "bound"] (defScope s_e6) := ⟨rfl, rfl, rfl, by decide +kernel, rfl, by decide +kernel, by decide +kernel⟩
theorem ok_e6 {f : Addr} {fd : FuncData} (Fn : Fun K "__init__" "InvalidBound.__init__" s_e6 f fd) (T : Txt K mg w c) : FnOk P w K mg base CX0 1 f fd ["self", "bound"] (spExc (c.cE 6) "bound") := by
  refine Fn.ok sc_e6 (fun vs H Q E h => ?_) (fun cdv A0 outer s0 H vs Q E hr h => ?_)
  · obtain ⟨a, y, rfl, _⟩ := h
    rfl
  · obtain ⟨a, y, rfl, ha, k⟩ := h
    exact ⟨_, pss_one (ps_arset (pv 0) (pv 1)), _, rfl, _, rfl, a, c.cE 6, c.iE 6, rfl, T.ar6, ha, k⟩
abbrev s_e7 : Stmt := inClass (top 11) 0
theorem sc_e7 : FnScope ["self", "at"] ["self", "at"] (defScope s_e7) := ⟨rfl, rfl, rfl, by decide +kernel, rfl, by decide +kernel, by decide +kernel⟩
theorem ok_e7 {f : Addr} {fd : FuncData} (Fn : Fun K "__init__" "InvalidText.__init__" s_e7 f fd) (T : Txt K mg w c) : FnOk P w K mg base CX0 1 f fd ["self", "at"] (spExc (c.cE 7) "at") := by
  refine Fn.ok sc_e7 (fun vs H Q E h => ?_) (fun cdv A0 outer s0 H vs Q E hr h => ?_)
  · obtain ⟨a, y, rfl, _⟩ := h
    rfl
  · obtain ⟨a, y, rfl, ha, k⟩ := h
    exact ⟨_, pss_one (ps_arset (pv 0) (pv 1)), _, rfl, _, rfl, a, c.cE 7, c.iE 7, rfl, T.ar7, ha, k⟩
abbrev s_e8 : Stmt := inClass (top 12) 0
theorem sc_e8 : FnScope ["self", "end"] ["self", "end"] (defScope s_e8) := ⟨rfl, rfl, rfl, by decide +kernel, rfl, by decide +kernel, by decide +kernel⟩
theorem ok_e8 {f : Addr} {fd : FuncData} (Fn : Fun K "__init__" "NotWaiting.__init__" s_e8 f fd) (T : Txt K mg w c) : FnOk P w K mg base CX0 1 f fd ["self", "end"] (spExc (c.cE 8) "end") := by
  refine Fn.ok sc_e8 (fun vs H Q E h => ?_) (fun cdv A0 outer s0 H vs Q E hr h => ?_)
  · obtain ⟨a, y, rfl, _⟩ := h
    rfl
  · obtain ⟨a, y, rfl, ha, k⟩ := h
    exact ⟨_, pss_one (ps_arset (pv 0) (pv 1)), _, rfl, _, rfl, a, c.cE 8, c.iE 8, rfl, T.ar8, ha, k⟩
abbrev s_e9 : Stmt := inClass (top 13) 0
theorem sc_e9 : FnScope ["self", "limit"] ["self", "limit"] (defScope s_e9) := ⟨rfl, rfl, rfl, by decide +kernel, rfl, by decide +kernel, by decide +kernel⟩
theorem ok_e9 {f : Addr} {fd : FuncData} (Fn : Fun K "__init__" "LimitExceeded.__init__" s_e9 f fd) (T : Txt K mg w c) : FnOk P w K mg base CX0 1 f fd ["self", "limit"] (spExc (c.cE 9) "limit") := by
  refine Fn.ok sc_e9 (fun vs H Q E h => ?_) (fun cdv A0 outer s0 H vs Q E hr h => ?_)
  · obtain ⟨a, y, rfl, _⟩ := h
    rfl
  · obtain ⟨a, y, rfl, ha, k⟩ := h
    exact ⟨_, pss_one (ps_arset (pv 0) (pv 1)), _, rfl, _, rfl, a, c.cE 9, c.iE 9, rfl, T.ar9, ha, k⟩
end
structure DefF (K : PySem.W.Frag) (x qual : Str) (st : Stmt) (f : Addr) : Prop where
  ex : ∃ fd : FuncData, Fun K x qual st f fd
theorem DefF.of {K : PySem.W.Frag} {x qual : Str} {st : Stmt} {f : Addr} {oc : Value} {od an : Option Addr} {osl : Array (Option Value)} {kV doc pm cdv ct : Value} (l : K.lookup f = some ⟨oc, od, .func (PySem.W.fnOf x qual (defArgs st) (defBody st) (defScope st) .none kV doc pm an cdv ct), osl⟩)
    (c : PySem.W.codeIn K cdv qual = true) (k : PySem.W.keepIn K (.ref f) = true) : DefF K x qual st f := ⟨_, fun_mk l c k⟩
/-- a class over ArithmeticError -/
theorem arc_of {K : PySem.W.Frag} {C fI : Addr} {f nm q : Str} {N : Addr} {bs bm : List Value} {sn : List Str} {sub : List Value} {ab : Bool} {col : Option Bool} {dd : Option Addr} {k0 k1 k2 k3 k5 : Option Value}
    (xL : K.lookup C = some (excClassObj nm q C N bs bm true sn sub ab col dd k0 k1 k2 k3 k5 "ArithmeticError.__new__")) (bm1 : arOver bm = true) (sa : PySem.W.findIn K (.ref C) "__setattr__" = some (some (.builtin "object.__setattr__")))
    (ga : PySem.W.findIn K (.ref C) "__getattribute__" = some (some (.builtin "BaseException.__getattribute__"))) (gg : PySem.W.findIn K (.ref C) "__getattr__" = some none) (hd : PySem.W.hasDictIn K C = true) (nf : PySem.W.findIn K (.ref C) f = some none)
    (exC : PySem.W.subIn K (.ref C) (.type "BaseException") = some true) (tyC : PySem.W.typeIn K (.ref C) = some (.type "type")) (kC : PySem.W.keepIn K (.ref C) = true) (iC : PySem.W.findIn K (.ref C) "__init__" = some (some (.ref fI)))
    (tI : PySem.W.typeIn K (.ref fI) = some (.type "function")) : ArC K C fI f := ⟨⟨nm, q, N, bs, bm, sn, sub, ab, col, dd, k0, k1, k2, k3, k5, xL, bm1⟩, sa, ga, gg, hd, nf, exC, tyC, kC, iC, tI⟩

def kitAll (K : PySem.W.Frag) (cs : List Addr) : Bool := (List.range 10).all fun i => (List.range 10).all fun j => PySem.W.kitOne K (.ref (cs.getD i 0)) (.ref (cs.getD j 0)) == some (decide (i = j))
theorem kit_of_all {K : PySem.W.Frag} {cs : List Addr} (h : kitAll K cs = true) (i j : Nat) (hi : i < 10) (hj : j < 10) : PySem.W.kitOne K (.ref (cs.getD i 0)) (.ref (cs.getD j 0)) = some (decide (i = j)) := by
  have h1 := List.all_eq_true.mp h i (List.mem_range.mpr hi)
  have h2 := List.all_eq_true.mp h1 j (List.mem_range.mpr hj)
  exact beq_iff_eq.mp h2
def kitRow (K : PySem.W.Frag) (cs : List Addr) (cB : Addr) : Bool := (List.range 10).all fun i => (PySem.W.kitOne K (.ref cB) (.ref (cs.getD i 0)) == some false) && ((PySem.W.kitOne K (.ref (cs.getD i 0)) (.ref cB) == some true) &&
  ((PySem.W.kitOne K (.ref (cs.getD i 0)) (.type "ArithmeticError") == some true) && (PySem.W.kitAny K (.ref (cs.getD i 0)) [.type "ValueError", .type "TypeError", .type "LookupError"] == some false)))
theorem kit_of_row {K : PySem.W.Frag} {cs : List Addr} {cB : Addr} (h : kitRow K cs cB = true) (i : Nat) (hi : i < 10) : PySem.W.kitOne K (.ref cB) (.ref (cs.getD i 0)) = some false ∧ PySem.W.kitOne K (.ref (cs.getD i 0)) (.ref cB) = some true ∧
    PySem.W.kitOne K (.ref (cs.getD i 0)) (.type "ArithmeticError") = some true ∧ PySem.W.kitAny K (.ref (cs.getD i 0)) [.type "ValueError", .type "TypeError", .type "LookupError"] = some false := by
  have h1 := List.all_eq_true.mp h i (List.mem_range.mpr hi)
  obtain ⟨h2, h3⟩ := Bool.and_eq_true_iff.mp h1
  obtain ⟨h4, h5⟩ := Bool.and_eq_true_iff.mp h3
  obtain ⟨h6, h7⟩ := Bool.and_eq_true_iff.mp h5
  exact ⟨beq_iff_eq.mp h2, beq_iff_eq.mp h4, beq_iff_eq.mp h6, beq_iff_eq.mp h7⟩
theorem all_mk {l : PySem.W.OpenLaw} {w : World} {K : PySem.W.Frag} {h : Heap} {mg : Str → Option Value} {fa : Addr} (X : K.In h) (G : h.Ns mainGlobals mg) (hfa : mg "law" = some (.ref fa))
    {f_is_integer f_cell_at f_source_of f_draw f_kinds f_fields f_right f_law c0 c1 c2 c3 c4 c5 c6 c7 c8 c9 i0 i1 i2 i3 i4 i5 i6 i7 i8 i9 cB : Addr}
    {nm_0 q_0 : Str} {N_0 : Addr} {bs_0 bm_0 : List Value} {sn_0 : List Str} {sub_0 : List Value} {ab_0 : Bool} {col_0 : Option Bool} {dd_0 : Option Addr} {k0_0 k1_0 k2_0 k3_0 k5_0 : Option Value}
    {nm_1 q_1 : Str} {N_1 : Addr} {bs_1 bm_1 : List Value} {sn_1 : List Str} {sub_1 : List Value} {ab_1 : Bool} {col_1 : Option Bool} {dd_1 : Option Addr} {k0_1 k1_1 k2_1 k3_1 k5_1 : Option Value}
    {nm_2 q_2 : Str} {N_2 : Addr} {bs_2 bm_2 : List Value} {sn_2 : List Str} {sub_2 : List Value} {ab_2 : Bool} {col_2 : Option Bool} {dd_2 : Option Addr} {k0_2 k1_2 k2_2 k3_2 k5_2 : Option Value}
    {nm_3 q_3 : Str} {N_3 : Addr} {bs_3 bm_3 : List Value} {sn_3 : List Str} {sub_3 : List Value} {ab_3 : Bool} {col_3 : Option Bool} {dd_3 : Option Addr} {k0_3 k1_3 k2_3 k3_3 k5_3 : Option Value}
    {nm_4 q_4 : Str} {N_4 : Addr} {bs_4 bm_4 : List Value} {sn_4 : List Str} {sub_4 : List Value} {ab_4 : Bool} {col_4 : Option Bool} {dd_4 : Option Addr} {k0_4 k1_4 k2_4 k3_4 k5_4 : Option Value}
    {nm_5 q_5 : Str} {N_5 : Addr} {bs_5 bm_5 : List Value} {sn_5 : List Str} {sub_5 : List Value} {ab_5 : Bool} {col_5 : Option Bool} {dd_5 : Option Addr} {k0_5 k1_5 k2_5 k3_5 k5_5 : Option Value}
    {nm_6 q_6 : Str} {N_6 : Addr} {bs_6 bm_6 : List Value} {sn_6 : List Str} {sub_6 : List Value} {ab_6 : Bool} {col_6 : Option Bool} {dd_6 : Option Addr} {k0_6 k1_6 k2_6 k3_6 k5_6 : Option Value}
    {nm_7 q_7 : Str} {N_7 : Addr} {bs_7 bm_7 : List Value} {sn_7 : List Str} {sub_7 : List Value} {ab_7 : Bool} {col_7 : Option Bool} {dd_7 : Option Addr} {k0_7 k1_7 k2_7 k3_7 k5_7 : Option Value}
    {nm_8 q_8 : Str} {N_8 : Addr} {bs_8 bm_8 : List Value} {sn_8 : List Str} {sub_8 : List Value} {ab_8 : Bool} {col_8 : Option Bool} {dd_8 : Option Addr} {k0_8 k1_8 k2_8 k3_8 k5_8 : Option Value}
    {nm_9 q_9 : Str} {N_9 : Addr} {bs_9 bm_9 : List Value} {sn_9 : List Str} {sub_9 : List Value} {ab_9 : Bool} {col_9 : Option Bool} {dd_9 : Option Addr} {k0_9 k1_9 k2_9 k3_9 k5_9 : Option Value}
    (a_is_integer : PySem.W.nsIn K mainGlobals "is_integer" = some (some (.ref f_is_integer)))
    (a_cell_at : PySem.W.nsIn K mainGlobals "_law_cell_at" = some (some (.ref f_cell_at)))
    (a_source_of : PySem.W.nsIn K mainGlobals "_law_source_of" = some (some (.ref f_source_of)))
    (a_draw : PySem.W.nsIn K mainGlobals "_law_draw" = some (some (.ref f_draw)))
    (a_kinds : PySem.W.nsIn K mainGlobals "_law_kinds" = some (some (.ref f_kinds)))
    (a_fields : PySem.W.nsIn K mainGlobals "_law_fields" = some (some (.ref f_fields)))
    (a_right : PySem.W.nsIn K mainGlobals "_law_right" = some (some (.ref f_right)))
    (a_law : PySem.W.nsIn K mainGlobals "law" = some (some (.ref f_law)))
    (x_0 : PySem.W.nsIn K mainGlobals "InvalidCode" = some (some (.ref c0)))
    (x_1 : PySem.W.nsIn K mainGlobals "InvalidNumber" = some (some (.ref c1)))
    (x_2 : PySem.W.nsIn K mainGlobals "InvalidAnswers" = some (some (.ref c2)))
    (x_3 : PySem.W.nsIn K mainGlobals "InvalidWay" = some (some (.ref c3)))
    (x_4 : PySem.W.nsIn K mainGlobals "InvalidTable" = some (some (.ref c4)))
    (x_5 : PySem.W.nsIn K mainGlobals "InvalidFinals" = some (some (.ref c5)))
    (x_6 : PySem.W.nsIn K mainGlobals "InvalidBound" = some (some (.ref c6)))
    (x_7 : PySem.W.nsIn K mainGlobals "InvalidText" = some (some (.ref c7)))
    (x_8 : PySem.W.nsIn K mainGlobals "NotWaiting" = some (some (.ref c8)))
    (x_9 : PySem.W.nsIn K mainGlobals "LimitExceeded" = some (some (.ref c9)))
    (x_B : PySem.W.nsIn K mainGlobals "CopyError" = some (some (.ref cB)))
    (z_len : PySem.W.nsIn K mainGlobals "len" = some none)
    (z_int : PySem.W.nsIn K mainGlobals "int" = some none)
    (z_bool : PySem.W.nsIn K mainGlobals "bool" = some none)
    (z_isinstance : PySem.W.nsIn K mainGlobals "isinstance" = some none)
    (z_range : PySem.W.nsIn K mainGlobals "range" = some none)
    (z_all : PySem.W.nsIn K mainGlobals "all" = some none)
    (z_enumerate : PySem.W.nsIn K mainGlobals "enumerate" = some none)
    (z_ArithmeticError : PySem.W.nsIn K mainGlobals "ArithmeticError" = some none)
    (z_ValueError : PySem.W.nsIn K mainGlobals "ValueError" = some none)
    (z_TypeError : PySem.W.nsIn K mainGlobals "TypeError" = some none)
    (z_LookupError : PySem.W.nsIn K mainGlobals "LookupError" = some none)
    (m_0 : PySem.W.findIn K (.ref c0) "__init__" = some (some (.ref i0)))
    (m_1 : PySem.W.findIn K (.ref c1) "__init__" = some (some (.ref i1)))
    (m_2 : PySem.W.findIn K (.ref c2) "__init__" = some (some (.ref i2)))
    (m_3 : PySem.W.findIn K (.ref c3) "__init__" = some (some (.ref i3)))
    (m_4 : PySem.W.findIn K (.ref c4) "__init__" = some (some (.ref i4)))
    (m_5 : PySem.W.findIn K (.ref c5) "__init__" = some (some (.ref i5)))
    (m_6 : PySem.W.findIn K (.ref c6) "__init__" = some (some (.ref i6)))
    (m_7 : PySem.W.findIn K (.ref c7) "__init__" = some (some (.ref i7)))
    (m_8 : PySem.W.findIn K (.ref c8) "__init__" = some (some (.ref i8)))
    (m_9 : PySem.W.findIn K (.ref c9) "__init__" = some (some (.ref i9)))
    (e0_0 : K.lookup c0 = some (excClassObj nm_0 q_0 c0 N_0 bs_0 bm_0 true sn_0 sub_0 ab_0 col_0 dd_0 k0_0 k1_0 k2_0 k3_0 k5_0 "ArithmeticError.__new__"))
    (e1_0 : arOver bm_0 = true)
    (e2_0 : PySem.W.findIn K (.ref c0) "__setattr__" = some (some (.builtin "object.__setattr__")))
    (e3_0 : PySem.W.findIn K (.ref c0) "__getattribute__" = some (some (.builtin "BaseException.__getattribute__")))
    (e4_0 : PySem.W.findIn K (.ref c0) "__getattr__" = some none)
    (e5_0 : PySem.W.hasDictIn K c0 = true)
    (e6_0 : PySem.W.findIn K (.ref c0) "number" = some none)
    (e7_0 : PySem.W.subIn K (.ref c0) (.type "BaseException") = some true)
    (e8_0 : PySem.W.typeIn K (.ref c0) = some (.type "type"))
    (e9_0 : PySem.W.keepIn K (.ref c0) = true)
    (e10_0 : PySem.W.typeIn K (.ref i0) = some (.type "function"))
    (e0_1 : K.lookup c1 = some (excClassObj nm_1 q_1 c1 N_1 bs_1 bm_1 true sn_1 sub_1 ab_1 col_1 dd_1 k0_1 k1_1 k2_1 k3_1 k5_1 "ArithmeticError.__new__"))
    (e1_1 : arOver bm_1 = true)
    (e2_1 : PySem.W.findIn K (.ref c1) "__setattr__" = some (some (.builtin "object.__setattr__")))
    (e3_1 : PySem.W.findIn K (.ref c1) "__getattribute__" = some (some (.builtin "BaseException.__getattribute__")))
    (e4_1 : PySem.W.findIn K (.ref c1) "__getattr__" = some none)
    (e5_1 : PySem.W.hasDictIn K c1 = true)
    (e6_1 : PySem.W.findIn K (.ref c1) "number" = some none)
    (e7_1 : PySem.W.subIn K (.ref c1) (.type "BaseException") = some true)
    (e8_1 : PySem.W.typeIn K (.ref c1) = some (.type "type"))
    (e9_1 : PySem.W.keepIn K (.ref c1) = true)
    (e10_1 : PySem.W.typeIn K (.ref i1) = some (.type "function"))
    (e0_2 : K.lookup c2 = some (excClassObj nm_2 q_2 c2 N_2 bs_2 bm_2 true sn_2 sub_2 ab_2 col_2 dd_2 k0_2 k1_2 k2_2 k3_2 k5_2 "ArithmeticError.__new__"))
    (e1_2 : arOver bm_2 = true)
    (e2_2 : PySem.W.findIn K (.ref c2) "__setattr__" = some (some (.builtin "object.__setattr__")))
    (e3_2 : PySem.W.findIn K (.ref c2) "__getattribute__" = some (some (.builtin "BaseException.__getattribute__")))
    (e4_2 : PySem.W.findIn K (.ref c2) "__getattr__" = some none)
    (e5_2 : PySem.W.hasDictIn K c2 = true)
    (e6_2 : PySem.W.findIn K (.ref c2) "at" = some none)
    (e7_2 : PySem.W.subIn K (.ref c2) (.type "BaseException") = some true)
    (e8_2 : PySem.W.typeIn K (.ref c2) = some (.type "type"))
    (e9_2 : PySem.W.keepIn K (.ref c2) = true)
    (e10_2 : PySem.W.typeIn K (.ref i2) = some (.type "function"))
    (e0_3 : K.lookup c3 = some (excClassObj nm_3 q_3 c3 N_3 bs_3 bm_3 true sn_3 sub_3 ab_3 col_3 dd_3 k0_3 k1_3 k2_3 k3_3 k5_3 "ArithmeticError.__new__"))
    (e1_3 : arOver bm_3 = true)
    (e2_3 : PySem.W.findIn K (.ref c3) "__setattr__" = some (some (.builtin "object.__setattr__")))
    (e3_3 : PySem.W.findIn K (.ref c3) "__getattribute__" = some (some (.builtin "BaseException.__getattribute__")))
    (e4_3 : PySem.W.findIn K (.ref c3) "__getattr__" = some none)
    (e5_3 : PySem.W.hasDictIn K c3 = true)
    (e6_3 : PySem.W.findIn K (.ref c3) "way" = some none)
    (e7_3 : PySem.W.subIn K (.ref c3) (.type "BaseException") = some true)
    (e8_3 : PySem.W.typeIn K (.ref c3) = some (.type "type"))
    (e9_3 : PySem.W.keepIn K (.ref c3) = true)
    (e10_3 : PySem.W.typeIn K (.ref i3) = some (.type "function"))
    (e0_4 : K.lookup c4 = some (excClassObj nm_4 q_4 c4 N_4 bs_4 bm_4 true sn_4 sub_4 ab_4 col_4 dd_4 k0_4 k1_4 k2_4 k3_4 k5_4 "ArithmeticError.__new__"))
    (e1_4 : arOver bm_4 = true)
    (e2_4 : PySem.W.findIn K (.ref c4) "__setattr__" = some (some (.builtin "object.__setattr__")))
    (e3_4 : PySem.W.findIn K (.ref c4) "__getattribute__" = some (some (.builtin "BaseException.__getattribute__")))
    (e4_4 : PySem.W.findIn K (.ref c4) "__getattr__" = some none)
    (e5_4 : PySem.W.hasDictIn K c4 = true)
    (e6_4 : PySem.W.findIn K (.ref c4) "at" = some none)
    (e7_4 : PySem.W.subIn K (.ref c4) (.type "BaseException") = some true)
    (e8_4 : PySem.W.typeIn K (.ref c4) = some (.type "type"))
    (e9_4 : PySem.W.keepIn K (.ref c4) = true)
    (e10_4 : PySem.W.typeIn K (.ref i4) = some (.type "function"))
    (e0_5 : K.lookup c5 = some (excClassObj nm_5 q_5 c5 N_5 bs_5 bm_5 true sn_5 sub_5 ab_5 col_5 dd_5 k0_5 k1_5 k2_5 k3_5 k5_5 "ArithmeticError.__new__"))
    (e1_5 : arOver bm_5 = true)
    (e2_5 : PySem.W.findIn K (.ref c5) "__setattr__" = some (some (.builtin "object.__setattr__")))
    (e3_5 : PySem.W.findIn K (.ref c5) "__getattribute__" = some (some (.builtin "BaseException.__getattribute__")))
    (e4_5 : PySem.W.findIn K (.ref c5) "__getattr__" = some none)
    (e5_5 : PySem.W.hasDictIn K c5 = true)
    (e6_5 : PySem.W.findIn K (.ref c5) "at" = some none)
    (e7_5 : PySem.W.subIn K (.ref c5) (.type "BaseException") = some true)
    (e8_5 : PySem.W.typeIn K (.ref c5) = some (.type "type"))
    (e9_5 : PySem.W.keepIn K (.ref c5) = true)
    (e10_5 : PySem.W.typeIn K (.ref i5) = some (.type "function"))
    (e0_6 : K.lookup c6 = some (excClassObj nm_6 q_6 c6 N_6 bs_6 bm_6 true sn_6 sub_6 ab_6 col_6 dd_6 k0_6 k1_6 k2_6 k3_6 k5_6 "ArithmeticError.__new__"))
    (e1_6 : arOver bm_6 = true)
    (e2_6 : PySem.W.findIn K (.ref c6) "__setattr__" = some (some (.builtin "object.__setattr__")))
    (e3_6 : PySem.W.findIn K (.ref c6) "__getattribute__" = some (some (.builtin "BaseException.__getattribute__")))
    (e4_6 : PySem.W.findIn K (.ref c6) "__getattr__" = some none)
    (e5_6 : PySem.W.hasDictIn K c6 = true)
    (e6_6 : PySem.W.findIn K (.ref c6) "bound" = some none)
    (e7_6 : PySem.W.subIn K (.ref c6) (.type "BaseException") = some true)
    (e8_6 : PySem.W.typeIn K (.ref c6) = some (.type "type"))
    (e9_6 : PySem.W.keepIn K (.ref c6) = true)
    (e10_6 : PySem.W.typeIn K (.ref i6) = some (.type "function"))
    (e0_7 : K.lookup c7 = some (excClassObj nm_7 q_7 c7 N_7 bs_7 bm_7 true sn_7 sub_7 ab_7 col_7 dd_7 k0_7 k1_7 k2_7 k3_7 k5_7 "ArithmeticError.__new__"))
    (e1_7 : arOver bm_7 = true)
    (e2_7 : PySem.W.findIn K (.ref c7) "__setattr__" = some (some (.builtin "object.__setattr__")))
    (e3_7 : PySem.W.findIn K (.ref c7) "__getattribute__" = some (some (.builtin "BaseException.__getattribute__")))
    (e4_7 : PySem.W.findIn K (.ref c7) "__getattr__" = some none)
    (e5_7 : PySem.W.hasDictIn K c7 = true)
    (e6_7 : PySem.W.findIn K (.ref c7) "at" = some none)
    (e7_7 : PySem.W.subIn K (.ref c7) (.type "BaseException") = some true)
    (e8_7 : PySem.W.typeIn K (.ref c7) = some (.type "type"))
    (e9_7 : PySem.W.keepIn K (.ref c7) = true)
    (e10_7 : PySem.W.typeIn K (.ref i7) = some (.type "function"))
    (e0_8 : K.lookup c8 = some (excClassObj nm_8 q_8 c8 N_8 bs_8 bm_8 true sn_8 sub_8 ab_8 col_8 dd_8 k0_8 k1_8 k2_8 k3_8 k5_8 "ArithmeticError.__new__"))
    (e1_8 : arOver bm_8 = true)
    (e2_8 : PySem.W.findIn K (.ref c8) "__setattr__" = some (some (.builtin "object.__setattr__")))
    (e3_8 : PySem.W.findIn K (.ref c8) "__getattribute__" = some (some (.builtin "BaseException.__getattribute__")))
    (e4_8 : PySem.W.findIn K (.ref c8) "__getattr__" = some none)
    (e5_8 : PySem.W.hasDictIn K c8 = true)
    (e6_8 : PySem.W.findIn K (.ref c8) "end" = some none)
    (e7_8 : PySem.W.subIn K (.ref c8) (.type "BaseException") = some true)
    (e8_8 : PySem.W.typeIn K (.ref c8) = some (.type "type"))
    (e9_8 : PySem.W.keepIn K (.ref c8) = true)
    (e10_8 : PySem.W.typeIn K (.ref i8) = some (.type "function"))
    (e0_9 : K.lookup c9 = some (excClassObj nm_9 q_9 c9 N_9 bs_9 bm_9 true sn_9 sub_9 ab_9 col_9 dd_9 k0_9 k1_9 k2_9 k3_9 k5_9 "ArithmeticError.__new__"))
    (e1_9 : arOver bm_9 = true)
    (e2_9 : PySem.W.findIn K (.ref c9) "__setattr__" = some (some (.builtin "object.__setattr__")))
    (e3_9 : PySem.W.findIn K (.ref c9) "__getattribute__" = some (some (.builtin "BaseException.__getattribute__")))
    (e4_9 : PySem.W.findIn K (.ref c9) "__getattr__" = some none)
    (e5_9 : PySem.W.hasDictIn K c9 = true)
    (e6_9 : PySem.W.findIn K (.ref c9) "limit" = some none)
    (e7_9 : PySem.W.subIn K (.ref c9) (.type "BaseException") = some true)
    (e8_9 : PySem.W.typeIn K (.ref c9) = some (.type "type"))
    (e9_9 : PySem.W.keepIn K (.ref c9) = true)
    (e10_9 : PySem.W.typeIn K (.ref i9) = some (.type "function"))
    (h1_0 : (PySem.W.clsIn K c0).isSome = true)
    (h2_0 : PySem.W.findIn K (.ref c0) "__class__" = some (some (.builtin "object.__class__")))
    (h3_0 : PySem.W.mroIn K c0 (.type "object") = some true)
    (h1_1 : (PySem.W.clsIn K c1).isSome = true)
    (h2_1 : PySem.W.findIn K (.ref c1) "__class__" = some (some (.builtin "object.__class__")))
    (h3_1 : PySem.W.mroIn K c1 (.type "object") = some true)
    (h1_2 : (PySem.W.clsIn K c2).isSome = true)
    (h2_2 : PySem.W.findIn K (.ref c2) "__class__" = some (some (.builtin "object.__class__")))
    (h3_2 : PySem.W.mroIn K c2 (.type "object") = some true)
    (h1_3 : (PySem.W.clsIn K c3).isSome = true)
    (h2_3 : PySem.W.findIn K (.ref c3) "__class__" = some (some (.builtin "object.__class__")))
    (h3_3 : PySem.W.mroIn K c3 (.type "object") = some true)
    (h1_4 : (PySem.W.clsIn K c4).isSome = true)
    (h2_4 : PySem.W.findIn K (.ref c4) "__class__" = some (some (.builtin "object.__class__")))
    (h3_4 : PySem.W.mroIn K c4 (.type "object") = some true)
    (h1_5 : (PySem.W.clsIn K c5).isSome = true)
    (h2_5 : PySem.W.findIn K (.ref c5) "__class__" = some (some (.builtin "object.__class__")))
    (h3_5 : PySem.W.mroIn K c5 (.type "object") = some true)
    (h1_6 : (PySem.W.clsIn K c6).isSome = true)
    (h2_6 : PySem.W.findIn K (.ref c6) "__class__" = some (some (.builtin "object.__class__")))
    (h3_6 : PySem.W.mroIn K c6 (.type "object") = some true)
    (h1_7 : (PySem.W.clsIn K c7).isSome = true)
    (h2_7 : PySem.W.findIn K (.ref c7) "__class__" = some (some (.builtin "object.__class__")))
    (h3_7 : PySem.W.mroIn K c7 (.type "object") = some true)
    (h1_8 : (PySem.W.clsIn K c8).isSome = true)
    (h2_8 : PySem.W.findIn K (.ref c8) "__class__" = some (some (.builtin "object.__class__")))
    (h3_8 : PySem.W.mroIn K c8 (.type "object") = some true)
    (h1_9 : (PySem.W.clsIn K c9).isSome = true)
    (h2_9 : PySem.W.findIn K (.ref c9) "__class__" = some (some (.builtin "object.__class__")))
    (h3_9 : PySem.W.mroIn K c9 (.type "object") = some true)
    (h1_B : (PySem.W.clsIn K cB).isSome = true)
    (h2_B : PySem.W.findIn K (.ref cB) "__class__" = some (some (.builtin "object.__class__")))
    (h3_B : PySem.W.mroIn K cB (.type "object") = some true)
    (e3_B : PySem.W.findIn K (.ref cB) "__getattribute__" = some (some (.builtin "BaseException.__getattribute__")))
    (e4_B : PySem.W.findIn K (.ref cB) "__getattr__" = some none)
    (e7_B : PySem.W.subIn K (.ref cB) (.type "BaseException") = some true)
    (e9_B : PySem.W.keepIn K (.ref cB) = true)
    (h4 : PySem.W.specialIn K (.builtin "object.__class__") "__get__" = some (some (.builtin "getset_descriptor.__get__")))
    (h5 : PySem.W.takesIn K (.builtin "object.__class__") = some true)
    (xB : PySem.W.excIn K cB arTail "ArithmeticError.__new__" = true)
    (kA : kitAll K [c0, c1, c2, c3, c4, c5, c6, c7, c8, c9] = true)
    (kR : kitRow K [c0, c1, c2, c3, c4, c5, c6, c7, c8, c9] cB = true)
    (kB : PySem.W.kitOne K (.ref cB) (.type "ArithmeticError") = some true)
    (d_is_integer : DefF K "is_integer" "is_integer" s_is_integer f_is_integer)
    (d_cell_at : DefF K "_law_cell_at" "_law_cell_at" s_cell_at f_cell_at)
    (d_source_of : DefF K "_law_source_of" "_law_source_of" s_source_of f_source_of)
    (d_draw : DefF K "_law_draw" "_law_draw" s_draw f_draw)
    (d_kinds : DefF K "_law_kinds" "_law_kinds" s_kinds f_kinds)
    (d_fields : DefF K "_law_fields" "_law_fields" s_fields f_fields)
    (d_right : DefF K "_law_right" "_law_right" s_right f_right)
    (d_law : DefF K "law" "law" s_law f_law)
    (d_e0 : DefF K "__init__" "InvalidCode.__init__" s_e0 i0)
    (d_e1 : DefF K "__init__" "InvalidNumber.__init__" s_e1 i1)
    (d_e2 : DefF K "__init__" "InvalidAnswers.__init__" s_e2 i2)
    (d_e3 : DefF K "__init__" "InvalidWay.__init__" s_e3 i3)
    (d_e4 : DefF K "__init__" "InvalidTable.__init__" s_e4 i4)
    (d_e5 : DefF K "__init__" "InvalidFinals.__init__" s_e5 i5)
    (d_e6 : DefF K "__init__" "InvalidBound.__init__" s_e6 i6)
    (d_e7 : DefF K "__init__" "InvalidText.__init__" s_e7 i7)
    (d_e8 : DefF K "__init__" "NotWaiting.__init__" s_e8 i8)
    (d_e9 : DefF K "__init__" "LimitExceeded.__init__" s_e9 i9) :
    ∃ fd : FuncData, (∀ (s : Shared) (v : Value), BindsTo s fd ⟨[v], []⟩ [("_law_script", v)]) ∧ ∀ base : Heap, K.In base → base.Ns mainGlobals mg → FnOk l.prog w K mg base CX0 4 fa fd ["_law_script"] (spLaw K) := by
  have e := hfa.symm.trans (PySem.W.mg_of X G a_law)
  cases e
  obtain ⟨fd_is_integer, F_is_integer⟩ := d_is_integer.ex
  have b_is_integer := F_is_integer.binds (ps := ["value"]) fun _ _ _ _ _ _ us hl => match us, hl with | [_], _ => rfl
  obtain ⟨fd_cell_at, F_cell_at⟩ := d_cell_at.ex
  have b_cell_at := F_cell_at.binds (ps := ["_law_script", "_law_k"]) fun _ _ _ _ _ _ us hl => match us, hl with | [_, _], _ => rfl
  obtain ⟨fd_source_of, F_source_of⟩ := d_source_of.ex
  have b_source_of := F_source_of.binds (ps := ["_law_cell"]) fun _ _ _ _ _ _ us hl => match us, hl with | [_], _ => rfl
  obtain ⟨fd_draw, F_draw⟩ := d_draw.ex
  have b_draw := F_draw.binds (ps := ["_law_source", "_law_many"]) fun _ _ _ _ _ _ us hl => match us, hl with | [_, _], _ => rfl
  obtain ⟨fd_kinds, F_kinds⟩ := d_kinds.ex
  have b_kinds := F_kinds.binds (ps := ["_law_e"]) fun _ _ _ _ _ _ us hl => match us, hl with | [_], _ => rfl
  obtain ⟨fd_fields, F_fields⟩ := d_fields.ex
  have b_fields := F_fields.binds (ps := ["_law_errors"]) fun _ _ _ _ _ _ us hl => match us, hl with | [_], _ => rfl
  obtain ⟨fd_right, F_right⟩ := d_right.ex
  have b_right := F_right.binds (ps := ["_law_field"]) fun _ _ _ _ _ _ us hl => match us, hl with | [_], _ => rfl
  obtain ⟨fd_law, F_law⟩ := d_law.ex
  obtain ⟨fd_e0, F_e0⟩ := d_e0.ex
  have b_e0 := F_e0.binds (ps := ["self", "number"]) fun _ _ _ _ _ _ us hl => match us, hl with | [_, _], _ => rfl
  obtain ⟨fd_e1, F_e1⟩ := d_e1.ex
  have b_e1 := F_e1.binds (ps := ["self", "number"]) fun _ _ _ _ _ _ us hl => match us, hl with | [_, _], _ => rfl
  obtain ⟨fd_e2, F_e2⟩ := d_e2.ex
  have b_e2 := F_e2.binds (ps := ["self", "at"]) fun _ _ _ _ _ _ us hl => match us, hl with | [_, _], _ => rfl
  obtain ⟨fd_e3, F_e3⟩ := d_e3.ex
  have b_e3 := F_e3.binds (ps := ["self", "way"]) fun _ _ _ _ _ _ us hl => match us, hl with | [_, _], _ => rfl
  obtain ⟨fd_e4, F_e4⟩ := d_e4.ex
  have b_e4 := F_e4.binds (ps := ["self", "at"]) fun _ _ _ _ _ _ us hl => match us, hl with | [_, _], _ => rfl
  obtain ⟨fd_e5, F_e5⟩ := d_e5.ex
  have b_e5 := F_e5.binds (ps := ["self", "at"]) fun _ _ _ _ _ _ us hl => match us, hl with | [_, _], _ => rfl
  obtain ⟨fd_e6, F_e6⟩ := d_e6.ex
  have b_e6 := F_e6.binds (ps := ["self", "bound"]) fun _ _ _ _ _ _ us hl => match us, hl with | [_, _], _ => rfl
  obtain ⟨fd_e7, F_e7⟩ := d_e7.ex
  have b_e7 := F_e7.binds (ps := ["self", "at"]) fun _ _ _ _ _ _ us hl => match us, hl with | [_, _], _ => rfl
  obtain ⟨fd_e8, F_e8⟩ := d_e8.ex
  have b_e8 := F_e8.binds (ps := ["self", "end"]) fun _ _ _ _ _ _ us hl => match us, hl with | [_, _], _ => rfl
  obtain ⟨fd_e9, F_e9⟩ := d_e9.ex
  have b_e9 := F_e9.binds (ps := ["self", "limit"]) fun _ _ _ _ _ _ us hl => match us, hl with | [_, _], _ => rfl
  have kb_e0 : ∀ (s : Shared) (a u : Value), K.In s.heap → BindsTo s fd_e0 ⟨[a], [("number", u)]⟩ ((["self", "number"] : List Str).zip [a, u]) := fun s a u _ => by
    obtain ⟨oc, od, kV, doc, pm, an, cdv, ct, osl, rfl, _⟩ := F_e0.ex
    exact .of_eq rfl
  have kb_e1 : ∀ (s : Shared) (a u : Value), K.In s.heap → BindsTo s fd_e1 ⟨[a], [("number", u)]⟩ ((["self", "number"] : List Str).zip [a, u]) := fun s a u _ => by
    obtain ⟨oc, od, kV, doc, pm, an, cdv, ct, osl, rfl, _⟩ := F_e1.ex
    exact .of_eq rfl
  have kb_e2 : ∀ (s : Shared) (a u : Value), K.In s.heap → BindsTo s fd_e2 ⟨[a], [("at", u)]⟩ ((["self", "at"] : List Str).zip [a, u]) := fun s a u _ => by
    obtain ⟨oc, od, kV, doc, pm, an, cdv, ct, osl, rfl, _⟩ := F_e2.ex
    exact .of_eq rfl
  have kb_e3 : ∀ (s : Shared) (a u : Value), K.In s.heap → BindsTo s fd_e3 ⟨[a], [("way", u)]⟩ ((["self", "way"] : List Str).zip [a, u]) := fun s a u _ => by
    obtain ⟨oc, od, kV, doc, pm, an, cdv, ct, osl, rfl, _⟩ := F_e3.ex
    exact .of_eq rfl
  have kb_e4 : ∀ (s : Shared) (a u : Value), K.In s.heap → BindsTo s fd_e4 ⟨[a], [("at", u)]⟩ ((["self", "at"] : List Str).zip [a, u]) := fun s a u _ => by
    obtain ⟨oc, od, kV, doc, pm, an, cdv, ct, osl, rfl, _⟩ := F_e4.ex
    exact .of_eq rfl
  have kb_e5 : ∀ (s : Shared) (a u : Value), K.In s.heap → BindsTo s fd_e5 ⟨[a], [("at", u)]⟩ ((["self", "at"] : List Str).zip [a, u]) := fun s a u _ => by
    obtain ⟨oc, od, kV, doc, pm, an, cdv, ct, osl, rfl, _⟩ := F_e5.ex
    exact .of_eq rfl
  have kb_e6 : ∀ (s : Shared) (a u : Value), K.In s.heap → BindsTo s fd_e6 ⟨[a], [("bound", u)]⟩ ((["self", "bound"] : List Str).zip [a, u]) := fun s a u _ => by
    obtain ⟨oc, od, kV, doc, pm, an, cdv, ct, osl, rfl, _⟩ := F_e6.ex
    exact .of_eq rfl
  have kb_e7 : ∀ (s : Shared) (a u : Value), K.In s.heap → BindsTo s fd_e7 ⟨[a], [("at", u)]⟩ ((["self", "at"] : List Str).zip [a, u]) := fun s a u _ => by
    obtain ⟨oc, od, kV, doc, pm, an, cdv, ct, osl, rfl, _⟩ := F_e7.ex
    exact .of_eq rfl
  have kb_e8 : ∀ (s : Shared) (a u : Value), K.In s.heap → BindsTo s fd_e8 ⟨[a], [("end", u)]⟩ ((["self", "end"] : List Str).zip [a, u]) := fun s a u _ => by
    obtain ⟨oc, od, kV, doc, pm, an, cdv, ct, osl, rfl, _⟩ := F_e8.ex
    exact .of_eq rfl
  have kb_e9 : ∀ (s : Shared) (a u : Value), K.In s.heap → BindsTo s fd_e9 ⟨[a], [("limit", u)]⟩ ((["self", "limit"] : List Str).zip [a, u]) := fun s a u _ => by
    obtain ⟨oc, od, kV, doc, pm, an, cdv, ct, osl, rfl, _⟩ := F_e9.ex
    exact .of_eq rfl
  have kb_int : ∀ (s : Shared) (u : Value), K.In s.heap → BindsTo s fd_is_integer ⟨[], [("value", u)]⟩ ((["value"] : List Str).zip [u]) := fun s u _ => by
    obtain ⟨oc, od, kV, doc, pm, an, cdv, ct, osl, rfl, _⟩ := F_is_integer.ex
    exact .of_eq rfl
  have ac0 := arc_of e0_0 e1_0 e2_0 e3_0 e4_0 e5_0 e6_0 e7_0 e8_0 e9_0 m_0 e10_0
  have ac1 := arc_of e0_1 e1_1 e2_1 e3_1 e4_1 e5_1 e6_1 e7_1 e8_1 e9_1 m_1 e10_1
  have ac2 := arc_of e0_2 e1_2 e2_2 e3_2 e4_2 e5_2 e6_2 e7_2 e8_2 e9_2 m_2 e10_2
  have ac3 := arc_of e0_3 e1_3 e2_3 e3_3 e4_3 e5_3 e6_3 e7_3 e8_3 e9_3 m_3 e10_3
  have ac4 := arc_of e0_4 e1_4 e2_4 e3_4 e4_4 e5_4 e6_4 e7_4 e8_4 e9_4 m_4 e10_4
  have ac5 := arc_of e0_5 e1_5 e2_5 e3_5 e4_5 e5_5 e6_5 e7_5 e8_5 e9_5 m_5 e10_5
  have ac6 := arc_of e0_6 e1_6 e2_6 e3_6 e4_6 e5_6 e6_6 e7_6 e8_6 e9_6 m_6 e10_6
  have ac7 := arc_of e0_7 e1_7 e2_7 e3_7 e4_7 e5_7 e6_7 e7_7 e8_7 e9_7 m_7 e10_7
  have ac8 := arc_of e0_8 e1_8 e2_8 e3_8 e4_8 e5_8 e6_8 e7_8 e8_8 e9_8 m_8 e10_8
  have ac9 := arc_of e0_9 e1_9 e2_9 e3_9 e4_9 e5_9 e6_9 e7_9 e8_9 e9_9 m_9 e10_9
  have T : Txt K mg w ⟨fun i => ([c0, c1, c2, c3, c4, c5, c6, c7, c8, c9] : List Addr).getD i 0, fun i => ([i0, i1, i2, i3, i4, i5, i6, i7, i8, i9] : List Addr).getD i 0, cB⟩ :=
    { n_len := PySem.W.mg_none_of X G z_len, n_int := PySem.W.mg_none_of X G z_int, n_bool := PySem.W.mg_none_of X G z_bool, n_isinstance := PySem.W.mg_none_of X G z_isinstance, n_range := PySem.W.mg_none_of X G z_range, n_all := PySem.W.mg_none_of X G z_all, n_enumerate := PySem.W.mg_none_of X G z_enumerate, n_ArithmeticError := PySem.W.mg_none_of X G z_ArithmeticError, n_ValueError := PySem.W.mg_none_of X G z_ValueError, n_TypeError := PySem.W.mg_none_of X G z_TypeError, n_LookupError := PySem.W.mg_none_of X G z_LookupError,
      g_InvalidCode := ⟨_, PySem.W.mg_of X G x_0, rfl⟩, g_InvalidNumber := ⟨_, PySem.W.mg_of X G x_1, rfl⟩, g_InvalidAnswers := ⟨_, PySem.W.mg_of X G x_2, rfl⟩, g_InvalidWay := ⟨_, PySem.W.mg_of X G x_3, rfl⟩, g_InvalidTable := ⟨_, PySem.W.mg_of X G x_4, rfl⟩, g_InvalidFinals := ⟨_, PySem.W.mg_of X G x_5, rfl⟩, g_InvalidBound := ⟨_, PySem.W.mg_of X G x_6, rfl⟩, g_InvalidText := ⟨_, PySem.W.mg_of X G x_7, rfl⟩, g_NotWaiting := ⟨_, PySem.W.mg_of X G x_8, rfl⟩, g_LimitExceeded := ⟨_, PySem.W.mg_of X G x_9, rfl⟩,
      ar0 := ac0, ar1 := ac1, ar2 := ac2, ar3 := ac3, ar4 := ac4, ar5 := ac5, ar6 := ac6, ar7 := ac7, ar8 := ac8, ar9 := ac9,
      g_CopyError := ⟨_, PySem.W.mg_of X G x_B, rfl⟩, m_CopyError := PySem.W.mg_of X G x_B, xB := xB, kcB := e9_B, isB := ⟨h1_B, e3_B, e4_B, e7_B, h2_B, h4, h5, h3_B⟩,
      isE := fun i hi => match i, hi with
        | 0, _ => ⟨h1_0, e3_0, e4_0, e7_0, h2_0, h4, h5, h3_0⟩
        | 1, _ => ⟨h1_1, e3_1, e4_1, e7_1, h2_1, h4, h5, h3_1⟩
        | 2, _ => ⟨h1_2, e3_2, e4_2, e7_2, h2_2, h4, h5, h3_2⟩
        | 3, _ => ⟨h1_3, e3_3, e4_3, e7_3, h2_3, h4, h5, h3_3⟩
        | 4, _ => ⟨h1_4, e3_4, e4_4, e7_4, h2_4, h4, h5, h3_4⟩
        | 5, _ => ⟨h1_5, e3_5, e4_5, e7_5, h2_5, h4, h5, h3_5⟩
        | 6, _ => ⟨h1_6, e3_6, e4_6, e7_6, h2_6, h4, h5, h3_6⟩
        | 7, _ => ⟨h1_7, e3_7, e4_7, e7_7, h2_7, h4, h5, h3_7⟩
        | 8, _ => ⟨h1_8, e3_8, e4_8, e7_8, h2_8, h4, h5, h3_8⟩
        | 9, _ => ⟨h1_9, e3_9, e4_9, e7_9, h2_9, h4, h5, h3_9⟩,
      kit := kit_of_all kA, kB := fun i hi => (kit_of_row kR i hi).1, kEB := fun i hi => (kit_of_row kR i hi).2.1, kEA := fun i hi => (kit_of_row kR i hi).2.2.1, kBA := kB, kEN := fun i hi => (kit_of_row kR i hi).2.2.2 }
  refine ⟨fd_law, fun s v => ?_, fun base _ _ => ?_⟩
  · obtain ⟨oc, od, kV, doc, pm, an, cdv, ct, osl, rfl, _⟩ := F_law.ex
    exact .of_eq rfl
  have vs : Vs l.prog w K mg base ⟨fun i => ([c0, c1, c2, c3, c4, c5, c6, c7, c8, c9] : List Addr).getD i 0, fun i => ([i0, i1, i2, i3, i4, i5, i6, i7, i8, i9] : List Addr).getD i 0, cB⟩ :=
    { v0 := ⟨_, _, ["self", "number"], ac0, ok_e0 F_e0 T, fun s a u kI => b_e0 s [a, u] kI rfl, kb_e0, PySem.W.mg_of X G x_0⟩,
      v1 := ⟨_, _, ["self", "number"], ac1, ok_e1 F_e1 T, fun s a u kI => b_e1 s [a, u] kI rfl, kb_e1, PySem.W.mg_of X G x_1⟩,
      v2 := ⟨_, _, ["self", "at"], ac2, ok_e2 F_e2 T, fun s a u kI => b_e2 s [a, u] kI rfl, kb_e2, PySem.W.mg_of X G x_2⟩,
      v3 := ⟨_, _, ["self", "way"], ac3, ok_e3 F_e3 T, fun s a u kI => b_e3 s [a, u] kI rfl, kb_e3, PySem.W.mg_of X G x_3⟩,
      v4 := ⟨_, _, ["self", "at"], ac4, ok_e4 F_e4 T, fun s a u kI => b_e4 s [a, u] kI rfl, kb_e4, PySem.W.mg_of X G x_4⟩,
      v5 := ⟨_, _, ["self", "at"], ac5, ok_e5 F_e5 T, fun s a u kI => b_e5 s [a, u] kI rfl, kb_e5, PySem.W.mg_of X G x_5⟩,
      v6 := ⟨_, _, ["self", "bound"], ac6, ok_e6 F_e6 T, fun s a u kI => b_e6 s [a, u] kI rfl, kb_e6, PySem.W.mg_of X G x_6⟩,
      v7 := ⟨_, _, ["self", "at"], ac7, ok_e7 F_e7 T, fun s a u kI => b_e7 s [a, u] kI rfl, kb_e7, PySem.W.mg_of X G x_7⟩,
      v8 := ⟨_, _, ["self", "end"], ac8, ok_e8 F_e8 T, fun s a u kI => b_e8 s [a, u] kI rfl, kb_e8, PySem.W.mg_of X G x_8⟩,
      v9 := ⟨_, _, ["self", "limit"], ac9, ok_e9 F_e9 T, fun s a u kI => b_e9 s [a, u] kI rfl, kb_e9, PySem.W.mg_of X G x_9⟩ }
  have c_is_integer : Cal l.prog w K mg base 1 "is_integer" (spIsInt K) [] := ⟨_, _, _, _, ok_is_integer F_is_integer T, PySem.W.mg_of X G a_is_integer, F_is_integer.kp, b_is_integer, .nil⟩
  have k_int : CalK l.prog w K mg base 1 "is_integer" "value" (spIsInt K) := ⟨_, _, ["value"], ok_is_integer F_is_integer T, PySem.W.mg_of X G a_is_integer, F_is_integer.kp, kb_int⟩
  have c_cell_at : Cal l.prog w K mg base 1 "_law_cell_at" (spCellAt K) [] := ⟨_, _, _, _, ok_cell_at F_cell_at T, PySem.W.mg_of X G a_cell_at, F_cell_at.kp, b_cell_at, .nil⟩
  have c_source_of : Cal l.prog w K mg base 1 "_law_source_of" spSourceOf [] := ⟨_, _, _, _, ok_source_of F_source_of T, PySem.W.mg_of X G a_source_of, F_source_of.kp, b_source_of, .nil⟩
  have c_draw : Cal l.prog w K mg base 1 "_law_draw" spDraw [] := ⟨_, _, _, _, ok_draw F_draw T, PySem.W.mg_of X G a_draw, F_draw.kp, b_draw, .nil⟩
  have c_kinds : Cal l.prog w K mg base 1 "_law_kinds" (spKinds K _) [] := ⟨_, _, _, _, ok_kinds F_kinds T, PySem.W.mg_of X G a_kinds, F_kinds.kp, b_kinds, .nil⟩
  have c_fields : Cal l.prog w K mg base 1 "_law_fields" (spFields _) [] := ⟨_, _, _, _, ok_fields F_fields T, PySem.W.mg_of X G a_fields, F_fields.kp, b_fields, .nil⟩
  have c_right : Cal l.prog w K mg base 3 "_law_right" (spRight K) [] := ⟨_, _, _, _, ok_right F_right T vs c_fields c_kinds, PySem.W.mg_of X G a_right, F_right.kp, b_right, .nil⟩
  exact ok_law F_law T c_cell_at c_source_of c_draw c_right c_kinds c_is_integer k_int
theorem walk {l : PySem.W.OpenLaw} {q : Program} {loose : List Str} {XP : (Str → Option Value) → Heap → Prop} {YP : World → Heap → Prop} {d : DefRec} {K : Params → PySem.W.Frag} (hn : l.most = some 63) (hdf : d.params.defaults = [])
    (hY : ∀ (w : World) (h : Heap), YP w h → (K w.params).In h)
    (F : ∀ (w : World) (mg : Str → Option Value) (fa : Addr) (h : Heap), (K w.params).In h → h.Ns mainGlobals mg → mg d.name = some (.ref fa) →
      ∃ fd : FuncData, (∀ (s : Shared) (u : Value), BindsTo s fd ⟨[u], []⟩ [("_law_script", u)]) ∧ ∀ base : Heap, (K w.params).In base → base.Ns mainGlobals mg → FnOk l.prog w (K w.params) mg base CX0 4 fa fd ["_law_script"] (spLaw (K w.params))) :
    PySem.W.WalkO q loose XP YP l.row.toRowW d [] (fun f vs => PySem.call f vs) :=
  L2.walk_of (n := 63) (k := 4) (x := "_law_script") (CX := fun _ => CX0) (sp := fun w => spLaw (K w.params)) hn (by decide) hdf ⟨rfl, by decide, by decide⟩ hY F (fun _ _ a ns hl _ hS => ⟨a, ns, rfl, hS, fun _ => rfl⟩) fun _ _ _ _ _ z => z
end K5
end L2
set_option Elab.async false
set_option linter.all false
open PySem PySem.W PyProof.Rows in
set_option maxRecDepth 100000 in
set_option maxHeartbeats 0 in
theorem PySem.Challenge.cw_finallycopies_k05_error_classes_and_inte_holds : PySem.Challenge.rw_finallycopies_k05_error_classes_and_inte.Holds := by
  w_on; o_law; k_head; (case hw => w_witness2)
  k_fill
  refine L2.K5.walk (l := PySem.Challenge.rw_finallycopies_k05_error_classes_and_inte) rfl rfl (fun w h Y => PySem.W.kIn_of Y) ?F
  case F =>
    intro w mg fa h KX G hmg
    refine' L2.K5.all_mk KX G hmg ?a_is_integer ?a_cell_at ?a_source_of ?a_draw ?a_kinds ?a_fields ?a_right ?a_law ?x_0 ?x_1 ?x_2 ?x_3 ?x_4 ?x_5 ?x_6 ?x_7 ?x_8 ?x_9 ?x_B ?z_len ?z_int ?z_bool ?z_isinstance ?z_range ?z_all ?z_enumerate ?z_ArithmeticError ?z_ValueError ?z_TypeError ?z_LookupError ?m_0 ?m_1 ?m_2 ?m_3 ?m_4 ?m_5 ?m_6 ?m_7 ?m_8 ?m_9 ?e0_0 ?e1_0 ?e2_0 ?e3_0 ?e4_0 ?e5_0 ?e6_0 ?e7_0 ?e8_0 ?e9_0 ?e10_0 ?e0_1 ?e1_1 ?e2_1 ?e3_1 ?e4_1 ?e5_1 ?e6_1 ?e7_1 ?e8_1 ?e9_1 ?e10_1 ?e0_2 ?e1_2 ?e2_2 ?e3_2 ?e4_2 ?e5_2 ?e6_2 ?e7_2 ?e8_2 ?e9_2 ?e10_2 ?e0_3 ?e1_3 ?e2_3 ?e3_3 ?e4_3 ?e5_3 ?e6_3 ?e7_3 ?e8_3 ?e9_3 ?e10_3 ?e0_4 ?e1_4 ?e2_4 ?e3_4 ?e4_4 ?e5_4 ?e6_4 ?e7_4 ?e8_4 ?e9_4 ?e10_4 ?e0_5 ?e1_5 ?e2_5 ?e3_5 ?e4_5 ?e5_5 ?e6_5 ?e7_5 ?e8_5 ?e9_5 ?e10_5 ?e0_6 ?e1_6 ?e2_6 ?e3_6 ?e4_6 ?e5_6 ?e6_6 ?e7_6 ?e8_6 ?e9_6 ?e10_6 ?e0_7 ?e1_7 ?e2_7 ?e3_7 ?e4_7 ?e5_7 ?e6_7 ?e7_7 ?e8_7 ?e9_7 ?e10_7 ?e0_8 ?e1_8 ?e2_8 ?e3_8 ?e4_8 ?e5_8 ?e6_8 ?e7_8 ?e8_8 ?e9_8 ?e10_8 ?e0_9 ?e1_9 ?e2_9 ?e3_9 ?e4_9 ?e5_9 ?e6_9 ?e7_9 ?e8_9 ?e9_9 ?e10_9 ?h1_0 ?h2_0 ?h3_0 ?h1_1 ?h2_1 ?h3_1 ?h1_2 ?h2_2 ?h3_2 ?h1_3 ?h2_3 ?h3_3 ?h1_4 ?h2_4 ?h3_4 ?h1_5 ?h2_5 ?h3_5 ?h1_6 ?h2_6 ?h3_6 ?h1_7 ?h2_7 ?h3_7 ?h1_8 ?h2_8 ?h3_8 ?h1_9 ?h2_9 ?h3_9 ?h1_B ?h2_B ?h3_B ?e3_B ?e4_B ?e7_B ?e9_B ?h4 ?h5 ?xB ?kA ?kR ?kB ?d_is_integer ?d_cell_at ?d_source_of ?d_draw ?d_kinds ?d_fields ?d_right ?d_law ?d_e0 ?d_e1 ?d_e2 ?d_e3 ?d_e4 ?d_e5 ?d_e6 ?d_e7 ?d_e8 ?d_e9
    (case a_is_integer => k_is)
    (case a_cell_at => k_is)
    (case a_source_of => k_is)
    (case a_draw => k_is)
    (case a_kinds => k_is)
    (case a_fields => k_is)
    (case a_right => k_is)
    (case a_law => k_is)
    (case x_0 => k_is)
    (case x_1 => k_is)
    (case x_2 => k_is)
    (case x_3 => k_is)
    (case x_4 => k_is)
    (case x_5 => k_is)
    (case x_6 => k_is)
    (case x_7 => k_is)
    (case x_8 => k_is)
    (case x_9 => k_is)
    (case x_B => k_is)
    (case z_len => k_is)
    (case z_int => k_is)
    (case z_bool => k_is)
    (case z_isinstance => k_is)
    (case z_range => k_is)
    (case z_all => k_is)
    (case z_enumerate => k_is)
    (case z_ArithmeticError => k_is)
    (case z_ValueError => k_is)
    (case z_TypeError => k_is)
    (case z_LookupError => k_is)
    (case m_0 => k_is)
    (case m_1 => k_is)
    (case m_2 => k_is)
    (case m_3 => k_is)
    (case m_4 => k_is)
    (case m_5 => k_is)
    (case m_6 => k_is)
    (case m_7 => k_is)
    (case m_8 => k_is)
    (case m_9 => k_is)
    (case e0_0 => k_is)
    (case e1_0 => decide +kernel)
    (case e2_0 => k_is)
    (case e3_0 => k_is)
    (case e4_0 => k_is)
    (case e5_0 => k_is)
    (case e6_0 => k_is)
    (case e7_0 => k_is)
    (case e8_0 => k_is)
    (case e9_0 => k_is)
    (case e10_0 => k_is)
    (case e0_1 => k_is)
    (case e1_1 => decide +kernel)
    (case e2_1 => k_is)
    (case e3_1 => k_is)
    (case e4_1 => k_is)
    (case e5_1 => k_is)
    (case e6_1 => k_is)
    (case e7_1 => k_is)
    (case e8_1 => k_is)
    (case e9_1 => k_is)
    (case e10_1 => k_is)
    (case e0_2 => k_is)
    (case e1_2 => decide +kernel)
    (case e2_2 => k_is)
    (case e3_2 => k_is)
    (case e4_2 => k_is)
    (case e5_2 => k_is)
    (case e6_2 => k_is)
    (case e7_2 => k_is)
    (case e8_2 => k_is)
    (case e9_2 => k_is)
    (case e10_2 => k_is)
    (case e0_3 => k_is)
    (case e1_3 => decide +kernel)
    (case e2_3 => k_is)
    (case e3_3 => k_is)
    (case e4_3 => k_is)
    (case e5_3 => k_is)
    (case e6_3 => k_is)
    (case e7_3 => k_is)
    (case e8_3 => k_is)
    (case e9_3 => k_is)
    (case e10_3 => k_is)
    (case e0_4 => k_is)
    (case e1_4 => decide +kernel)
    (case e2_4 => k_is)
    (case e3_4 => k_is)
    (case e4_4 => k_is)
    (case e5_4 => k_is)
    (case e6_4 => k_is)
    (case e7_4 => k_is)
    (case e8_4 => k_is)
    (case e9_4 => k_is)
    (case e10_4 => k_is)
    (case e0_5 => k_is)
    (case e1_5 => decide +kernel)
    (case e2_5 => k_is)
    (case e3_5 => k_is)
    (case e4_5 => k_is)
    (case e5_5 => k_is)
    (case e6_5 => k_is)
    (case e7_5 => k_is)
    (case e8_5 => k_is)
    (case e9_5 => k_is)
    (case e10_5 => k_is)
    (case e0_6 => k_is)
    (case e1_6 => decide +kernel)
    (case e2_6 => k_is)
    (case e3_6 => k_is)
    (case e4_6 => k_is)
    (case e5_6 => k_is)
    (case e6_6 => k_is)
    (case e7_6 => k_is)
    (case e8_6 => k_is)
    (case e9_6 => k_is)
    (case e10_6 => k_is)
    (case e0_7 => k_is)
    (case e1_7 => decide +kernel)
    (case e2_7 => k_is)
    (case e3_7 => k_is)
    (case e4_7 => k_is)
    (case e5_7 => k_is)
    (case e6_7 => k_is)
    (case e7_7 => k_is)
    (case e8_7 => k_is)
    (case e9_7 => k_is)
    (case e10_7 => k_is)
    (case e0_8 => k_is)
    (case e1_8 => decide +kernel)
    (case e2_8 => k_is)
    (case e3_8 => k_is)
    (case e4_8 => k_is)
    (case e5_8 => k_is)
    (case e6_8 => k_is)
    (case e7_8 => k_is)
    (case e8_8 => k_is)
    (case e9_8 => k_is)
    (case e10_8 => k_is)
    (case e0_9 => k_is)
    (case e1_9 => decide +kernel)
    (case e2_9 => k_is)
    (case e3_9 => k_is)
    (case e4_9 => k_is)
    (case e5_9 => k_is)
    (case e6_9 => k_is)
    (case e7_9 => k_is)
    (case e8_9 => k_is)
    (case e9_9 => k_is)
    (case e10_9 => k_is)
    (case h1_0 => kernel_rfl)
    (case h2_0 => k_is)
    (case h3_0 => k_is)
    (case h1_1 => kernel_rfl)
    (case h2_1 => k_is)
    (case h3_1 => k_is)
    (case h1_2 => kernel_rfl)
    (case h2_2 => k_is)
    (case h3_2 => k_is)
    (case h1_3 => kernel_rfl)
    (case h2_3 => k_is)
    (case h3_3 => k_is)
    (case h1_4 => kernel_rfl)
    (case h2_4 => k_is)
    (case h3_4 => k_is)
    (case h1_5 => kernel_rfl)
    (case h2_5 => k_is)
    (case h3_5 => k_is)
    (case h1_6 => kernel_rfl)
    (case h2_6 => k_is)
    (case h3_6 => k_is)
    (case h1_7 => kernel_rfl)
    (case h2_7 => k_is)
    (case h3_7 => k_is)
    (case h1_8 => kernel_rfl)
    (case h2_8 => k_is)
    (case h3_8 => k_is)
    (case h1_9 => kernel_rfl)
    (case h2_9 => k_is)
    (case h3_9 => k_is)
    (case h1_B => kernel_rfl)
    (case h2_B => k_is)
    (case h3_B => k_is)
    (case e3_B => k_is)
    (case e4_B => k_is)
    (case e7_B => k_is)
    (case e9_B => k_is)
    (case h4 => k_is)
    (case h5 => k_is)
    (case xB => kernel_rfl)
    (case kA => kernel_rfl)
    (case kR => kernel_rfl)
    (case kB => kernel_rfl)
    (case d_is_integer => refine' L2.K5.DefF.of ?l ?c ?k; (case l => k_is); (case c => k_is); (case k => k_is))
    (case d_cell_at => refine' L2.K5.DefF.of ?l ?c ?k; (case l => k_is); (case c => k_is); (case k => k_is))
    (case d_source_of => refine' L2.K5.DefF.of ?l ?c ?k; (case l => k_is); (case c => k_is); (case k => k_is))
    (case d_draw => refine' L2.K5.DefF.of ?l ?c ?k; (case l => k_is); (case c => k_is); (case k => k_is))
    (case d_kinds => refine' L2.K5.DefF.of ?l ?c ?k; (case l => k_is); (case c => k_is); (case k => k_is))
    (case d_fields => refine' L2.K5.DefF.of ?l ?c ?k; (case l => k_is); (case c => k_is); (case k => k_is))
    (case d_right => refine' L2.K5.DefF.of ?l ?c ?k; (case l => k_is); (case c => k_is); (case k => k_is))
    (case d_law => refine' L2.K5.DefF.of ?l ?c ?k; (case l => k_is); (case c => k_is); (case k => k_is))
    (case d_e0 => refine' L2.K5.DefF.of ?l ?c ?k; (case l => k_is); (case c => k_is); (case k => k_is))
    (case d_e1 => refine' L2.K5.DefF.of ?l ?c ?k; (case l => k_is); (case c => k_is); (case k => k_is))
    (case d_e2 => refine' L2.K5.DefF.of ?l ?c ?k; (case l => k_is); (case c => k_is); (case k => k_is))
    (case d_e3 => refine' L2.K5.DefF.of ?l ?c ?k; (case l => k_is); (case c => k_is); (case k => k_is))
    (case d_e4 => refine' L2.K5.DefF.of ?l ?c ?k; (case l => k_is); (case c => k_is); (case k => k_is))
    (case d_e5 => refine' L2.K5.DefF.of ?l ?c ?k; (case l => k_is); (case c => k_is); (case k => k_is))
    (case d_e6 => refine' L2.K5.DefF.of ?l ?c ?k; (case l => k_is); (case c => k_is); (case k => k_is))
    (case d_e7 => refine' L2.K5.DefF.of ?l ?c ?k; (case l => k_is); (case c => k_is); (case k => k_is))
    (case d_e8 => refine' L2.K5.DefF.of ?l ?c ?k; (case l => k_is); (case c => k_is); (case k => k_is))
    (case d_e9 => refine' L2.K5.DefF.of ?l ?c ?k; (case l => k_is); (case c => k_is); (case k => k_is))
#print axioms PySem.Challenge.cw_finallycopies_k05_error_classes_and_inte_holds
