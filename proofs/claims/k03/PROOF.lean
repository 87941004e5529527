import PyProof.Rows.All
import Wide.All
import OpenK.AllK
import Wide.FinOn
import HandS.ForMost
import HandS.ForExc
import HandS.ExcInit
import HandS.ExcField
import HandS.TryMany
import KE.KExcInit
import HandS.Codes
import HandS.IsInst
import HandS.Style
import HandS.TupMul
import HandS.ExcIs
import HandS.More
import HandS.Iter
import HandS.HeadHook3
import PySem.Challenge.RW_finallycopies_k03_invalid_statements
set_option Elab.async false
set_option linter.all false
set_option maxRecDepth 100000
set_option maxHeartbeats 4000000
/-! Exceptions of the program: direct or indirect subclasses of ArithmeticError, with an own __init__ that stores one field. -/
namespace L2
namespace Fc
open PySem PySem.Spec PyProof.Rows Builtin Builtin.ObjectAttr
open PySem.W (Frag findIn subIn typeIn keepIn hasDictIn clsIn)

/-! ### classes over ArithmeticError -/
abbrev arTail : List Value := [.type "ArithmeticError", .type "Exception", .type "BaseException", .type "object"]
def arOver : List Value → Bool
  | .ref _ :: more => arOver more
  | rest => rest == arTail
theorem arOver_split : ∀ l : List Value, arOver l = true → (∃ (c : Addr) (r : List Value), l = Value.ref c :: r ∧ arOver r = true) ∨ l = arTail := by
  intro l e
  match l, e with
  | [], e => exact Or.inr (beq_iff_eq.mp e)
  | x :: r, e =>
    cases x
    case ref c => exact Or.inl ⟨c, r, rfl, e⟩
    all_goals exact Or.inr (beq_iff_eq.mp e)
theorem arOver_pass (v : Value) : ∀ l : List Value, arOver l = true → PySem.refuseLoop v "__setattr__" l = pure () := by
  intro l
  induction l with
  | nil => intro e; exact absurd e (by decide)
  | cons a r ih =>
    intro e
    rcases arOver_split (a :: r) e with ⟨c, r', q, h'⟩ | q
    · obtain ⟨q1, q2⟩ := List.cons.inj q
      rw [q1, refuseLoop_ref]
      exact ih (q2 ▸ h')
    · rw [q]
      exact F.store_ArithmeticError.passes v
theorem arOver_has (T : String) : ∀ l : List Value, arOver l = true → l.contains (.type T) = arTail.contains (.type T) := by
  intro l
  induction l with
  | nil => intro e; exact absurd e (by decide)
  | cons a r ih =>
    intro e
    rcases arOver_split (a :: r) e with ⟨c, r', q, h'⟩ | q
    · obtain ⟨q1, q2⟩ := List.cons.inj q
      rw [q1, List.contains_cons, ih (q2 ▸ h')]
      rfl
    · rw [q]
theorem arOver_some {l : List Value} (e : arOver l = true) : l.isEmpty = false := by
  match l, e with
  | [], e => exact absurd e (by decide)
  | _ :: _, _ => rfl

open PySem.HandSPX in
/-- the first field of an exception that has no dict -/
theorem ar_store {prog : Program} {w : World} {A : Around} {R : Result → Shared → Prop} {hp : Heap} {g : Array GenState} {d : Drawn} {t : Nat} {os : OsState} {K : Frag} {name : Str} {tk : Tok} {v : Value} {x C : Addr} {fv : Array Value} {cd : ClassData}
    (KI : K.In hp) (hx : hp.get? x = some { cls := .ref C, data := .fields fv }) (hcd : clsIn K C = some cd) (hm : arOver cd.mro = true) (hh : cd.hasDict = true) (ha : findIn K (.ref C) name = some none)
    (hq : ∀ (h' : Heap) (tk' : Nat) (dx : Addr), (∀ b o, b ≠ x → hp.get? b = some o → h'.get? b = some o) → hp.objs.size ≤ dx → dx ≠ x → h'.get? x = some { cls := .ref C, dict := some dx, data := .fields fv } →
      h'.Ns1 dx (fun y => if y = name then some v else none) → R (.ok (.ret .none)) ⟨h', g, d, tk', os⟩) :
    codeAny (model prog w) A (.call (.builtin "object.__setattr__") ⟨[.ref x, .str name tk, v], []⟩) R ⟨hp, g, d, t, os⟩ := by
  have inst : W.InstAt hp x { cls := .ref C, data := .fields fv } C none := ⟨hx, rfl, rfl, trivial⟩
  have SF := F.store_object
  have nem := arOver_some hm
  have hasO : cd.mro.contains (.type "object") = true := (arOver_has "object" _ hm).trans (by decide +kernel)
  have far : x ≠ hp.objs.size := Nat.ne_of_lt (Heap.lt_size hx)
  have isO : W.Looks (model prog w) hp (isInstance (.ref x) (.type "object")) true := by
    refine inst.type.andThen (W.looks_mroIn KI ?_)
    unfold W.mroIn
    rw [hcd, Option.bind_some, if_neg (by rw [nem]; decide), hasO]
  refine codeAny_call_builtin SF.slot.plain SF.entry ?_
  refine @W.check_slot (model prog w) _ _ ⟨hp, g, d, t, os⟩ "object.__setattr__" "object" "__setattr__" (.ref x) [.str name tk, v] [] _ SF.kind SF.split isO (SF.args (.ref x) (.str name tk) v) ?_
  have lm : W.Looks (model prog w) hp (mroOf (.ref C)) cd.mro := (W.looks_clsIn KI hcd).andThen .now
  have lt : W.Looks (model prog w) hp (storeTaker? none) none := .now
  have lc : W.Looks (model prog w) hp (classData C) cd := W.looks_clsIn KI hcd
  rw [W.osa_eq, refuse_eq]
  refine wpAny_bind (wpAny_bind (inst.type.at (wpAny_bind (lm.at ?_))))
  rw [arOver_pass _ _ hm]
  refine wpAny_pure (wpAny_bind (inst.type.at (wpAny_bind ((W.looks_findIn KI ha).at (wpAny_bind (lt.at ?_))))))
  show wpAny _ _ (storeInOwnDict (.ref x) (.ref C) (.str name tk) name v false) _ _ _
  obtain ⟨nm, bs, mro, ns, qn, hd, sn, sb, ab, col, del⟩ := cd
  dsimp only at hh
  subst hh
  unfold storeInOwnDict ownDictForStores
  repeat (first | with_reducible refine store_in_new ?_ ?_ | with_reducible refine wpAny_loadPart_at hx ?_ | with_reducible refine lc.at ?_ | wp_step)
  · refine ⟨_, #[], _, (Heap.get?_update_ne _ _ _ _ far.symm).trans (Heap.get?_push_at rfl rfl), rfl, ?_, fun _ => rfl⟩
    intro e he
    exact absurd he (by simp)
  · intro h' tk' hn' hs
    have hx1 : (hp.push { cls := .type "dict", data := .dict #[] }).get? x = some { cls := .ref C, data := .fields fv } := Heap.get?_push_of_some _ hx
    refine hq h' tk' hp.objs.size ?_ (Nat.le_refl _) far.symm ?_ hn'
    · intro b o hb ho
      refine (hs.2 b (Nat.ne_of_lt (Heap.lt_size ho))).trans ?_
      exact (Heap.get?_update_ne _ _ _ _ hb).trans (Heap.get?_push_of_some _ ho)
    · exact (hs.2 x far).trans (Heap.get?_update_self _ hx1 rfl)

/-- what the written part says of an exception class C whose one field is f and whose __init__ is at fI -/
structure ArC (K : Frag) (C fI : Addr) (f : Str) : Prop where
  cls : ∃ nm q N bs bm sn sub ab col dd k0 k1 k2 k3 k5, K.lookup C = some (excClassObj nm q C N bs bm true sn sub ab col dd k0 k1 k2 k3 k5 "ArithmeticError.__new__") ∧ arOver bm = true
  sa : findIn K (.ref C) "__setattr__" = some (some (.builtin "object.__setattr__"))
  ga : findIn K (.ref C) "__getattribute__" = some (some (.builtin "BaseException.__getattribute__"))
  gg : findIn K (.ref C) "__getattr__" = some none
  hd : hasDictIn K C = true
  nf : findIn K (.ref C) f = some none
  exC : subIn K (.ref C) (.type "BaseException") = some true
  tyC : typeIn K (.ref C) = some (.type "type")
  kC : keepIn K (.ref C) = true
  iC : findIn K (.ref C) "__init__" = some (some (.ref fI))
  tI : typeIn K (.ref fI) = some (.type "function")
theorem ArC.xf {K : Frag} {C fI : Addr} {f : Str} (T : ArC K C fI f) : XfC K C := ⟨T.ga, T.gg, T.exC, T.hd⟩

section
variable {X : Cx} {pins : List (Addr × Obj)} {σ : St} {H : Hp} {s : Shared} {a C fI : Addr} {f : Str} {y : V} {u : Value}
theorem ar_put {Q : Unit → Shared → Prop} {E : Value → Shared → Prop} {A : Around} (T : ArC X.K C fI f) (I : Inv X pins σ H s) (e : H a = some (exo a C none)) (ry : RelV y u)
    (h : ∀ dx s', H dx = none → dx ≠ a → Inv X pins σ (upd (upd H dx (exd dx [(f, y)])) a (exo a C (some dx))) s' → Q () s') : wpAny (model X.prog X.w) A (setAttr (.ref a) f u) Q E s := by
  obtain ⟨nm, q, N, bs, bm, sn, sub, ab, col, dd, k0, k1, k2, k3, k5, hC, hbm⟩ := T.cls
  have hcl : clsIn X.K C = some { name := nm, bases := bs, mro := .ref C :: bm, ns := N, qualname := q, hasDict := true, slotNames := sn, subclasses := sub, abstract := ab, collection := col, hasDel := false } := by
    unfold PySem.W.clsIn
    rw [hC] <;> rfl
  obtain ⟨t1, ho⟩ := exo_at I.hok e
  obtain ⟨hp, g, d, t, os⟩ := s
  refine PySem.W.set_plain I.kIn (ox := { cls := .ref C, dict := none, data := .fields #[.ref t1, .none, .none, .none, .bool false, .none] }) (od := none) ⟨ho, rfl, rfl, trivial⟩ T.sa ?_
  refine ar_store I.kIn ho hcl (show arOver (.ref C :: bm) = true from hbm) rfl T.nf ?_
  intro h' tk' dx k dn dne hx hn
  have free : H dx = none := I.hok.fresh dn
  have nd : ∀ {b : Addr} {o : Obj}, hp.get? b = some o → b ≠ dx := fun {b o} q => Nat.ne_of_lt (Nat.lt_of_lt_of_le (Heap.lt_size q) dn)
  have na : ∀ {b : Addr}, H b = none → b ≠ a := fun {b} n z => by
    rw [z, e] at n
    cases n
  have U : Un X.fs [] H (upd (upd H dx (exd dx [(f, y)])) a (exo a C (some dx))) hp h' := by
    constructor
    · intro b o q n _ _
      exact k b o (na n) q
    · intro b o q n _ _
      exact ⟨o.slots, k b o (na n) q⟩
    · intro b o q n _
      rw [upd_ne (na n), upd_ne (nd q)]
      exact n
    · intro b o q _
      by_cases hb : b = a
      · exact ⟨_, by rw [hb]; exact hx⟩
      · exact ⟨o, k b o hb q⟩
    · intro b xs q
      rw [upd_ne (at_ne e q exo_tup), upd_ne (ne_of_none q free)]
      exact q
    · intro b o v q
      rw [upd_ne (at_ne e q exo_frz), upd_ne (ne_of_none q free)]
      exact q
    · intro b ps q
      refine ⟨#[], ?_⟩
      rw [upd_ne (at_ne e q exo_tbl), upd_ne (ne_of_none q free), q]
      simp
  refine h dx _ free dne (I.un (t' := tk') U ?_)
  intro b o q
  by_cases hb : b = a
  · subst hb
    rw [upd_same] at q
    cases q
    exact exo_ok hx
  · rw [upd_ne hb] at q
    by_cases hd : b = dx
    · subst hd
      rw [upd_same] at q
      cases q
      exact exd_ok hn (relO_put (fs := []) ry fun g => True.intro)
    · rw [upd_ne hd] at q
      refine (I.hok b o q).stay ?_ ?_ ?_
      · intro c v hc z
        refine k c v ?_ z
        rcases hc with hc | hc
        · rw [hc]
          exact hb
        · exact at_ne e hc exo_own
      · intro c hc
        rw [upd_ne (at_ne e hc exo_own), upd_ne (ne_of_none hc free)]
        exact hc
      · intro c xs hc
        rw [upd_ne (at_ne e hc exo_tup), upd_ne (ne_of_none hc free)]
        exact hc
end

/-! ### __init__: self.f = v -/
def spExc (C : Addr) (f : Str) : Sp := fun vs H Q _ => ∃ (a : Addr) (y : V), vs = [.ref a, y] ∧ H a = some (exo a C none) ∧
  ∀ dx, H dx = none → dx ≠ a → Q .non (upd (upd H dx (exd dx [(f, y)])) a (exo a C (some dx)))
/-- self.f = e, the first field -/
def tArSet (K : Frag) (f : Str) (to te : TE) : TS := fun D σ H => te σ H fun y H1 => to σ H1 fun x H2 => ∃ a C fI : Addr, x = .ref a ∧ ArC K C fI f ∧
  H2 a = some (exo a C none) ∧ ∀ dx, H2 dx = none → dx ≠ a → D.nx σ (upd (upd H2 dx (exd dx [(f, y)])) a (exo a C (some dx)))
theorem ps_arset {X : Cx} {o e : Expr} {to te : TE} {f : Str} {p' pos : Pos} (ho : PE X o to) (he : PE X e te) (hs : swapsWith e (some (.Attribute o f p')) pos.line X.env = pure false := by rfl) :
    PS X (.Assign [.Attribute o f p'] e pos) (tArSet X.K f to te) := by
  refine ⟨fun pins s σ H D I h => ?_⟩
  refine plainObj_wpAny_Assign_Attribute (thn (he.run pins s σ H _ I h) fun v s1 hv => ?_) hs
  obtain ⟨y, H1, I1, r1, q1⟩ := hv
  refine thn (ho.run pins s1 σ H1 _ I1 q1) fun u s2 hu => ?_
  obtain ⟨x, H2, I2, r2, a, C, fI, ex, T, ea, q⟩ := hu
  subst ex
  obtain rfl : u = Value.ref a := r2
  exact ar_put T I2 ea r1 fun dx s' n ne J => ⟨σ, _, J, q dx n ne⟩

/-! ### C(e), to be raised -/
def tArMk (C : Addr) (f : Str) (ta : TA) : St → Hp → XK → Prop := fun σ H Q => ta σ H fun vs H1 => ∃ y, vs = [y] ∧ ∀ d, H1 d = none → Q (.ref C) (some d) (upd H1 d (.xd [(f, y)]))
theorem ar_end {H1 : Hp} {a d C : Addr} {f : Str} {y : V} (n : H1 a = none) (dn : d ≠ a) :
    upd (del (upd (upd (upd H1 a (exo a C none)) d (exd d [(f, y)])) a (exo a C (some d))) a) d (.xd [(f, y)]) = upd H1 d (.xd [(f, y)]) := by
  funext b
  by_cases hb : b = d
  · rw [hb, upd_same, upd_same]
  · rw [upd_ne hb, upd_ne hb]
    by_cases ha : b = a
    · rw [ha, del_same, n]
    · rw [del_ne ha, upd_ne ha, upd_ne hb, upd_ne ha]
section
variable {X : Cx} {CX : CXT} {C fI : Addr} {f x : Str} {k : Nat} {fd : FuncData} {ta : TA} {e : Expr} {es : List Expr} {p pos : Pos}
theorem pmk_ar {ps : List Str} (T : ArC X.K C fI f) (F1 : FnOk X.prog X.w X.K X.mg X.base CX k fI fd ps (spExc C f)) (hr : Room (k + 1) X.A) (hb : Binds X.K fd ps [])
    (hx : Passes CX X (fun _ _ _ => False)) (hg : Gl X x) (hm : X.mg x = some (.ref C)) (ha : PA X (e :: es) ta)
    (hdb : (x == ("__debug__" : Str)) = false := by decide) (he : starEach (e :: es) X.env = (false, eval e X.env) :: starEach es X.env := by rfl) (hpl : (backTo pos (starEach es X.env)).any (·.1) = false := by rfl) :
    PMk X (.Call (.Name x p) (e :: es) [] pos) (tArMk C f ta) := by
  intro pins s σ H Q I h
  obtain ⟨nm, q, N, bs, bm, sn, sub, ab, col, dd, k0, k1, k2, k3, k5, hC, hbm⟩ := T.cls
  refine wpAny_Call_Name_kw (ld_glob I hg hm ?_ hdb)
  refine PySem.W.callWith_K (h₀ := X.base) I.ok.mod.kin T.kC (thn (ha.run pos pins s σ H _ I h) fun us s1 hh => ?_) he hpl
  obtain ⟨vs, H1, I1, r1, y, ey, q1⟩ := hh
  subst ey
  refine ⟨I1.kIn, ?_⟩
  show wpAny _ _ (call (.ref C) us) _ _ _
  obtain ⟨hp, g, dr, tk, os⟩ := s1
  have hsz : hp.objs.size ≤ hp.objs.size + 1 := Nat.le_succ _
  have hn : H1 (hp.objs.size + 1) = none := I1.hok.fresh hsz
  have keep2 : ∀ b o, hp.get? b = some o → ((hp.push (PySem.W.kdv_tup us)).push (PySem.HandSPX.excO C hp.objs.size)).get? b = some o := fun b o z => Heap.get?_push_of_some _ (Heap.get?_push_of_some _ z)
  have hget : ((hp.push (PySem.W.kdv_tup us)).push (PySem.HandSPX.excO C hp.objs.size)).get? (hp.objs.size + 1) = some (PySem.HandSPX.excO C hp.objs.size) := by heap_get
  have I2 : Inv X pins σ (upd H1 (hp.objs.size + 1) (exo (hp.objs.size + 1) C none)) ⟨(hp.push (PySem.W.kdv_tup us)).push (PySem.HandSPX.excO C hp.objs.size), g, dr, tk, os⟩ :=
    I1.laid (t' := tk) (a := hp.objs.size + 1) (o := exo (hp.objs.size + 1) C none) keep2 hsz (exo_ok hget)
  have r2 : Vals [V.ref (hp.objs.size + 1), y] (Value.ref (hp.objs.size + 1) :: (us ++ [])) := .cons rfl (by rw [List.append_nil]; exact r1)
  have call1 : spExc C f [V.ref (hp.objs.size + 1), y] (upd H1 (hp.objs.size + 1) (exo (hp.objs.size + 1) C none))
      (fun v H2 => v = .non ∧ ∃ d : Addr, H2 (hp.objs.size + 1) = some (exo (hp.objs.size + 1) C (some d)) ∧ H2 d = some (exd d [(f, y)]) ∧ H1 d = none ∧ Q (.ref C) (some d) (upd (del H2 (hp.objs.size + 1)) d (.xd [(f, y)]))) (fun _ _ _ => False) := by
    refine ⟨_, y, rfl, upd_same, fun dx n ne => ⟨rfl, dx, upd_same, by rw [upd_ne ne]; exact upd_same, by rw [upd_ne ne] at n; exact n, ?_⟩⟩
    rw [ar_end hn ne]
    exact q1 dx (by rw [upd_ne ne] at n; exact n)
  have hl : (Value.ref (hp.objs.size + 1) :: us ++ []).length = ps.length := by
    have z := r2.length
    rw [F1.len _ _ _ _ call1] at z
    exact z.symm
  have hus : us.length ≤ sizeLine := by
    rw [← Paired.length r1, sizeLine_eq]
    exact (by decide : 1 ≤ 16777216)
  have hbb := hb _ (Value.ref (hp.objs.size + 1) :: us) I2.kIn hl
  rw [List.cons_append] at hbb
  refine wpAny_call (PySem.HandSPX.call_own F.excBase_ArithmeticError (fun Y => arOver_has Y bm hbm) (I1.kIn _ _ hC) (PySem.W.looks_findIn I1.kIn T.iC) (fun self => PySem.W.bind_fn I1.kIn self T.tI) hus ?_)
  refine codeAny_mono (F1.run _ X.stack _ _ ⟨Value.ref (hp.objs.size + 1) :: us, []⟩ (Value.ref (hp.objs.size + 1) :: (us ++ [])) _ _ (fun _ _ _ => False) (hr.make C us []) (I2.env0.make C us []) hbb r2 call1) fun r s' hq' => ?_
  cases r with
  | error er => exact hx pins σ _ _ er s' I2 hq'
  | ok fl =>
    cases fl with
    | ret u =>
      obtain ⟨v, H2, os2, bare2, un2, hok2, rv, ev, d, ea, ed, hd1, q2⟩ := hq'
      subst ev
      obtain ⟨h2, g2, d2, t2, os'⟩ := s'
      exact ⟨rv, mk_end (raises_own T.exC T.tyC) I1 hsz keep2 un2 hok2 os2 bare2 ea ed hd1 q2⟩
    | next => exact False.elim hq'
    | brk => exact False.elim hq'
    | cont => exact False.elim hq'
end
end Fc
end L2
set_option Elab.async false
set_option linter.all false
set_option maxRecDepth 100000
set_option maxHeartbeats 4000000
/-! Objects as they are passed to Code, and the numbering of statements as a machine over a stack. -/
namespace L2
namespace Fc
open PySem PySem.Spec PyProof.Rows

/-- an object, as far as Code looks at it -/
inductive O where
  | non | bl (b : Bool) | int (i : Int) | str (x : Str) | tup (os : List O) | lst | dct
/-- the name of an object's type -/
def O.ty : O → String
  | .non => "NoneType" | .bl _ => "bool" | .int _ => "int" | .str _ => "str" | .tup _ => "tuple" | .lst => "list" | .dct => "dict"

mutual
/-- the value v is the object o -/
inductive Ob (K : PySem.W.Frag) (H : Hp) : V → O → Prop
  | non : Ob K H .non .non
  | bl (b : Bool) : Ob K H (.bl b) (.bl b)
  | int (i : Int) : Ob K H (.int i) (.int i)
  | str (x : Str) : x.length ≤ sizeLine → Ob K H (.str x) (.str x)
  | tup {a : Addr} {xs : List V} {os : List O} : SqT K H a xs → Obs K H xs os → os.length < 20000 → Ob K H (.ref a) (.tup os)
  | lst {a : Addr} {xs : List V} : H a = some (.lst xs) → Ob K H (.ref a) .lst
  | dct {a : Addr} {kvs : List (Key × V)} : H a = some (.dK kvs) → Ob K H (.ref a) .dct
inductive Obs (K : PySem.W.Frag) (H : Hp) : List V → List O → Prop
  | nil : Obs K H [] []
  | cons {v : V} {vs : List V} {o : O} {os : List O} : Ob K H v o → Obs K H vs os → Obs K H (v :: vs) (o :: os)
end
theorem Same.sqt {K : PySem.W.Frag} {H H' : Hp} {a : Addr} {xs : List V} (e : Same H H') (h : SqT K H a xs) : SqT K H' a xs := by
  rcases h with (h | ⟨o, h⟩) | h
  · exact .inl (.inl (e _ _ h))
  · exact .inl (.inr ⟨o, e _ _ h⟩)
  · exact .inr h
mutual
theorem Ob.mono {K : PySem.W.Frag} {H H' : Hp} (e : Same H H') : ∀ {v : V} {o : O}, Ob K H v o → Ob K H' v o
  | _, _, .non => .non
  | _, _, .bl b => .bl b
  | _, _, .int i => .int i
  | _, _, .str x h => .str x h
  | _, _, .tup h r b => .tup (Same.sqt e h) (Obs.mono e r) b
  | _, _, .lst h => .lst (e _ _ h)
  | _, _, .dct h => .dct (e _ _ h)
theorem Obs.mono {K : PySem.W.Frag} {H H' : Hp} (e : Same H H') : ∀ {vs : List V} {os : List O}, Obs K H vs os → Obs K H' vs os
  | _, _, .nil => .nil
  | _, _, .cons h r => .cons (Ob.mono e h) (Obs.mono e r)
end
theorem Obs.len {K : PySem.W.Frag} {H : Hp} : ∀ {vs : List V} {os : List O}, Obs K H vs os → vs.length = os.length
  | _, _, .nil => rfl
  | _, _, .cons _ r => by rw [List.length_cons, List.length_cons, Obs.len r]
theorem Obs.get {K : PySem.W.Frag} {H : Hp} : ∀ {vs : List V} {os : List O} {i : Nat} {o : O}, Obs K H vs os → os[i]? = some o → ∃ v, vs[i]? = some v ∧ Ob K H v o
  | _, _, 0, _, .cons h _, e => ⟨_, rfl, by cases e; exact h⟩
  | _, _, i + 1, _, .cons _ r, e => by
    obtain ⟨v, h1, h2⟩ := Obs.get (i := i) r e
    exact ⟨v, h1, h2⟩
theorem Obs.snoc {K : PySem.W.Frag} {H : Hp} {v : V} {o : O} : ∀ {vs : List V} {os : List O}, Obs K H vs os → Ob K H v o → Obs K H (vs ++ [v]) (os ++ [o])
  | _, _, .nil, h => .cons h .nil
  | _, _, .cons g r, h => .cons g (Obs.snoc r h)
theorem Obs.drop {K : PySem.W.Frag} {H : Hp} : ∀ {vs : List V} {os : List O} (n : Nat), Obs K H vs os → Obs K H (vs.drop n) (os.drop n)
  | _, _, 0, r => r
  | _, _, _ + 1, .nil => .nil
  | _, _, n + 1, .cons _ r => Obs.drop n r
/-- its type, as isinstance asks -/
theorem Ob.tyx {K : PySem.W.Frag} {H : Hp} {v : V} {o : O} (h : Ob K H v o) : TyX K H v (.type o.ty) := by
  cases h with
  | non => exact .base .non
  | bl b => exact .base (.bl b)
  | int i => exact .base (.int i)
  | str x _ => exact .base (.str x)
  | tup h r _ =>
    rcases h with (h | ⟨ob, h⟩) | ⟨ob, its, n, h1, h2, _⟩
    · exact .base (.tup h)
    · exact .fTuple h
    · exact .kTuple h1 h2
  | lst h => exact .base (.lst h)
  | dct h => exact .base (.dK h)
def O.is (o : O) (n : String) : Bool := (kitB o.ty n).getD false
theorem isi_of {K : PySem.W.Frag} {H : Hp} {v : V} {o : O} {n : String} {Q : VK} (h : Ob K H v o) (hn : (kitB o.ty n).isSome = true) (q : Q (.bl (o.is n)) H) : rIsi K [v, .ty n] H Q := by
  obtain ⟨b, hb⟩ := Option.isSome_iff_exists.mp hn
  have e : o.is n = b := by
    unfold O.is
    rw [hb]
    rfl
  rw [e] at q
  exact ⟨v, .ty n, .type o.ty, .type n, b, rfl, .ty n, h.tyx, kit_ty hb, q⟩
def tyNames : List String := ["NoneType", "bool", "int", "str", "tuple", "list", "dict"]
theorem ty_mem (o : O) : o.ty ∈ tyNames := by cases o <;> simp [O.ty, tyNames]
theorem kit_str (o : O) : (kitB o.ty "str").isSome = true := (show ∀ t ∈ tyNames, (kitB t "str").isSome = true by decide +kernel) _ (ty_mem o)
theorem kit_tuple (o : O) : (kitB o.ty "tuple").isSome = true := (show ∀ t ∈ tyNames, (kitB t "tuple").isSome = true by decide +kernel) _ (ty_mem o)
theorem kit_int (o : O) : (kitB o.ty "int").isSome = true := (show ∀ t ∈ tyNames, (kitB t "int").isSome = true by decide +kernel) _ (ty_mem o)
theorem kit_bool (o : O) : (kitB o.ty "bool").isSome = true := (show ∀ t ∈ tyNames, (kitB t "bool").isSome = true by decide +kernel) _ (ty_mem o)
theorem kb_of {o : O} {n : String} (h : (kitB o.ty n).isSome = true) : kitB o.ty n = some (o.is n) := by
  obtain ⟨b, hb⟩ := Option.isSome_iff_exists.mp h
  unfold O.is
  rw [hb]
  rfl
theorem kb_str (o : O) : kitB o.ty "str" = some (o.is "str") := kb_of (kit_str o)
theorem kb_tuple (o : O) : kitB o.ty "tuple" = some (o.is "tuple") := kb_of (kit_tuple o)
theorem kb_int (o : O) : kitB o.ty "int" = some (o.is "int") := kb_of (kit_int o)
theorem kb_bool (o : O) : kitB o.ty "bool" = some (o.is "bool") := kb_of (kit_bool o)
def O.isStr : O → Bool | .str _ => true | _ => false
def O.isTup : O → Bool | .tup _ => true | _ => false
def O.isInt : O → Bool | .int _ => true | _ => false
theorem is_str (o : O) : o.is "str" = o.isStr := by
  refine ((show ∀ t ∈ tyNames, (kitB t "str").getD false = (t == "str") by decide +kernel) _ (ty_mem o)).trans ?_
  cases o <;> simp [O.ty, O.isStr]
theorem is_tuple (o : O) : o.is "tuple" = o.isTup := by
  refine ((show ∀ t ∈ tyNames, (kitB t "tuple").getD false = (t == "tuple") by decide +kernel) _ (ty_mem o)).trans ?_
  cases o <;> simp [O.ty, O.isTup]
theorem is_int (o : O) : (o.is "int" && !o.is "bool") = o.isInt := by
  refine ((show ∀ t ∈ tyNames, ((kitB t "int").getD false && !(kitB t "bool").getD false) = (t == "int") by decide +kernel) _ (ty_mem o)).trans ?_
  cases o <;> simp [O.ty, O.isInt]

theorem Ob.lenv {K : PySem.W.Frag} {H : Hp} {v : V} {x : Str} (h : Ob K H v (.str x)) : LenV K v H x.length := by
  cases h with
  | str _ h => exact ⟨h, rfl⟩
theorem Ob.str_eq {K : PySem.W.Frag} {H : Hp} {v : V} {x : Str} (h : Ob K H v (.str x)) : v = .str x := by
  cases h with
  | str _ h => rfl
theorem Ob.int_eq {K : PySem.W.Frag} {H : Hp} {v : V} {i : Int} (h : Ob K H v (.int i)) : v = .int i := by
  cases h with
  | int _ => rfl
theorem Ob.tup_eq {K : PySem.W.Frag} {H : Hp} {v : V} {os : List O} (h : Ob K H v (.tup os)) : ∃ (a : Addr) (xs : List V), v = .ref a ∧ SqT K H a xs ∧ Obs K H xs os := by
  cases h with
  | tup h r _ => exact ⟨_, _, rfl, h, r⟩
theorem Ob.tup_lt {K : PySem.W.Frag} {H : Hp} {v : V} {os : List O} (h : Ob K H v (.tup os)) : os.length < 20000 := by
  cases h with
  | tup _ _ b => exact b
theorem Ob.lent {K : PySem.W.Frag} {H : Hp} {v : V} {os : List O} (h : Ob K H v (.tup os)) : LenV K v H os.length := by
  cases h with
  | tup h r _ => exact Or.inr ⟨_, h, (Obs.len r).symm⟩

/-! ### walks by their turns -/
theorem lc_it {J : It} {n : Nat} {g : TG} {tt : TT} {te : TE} {vs : List Nat} {σ : St} {H1 : Hp} {D : Addr} {Qd : Hp → Prop} (Pv : Nat → Hp → Prop) (h0 : Pv 0 (upd H1 D (.lst [])))
    (hgo : ∀ i H, i < n → Pv i H → J.go i H) (hst : ∀ H, Pv n H → J.stop n H)
    (hs : ∀ i x H H', i < n → Pv i H → J.yld i H x H' → g x (wipe σ vs) H' fun σ2 H2 => wipe σ2 vs = wipe σ vs ∧ tt σ2 H2 fun b H3 =>
      if b = true then te σ2 H3 fun y H4 => ∃ acc, H4 D = some (.lst acc) ∧ acc.length < sizeLine ∧ Pv (i + 1) (upd H4 D (.lst (acc ++ [y]))) else Pv (i + 1) H3) (hd : ∀ H, Pv n H → Qd H) :
    ∃ W : Nat → Nat → Hp → Prop, (∃ m, W 0 m (upd H1 D (.lst []))) ∧ ∀ i m H, W i m H →
      (J.stop i H ∧ Qd H) ∨ (J.go i H ∧ ∃ Nx : Hp → Prop, (∀ H', Nx H' → ∃ m', m' < m ∧ W (i + 1) m' H') ∧ ∀ x H', J.yld i H x H' → g x (wipe σ vs) H' fun σ2 H2 => wipe σ2 vs = wipe σ vs ∧ tt σ2 H2 fun b H3 =>
        if b = true then te σ2 H3 fun y H4 => ∃ acc, H4 D = some (.lst acc) ∧ acc.length < sizeLine ∧ Nx (upd H4 D (.lst (acc ++ [y]))) else Nx H3) := by
  refine ⟨fun i m H => m = n - i ∧ i ≤ n ∧ Pv i H, ⟨n, by simp, Nat.zero_le _, h0⟩, ?_⟩
  rintro i m H ⟨rfl, hi, p⟩
  rcases Nat.lt_or_ge i n with hlt | hge
  · exact Or.inr ⟨hgo i H hlt p, Pv (i + 1), fun H' p' => ⟨n - (i + 1), by omega, rfl, hlt, p'⟩, fun x H' y => hs i x H H' hlt p y⟩
  · obtain rfl : i = n := Nat.le_antisymm hi hge
    exact Or.inl ⟨hst H p, hd H p⟩
theorem for_it {J : It} {n : Nat} {g : TG} {tb : TS} {D : Ends} {σ : St} {H : Hp} (Pv : Nat → St → Hp → Prop) (h0 : Pv 0 σ H)
    (hgo : ∀ i σ H, i < n → Pv i σ H → J.go i H) (hst : ∀ σ H, Pv n σ H → J.stop n H)
    (hs : ∀ i x σ H H', i < n → Pv i σ H → J.yld i H x H' → g x σ H' fun σ2 H2 => tb { D with nx := Pv (i + 1), ct := Pv (i + 1), bk := D.nx } σ2 H2) (hd : ∀ σ H, Pv n σ H → D.nx σ H) :
    ∃ W : Nat → Nat → St → Hp → Prop, (∃ m, W 0 m σ H) ∧ ∀ i m σ H, W i m σ H →
      (J.stop i H ∧ D.nx σ H) ∨ (J.go i H ∧ ∃ N : St → Hp → Prop, (∀ σ' H', N σ' H' → ∃ m', m' < m ∧ W (i + 1) m' σ' H') ∧ ∀ x H', J.yld i H x H' → g x σ H' fun σ2 H2 => tb { D with nx := N, ct := N, bk := D.nx } σ2 H2) := by
  refine ⟨fun i m σ H => m = n - i ∧ i ≤ n ∧ Pv i σ H, ⟨n, by simp, Nat.zero_le _, h0⟩, ?_⟩
  rintro i m σ H ⟨rfl, hi, p⟩
  rcases Nat.lt_or_ge i n with hlt | hge
  · exact Or.inr ⟨hgo i σ H hlt p, Pv (i + 1), fun σ' H' p' => ⟨n - (i + 1), by omega, rfl, hlt, p'⟩, fun x H' y => hs i x σ H H' hlt p y⟩
  · obtain rfl : i = n := Nat.le_antisymm hi hge
    exact Or.inl ⟨hst σ H p, hd σ H p⟩
theorem upd_none {H : Hp} {a b : Addr} {o : HO} (h : upd H a o b = none) : b ≠ a ∧ H b = none := by
  by_cases e : b = a
  · rw [e, upd_same] at h
    cases h
  · exact ⟨e, by rw [upd_ne e] at h; exact h⟩
/-- a new object beside what was tracked -/
theorem Same.new {H H' : Hp} {p : Addr} {o : HO} (e : Same H H') (n : H' p = none) : Same H (upd H' p o) := fun b u q => by
  rw [upd_ne (ne_of_none (e b u q) n)]
  exact e b u q
/-- a change of an object that was not tracked then -/
theorem Same.chg {H H' : Hp} {p : Addr} {o : HO} (e : Same H H') (n : H p = none) : Same H (upd H' p o) := fun b u q => by
  rw [upd_ne (ne_of_none q n)]
  exact e b u q
theorem Same.put {H : Hp} {p : Addr} {o : HO} (n : H p = none) : Same H (upd H p o) := Same.chg (Same.refl H) n

/-! ### what a statement is -/
def nameOk (x : Str) : Bool := decide (1 ≤ x.length) && (decide (x.length ≤ 8) && x.cps.toList.all fun ch => decide (97 ≤ ch) && decide (ch ≤ 122))
def O.isName : O → Bool | .str x => nameOk x | _ => false
/-- how many items the tuple of a kind has -/
def szOf (k : Str) : Option Nat :=
  if k = "do" then some 2 else if k = "call" then some 2 else if k = "if" then some 4 else if k = "while" then some 3 else if k = "seq" then some 2 else if k = "break" then some 2 else
  if k = "continue" then some 2 else if k = "return" then some 1 else if k = "raise" then some 1 else if k = "try" then some 3 else if k = "final" then some 3 else none
def O.hasKind : O → Bool
  | .tup (.str k :: r) => szOf k == some (r.length + 1)
  | _ => false
def named (k : Str) : Bool := decide (k = "do") || (decide (k = "call") || (decide (k = "if") || decide (k = "while")))
def jumps (k : Str) : Bool := decide (k = "break") || decide (k = "continue")
def pairs (k : Str) : Bool := decide (k = "try") || decide (k = "final")
def O.jumpOk (wh : Nat) : O → Bool
  | .int i => decide (1 ≤ i) && decide (i ≤ wh)
  | _ => false
def O.seqOk : O → Bool
  | .tup os => !os.isEmpty
  | _ => false
def O.items : O → List O
  | .tup os => os
  | _ => []
def tailOk (wh : Nat) (k : Str) (r : List O) : Bool := if named k then (r.headD .non).isName else if jumps k then (r.headD .non).jumpOk wh else if k = "seq" then (r.headD .non).seqOk else true
def O.isStmt (o : O) (wh : Nat) : Bool := o.hasKind && (match o with
  | .tup (.str k :: r) => tailOk wh k r
  | _ => false)
def O.parts : O → List O
  | .tup (.str k :: r) => if k = "seq" then (r.headD .non).items else if pairs k then r else r.drop 1
  | _ => []
/-- a flat tuple that tells all but what its parts are -/
def O.head : O → List O
  | .tup (.str k :: r) => if k = "seq" then [.str k, .int (r.headD .non).items.length] else if (named k || jumps k) = true then [.str k, r.headD .non] else [.str k]
  | _ => []
def O.kind : O → Str
  | .tup (.str k :: _) => k
  | _ => ""

theorem named_cases {z : Str} (h : named z = true) : z = "do" ∨ z = "call" ∨ z = "if" ∨ z = "while" := by
  unfold named at h
  simp only [Bool.or_eq_true, decide_eq_true_eq] at h
  exact h
theorem jumps_cases {z : Str} (h : jumps z = true) : z = "break" ∨ z = "continue" := by
  unfold jumps at h
  simp only [Bool.or_eq_true, decide_eq_true_eq] at h
  exact h
theorem sz_named {z : Str} (h : named z = true) : szOf z ≠ some 1 := by
  rcases named_cases h with rfl | rfl | rfl | rfl <;> decide +kernel
theorem sz_jumps {z : Str} (h : jumps z = true) : szOf z ≠ some 1 := by
  rcases jumps_cases h with rfl | rfl <;> decide +kernel
theorem beq_dec (a b : Str) : (a == b) = decide (b = a) := by
  by_cases h : a = b
  · subst h
    simp
  · rw [decide_eq_false (fun q => h q.symm)]
    simpa using h
theorem inV_named (z : Str) : (if false = true then !inV (.str z) [.str "do", .str "call", .str "if", .str "while"] else inV (.str z) [.str "do", .str "call", .str "if", .str "while"]) = named z := by
  rw [if_neg Bool.false_ne_true]
  show ((("do" : Str) == z) || ((("call" : Str) == z) || ((("if" : Str) == z) || ((("while" : Str) == z) || false)))) = named z
  rw [beq_dec, beq_dec, beq_dec, beq_dec, Bool.or_false]
  rfl
theorem inV_jumps (z : Str) : (if false = true then !inV (.str z) [.str "break", .str "continue"] else inV (.str z) [.str "break", .str "continue"]) = jumps z := by
  rw [if_neg Bool.false_ne_true]
  show ((("break" : Str) == z) || ((("continue" : Str) == z) || false)) = jumps z
  rw [beq_dec, beq_dec, Bool.or_false]
  rfl
theorem inV_pairs (z : Str) : (if false = true then !inV (.str z) [.str "try", .str "final"] else inV (.str z) [.str "try", .str "final"]) = pairs z := by
  rw [if_neg Bool.false_ne_true]
  show ((("try" : Str) == z) || ((("final" : Str) == z) || false)) = pairs z
  rw [beq_dec, beq_dec, Bool.or_false]
  rfl
theorem hasKind_of {o : O} (h : o.hasKind = true) : ∃ (z : Str) (r : List O), o = .tup (.str z :: r) ∧ szOf z = some (r.length + 1) := by
  match o, h with
  | .tup (.str z :: r), h => exact ⟨z, r, rfl, beq_iff_eq.mp h⟩

/-! ### the numbering -/
inductive Err where
  | bad (n : Nat) | lim (n : Nat)
structure Spot where
  (o : O) (par : Option Nat) (lev wh : Nat) (lay : List Nat)
def judge (n : Nat) (s : Spot) : Option Err :=
  if 400 ≤ n then some (.lim 400) else if 100 < s.lev then some (.lim 100) else if 25 < s.lay.length then some (.lim 25) else if s.o.isStmt s.wh then none else some (.bad n)
def inner (n : Nat) (s : Spot) (o : O) : Spot := { o := o, par := some n, lev := s.lev + 1, wh := if s.o.kind = "while" then s.wh + 1 else s.wh, lay := s.lay }
def inBlock (n : Nat) (s : Spot) (o : O) : Spot := { inner n s o with lay := s.lay ++ [n] }
def inside (n : Nat) (s : Spot) : List Spot := if s.o.kind = "final" then (match s.o.parts with | [o1, o2] => [inner n s o1, inBlock n s o2] | _ => []) else s.o.parts.map (inner n s)
/-- the machine: what stands on the stack (the next one first), what is numbered, how it ends -/
inductive Runs : List Spot → List Spot → Except Err (List Spot) → Prop
  | nil {rows : List Spot} : Runs [] rows (.ok rows)
  | bad {s : Spot} {rest rows : List Spot} {e : Err} : judge rows.length s = some e → Runs (s :: rest) rows (.error e)
  | step {s : Spot} {rest rows : List Spot} {r : Except Err (List Spot)} : judge rows.length s = none → Runs (inside rows.length s ++ rest) (rows ++ [s]) r → Runs (s :: rest) rows r
/-- what is wished of an error -/
def ErrE (cBad cLim : Addr) (H : Hp) (E : XK) : Err → Prop
  | .bad n => ∀ H' d, Same H H' → H d = none → H' d = some (.xd [(("number" : Str), V.int (n : Nat))]) → E (.ref cBad) (some d) H'
  | .lim n => ∀ H' d, Same H H' → H d = none → H' d = some (.xd [(("limit" : Str), V.int (n : Nat))]) → E (.ref cLim) (some d) H'
def optV : Option Nat → V
  | none => .non
  | some n => .int (n : Nat)
def intsV (l : List Nat) : List V := l.map fun n => V.int (n : Nat)
/-- the tuple of a spot stands at p -/
def SpotAt (K : PySem.W.Frag) (H : Hp) (p : Addr) (s : Spot) : Prop := ∃ (v : V) (la : Addr), SqT K H p [v, optV s.par, .int (s.lev : Nat), .int (s.wh : Nat), .ref la] ∧ Ob K H v s.o ∧ H la = some (.lst (intsV s.lay))
theorem SpotAt.mono {K : PySem.W.Frag} {H H' : Hp} {p : Addr} {s : Spot} (e : Same H H') (h : SpotAt K H p s) : SpotAt K H' p s := by
  obtain ⟨v, la, h1, h2, h3⟩ := h
  exact ⟨v, la, Same.sqt e h1, h2.mono e, e _ _ h3⟩
def root (o : O) : Spot := ⟨o, none, 1, 0, []⟩
/-- what Code makes of an object -/
def Codes (o : O) (r : Except Err (List Spot)) : Prop := Runs [root o] [] r

/-! ### a frozen part F of a heap H: what is never changed; both grow -/
structure Grow (F H F' H' : Hp) : Prop where
  hh : Same H H'
  ff : Same F F'
  fh : Same F' H'
  out : ∀ b, F b = none → H b ≠ none → F' b = none
theorem Grow.refl {F H : Hp} (e : Same F H) : Grow F H F H := ⟨Same.refl H, Same.refl F, e, fun _ n _ => n⟩
theorem Grow.trans {F H F1 H1 F2 H2 : Hp} (a : Grow F H F1 H1) (b : Grow F1 H1 F2 H2) : Grow F H F2 H2 :=
  ⟨a.hh.trans b.hh, a.ff.trans b.ff, b.fh, fun x n m => b.out x (a.out x n m) fun z => m (a.hh.free z)⟩
/-- a new object that is never changed -/
theorem Grow.add {F H : Hp} {p : Addr} {o : HO} (e : Same F H) (n : H p = none) : Grow F H (upd F p o) (upd H p o) := by
  refine ⟨Same.put n, Same.put (e.free n), ?_, fun b h m => ?_⟩
  · intro b u q
    by_cases hb : b = p
    · subst hb
      rw [upd_same] at q ⊢
      exact q
    · rw [upd_ne hb] at q ⊢
      exact e b u q
  · rw [upd_ne (fun z => m (by rw [z]; exact n))]
    exact h
/-- a new object that may be changed -/
theorem Grow.mut {F H : Hp} {p : Addr} {o : HO} (e : Same F H) (n : H p = none) : Grow F H F (upd H p o) := ⟨Same.put n, Same.refl F, e.trans (Same.put n), fun _ h _ => h⟩
theorem Grow.chg {F H F' H' : Hp} {p : Addr} {o : HO} (g : Grow F H F' H') (n : H p = none) (m : F' p = none) : Grow F H F' (upd H' p o) := ⟨Same.chg g.hh n, g.ff, Same.chg g.fh m, g.out⟩
theorem Ob.parts_lt {K : PySem.W.Frag} {H : Hp} {v : V} {o : O} (h : Ob K H v o) : o.parts.length < 20000 := by
  match o, h with
  | .tup (.str k :: r), h =>
    have b := h.tup_lt
    show (if k = "seq" then (r.headD .non).items else if pairs k then r else r.drop 1).length < 20000
    by_cases e : k = "seq"
    · rw [if_pos e]
      match r, h with
      | [], _ => exact (by decide : 0 < 20000)
      | .tup os :: r, h =>
        obtain ⟨a, xs, _, _, hs⟩ := h.tup_eq
        obtain ⟨y, _, hy⟩ := hs.get (i := 1) (o := .tup os) rfl
        exact hy.tup_lt
      | .non :: _, _ => exact (by decide : 0 < 20000)
      | .bl _ :: _, _ => exact (by decide : 0 < 20000)
      | .int _ :: _, _ => exact (by decide : 0 < 20000)
      | .str _ :: _, _ => exact (by decide : 0 < 20000)
      | .lst :: _, _ => exact (by decide : 0 < 20000)
      | .dct :: _, _ => exact (by decide : 0 < 20000)
    · rw [if_neg e]
      rw [List.length_cons] at b
      split
      · omega
      · rw [List.length_drop]
        omega
  | .non, _ => exact (by decide : 0 < 20000)
  | .bl _, _ => exact (by decide : 0 < 20000)
  | .int _, _ => exact (by decide : 0 < 20000)
  | .str _, _ => exact (by decide : 0 < 20000)
  | .lst, _ => exact (by decide : 0 < 20000)
  | .dct, _ => exact (by decide : 0 < 20000)
  | .tup [], _ => exact (by decide : 0 < 20000)
  | .tup (.non :: _), _ => exact (by decide : 0 < 20000)
  | .tup (.bl _ :: _), _ => exact (by decide : 0 < 20000)
  | .tup (.int _ :: _), _ => exact (by decide : 0 < 20000)
  | .tup (.tup _ :: _), _ => exact (by decide : 0 < 20000)
  | .tup (.lst :: _), _ => exact (by decide : 0 < 20000)
  | .tup (.dct :: _), _ => exact (by decide : 0 < 20000)
theorem Paired.map2 {α β : Type} {R S : α → β → Prop} (f : ∀ a b, R a b → S a b) : ∀ {l : List α} {m : List β}, Paired R l m → Paired S l m
  | _, _, .nil => .nil
  | _, _, .cons r t => .cons (f _ _ r) (Paired.map2 f t)
theorem Paired.snoc {α β : Type} {R : α → β → Prop} {a : α} {b : β} (r : R a b) : ∀ {l : List α} {m : List β}, Paired R l m → Paired R (l ++ [a]) (m ++ [b])
  | _, _, .nil => .cons r .nil
  | _, _, .cons q t => .cons q (Paired.snoc r t)

/-! ### bundles of defs that may raise, of exception classes -/
structure ExcOk (P : Program) (w : World) (K : PySem.W.Frag) (mg : Str → Option Value) (base : Heap) (k : Nat) (x : Str) (C : Addr) (f : Str) : Prop where
  ex : ∃ (fI : Addr) (fd : FuncData) (ps : List Str), ArC K C fI f ∧ FnOk P w K mg base CX0 k fI fd ps (spExc C f) ∧ Binds K fd ps [] ∧ mg x = some (.ref C)
structure CalX (P : Program) (w : World) (K : PySem.W.Frag) (mg : Str → Option Value) (base : Heap) (k : Nat) (x : Str) (sp : Sp) : Prop where
  ex : ∃ (f : Addr) (fd : FuncData) (ps : List Str), FnOk P w K mg base (L2.CX P w) k f fd ps sp ∧ mg x = some (.ref f) ∧ PySem.W.keepIn K (.ref f) = true ∧ Binds K fd ps []
section
variable {X : Cx} {C : Addr} {f x : Str} {k j : Nat} {ta : TA} {e : Expr} {es : List Expr} {p pos : Pos} {sp : Sp}
theorem pmk_x (c : ExcOk X.prog X.w X.K X.mg X.base k x C f) (hr : Room j X.A) (hk : k + 1 ≤ j) (hg : Gl X x) (ha : PA X (e :: es) ta)
    (hdb : (x == ("__debug__" : Str)) = false := by decide) (he : starEach (e :: es) X.env = (false, eval e X.env) :: starEach es X.env := by rfl) (hpl : (backTo pos (starEach es X.env)).any (·.1) = false := by rfl) :
    PMk X (.Call (.Name x p) (e :: es) [] pos) (tArMk C f ta) := by
  obtain ⟨fI, fd, ps, T, F, b, hm⟩ := c.ex
  exact pmk_ar T F (hr.mono hk) b pass0 hg hm ha hdb he hpl
/-- a def that may raise, called where its errors are let out -/
theorem pe_cx {E : XK} {W : WX} (c : CalX X.prog X.w X.K X.mg X.base k x sp) (hr : Room j X.A) (hk : k ≤ j) (tk : Takes X W) (hW : ∀ cls d σ H, E cls d H → W cls d σ H) (hg : Gl X x) (ha : PA X (e :: es) ta)
    (hdb : (x == ("__debug__" : Str)) = false := by decide) (he : starEach (e :: es) X.env = (false, eval e X.env) :: starEach es X.env := by rfl) (hpl : (backTo pos (starEach es X.env)).any (·.1) = false := by rfl) :
    PE X (.Call (.Name x p) (e :: es) [] pos) (tCall sp [] E ta) := by
  obtain ⟨g, fd, ps, F, hm, kp, b⟩ := c.ex
  exact pe_call F (hr.mono hk) hg hm kp b .nil (passes_call tk hW) ha hdb he hpl
end
end Fc
end L2
set_option Elab.async false
set_option linter.all false
set_option maxRecDepth 100000
set_option maxHeartbeats 4000000
/-! What a Code object is, by what is numbered in it. -/
namespace L2
namespace Fc
open PySem PySem.Spec PyProof.Rows

/-- the fields of a Code -/
def cf (S D A B X L : Addr) : List (Str × V) := putF "_layers" (.ref L) (putF "_siblings" (.ref X) (putF "_parts" (.ref B) (putF "_parents" (.ref A) (putF "_heads" (.ref D) (putF "_statements" (.ref S) [])))))
section
variable {S D A B X L : Addr}
theorem cf_S : (cf S D A B X L).lookup ("_statements" : Str) = some (V.ref S) := by
  unfold cf
  rw [lookup_putF, if_neg (by decide +kernel), lookup_putF, if_neg (by decide +kernel), lookup_putF, if_neg (by decide +kernel), lookup_putF, if_neg (by decide +kernel), lookup_putF, if_neg (by decide +kernel), lookup_putF, if_pos rfl]
theorem cf_D : (cf S D A B X L).lookup ("_heads" : Str) = some (V.ref D) := by
  unfold cf
  rw [lookup_putF, if_neg (by decide +kernel), lookup_putF, if_neg (by decide +kernel), lookup_putF, if_neg (by decide +kernel), lookup_putF, if_neg (by decide +kernel), lookup_putF, if_pos rfl]
theorem cf_A : (cf S D A B X L).lookup ("_parents" : Str) = some (V.ref A) := by
  unfold cf
  rw [lookup_putF, if_neg (by decide +kernel), lookup_putF, if_neg (by decide +kernel), lookup_putF, if_neg (by decide +kernel), lookup_putF, if_pos rfl]
theorem cf_B : (cf S D A B X L).lookup ("_parts" : Str) = some (V.ref B) := by
  unfold cf
  rw [lookup_putF, if_neg (by decide +kernel), lookup_putF, if_neg (by decide +kernel), lookup_putF, if_pos rfl]
theorem cf_X : (cf S D A B X L).lookup ("_siblings" : Str) = some (V.ref X) := by
  unfold cf
  rw [lookup_putF, if_neg (by decide +kernel), lookup_putF, if_pos rfl]
theorem cf_L : (cf S D A B X L).lookup ("_layers" : Str) = some (V.ref L) := by
  unfold cf
  rw [lookup_putF, if_pos rfl]
theorem cf_no {m : Str} (h1 : ¬ m = "_statements") (h2 : ¬ m = "_heads") (h3 : ¬ m = "_parents") (h4 : ¬ m = "_parts") (h5 : ¬ m = "_siblings") (h6 : ¬ m = "_layers") : (cf S D A B X L).lookup m = none := by
  unfold cf
  rw [lookup_putF, if_neg h6, lookup_putF, if_neg h5, lookup_putF, if_neg h4, lookup_putF, if_neg h3, lookup_putF, if_neg h2, lookup_putF, if_neg h1]
  rfl
end
/-- the numbers of the parts of the statement i -/
def kids (rows : List Spot) (i : Nat) : List Nat := rows.zipIdx.filterMap fun p => if p.1.par = some i then some p.2 else none
theorem kids_snoc (rows : List Spot) (s : Spot) (i : Nat) : kids (rows ++ [s]) i = kids rows i ++ (if s.par = some i then [rows.length] else []) := by
  unfold kids
  rw [List.zipIdx_append, List.filterMap_append]
  congr 1
  by_cases h : s.par = some i
  · rw [if_pos h]
    simp [List.zipIdx_cons, h]
  · rw [if_neg h]
    simp [List.zipIdx_cons, h]
theorem kids_len (rows : List Spot) (i : Nat) : (kids rows i).length ≤ rows.length := by
  unfold kids
  exact Nat.le_trans (List.length_filterMap_le _ _) (by rw [List.length_zipIdx]; exact Nat.le_refl _)
theorem kids_none {rows : List Spot} {i : Nat} (h : ∀ s ∈ rows, ∀ m, s.par = some m → m < i) : kids rows i = [] := by
  unfold kids
  rw [List.filterMap_eq_nil_iff]
  rintro ⟨s, j⟩ hm
  have hs : s ∈ rows := (List.mem_zipIdx hm).2.2 ▸ List.getElem_mem _
  show (if s.par = some i then some j else none) = none
  rw [if_neg]
  intro q
  exact absurd (h s hs i q) (Nat.lt_irrefl _)
/-- the part next after each one in the statement around it -/
def lastKid (rows : List Spot) (s : Spot) : Option Nat := match s.par with
  | none => none
  | some p => (kids rows p).getLast?
def sibStep (st : List Spot × List (Option Nat)) (s : Spot) : List Spot × List (Option Nat) := (st.1 ++ [s], (match lastKid st.1 s with
  | none => st.2
  | some l => st.2.set l (some st.1.length)) ++ [none])
def sibs (rows : List Spot) : List (Option Nat) := (rows.foldl sibStep ([], [])).2
theorem sib_fst : ∀ (rows : List Spot) (a : List Spot) (b : List (Option Nat)), (rows.foldl sibStep (a, b)).1 = a ++ rows
  | [], a, b => by rw [List.append_nil]; rfl
  | s :: rows, a, b => by
    rw [List.foldl_cons]
    show (rows.foldl sibStep (a ++ [s], _)).1 = _
    rw [sib_fst rows, List.append_assoc]
    rfl
theorem sibs_snoc (rows : List Spot) (s : Spot) : sibs (rows ++ [s]) = (match lastKid rows s with
  | none => sibs rows
  | some l => (sibs rows).set l (some rows.length)) ++ [none] := by
  unfold sibs
  rw [List.foldl_append, List.foldl_cons, List.foldl_nil]
  show (match lastKid (rows.foldl sibStep ([], [])).1 s with | none => _ | some l => _) ++ _ = _
  rw [sib_fst, List.nil_append]
theorem sibs_len (rows : List Spot) : (sibs rows).length = rows.length := by
  have go : ∀ (rows a : List Spot) (b : List (Option Nat)), a.length = b.length → (rows.foldl sibStep (a, b)).2.length = a.length + rows.length := by
    intro rows
    induction rows with
    | nil => intro a b h; exact h.symm
    | cons s rows ih =>
      intro a b h
      rw [List.foldl_cons]
      show (rows.foldl sibStep (a ++ [s], _)).2.length = _
      rw [ih, List.length_append, List.length_singleton, List.length_cons]
      · omega
      · rw [List.length_append, List.length_append]
        congr 1
        cases lastKid a s with
        | none => exact h
        | some l => rw [h]; exact (List.length_set ..).symm
  have := go rows [] [] rfl
  rw [List.length_nil, Nat.zero_add] at this
  exact this
/-! cells of a heap, each with what stands there -/
def Cells (H : Hp) (l : List (Addr × HO)) : Prop := (l.map (·.1)).Nodup ∧ ∀ x ∈ l, H x.1 = some x.2
theorem Cells.get {H : Hp} {l : List (Addr × HO)} (c : Cells H l) {a : Addr} {o : HO} (m : (a, o) ∈ l) : H a = some o := c.2 _ m
theorem Cells.keep {H H' : Hp} {l : List (Addr × HO)} (c : Cells H l) (e : ∀ x ∈ l, H' x.1 = H x.1) : Cells H' l := ⟨c.1, fun x m => (e x m).trans (c.2 x m)⟩
theorem Cells.same {H H' : Hp} {l : List (Addr × HO)} (c : Cells H l) (e : Same H H') : Cells H' l := ⟨c.1, fun x m => e _ _ (c.2 x m)⟩
theorem Cells.set {H : Hp} {l1 l2 : List (Addr × HO)} {a : Addr} {o : HO} (c : Cells H (l1 ++ (a, o) :: l2)) (o' : HO) : Cells (upd H a o') (l1 ++ (a, o') :: l2) := by
  obtain ⟨n, h⟩ := c
  refine ⟨by simpa using n, fun x m => ?_⟩
  simp only [List.map_append, List.map_cons, List.nodup_append, List.nodup_cons] at n
  rcases List.mem_append.mp m with m | m
  · have ne : x.1 ≠ a := fun z => n.2.2 x.1 (List.mem_map_of_mem m) a List.mem_cons_self z
    rw [upd_ne ne]
    exact h x (List.mem_append_left _ m)
  · rcases List.mem_cons.mp m with rfl | m
    · exact upd_same
    · have ne : x.1 ≠ a := fun z => n.2.1.1 (z ▸ List.mem_map_of_mem m)
      rw [upd_ne ne]
      exact h x (List.mem_append_right _ (List.mem_cons_of_mem _ m))
/-- the lists of a Code while it is made -/
def heads8 (C p dx S D A B X L : Addr) (vs ds as bs xs ls : List V) : List (Addr × HO) := [(p, .ins C dx (cf S D A B X L)), (dx, .own p), (S, .lst vs), (D, .lst ds), (A, .lst as), (B, .lst bs), (X, .lst xs), (L, .lst ls)]
structure CM (C : Addr) (H : Hp) (p dx S D A B X L : Addr) (ts : List Addr) (vs ds as bs xs ls : List V) (ks : Nat → List Nat) : Prop where
  c : Cells H (heads8 C p dx S D A B X L vs ds as bs xs ls)
  k : ∀ (i : Nat) (t : Addr), ts[i]? = some t → H t = some (.lst (intsV (ks i)))
  nd : ts.Nodup
  far : ∀ t ∈ ts, t ∉ [p, dx, S, D, A, B, X, L]
section
variable {C : Addr} {H H' : Hp} {p dx S D A B X L : Addr} {ts : List Addr} {vs ds as bs xs ls : List V} {ks : Nat → List Nat}
theorem CM.same (m : CM C H p dx S D A B X L ts vs ds as bs xs ls ks) (e : Same H H') : CM C H' p dx S D A B X L ts vs ds as bs xs ls ks := ⟨m.c.same e, fun i t h => e _ _ (m.k i t h), m.nd, m.far⟩
theorem CM.loc (m : CM C H p dx S D A B X L ts vs ds as bs xs ls ks) (e : ∀ b ∈ [p, dx, S, D, A, B, X, L] ++ ts, H' b = H b) : CM C H' p dx S D A B X L ts vs ds as bs xs ls ks :=
  ⟨m.c.keep fun x hx => e _ (List.mem_append_left _ (by
    have : x.1 ∈ (heads8 C p dx S D A B X L vs ds as bs xs ls).map (·.1) := List.mem_map_of_mem hx
    exact this)), fun i t h => (e _ (List.mem_append_right _ (List.mem_of_getElem? h))).trans (m.k i t h), m.nd, m.far⟩
theorem CM.eP (m : CM C H p dx S D A B X L ts vs ds as bs xs ls ks) : H p = some (.ins C dx (cf S D A B X L)) := m.c.get (by simp [heads8])
theorem CM.eW (m : CM C H p dx S D A B X L ts vs ds as bs xs ls ks) : H dx = some (.own p) := m.c.get (by simp [heads8])
theorem CM.eS (m : CM C H p dx S D A B X L ts vs ds as bs xs ls ks) : H S = some (.lst vs) := m.c.get (by simp [heads8])
theorem CM.eD (m : CM C H p dx S D A B X L ts vs ds as bs xs ls ks) : H D = some (.lst ds) := m.c.get (by simp [heads8])
theorem CM.eA (m : CM C H p dx S D A B X L ts vs ds as bs xs ls ks) : H A = some (.lst as) := m.c.get (by simp [heads8])
theorem CM.eB (m : CM C H p dx S D A B X L ts vs ds as bs xs ls ks) : H B = some (.lst bs) := m.c.get (by simp [heads8])
theorem CM.eX (m : CM C H p dx S D A B X L ts vs ds as bs xs ls ks) : H X = some (.lst xs) := m.c.get (by simp [heads8])
theorem CM.eL (m : CM C H p dx S D A B X L ts vs ds as bs xs ls ks) : H L = some (.lst ls) := m.c.get (by simp [heads8])
theorem CM.tk {b : Addr} (m : CM C H p dx S D A B X L ts vs ds as bs xs ls ks) (hb : b ∈ [p, dx, S, D, A, B, X, L]) (o : HO) : ∀ (i : Nat) (t : Addr), ts[i]? = some t → upd H b o t = some (.lst (intsV (ks i))) := fun i t h => by
  have ne : t ≠ b := fun z => m.far t (List.mem_of_getElem? h) (by rw [z]; exact hb)
  rw [upd_ne ne]
  exact m.k i t h
theorem CM.setS (m : CM C H p dx S D A B X L ts vs ds as bs xs ls ks) (l : List V) : CM C (upd H S (.lst l)) p dx S D A B X L ts l ds as bs xs ls ks := ⟨m.c.set (l1 := [_, _]) (.lst l), m.tk (by simp) _, m.nd, m.far⟩
theorem CM.setD (m : CM C H p dx S D A B X L ts vs ds as bs xs ls ks) (l : List V) : CM C (upd H D (.lst l)) p dx S D A B X L ts vs l as bs xs ls ks := ⟨m.c.set (l1 := [_, _, _]) (.lst l), m.tk (by simp) _, m.nd, m.far⟩
theorem CM.setA (m : CM C H p dx S D A B X L ts vs ds as bs xs ls ks) (l : List V) : CM C (upd H A (.lst l)) p dx S D A B X L ts vs ds l bs xs ls ks := ⟨m.c.set (l1 := [_, _, _, _]) (.lst l), m.tk (by simp) _, m.nd, m.far⟩
theorem CM.setB (m : CM C H p dx S D A B X L ts vs ds as bs xs ls ks) (l : List V) : CM C (upd H B (.lst l)) p dx S D A B X L ts vs ds as l xs ls ks := ⟨m.c.set (l1 := [_, _, _, _, _]) (.lst l), m.tk (by simp) _, m.nd, m.far⟩
theorem CM.setX (m : CM C H p dx S D A B X L ts vs ds as bs xs ls ks) (l : List V) : CM C (upd H X (.lst l)) p dx S D A B X L ts vs ds as bs l ls ks := ⟨m.c.set (l1 := [_, _, _, _, _, _]) (.lst l), m.tk (by simp) _, m.nd, m.far⟩
theorem CM.setL (m : CM C H p dx S D A B X L ts vs ds as bs xs ls ks) (l : List V) : CM C (upd H L (.lst l)) p dx S D A B X L ts vs ds as bs xs l ks := ⟨m.c.set (l1 := [_, _, _, _, _, _, _]) (.lst l), m.tk (by simp) _, m.nd, m.far⟩
theorem CM.kid (m : CM C H p dx S D A B X L ts vs ds as bs xs ls ks) {j : Nat} {t : Addr} (ht : ts[j]? = some t) (l : List Nat) : CM C (upd H t (.lst (intsV l))) p dx S D A B X L ts vs ds as bs xs ls (fun i => if i = j then l else ks i) := by
  have tm := List.mem_of_getElem? ht
  refine ⟨m.c.keep fun x hx => upd_ne fun z => m.far t tm ?_, fun i u h => ?_, m.nd, m.far⟩
  · have : x.1 ∈ (heads8 C p dx S D A B X L vs ds as bs xs ls).map (·.1) := List.mem_map_of_mem hx
    rw [z] at this
    exact this
  · by_cases e : i = j
    · subst e
      rw [ht] at h
      cases h
      rw [if_pos rfl, upd_same]
    · rw [if_neg e, upd_ne]
      · exact m.k i u h
      · intro z
        subst z
        exact e ((List.getElem?_inj (List.getElem?_eq_some_iff.mp h).1 m.nd).mp (h.trans ht.symm))
/-- a list more for parts -/
theorem CM.more (m : CM C H p dx S D A B X L ts vs ds as bs xs ls ks) {t : Addr} (n : t ∉ [p, dx, S, D, A, B, X, L] ++ ts) (e : H t = some (.lst [])) : CM C H p dx S D A B X L (ts ++ [t]) vs ds as bs xs ls (fun i => if i = ts.length then [] else ks i) := by
  rw [List.mem_append, not_or] at n
  refine ⟨m.c, fun i u h => ?_, ?_, fun u hu => ?_⟩
  · by_cases hi : i < ts.length
    · rw [List.getElem?_append_left hi] at h
      rw [if_neg (by omega)]
      exact m.k i u h
    · have l1 := (List.getElem?_eq_some_iff.mp h).1
      rw [List.length_append, List.length_singleton] at l1
      have ei : i = ts.length := by omega
      subst ei
      rw [List.getElem?_append_right (Nat.le_refl _), Nat.sub_self] at h
      cases h
      rw [if_pos rfl]
      exact e
  · rw [List.nodup_append]
    refine ⟨m.nd, by simp, fun x hx y hy => ?_⟩
    rw [List.mem_singleton] at hy
    rw [hy]
    exact fun z => n.2 (z ▸ hx)
  · rcases List.mem_append.mp hu with hu | hu
    · exact m.far u hu
    · rw [List.mem_singleton] at hu
      rw [hu]
      exact n.1
theorem CM.congr {ks' : Nat → List Nat} (m : CM C H p dx S D A B X L ts vs ds as bs xs ls ks) (e : ∀ i, i < ts.length → ks i = ks' i) : CM C H p dx S D A B X L ts vs ds as bs xs ls ks' :=
  ⟨m.c, fun i t h => by rw [← e i (List.getElem?_eq_some_iff.mp h).1]; exact m.k i t h, m.nd, m.far⟩
theorem CM.there (m : CM C H p dx S D A B X L ts vs ds as bs xs ls ks) : ∀ b ∈ [p, dx, S, D, A, B, X, L] ++ ts, H b ≠ none := by
  have go : ∀ {b : Addr} {o : HO}, H b = some o → H b ≠ none := fun e z => by
    rw [z] at e
    cases e
  intro b hb
  rcases List.mem_append.mp hb with hb | hb
  · simp only [List.mem_cons, List.mem_nil_iff, or_false] at hb
    rcases hb with rfl | rfl | rfl | rfl | rfl | rfl | rfl | rfl
    · exact go m.eP
    · exact go m.eW
    · exact go m.eS
    · exact go m.eD
    · exact go m.eA
    · exact go m.eB
    · exact go m.eX
    · exact go m.eL
  · obtain ⟨i, hi, e⟩ := List.mem_iff_getElem.mp hb
    exact go (m.k i b (by rw [List.getElem?_eq_getElem hi, e]))
end
/-- the addresses of a Code -/
def own (p dx S D A B X L : Addr) (ts : List Addr) : List Addr := [p, dx, S, D, A, B, X, L] ++ ts
/-- the Code at p -/
structure CodeSt (K : PySem.W.Frag) (C : Addr) (F H : Hp) (p dx S D A B X L : Addr) (ts : List Addr) (rows : List Spot) : Prop where
  ex : ∃ (vs : List V) (ds ls : List Addr), CM C H p dx S D A B X L ts vs (ds.map V.ref) (rows.map fun s => optV s.par) (ts.map V.ref) ((sibs rows).map optV) (ls.map V.ref) (kids rows) ∧ Obs K F vs (rows.map (·.o)) ∧
    Paired (fun h (s : Spot) => ∃ ys, F h = some (.tup ys) ∧ Obs K F ys s.o.head) ds rows ∧ Paired (fun l (s : Spot) => F l = some (.lst (intsV s.lay))) ls rows
  cl : ts.length = rows.length
theorem CodeSt.keep {K : PySem.W.Frag} {C : Addr} {F H F' H' : Hp} {p dx S D A B X L : Addr} {ts : List Addr} {rows : List Spot} (c : CodeSt K C F H p dx S D A B X L ts rows) (f : Same F F') (h : Same H H') : CodeSt K C F' H' p dx S D A B X L ts rows := by
  obtain ⟨⟨vs, ds, ls, m, o, d, l⟩, cl⟩ := c
  exact ⟨⟨vs, ds, ls, m.same h, o.mono f, Paired.map2 (fun _ _ ⟨ys, e, o⟩ => ⟨ys, f _ _ e, o.mono f⟩) d, Paired.map2 (fun _ _ e => f _ _ e) l⟩, cl⟩
theorem CodeSt.there {K : PySem.W.Frag} {C : Addr} {F H : Hp} {p dx S D A B X L : Addr} {ts : List Addr} {rows : List Spot} (c : CodeSt K C F H p dx S D A B X L ts rows) : ∀ b ∈ own p dx S D A B X L ts, H b ≠ none := by
  obtain ⟨⟨vs, ds, ls, m, _⟩, _⟩ := c
  exact m.there
theorem CodeSt.loc {K : PySem.W.Frag} {C : Addr} {F H H' : Hp} {p dx S D A B X L : Addr} {ts : List Addr} {rows : List Spot} (c : CodeSt K C F H p dx S D A B X L ts rows) (h : ∀ b ∈ own p dx S D A B X L ts, H' b = H b) : CodeSt K C F H' p dx S D A B X L ts rows := by
  obtain ⟨⟨vs, ds, ls, m, o, d, l⟩, cl⟩ := c
  exact ⟨⟨vs, ds, ls, m.loc h, o, d, l⟩, cl⟩
theorem own_snoc {p dx S D A B X L t b : Addr} {ts : List Addr} (h : b ∈ own p dx S D A B X L (ts ++ [t])) : b ∈ own p dx S D A B X L ts ∨ b = t := by
  unfold own at h ⊢
  rw [← List.append_assoc] at h
  rcases List.mem_append.mp h with h | h
  · exact .inl h
  · exact .inr (List.mem_singleton.mp h)
/-- nothing of it is tracked in R -/
def Off (R : Hp) (l : List Addr) : Prop := ∀ b ∈ l, R b = none
theorem Off.of {R R' : Hp} {l : List Addr} (h : Off R' l) (e : Same R R') : Off R l := fun b m => Same.free e (h b m)
theorem upd_id {H : Hp} {a : Addr} {o : HO} (e : H a = some o) : upd H a o = H := by
  funext b
  by_cases hb : b = a
  · rw [hb, upd_same, e]
  · rw [upd_ne hb]
theorem ErrE.mono {cB cL : Addr} {R H : Hp} {E : XK} {e : Err} (s : Same R H) (h : ErrE cB cL R E e) : ErrE cB cL H E e := by
  cases e with
  | bad n => exact fun H' d s2 n2 e2 => h H' d (s.trans s2) (Same.free s n2) e2
  | lim n => exact fun H' d s2 n2 e2 => h H' d (s.trans s2) (Same.free s n2) e2
theorem Paired.app {α β : Type} {R : α → β → Prop} : ∀ {l l' : List α} {m m' : List β}, Paired R l m → Paired R l' m' → Paired R (l ++ l') (m ++ m')
  | _, _, _, _, .nil, q => q
  | _, _, _, _, .cons r t, q => .cons r (Paired.app t q)
/-- a heap without some addresses -/
def hide (l : List Addr) (H : Hp) : Hp := fun b => if b ∈ l then none else H b
theorem hide_in {l : List Addr} {H : Hp} {b : Addr} (h : b ∈ l) : hide l H b = none := if_pos h
theorem hide_out {l : List Addr} {H : Hp} {b : Addr} (h : b ∉ l) : hide l H b = H b := if_neg h
theorem hide_same (l : List Addr) (H : Hp) : Same (hide l H) H := fun b o e => by
  by_cases h : b ∈ l
  · rw [hide_in h] at e
    cases e
  · rwa [hide_out h] at e
theorem Same.hide {l : List Addr} {R H : Hp} (e : Same R H) (off : Off R l) : Same R (hide l H) := fun b o q => by
  rw [hide_out (fun m => by rw [off b m] at q; cases q)]
  exact e b o q
theorem off_hide (l : List Addr) (H : Hp) : Off (hide l H) l := fun _ m => hide_in m
theorem Same.plus {F H : Hp} {p : Addr} {o : HO} (e : Same F H) (h : H p = some o) : Same (upd F p o) H := by
  intro b u q
  by_cases hb : b = p
  · subst hb
    rw [upd_same] at q
    rw [h]
    exact q
  · rw [upd_ne hb] at q
    exact e b u q
end Fc
end L2
set_option Elab.async false
set_option linter.all false
set_option maxRecDepth 100000
set_option maxHeartbeats 4000000
/-! len of an own object; an own class made where its __init__ may raise; try with clauses with and without names. -/
namespace L2
namespace Fc
open PySem PySem.Spec PyProof.Rows

section
variable {X : Cx} {C f : Addr} {k : Nat} {fd : FuncData} {sp : Sp}
/-- len(x), x an instance of C, by its own __len__ -/
def rLenI (C : Addr) (sp : Sp) : List V → Hp → VK → Prop := fun xs H Q => ∃ (a dx : Addr) (fs : List (Str × V)), xs = [.ref a] ∧ H a = some (.ins C dx fs) ∧
  sp [.ref a] H (fun v H' => ∃ n : Int, v = .int n ∧ (0 ≤ n ∧ n < 2 ^ 63) ∧ Q (.int n) H') E0
theorem call_lenI (hs : PySem.W.findIn X.K (.ref C) "__len__" = some (some (.ref f))) (hf : PySem.W.isFn X.K (.ref f) = true) (F : FnOk X.prog X.w X.K X.mg X.base CX0 k f fd ["self"] sp)
    (hb : Binds X.K fd ["self"] []) (hr : Room (k + 1) X.A) : CallR X (.builtin "len") (rLenI C sp) := by
  intro pins s σ H xs us Q I r h
  obtain ⟨a, dx, fs, rfl, ea, q⟩ := h
  obtain ⟨u, rfl, rx⟩ := vals1 r
  cases rx
  obtain ⟨m, fr⟩ := I.fr
  obtain ⟨mA, O, _⟩ := ins_get I.hok ea
  obtain ⟨od, J, _⟩ := O.look
  refine PySem.W.len_K fr I.ok.mod.kin J hs hf ?_
  have hv : Vals [V.ref a] [Value.ref a] := .cons rfl .nil
  have hbb := hb s [Value.ref a] I.kIn rfl
  rw [List.append_nil] at hbb
  refine wpAny_call (codeAny_mono (F.run X.A.in1 X.stack s H ⟨[Value.ref a], []⟩ [Value.ref a] [V.ref a] _ E0 hr.in1 I.env0.in1 hbb hv q) fun r s' hq => ?_)
  cases r with
  | error e => exact False.elim hq
  | ok fl =>
    cases fl with
    | ret u =>
      obtain ⟨v, H', I', rv, n, rfl, hn, q2⟩ := I.after hq
      obtain ⟨t, rfl⟩ := rv
      exact ⟨hn, ⟨.int n, H', I'.tok _, ⟨_, rfl⟩, q2⟩⟩
    | next => exact False.elim hq
    | brk => exact False.elim hq
    | cont => exact False.elim hq
end

/-! ### C(e, ..), C's own __init__ may raise -/
structure MakX (P : Program) (w : World) (K : PySem.W.Frag) (mg : Str → Option Value) (base : Heap) (k : Nat) (x : Str) (C : Addr) (sp : Sp) : Prop where
  ex : ∃ (f : Addr) (fd : FuncData) (ps : List Str), Mk K C f ∧ FnOk P w K mg base (L2.CX P w) k f fd ps sp ∧ mg x = some (.ref C) ∧ Binds K fd ps []
def tMakeS (C : Addr) (sp : Sp) (W : WX) (t : TA) : TE := fun σ H Q => t σ H fun vs H1 => ∀ x dx, H1 x = none → H1 dx = none → dx ≠ x →
  sp (.ref x :: vs) (upd (upd H1 dx (.own x)) x (.ins C dx [])) (fun v H2 => v = .non ∧ Q (.ref x) H2) (WE W σ)
theorem pe_mkx {X : Cx} {C : Addr} {x : Str} {k j : Nat} {sp : Sp} {W : WX} {t : TA} {e : Expr} {es : List Expr} {p pos : Pos} (c : MakX X.prog X.w X.K X.mg X.base k x C sp) (hr : Room j X.A) (hk : k + 1 ≤ j) (tk : Takes X W) (hg : Gl X x) (ha : PA X (e :: es) t)
    (hdb : (x == ("__debug__" : Str)) = false := by decide) (he : starEach (e :: es) X.env = (false, eval e X.env) :: starEach es X.env := by rfl) (hpl : (backTo pos (starEach es X.env)).any (·.1) = false := by rfl) :
    PE X (.Call (.Name x p) (e :: es) [] pos) (tMakeS C sp W t) := by
  obtain ⟨f, fd, ps, M, F, hm, hb⟩ := c.ex
  have hr2 : Room (k + 1) X.A := hr.mono hk
  refine ⟨fun pins s σ H Q I h => ?_⟩
  refine wpAny_Call_Name_kw (ld_glob I hg hm ?_ hdb)
  refine PySem.W.callWith_K (h₀ := X.base) I.ok.mod.kin M.kp (thn (ha.run pos pins s σ H _ I h) fun us s1 hh => ?_) he hpl
  obtain ⟨vs, H1, I1, r, h1⟩ := hh
  refine ⟨I1.kIn, ?_⟩
  have hq := h1 (s1.heap.objs.size + 1) s1.heap.objs.size (I1.hok.fresh (Nat.le_succ _)) (I1.hok.fresh (Nat.le_refl _)) (Nat.ne_of_lt (Nat.lt_succ_self _))
  have I2 := Inv.made (C := C) I1
  have r2 : Vals (V.ref (s1.heap.objs.size + 1) :: vs) (Value.ref (s1.heap.objs.size + 1) :: us) := .cons rfl r
  have hl : (Value.ref (s1.heap.objs.size + 1) :: us ++ []).length = ps.length := by
    have z := r2.length
    rw [F.len _ _ _ _ hq] at z
    rw [List.append_nil]
    exact z.symm
  have hbb := hb _ (Value.ref (s1.heap.objs.size + 1) :: us) I2.kIn hl
  rw [List.append_nil] at hbb
  refine wpAny_call (make_map (f := f) I1.kIn M.makes M.init (beq_iff_eq.mp M.fn) ?_)
  refine codeAny_mono (F.run _ X.stack _ _ ⟨Value.ref (s1.heap.objs.size + 1) :: us, []⟩ (Value.ref (s1.heap.objs.size + 1) :: us) _ _ (WE W σ) (hr2.make C us []) (I2.env0.make C us []) hbb r2 hq) fun r s' hq' => ?_
  cases r with
  | error e => exact passAt tk σ pins _ _ e s' I2 hq'
  | ok fl =>
    cases fl with
    | ret u =>
      obtain ⟨v, H', I3, rv, ev, q3⟩ := I2.after hq'
      subst ev
      exact ⟨rv, ⟨V.ref (s1.heap.objs.size + 1), H', I3, rfl, q3⟩⟩
    | next => exact False.elim hq'
    | brk => exact False.elim hq'
    | cont => exact False.elim hq'

/-! ### try .. except A as n: .. except B: .. -/
abbrev Clause := Value × Option Nat × (Addr → Value → Option Addr → TS)
def wCl (K : PySem.W.Frag) (Wout : WX) (D : Ends) : List Clause → WX
  | [] => Wout
  | (c, none, ts) :: more => fun cls d σ H => ∃ b, PySem.W.exmOne K cls c = some b ∧ (b = true → ∀ a, H a = none → ts a cls d D σ H) ∧ (b = false → wCl K Wout D more cls d σ H)
  | (c, some i, ts) :: more => fun cls d σ H => ∃ b, PySem.W.exmOne K cls c = some b ∧
      (b = true → ∀ a, H a = none → ts a cls d { nx := fun τ G => D.nx (τ.set i none) G, rt := D.rt, bk := fun τ G => D.bk (τ.set i none) G, ct := fun τ G => D.ct (τ.set i none) G } (σ.set i (some (.ref a))) H) ∧ (b = false → wCl K Wout D more cls d σ H)
inductive Cls2 (X : Cx) : List ExceptHandler → List Clause → Prop
  | nil : Cls2 X [] []
  | bare {x : Str} {c : Value} {ts : Addr → Value → Option Addr → TS} {b0 : Stmt} {su : List Stmt} {p1 p2 : Pos} {hs : List ExceptHandler} {l : List Clause} : Names X x c →
      (∀ (a : Addr) (oe : Obj) (cls : Value) (d : Option Addr) (pn : List (Addr × Obj)), Zc cls d oe → (∃ vs, oe.data = .fields vs) → PSs (X.suite a ((a, oe) :: pn)) (b0 :: su) (ts a cls d)) → Cls2 X hs l →
      Cls2 X (.ExceptHandler (some (.Name x p1)) none (b0 :: su) p2 :: hs) ((c, none, ts) :: l)
  | named {x n : Str} {i : Nat} {c : Value} {ts : Addr → Value → Option Addr → TS} {b0 : Stmt} {su : List Stmt} {p1 p2 : Pos} {hs : List ExceptHandler} {l : List Clause} : Names X x c → X.N[i]? = some n → X.env.kindOf n = some .local →
      (∀ (a : Addr) (oe : Obj) (cls : Value) (d : Option Addr) (pn : List (Addr × Obj)), Zc cls d oe → (∃ vs, oe.data = .fields vs) → PSs (X.suite a ((a, oe) :: pn)) (b0 :: su) (ts a cls d)) → Cls2 X hs l →
      Cls2 X (.ExceptHandler (some (.Name x p1)) (some n) (b0 :: su) p2 :: hs) ((c, some i, ts) :: l)
section
variable {X : Cx} {body : List Stmt} {h1 : ExceptHandler} {hs : List ExceptHandler} {l : List Clause} {pos : Pos} {tb : WX → TS} {Wout : WX}
theorem ps_try2 (hstk : X.stack = X.env :: X.outer) (hfr : X.env.frame = some X.env.locals) (hN : X.N.Nodup) (tk : Takes X Wout)
    (hb : ∀ (W : WX) (pn : List (Addr × Obj)) (xe : Value → Shared → Prop), Takes (X.tr pn xe) W → PassesOwn (model X.prog X.w) X.A X.env xe → PSs (X.tr pn xe) body (tb W))
    (hh : Cls2 X (h1 :: hs) l) : PS X (.Try body (h1 :: hs) [] [] pos) (fun D σ H => tb (wCl X.K Wout D l) D σ H) := by
  refine ⟨fun pins s σ H D I h => ?_⟩
  have ok := I.ok
  have frames : X.A.frames = some (X.env :: X.outer) := by rw [ok.frames, hstk]
  refine wpAny_Try_except ?_
  refine wpAny_mono ((hb (wCl X.K Wout D l) (X.pn ++ pins) (fun e s1 => wpAny (model X.prog X.w) X.A (noteFrame e X.env) (fun _ s2 => wpAny (model X.prog X.w) X.A (setFlight e none) (fun _ s3 =>
    wpAny (model X.prog X.w) X.A (handleBy e X.env (h1 :: hs)) (SP X pins D) X.xe s3) X.xe s2) X.xe s1) (fun u s' xx => ?_) PassesOwn.looking).run [] s σ H D (I.toTry _) h) (fun f s1 hsp => ?_) (fun e s1 he => he)
  · obtain ⟨a, B, sI, pins', σ', H', cls, d, rfl, J0, nb, up, sky, na, os, ag, wish⟩ := xx
    have J : Inv X pins σ' H' sI := J0.ofTry ok
    have sky2 : Sky B (X.env :: X.outer) a (Zc cls d) X.env.locals s'.heap := by rw [← hstk]; exact sky
    show wpAny (model X.prog X.w) X.A (noteFrame (.ref a) X.env) _ _ _
    refine Sky.land Zc.steady frames hfr sky2 fun g3 fl3 up3 => ?_
    have J3 : Inv X pins σ' H' { s' with heap := g3 } := J.landed nb fl3.1 (up.trans up3) os ag
    obtain ⟨oe3, vs3, at3, hz3, hd3⟩ := fl3.there
    have far : a ∉ frs (X.env :: X.outer) := by
      intro hm
      obtain ⟨_, o', e', hnf⟩ := Heap.FunFrames.mem fl3.2.2.1 hm
      rw [at3] at e'
      cases e'
      exact hnf _ hd3
    have nL : a ≠ X.env.locals := fun z => far (List.mem_filterMap.mpr ⟨X.env, List.mem_cons_self, by rw [hfr, z]⟩)
    have nF : a ∉ X.fs := by
      intro hm
      obtain ⟨e, he, q⟩ := List.mem_filterMap.mp hm
      exact far (List.mem_filterMap.mpr ⟨e, List.mem_cons_of_mem _ he, q⟩)
    have S3 := J3.suite at3 hd3 na nL nF
    have LT : PySem.W.Looks (model X.prog X.w) g3 (typeOf (.ref a)) cls := fun A Q E s k q => wpAny_typeOf_ref (k _ _ at3) (by rw [hz3.1]; exact q)
    have look : ∀ {x : Str} {c : Value} {np : Pos}, Names X x c → ∀ {Q : Value → Shared → Prop} {E : Value → Shared → Prop}, Q c { s' with heap := g3 } →
        wpAny (model X.prog X.w) (X.A.mark (some (.ref a))) (eval (.Name x np) X.env) Q E { s' with heap := g3 } := by
      intro x c np hc Q E q
      obtain ⟨hg, hdbg, hm | ⟨hm, hv, hnn⟩⟩ := hc
      · exact ld_glob (X := X.suite a ((a, oe3) :: (X.pn ++ pins))) S3 hg hm q hdbg
      · exact ld_blt (X := X.suite a ((a, oe3) :: (X.pn ++ pins))) S3 hg hm hv q hnn hdbg
    have go : ∀ {hs' : List ExceptHandler} {l' : List Clause}, Cls2 X hs' l' → wCl X.K Wout D l' cls d σ' H' → wpAny (model X.prog X.w) X.A (handleBy (.ref a) X.env hs') (SP X pins D) X.xe { s' with heap := g3 } := by
      intro hs' l' hk
      induction hk with
      | nil =>
        intro wz
        refine wpAny_handleBy_nil ?_
        obtain ⟨k1, k2, k3, oe, vs, T, oT, ts', he, hz, hd, hf1, hrr⟩ := id fl3
        unfold PySem.passOn
        refine wpAny_bind (wpAny_field he hd hf1 ?_)
        rw [if_neg (show ¬ ((Value.ref T == Value.none) = true) from by simp)]
        have out : wpAny (model X.prog X.w) X.A (setFlight (.ref a) X.env.frame) (fun _ s4 => wpAny (model X.prog X.w) X.A (throw (.ref a) : Sem Flow) (SP X pins D) X.xe s4) X.xe { s' with heap := g3 } := by
          rw [hfr]
          refine HandSPX.setFlight_upZ fl3 fun g4 hh4 up4 => wpAny_throw (tk _ _ ?_)
          exact ⟨a, B, sI, pins, σ', H', cls, d, rfl, J, nb, (up.trans up3).trans up4, .inr (.inr (by rw [hstk]; exact hh4)), na, os, ag, wz⟩
        first
          | exact wpAny_bind (wpAny_pure (wpAny_bind out))
          | exact wpAny_bind out
      | @bare x c ts b0 su p1 p2 hs2 l2 hc hsu r ih =>
        intro wz
        obtain ⟨b, hb1, yes, no⟩ := wz
        refine wpAny_handleBy_cons (codeAny_handlers_test ?_) (by intro q; cases q)
        have LM := PySem.W.exm_one (M := model X.prog X.w) (J3.kIn) LT hb1
        refine look hc (LM.here ?_)
        cases b with
        | true =>
          refine codeAny_handlers_suite ?_
          refine HandSPX.lands_againZ fl3 fun g4 fl4 up4 => ?_
          have J4 : Inv X pins σ' H' { s' with heap := g4 } := J.landed nb fl4.1 ((up.trans up3).trans up4) os ag
          obtain ⟨oe4, vs4, at4, hz4, hd4⟩ := fl4.there
          have S4 := J4.suite at4 hd4 na nL nF
          refine wpAny_mono ((hsu a oe4 cls d (X.pn ++ pins) hz4 ⟨_, hd4⟩).run [] _ _ H' _ S4 (yes rfl a na)) (fun f s6 hsp => ?_) (fun _ _ z => False.elim z)
          cases f with
          | ret u =>
            obtain ⟨v6, σ6, H6, S6, r6, q6⟩ := hsp
            exact ⟨_, _, _, S6.unsuite ok, r6, q6⟩
          | next =>
            obtain ⟨σ6, H6, S6, q6⟩ := hsp
            exact ⟨_, _, S6.unsuite ok, q6⟩
          | brk =>
            obtain ⟨σ6, H6, S6, q6⟩ := hsp
            exact ⟨_, _, S6.unsuite ok, q6⟩
          | cont =>
            obtain ⟨σ6, H6, S6, q6⟩ := hsp
            exact ⟨_, _, S6.unsuite ok, q6⟩
        | false =>
          show wpAny _ X.A (handleBy (.ref a) X.env hs2) _ _ _
          exact ih (no rfl)
      | @named x n i c ts b0 su p1 p2 hs2 l2 hc hi hln hsu r ih =>
        intro wz
        obtain ⟨b, hb1, yes, no⟩ := wz
        have hloc : Loc X.env.scope n := .inl hln
        refine wpAny_handleBy_cons (codeAny_handlers_test ?_) (by intro q; cases q)
        have LM := PySem.W.exm_one (M := model X.prog X.w) (J3.kIn) LT hb1
        refine look hc (LM.here ?_)
        cases b with
        | true =>
          refine codeAny_handlers_suite_as ?_
          refine HandSPX.lands_againZ fl3 fun g4 fl4 up4 => ?_
          have J4 : Inv X pins σ' H' { s' with heap := g4 } := J.landed nb fl4.1 ((up.trans up3).trans up4) os ag
          obtain ⟨oe4, vs4, at4, hz4, hd4⟩ := fl4.there
          have S4 := J4.suite at4 hd4 na nL nF
          refine store_ok (X := X.suite a ((a, oe4) :: (X.pn ++ pins))) (v := .ref a) S4 hN hi hloc rfl (fun s5 S5 => ?_) (.inr hln)
          refine wpAny_mono ((hsu a oe4 cls d (X.pn ++ pins) hz4 ⟨_, hd4⟩).run [] s5 _ H' _ S5 (yes rfl a na)) (fun f s6 hsp => ?_) (fun _ _ z => False.elim z)
          have gone : ∀ {σ6 : St} {H6 : Hp} {Q : Shared → Prop}, Inv (X.suite a ((a, oe4) :: (X.pn ++ pins))) [] σ6 H6 s6 → (∀ s7, Inv X pins (σ6.set i none) H6 s7 → Q s7) →
              wpAny (model X.prog X.w) X.A (do bindName X.env n .none; unbindBehindTheSuite X.env n p2) (fun _ s7 => Q s7) X.xe s6 := fun {σ6 H6 Q} S6 hq => gone_ok (S6.unsuite ok) hN hi hln hq
          cases f with
          | ret u =>
            obtain ⟨v6, σ6, H6, S6, r6, q6⟩ := hsp
            exact gone S6 fun s7 J7 => ⟨_, _, _, J7, r6, q6⟩
          | next =>
            obtain ⟨σ6, H6, S6, q6⟩ := hsp
            exact gone S6 fun s7 J7 => ⟨_, _, J7, q6⟩
          | brk =>
            obtain ⟨σ6, H6, S6, q6⟩ := hsp
            exact gone S6 fun s7 J7 => ⟨_, _, J7, q6⟩
          | cont =>
            obtain ⟨σ6, H6, S6, q6⟩ := hsp
            exact gone S6 fun s7 J7 => ⟨_, _, J7, q6⟩
        | false =>
          show wpAny _ X.A (handleBy (.ref a) X.env hs2) _ _ _
          exact ih (no rfl)
    exact go hh wish
  cases f with
  | ret u =>
    obtain ⟨v, σ', H', J', r, q⟩ := hsp
    exact ⟨v, σ', H', J'.ofTry ok, r, q⟩
  | next =>
    obtain ⟨σ', H', J', q⟩ := hsp
    exact wpAny_execs_nil ⟨σ', H', J'.ofTry ok, q⟩
  | brk =>
    obtain ⟨σ', H', J', q⟩ := hsp
    exact ⟨σ', H', J'.ofTry ok, q⟩
  | cont =>
    obtain ⟨σ', H', J', q⟩ := hsp
    exact ⟨σ', H', J'.ofTry ok, q⟩
end
end Fc
end L2
set_option Elab.async false
set_option linter.all false
set_option maxRecDepth 100000
set_option maxHeartbeats 4000000
/-! A source of draws at a: the one thing that a law's helpers change; all else is frozen. -/
namespace L2
namespace Fc
open PySem PySem.Spec PyProof.Rows
def Src (H : Hp) (a : Addr) : Prop := ∃ x y z : Int, H a = some (.lst [.int x, .int y, .int z])
theorem Src.upd {H : Hp} {a : Addr} {x y z : Int} : Src (upd H a (.lst [.int x, .int y, .int z])) a := ⟨x, y, z, upd_same⟩
theorem Src.some {H : Hp} {a : Addr} (s : Src H a) : H a ≠ none := by
  obtain ⟨x, y, z, e⟩ := s
  intro q
  rw [e] at q
  cases q
/-- all but the source -/
abbrev Fz (a : Addr) (H : Hp) : Hp := hide [a] H
theorem fz_ne {a b : Addr} {H : Hp} (h : b ≠ a) : Fz a H b = H b := hide_out (by simpa using h)
theorem fz_at {a : Addr} {H : Hp} : Fz a H a = none := hide_in (by simp)
/-- what a helper does to the heap -/
structure Adv (a : Addr) (H H' : Hp) : Prop where
  fz : Same (Fz a H) (Fz a H')
  src : Src H' a
theorem Adv.refl {a : Addr} {H : Hp} (s : Src H a) : Adv a H H := ⟨Same.refl _, s⟩
theorem Adv.trans {a : Addr} {H H1 H2 : Hp} (p : Adv a H H1) (q : Adv a H1 H2) : Adv a H H2 := ⟨p.fz.trans q.fz, q.src⟩
theorem Adv.get {a b : Addr} {H H' : Hp} {o : HO} (p : Adv a H H') (n : b ≠ a) (e : H b = some o) : H' b = some o := by
  have z := p.fz b o (by rw [fz_ne n]; exact e)
  rw [fz_ne n] at z
  exact z
theorem Adv.of_same {a : Addr} {H H' : Hp} (s : Src H a) (e : Same H H') : Adv a H H' := by
  refine ⟨fun b o q => ?_, ?_⟩
  · by_cases hb : b = a
    · subst hb
      rw [fz_at] at q
      cases q
    · rw [fz_ne hb] at q ⊢
      exact e b o q
  · obtain ⟨x, y, z, es⟩ := s
    exact ⟨x, y, z, e _ _ es⟩
theorem Adv.new {a p : Addr} {H H' : Hp} {o : HO} (q : Adv a H H') (n : H' p = none) : Adv a H (upd H' p o) := q.trans (Adv.of_same q.src (Same.put n))
theorem Adv.draw {a : Addr} {H : Hp} {x y z : Int} : Adv a H (upd H a (.lst [.int x, .int y, .int z])) := by
  refine ⟨fun b o q => ?_, Src.upd⟩
  by_cases hb : b = a
  · subst hb
    rw [fz_at] at q
    cases q
  · rw [fz_ne hb] at q ⊢
    rw [upd_ne hb]
    exact q
theorem Adv.ob {K : PySem.W.Frag} {a : Addr} {H H' : Hp} {v : V} {o : O} (p : Adv a H H') (h : Ob K (Fz a H) v o) : Ob K (Fz a H') v o := h.mono p.fz
theorem fz_same {a : Addr} {H : Hp} : Same (Fz a H) H := hide_same _ _
/-- a new tuple -/
theorem tup_new {K : PySem.W.Frag} {a p : Addr} {H : Hp} {xs : List V} {os : List O} (s : Src H a) (n : H p = none) (h : Obs K (Fz a H) xs os) (l : os.length < 20000) : Ob K (Fz a (upd H p (.tup xs))) (.ref p) (.tup os) := by
  have hp : p ≠ a := fun z => s.some (by rw [← z]; exact n)
  refine .tup (SqT.of ?_) (h.mono (Adv.new (Adv.refl s) n).fz) l
  rw [fz_ne hp]
  exact upd_same
theorem str_ob {K : PySem.W.Frag} {H : Hp} (x : Str) (h : x.length ≤ 100 := by decide) : Ob K H (.str x) (.str x) := .str x (Nat.le_trans h (by decide))

/-! ### what is laid around an object -/
inductive Wr : O → O → Prop
  | seq (o : O) : Wr o (.tup [.str "seq", .tup [o]])
  | whi (o : O) : Wr o (.tup [.str "while", .str "w", o])
  | try_ (o : O) : Wr o (.tup [.str "try", o, .tup [.str "do", .str "h"]])
  | fin (o : O) : Wr o (.tup [.str "final", o, .tup [.str "do", .str "f"]])
  | if_ (o : O) : Wr o (.tup [.str "if", .str "i", o, .tup [.str "raise"]])
inductive Wraps : Nat → O → O → Prop
  | zero (o : O) : Wraps 0 o o
  | succ {n : Nat} {o u t : O} : Wraps n o u → Wr u t → Wraps (n + 1) o t
def block (o : O) : O := .tup [.str "final", .tup [.str "call", .str "x"], o]
def blocks : Nat → O → O
  | 0, o => o
  | n + 1, o => block (blocks n o)
end Fc
end L2
set_option Elab.async false
set_option linter.all false
set_option maxRecDepth 100000
set_option maxHeartbeats 4000000
/-! Runs of the numbering over leaves, chains and what is laid around. -/
namespace L2
namespace Fc
open PySem PySem.Spec PyProof.Rows

theorem judge_ok {n : Nat} {s : Spot} (h1 : n < 400) (h2 : s.lev ≤ 100) (h3 : s.lay.length ≤ 25) (h4 : s.o.isStmt s.wh = true) : judge n s = none := by
  unfold judge
  rw [if_neg (by omega), if_neg (by omega), if_neg (by omega), if_pos h4]
theorem judge_400 {n : Nat} {s : Spot} (h : 400 ≤ n) : judge n s = some (.lim 400) := by
  unfold judge
  rw [if_pos h]
theorem judge_100 {n : Nat} {s : Spot} (h1 : n < 400) (h : 100 < s.lev) : judge n s = some (.lim 100) := by
  unfold judge
  rw [if_neg (by omega), if_pos h]
theorem judge_25 {n : Nat} {s : Spot} (h1 : n < 400) (h2 : s.lev ≤ 100) (h : 25 < s.lay.length) : judge n s = some (.lim 25) := by
  unfold judge
  rw [if_neg (by omega), if_neg (by omega), if_pos h]
theorem judge_bad {n : Nat} {s : Spot} (h1 : n < 400) (h2 : s.lev ≤ 100) (h3 : s.lay.length ≤ 25) (h4 : s.o.isStmt s.wh = false) : judge n s = some (.bad n) := by
  unfold judge
  rw [if_neg (by omega), if_neg (by omega), if_neg (by omega), if_neg (by rw [h4]; exact Bool.false_ne_true)]
theorem inside_of {o : O} {n : Nat} {s : Spot} (e : s.o = o) (k : o.kind ≠ "final") : inside n s = o.parts.map (inner n s) := by
  unfold inside
  rw [e, if_neg k]
/-- a leaf: nothing in it, good anywhere -/
structure Leaf (o : O) : Prop where
  st : ∀ wh, o.isStmt wh = true
  parts : o.parts = []
  kind : o.kind ≠ "final"
theorem Leaf.inside {o : O} (l : Leaf o) {n : Nat} {s : Spot} (e : s.o = o) : inside n s = [] := by
  unfold Fc.inside
  rw [e, if_neg l.kind, l.parts]
  rfl
theorem leaf_do (x : Str) (h : nameOk x = true) : Leaf (.tup [.str "do", .str x]) := ⟨fun _ => h, rfl, show ¬ ("do" : Str) = "final" by decide⟩
theorem leaf_call (x : Str) (h : nameOk x = true) : Leaf (.tup [.str "call", .str x]) := ⟨fun _ => h, rfl, show ¬ ("call" : Str) = "final" by decide⟩
theorem leaf_raise : Leaf (.tup [.str "raise"]) := ⟨fun _ => rfl, rfl, by decide⟩
theorem runs_leaf {o : O} (l : Leaf o) {s : Spot} {rest rows : List Spot} {res : Except Err (List Spot)} (e : s.o = o) (h1 : rows.length < 400) (h2 : s.lev ≤ 100) (h3 : s.lay.length ≤ 25) (h : Runs rest (rows ++ [s]) res) : Runs (s :: rest) rows res := by
  refine .step (judge_ok h1 h2 h3 (by rw [e]; exact l.st _)) ?_
  rw [l.inside e]
  exact h
/-- many leaves -/
theorem runs_leaves {o : O} (l : Leaf o) : ∀ {ss rest rows : List Spot} {res : Except Err (List Spot)}, (∀ s ∈ ss, s.o = o ∧ s.lev ≤ 100 ∧ s.lay.length ≤ 25) → rows.length + ss.length ≤ 400 →
    Runs rest (rows ++ ss) res → Runs (ss ++ rest) rows res
  | [], rest, rows, res, _, _, h => by
    rw [List.append_nil] at h
    exact h
  | s :: ss, rest, rows, res, g, len, h => by
    rw [List.length_cons] at len
    obtain ⟨g1, g2, g3⟩ := g s List.mem_cons_self
    refine runs_leaf l g1 (by omega) g2 g3 (runs_leaves l (fun x hx => g x (List.mem_cons_of_mem _ hx)) ?_ ?_)
    · rw [List.length_append, List.length_singleton]
      omega
    · rw [List.append_assoc]
      exact h
/-- more than fit -/
theorem runs_over {o : O} (l : Leaf o) : ∀ {ss rest rows : List Spot}, (∀ s ∈ ss, s.o = o ∧ s.lev ≤ 100 ∧ s.lay.length ≤ 25) → rows.length ≤ 400 → 400 < rows.length + ss.length → Runs (ss ++ rest) rows (.error (.lim 400))
  | [], rest, rows, _, h1, h2 => by
    simp at h2
    omega
  | s :: ss, rest, rows, g, h1, h2 => by
    by_cases e : rows.length = 400
    · exact .bad (judge_400 (by omega))
    · obtain ⟨g1, g2, g3⟩ := g s List.mem_cons_self
      rw [List.length_cons] at h2
      refine runs_leaf l g1 (by omega) g2 g3 (runs_over l (fun x hx => g x (List.mem_cons_of_mem _ hx)) ?_ ?_)
      · rw [List.length_append, List.length_singleton]
        omega
      · rw [List.length_append, List.length_singleton]
        omega
theorem seq_inside {os : List O} {n : Nat} {s : Spot} (e : s.o = .tup [.str "seq", .tup os]) : inside n s = os.map (inner n s) := by
  rw [inside_of e (show ¬ ("seq" : Str) = "final" by decide)]
  rfl
theorem seq_stmt {os : List O} (h : os ≠ []) (wh : Nat) : O.isStmt (.tup [.str "seq", .tup os]) wh = true := by
  cases os with
  | nil => exact absurd rfl h
  | cons _ _ => rfl
/-- what is laid around u is a statement whose first part is u; a leaf may follow -/
theorem wr_inside {u t : O} (h : Wr u t) : (∀ wh, t.isStmt wh = true) ∧ ∀ (n : Nat) (s : Spot), s.o = t → ∃ (s1 : Spot) (tail : List Spot), inside n s = s1 :: tail ∧ s1.o = u ∧ s1.lev = s.lev + 1 ∧ s1.lay = s.lay ∧ tail.length ≤ 1 ∧
    ∀ x ∈ tail, Leaf x.o ∧ x.lev = s.lev + 1 ∧ x.lay.length ≤ s.lay.length + 1 := by
  cases h with
  | seq =>
    refine ⟨fun wh => rfl, fun n s e => ⟨inner n s u, [], ?_, rfl, rfl, rfl, by simp, fun x hx => nomatch hx⟩⟩
    rw [seq_inside e]
    rfl
  | whi =>
    refine ⟨fun wh => rfl, fun n s e => ⟨inner n s u, [], ?_, rfl, rfl, rfl, by simp, fun x hx => nomatch hx⟩⟩
    rw [inside_of e (show ¬ ("while" : Str) = "final" by decide)]
    rfl
  | try_ =>
    refine ⟨fun wh => rfl, fun n s e => ⟨inner n s u, [inner n s (.tup [.str "do", .str "h"])], ?_, rfl, rfl, rfl, by simp, fun x hx => ?_⟩⟩
    · rw [inside_of e (show ¬ ("try" : Str) = "final" by decide)]
      rfl
    · rw [List.mem_singleton] at hx
      subst hx
      exact ⟨leaf_do "h" (by decide), rfl, Nat.le_succ _⟩
  | fin =>
    refine ⟨fun wh => rfl, fun n s e => ⟨inner n s u, [inBlock n s (.tup [.str "do", .str "f"])], ?_, rfl, rfl, rfl, by simp, fun x hx => ?_⟩⟩
    · unfold inside
      rw [e, if_pos (by rfl)]
      rfl
    · rw [List.mem_singleton] at hx
      subst hx
      refine ⟨leaf_do "f" (by decide), rfl, ?_⟩
      show (s.lay ++ [n]).length ≤ _
      rw [List.length_append]
      exact Nat.le_refl _
  | if_ =>
    refine ⟨fun wh => rfl, fun n s e => ⟨inner n s u, [inner n s (.tup [.str "raise"])], ?_, rfl, rfl, rfl, by simp, fun x hx => ?_⟩⟩
    · rw [inside_of e (show ¬ ("if" : Str) = "final" by decide)]
      rfl
    · rw [List.mem_singleton] at hx
      subst hx
      exact ⟨leaf_raise, rfl, Nat.le_succ _⟩
/-- going down: k levels, then the innermost; others wait -/
theorem runs_down : ∀ {k : Nat} {u t : O}, Wraps k u t → ∀ {s : Spot} {rest rows : List Spot} {res : Except Err (List Spot)}, s.o = t → s.lev + k ≤ 101 → s.lay.length ≤ 25 → rows.length + k ≤ 400 →
    (∀ (s1 : Spot) (rest1 rows1 : List Spot), s1.o = u → s1.lev = s.lev + k → s1.lay = s.lay → rows1.length = rows.length + k → Runs (s1 :: rest1) rows1 res) → Runs (s :: rest) rows res := by
  intro k u t h
  induction h with
  | zero => 
    intro s rest rows res e _ _ _ g
    exact g s rest rows e rfl rfl rfl
  | @succ n o u t hw hr ih =>
    intro s rest rows res e h1 h2 h3 g
    obtain ⟨st, ins⟩ := wr_inside hr
    obtain ⟨s1, tail, ei, e1, e2, e3, _, _⟩ := ins rows.length s e
    refine .step (judge_ok (by omega) (by omega) h2 (by rw [e]; exact st _)) ?_
    rw [ei, List.cons_append]
    refine ih e1 (by omega) (by rw [e3]; exact h2) (by rw [List.length_append, List.length_singleton]; omega) ?_
    intro s2 rest2 rows2 f1 f2 f3 f4
    refine g s2 rest2 rows2 f1 (by omega) (by rw [f3, e3]) ?_
    rw [f4, List.length_append, List.length_singleton]
    omega
/-- the statement of s is numbered whole, from rows to rows2 -/
def Eats (s : Spot) (rows rows2 : List Spot) : Prop := ∀ (rest : List Spot) (res : Except Err (List Spot)), Runs rest rows2 res → Runs (s :: rest) rows res
/-- k levels around what takes m rows -/
theorem runs_whole : ∀ {k : Nat} {u t : O}, Wraps k u t → ∀ (m : Nat) {s : Spot} {rows : List Spot}, s.o = t → s.lev + k ≤ 100 → s.lay.length + 1 ≤ 25 → rows.length + 2 * k + m ≤ 400 →
    (∀ (s1 : Spot) (rows1 : List Spot), s1.o = u → s1.lev = s.lev + k → s1.lay = s.lay → rows1.length + m ≤ 400 → ∃ rows2, rows2.length ≤ rows1.length + m ∧ Eats s1 rows1 rows2) →
    ∃ rows2, rows2.length ≤ rows.length + 2 * k + m ∧ Eats s rows rows2 := by
  intro k u t h
  induction h with
  | zero =>
    intro m s rows e _ _ h3 g
    obtain ⟨rows2, e2, f⟩ := g s rows e rfl rfl (by omega)
    exact ⟨rows2, by omega, f⟩
  | @succ n o u t hw hr ih =>
    intro m s rows e h1 h2 h3 g
    obtain ⟨st, ins⟩ := wr_inside hr
    obtain ⟨s1, tail, ei, e1, e2, e3, tl, tg⟩ := ins rows.length s e
    have r1 : (rows ++ [s]).length = rows.length + 1 := by rw [List.length_append, List.length_singleton]
    obtain ⟨rows2, l2, eat⟩ := ih m (rows := rows ++ [s]) e1 (by omega) (by rw [e3]; exact h2) (by omega) (fun s2 rows2 f1 f2 f3 f4 => g s2 rows2 f1 (by omega) (by rw [f3, e3]) f4)
    have first : ∀ rest res, Runs (tail ++ rest) rows2 res → Runs (s :: rest) rows res := by
      intro rest res hh
      refine .step (judge_ok (by omega) (by omega) (by omega) (by rw [e]; exact st _)) ?_
      rw [ei, List.cons_append]
      exact eat _ _ hh
    match tail, tl, tg, first with
    | [], _, _, first => exact ⟨rows2, by omega, fun rest res hh => first rest res hh⟩
    | [x], _, tg, first =>
      obtain ⟨g1, g2, g3⟩ := tg x List.mem_cons_self
      refine ⟨rows2 ++ [x], by rw [List.length_append, List.length_singleton]; omega, fun rest res hh => first rest res ?_⟩
      exact runs_leaf g1 rfl (by omega) (by omega) (by omega) hh
theorem block_inside {o : O} {n : Nat} {s : Spot} (e : s.o = block o) : inside n s = [inner n s (.tup [.str "call", .str "x"]), inBlock n s o] := by
  unfold inside block at *
  rw [e, if_pos (by rfl)]
  rfl
/-- down through blocks -/
theorem blocks_down (n : Nat) (o : O) : ∀ (j : Nat) {s : Spot} {rest rows : List Spot} {res : Except Err (List Spot)}, s.o = blocks (j + n) o → s.lev + j ≤ 100 → s.lay.length + j ≤ 26 → rows.length + 2 * j ≤ 400 →
    (∀ (s1 : Spot) (rows1 : List Spot), s1.o = blocks n o → s1.lev = s.lev + j → s1.lay.length = s.lay.length + j → rows1.length = rows.length + 2 * j → Runs (s1 :: rest) rows1 res) → Runs (s :: rest) rows res
  | 0, s, rest, rows, res, e, _, _, _, g => g s rows (by rw [e, Nat.zero_add]) rfl rfl rfl
  | j + 1, s, rest, rows, res, e, h1, h2, h3, g => by
    have e' : s.o = block (blocks (j + n) o) := by
      rw [e, show j + 1 + n = (j + n) + 1 by omega]
      rfl
    refine .step (judge_ok (by omega) (by omega) (by omega) (by rw [e']; rfl)) ?_
    rw [block_inside e']
    have r1 : (rows ++ [s]).length = rows.length + 1 := by rw [List.length_append, List.length_singleton]
    refine runs_leaf (leaf_call "x" (by decide)) rfl (by omega) (by show s.lev + 1 ≤ 100; omega) (by show s.lay.length ≤ 25; omega) ?_
    have r2 : (rows ++ [s] ++ [inner rows.length s (.tup [.str "call", .str "x"])]).length = rows.length + 2 := by rw [List.length_append, List.length_singleton, r1]
    have l2 : (inBlock rows.length s (blocks (j + n) o)).lay.length = s.lay.length + 1 := by
      show (s.lay ++ [rows.length]).length = _
      rw [List.length_append, List.length_singleton]
    refine blocks_down n o j rfl (by show s.lev + 1 + j ≤ 100; omega) (by omega) (by omega) fun s1 rows1 f1 f2 f3 f4 => ?_
    refine g s1 rows1 f1 ?_ (by omega) (by omega)
    have z : (inBlock rows.length s (blocks (j + n) o)).lev = s.lev + 1 := rfl
    omega

/-! ### what Code makes of the law's objects -/
def doO (x : Str) : O := .tup [.str "do", .str x]
def seqO (os : List O) : O := .tup [.str "seq", .tup os]
theorem codes_seq {os : List O} {res : Except Err (List Spot)} (h : os ≠ []) (k : Runs (os.map (inner 0 (root (seqO os)))) [root (seqO os)] res) : Codes (seqO os) res := by
  refine .step (judge_ok (by decide) (by show 1 ≤ 100; decide) (by show 0 ≤ 25; decide) (seq_stmt h _)) ?_
  rw [seq_inside (os := os) rfl, List.append_nil]
  exact k
theorem map_leaves {o : O} {n : Nat} {s0 : Spot} (h1 : s0.lev < 100) (h2 : s0.lay.length ≤ 25) (k : Nat) : ∀ s ∈ (List.replicate k o).map (inner n s0), s.o = o ∧ s.lev ≤ 100 ∧ s.lay.length ≤ 25 := by
  intro s hs
  obtain ⟨u, hu, rfl⟩ := List.mem_map.mp hs
  rw [List.mem_replicate] at hu
  rw [hu.2]
  exact ⟨rfl, h1, h2⟩
theorem codes_400 {o : O} (l : Leaf o) : ∃ rows : List Spot, rows.length = 400 ∧ Codes (seqO (List.replicate 399 o)) (.ok rows) := by
  refine ⟨[root (seqO (List.replicate 399 o))] ++ (List.replicate 399 o).map (inner 0 (root (seqO (List.replicate 399 o)))), by rw [List.length_append, List.length_map, List.length_replicate]; rfl, ?_⟩
  refine codes_seq (by rw [List.replicate_succ]; simp) ?_
  have z := runs_leaves l (rest := []) (rows := [root (seqO (List.replicate 399 o))]) (map_leaves (n := 0) (s0 := root (seqO (List.replicate 399 o))) (by decide : 1 < 100) (by decide : 0 ≤ 25) 399) (by rw [List.length_map, List.length_replicate]; show 1 + 399 ≤ 400; decide) .nil
  rw [List.append_nil] at z
  exact z
theorem codes_over {o : O} (l : Leaf o) (x : O) (more : List O) : Codes (seqO (List.replicate 399 o ++ x :: more)) (.error (.lim 400)) := by
  refine codes_seq (by simp) ?_
  rw [List.map_append]
  refine runs_leaves l (map_leaves (n := 0) (s0 := root (seqO (List.replicate 399 o ++ x :: more))) (by show 1 < 100; decide) (by show 0 ≤ 25; decide) 399) (by rw [List.length_map, List.length_replicate]; show 1 + 399 ≤ 400; decide) ?_
  rw [List.map_cons]
  refine .bad (judge_400 ?_)
  rw [List.length_append, List.length_map, List.length_replicate]
  show 400 ≤ 1 + 399
  decide
theorem codes_first {o : O} (l : Leaf o) (k : Nat) (hk : k ≤ 398) (more : List O) : Codes (seqO (List.replicate k o ++ .non :: more)) (.error (.bad (k + 1))) := by
  refine codes_seq (by simp) ?_
  rw [List.map_append]
  refine runs_leaves l (map_leaves (n := 0) (s0 := root (seqO (List.replicate k o ++ .non :: more))) (by show 1 < 100; decide) (by show 0 ≤ 25; decide) k) (by rw [List.length_map, List.length_replicate]; show 1 + k ≤ 400; omega) ?_
  rw [List.map_cons]
  have e : ([root (seqO (List.replicate k o ++ .non :: more))] ++ (List.replicate k o).map (inner 0 (root (seqO (List.replicate k o ++ .non :: more))))).length = k + 1 := by
    rw [List.length_append, List.length_map, List.length_replicate, List.length_singleton]
    omega
  have z := judge_bad (n := k + 1) (s := inner 0 (root (seqO (List.replicate k o ++ .non :: more))) .non) (by omega) (by show 2 ≤ 100; decide) (by show 0 ≤ 25; decide) rfl
  exact .bad (by rw [e]; exact z)
theorem codes_fine {o u : O} (l : Leaf o) (h : Wraps 99 o u) : ∃ rows, Codes u (.ok rows) := by
  obtain ⟨rows2, _, eat⟩ := runs_whole h 1 (s := root u) (rows := []) rfl (by decide : 1 + 99 ≤ 100) (by decide : 0 + 1 ≤ 25) (by decide : 0 + 2 * 99 + 1 ≤ 400) (fun s1 rows1 e1 e2 e3 e4 => ⟨rows1 ++ [s1], by simp, fun rest res hh => runs_leaf l e1 (by omega) (by rw [e2]; show 1 + 99 ≤ 100; decide) (by rw [e3]; show 0 ≤ 25; decide) hh⟩)
  exact ⟨rows2, eat [] _ .nil⟩
theorem codes_deep {o u : O} (h : Wraps 100 o u) : Codes u (.error (.lim 100)) := by
  refine runs_down h (s := root u) (rows := []) rfl (by decide : 1 + 100 ≤ 101) (by decide : 0 ≤ 25) (by decide : 0 + 100 ≤ 400) fun s1 rest1 rows1 f1 f2 f3 f4 => ?_
  refine .bad (judge_100 (by rw [f4]; decide) (by rw [f2]; show 100 < 1 + 100; decide))
theorem codes_deep2 {u x y : O} {o : O} (l : Leaf o) (h : Wraps 99 x u) : Codes (seqO [o, u, y]) (.error (.lim 100)) := by
  refine codes_seq (by simp) ?_
  rw [List.map_cons, List.map_cons]
  refine runs_leaf l rfl (by decide : 1 < 400) (by show 2 ≤ 100; decide) (by show 0 ≤ 25; decide) ?_
  refine runs_down h rfl (by show 2 + 99 ≤ 101; decide) (by show 0 ≤ 25; decide) (by show 2 + 99 ≤ 400; decide) fun s1 rest1 rows1 f1 f2 f3 f4 => ?_
  refine .bad (judge_100 (by rw [f4]; show 2 + 99 < 400; decide) ?_)
  rw [f2]
  show 100 < 2 + 99
  decide
theorem codes_bad1 (i : Int) (more : List O) : Codes (seqO (.int i :: more)) (.error (.bad 1)) := by
  refine codes_seq (by simp) ?_
  rw [List.map_cons]
  exact .bad (judge_bad (n := 1) (by decide) (by show 2 ≤ 100; decide) (by show 0 ≤ 25; decide) rfl)
theorem eats_blocks25 {o : O} (l : Leaf o) {s : Spot} {rows : List Spot} (e : s.o = blocks 25 o) (h1 : s.lev + 25 ≤ 100) (h2 : s.lay.length = 0) (h3 : rows.length + 51 ≤ 400) : ∃ rows2, rows2.length = rows.length + 51 ∧ Eats s rows rows2 := by
  -- the rows that come do not hang on what waits
  have run : ∀ (j : Nat) (t : Spot) (rs : List Spot), t.o = blocks j o → t.lev + j ≤ 100 → t.lay.length + j ≤ 25 → rs.length + 2 * j + 1 ≤ 400 → ∃ rows2, rows2.length = rs.length + 2 * j + 1 ∧ Eats t rs rows2 := by
    intro j
    induction j with
    | zero =>
      intro t rs et g1 g2 g3
      exact ⟨rs ++ [t], by rw [List.length_append, List.length_singleton], fun rest res hh => runs_leaf l et (by omega) (by omega) (by omega) hh⟩
    | succ j ih =>
      intro t rs et g1 g2 g3
      have et' : t.o = block (blocks j o) := et
      have l2 : (inBlock rs.length t (blocks j o)).lay.length = t.lay.length + 1 := by
        show (t.lay ++ [rs.length]).length = _
        rw [List.length_append, List.length_singleton]
      have v2 : (inBlock rs.length t (blocks j o)).lev = t.lev + 1 := rfl
      have r1 : (rs ++ [t]).length = rs.length + 1 := by rw [List.length_append, List.length_singleton]
      have r2 : (rs ++ [t] ++ [inner rs.length t (.tup [.str "call", .str "x"])]).length = rs.length + 2 := by rw [List.length_append, List.length_singleton, r1]
      obtain ⟨rows2, e2, eat⟩ := ih (inBlock rs.length t (blocks j o)) (rs ++ [t] ++ [inner rs.length t (.tup [.str "call", .str "x"])]) rfl (by omega) (by omega) (by omega)
      refine ⟨rows2, by omega, fun rest res hh => ?_⟩
      refine .step (judge_ok (by omega) (by omega) (by omega) (by rw [et']; rfl)) ?_
      rw [block_inside et']
      refine runs_leaf (leaf_call "x" (by decide)) rfl (by omega) (by show t.lev + 1 ≤ 100; omega) (by show t.lay.length ≤ 25; omega) ?_
      exact eat rest res hh
  obtain ⟨rows2, e2, eat⟩ := run 25 s rows e h1 (by omega) (by omega)
  exact ⟨rows2, by omega, eat⟩
theorem codes_blocks25 {o : O} (l : Leaf o) : ∃ rows : List Spot, rows.length = 51 ∧ Codes (blocks 25 o) (.ok rows) := by
  obtain ⟨rows2, e2, eat⟩ := eats_blocks25 l (s := root (blocks 25 o)) (rows := []) rfl (by show 1 + 25 ≤ 100; decide) rfl (by decide)
  exact ⟨rows2, e2, eat [] _ .nil⟩
theorem codes_blocks26 (o : O) : Codes (blocks 26 o) (.error (.lim 25)) := by
  refine blocks_down 0 o 26 (s := root (blocks 26 o)) (rows := []) rfl (by show 1 + 26 ≤ 100; decide) (by show 0 + 26 ≤ 26; decide) (by decide) fun s1 rows1 f1 f2 f3 f4 => ?_
  exact .bad (judge_25 (by rw [f4]; decide) (by rw [f2]; show 1 + 26 ≤ 100; decide) (by rw [f3]; show 25 < 0 + 26; decide))
theorem codes_mixed {o u : O} (l : Leaf o) {n : Nat} (hn : n < 40) (h : Wraps n (blocks 25 o) u) : ∃ rows, Codes u (.ok rows) := by
  have v0 : (root u).lev = 1 := rfl
  have y0 : (root u).lay = [] := rfl
  obtain ⟨rows2, _, eat⟩ := runs_whole h 51 (s := root u) (rows := []) rfl (by omega) (by rw [y0]; decide) (by show 0 + 2 * n + 51 ≤ 400; omega) (fun s1 rows1 e1 e2 e3 e4 => by
    obtain ⟨rows2, q2, eat⟩ := eats_blocks25 l (s := s1) (rows := rows1) e1 (by omega) (by rw [e3]; rfl) (by omega)
    exact ⟨rows2, by omega, eat⟩)
  exact ⟨rows2, eat [] _ .nil⟩
theorem codes_deep3 {o u : O} (h : Wraps 74 (blocks 26 o) u) : Codes u (.error (.lim 100)) := by
  refine runs_down h (s := root u) (rows := []) rfl (by show 1 + 74 ≤ 101; decide) (by show 0 ≤ 25; decide) (by decide) fun s1 rest1 rows1 f1 f2 f3 f4 => ?_
  have v1 : s1.lev = 75 := by rw [f2]; rfl
  have y1 : s1.lay.length = 0 := by rw [f3]; rfl
  have w1 : rows1.length = 74 := by rw [f4]; rfl
  refine blocks_down 1 o 25 (s := s1) (rest := rest1) (rows := rows1) f1 (by omega) (by omega) (by omega) fun s2 rows2 g1 g2 g3 g4 => ?_
  have g1' : s2.o = block o := g1
  refine .step (judge_ok (by omega) (by omega) (by omega) (by rw [g1']; rfl)) ?_
  rw [block_inside g1']
  refine .bad (judge_100 (by rw [List.length_append, List.length_singleton]; omega) ?_)
  show 100 < s2.lev + 1
  omega
theorem codes_last {u : O} (h : Wraps 74 .non u) : Codes (blocks 25 u) (.error (.bad 124)) := by
  refine blocks_down 0 u 25 (s := root (blocks 25 u)) (rows := []) rfl (by show 1 + 25 ≤ 100; decide) (by show 0 + 25 ≤ 26; decide) (by decide) fun s1 rows1 f1 f2 f3 f4 => ?_
  have v1 : s1.lev = 26 := by rw [f2]; rfl
  have y1 : s1.lay.length = 25 := by rw [f3]; rfl
  have w1 : rows1.length = 50 := by rw [f4]; rfl
  refine runs_down h (s := s1) (rows := rows1) f1 (by omega) (by omega) (by omega) fun s2 rest2 rows2 g1 g2 g3 g4 => ?_
  have e : rows2.length = 124 := by omega
  have z := judge_bad (n := 124) (s := s2) (by decide) (by omega) (by rw [g3]; omega) (by rw [g1]; rfl)
  exact .bad (by rw [e]; exact z)
end Fc
end L2
set_option Elab.async false
set_option linter.all false
set_option maxRecDepth 100000
set_option maxHeartbeats 4000000
/-! Statements as a law draws them: well made, no deeper than d, n whiles around. -/
namespace L2
namespace Fc
open PySem PySem.Spec PyProof.Rows
def ends (k : Str) : Bool := decide (k = "return") || decide (k = "raise")
theorem inV_ends (z : Str) : (if false = true then !inV (.str z) [.str "return", .str "raise"] else inV (.str z) [.str "return", .str "raise"]) = ends z := by
  rw [if_neg Bool.false_ne_true]
  show ((("return" : Str) == z) || ((("raise" : Str) == z) || false)) = ends z
  rw [beq_dec, beq_dec, Bool.or_false]
  rfl
inductive Lf : Nat → O → Prop
  | name (n : Nat) (k x : Str) : k = "do" ∨ k = "call" → nameOk x = true → Lf n (.tup [.str k, .str x])
  | end_ (n : Nat) (k : Str) : k = "return" ∨ k = "raise" → Lf n (.tup [.str k])
  | jump (n : Nat) (k : Str) (i : Int) : k = "break" ∨ k = "continue" → 1 ≤ i → i ≤ n → Lf n (.tup [.str k, .int i])
inductive Tr : Nat → Nat → O → Prop
  | leaf (d n : Nat) (o : O) : Lf n o → Tr (d + 1) n o
  | seq (d n : Nat) (os : List O) : os ≠ [] → os.length ≤ 3 → (∀ o ∈ os, Tr d n o) → Tr (d + 1) n (.tup [.str "seq", .tup os])
  | whi (d n : Nat) (x : Str) (o : O) : nameOk x = true → Tr d (n + 1) o → Tr (d + 1) n (.tup [.str "while", .str x, o])
  | if_ (d n : Nat) (o u : O) : Tr d n o → Tr d n u → Tr (d + 1) n (.tup [.str "if", .str "i", o, u])
  | two (d n : Nat) (k : Str) (o u : O) : k = "try" ∨ k = "final" → Tr d n o → Tr d n u → Tr (d + 1) n (.tup [.str k, o, u])
/-! no list, no dict in it: a change of a list leaves it what it is -/
mutual
def O.noL : O → Bool
  | .tup os => O.noLs os
  | .lst => false
  | .dct => false
  | .non => true
  | .bl _ => true
  | .int _ => true
  | .str _ => true
def O.noLs : List O → Bool
  | [] => true
  | o :: os => O.noL o && O.noLs os
end
theorem sqt_upd {K : PySem.W.Frag} {H : Hp} {D b : Addr} {ys zs xs : List V} (hD : H D = some (.lst ys)) (h : SqT K H b xs) : SqT K (upd H D (.lst zs)) b xs := by
  rcases h with (h | ⟨o, h⟩) | h
  · have n : b ≠ D := fun z => by
      rw [z, hD] at h
      cases h
    exact .inl (.inl (by rw [upd_ne n]; exact h))
  · have n : b ≠ D := fun z => by
      rw [z, hD] at h
      cases h
    exact .inl (.inr ⟨o, by rw [upd_ne n]; exact h⟩)
  · exact .inr h
mutual
theorem Ob.upd {K : PySem.W.Frag} {H : Hp} {D : Addr} {ys zs : List V} (hD : H D = some (.lst ys)) : ∀ {v : V} {o : O}, Ob K H v o → o.noL = true → Ob K (upd H D (.lst zs)) v o
  | _, _, .non, _ => .non
  | _, _, .bl b, _ => .bl b
  | _, _, .int i, _ => .int i
  | _, _, .str x h, _ => .str x h
  | _, _, .tup h r b, e => .tup (sqt_upd hD h) (Obs.upd hD r (by unfold O.noL at e; exact e)) b
  | _, _, .lst _, e => by
    unfold O.noL at e
    cases e
  | _, _, .dct _, e => by
    unfold O.noL at e
    cases e
theorem Obs.upd {K : PySem.W.Frag} {H : Hp} {D : Addr} {ys zs : List V} (hD : H D = some (.lst ys)) : ∀ {vs : List V} {os : List O}, Obs K H vs os → O.noLs os = true → Obs K (upd H D (.lst zs)) vs os
  | _, _, .nil, _ => .nil
  | _, _, .cons h r, e => by
    unfold O.noLs at e
    obtain ⟨e1, e2⟩ := Bool.and_eq_true_iff.mp e
    exact .cons (Ob.upd hD h e1) (Obs.upd hD r e2)
end
theorem noLs_of : ∀ {os : List O}, (∀ o ∈ os, o.noL = true) → O.noLs os = true
  | [], _ => by unfold O.noLs; rfl
  | o :: os, h => by
    unfold O.noLs
    rw [h o List.mem_cons_self, noLs_of fun u hu => h u (List.mem_cons_of_mem _ hu)]
    rfl
theorem Lf.noL {n : Nat} {o : O} (h : Lf n o) : o.noL = true := by
  cases h <;> simp [O.noL, O.noLs]
theorem Tr.noL {d n : Nat} {o : O} (h : Tr d n o) : o.noL = true := by
  induction h with
  | leaf d n o h => exact h.noL
  | seq d n os _ _ _ ih => simp [O.noL, O.noLs, noLs_of ih]
  | whi d n x o _ _ ih => simp [O.noL, O.noLs, ih]
  | if_ d n o u _ _ i1 i2 => simp [O.noL, O.noLs, i1, i2]
  | two d n k o u _ _ _ i1 i2 => simp [O.noL, O.noLs, i1, i2]
theorem Adv.chg {a D : Addr} {H H' : Hp} {o : HO} (p : Adv a H H') (n : H D = none) (ne : D ≠ a) : Adv a H (upd H' D o) := by
  refine ⟨fun b u q => ?_, ?_⟩
  · by_cases hb : b = a
    · subst hb
      rw [fz_at] at q
      cases q
    · have nb : b ≠ D := fun z => by
        rw [fz_ne hb, z, n] at q
        cases q
      have e := p.fz b u q
      rw [fz_ne hb] at e ⊢
      rw [upd_ne nb]
      exact e
  · obtain ⟨x, y, z, e⟩ := p.src
    exact ⟨x, y, z, by rw [upd_ne ne.symm]; exact e⟩
theorem fz_upd {a D : Addr} {H : Hp} {o : HO} (ne : D ≠ a) : Fz a (upd H D o) = upd (Fz a H) D o := by
  funext b
  by_cases hb : b = a
  · rw [hb, fz_at, upd_ne ne.symm, fz_at]
  · rw [fz_ne hb]
    by_cases hd : b = D
    · rw [hd, upd_same, upd_same]
    · rw [upd_ne hd, upd_ne hd, fz_ne hb]
end Fc
end L2
set_option Elab.async false
set_option linter.all false
set_option maxRecDepth 100000
set_option maxHeartbeats 4000000
/-! Statements as trees, and the rows that the numbering makes of them. -/
namespace L2
namespace Fc
open PySem PySem.Spec PyProof.Rows

inductive S where
  | nd (k : Str) (a : List O) (cs : List S)
  | odd (o : O)
mutual
def S.toO : S → O
  | .nd k a cs => if k = "seq" then .tup [.str k, .tup (S.toOs cs)] else .tup (.str k :: (a ++ S.toOs cs))
  | .odd o => o
def S.toOs : List S → List O
  | [] => []
  | c :: cs => c.toO :: S.toOs cs
end
theorem S.toOs_map : ∀ cs : List S, S.toOs cs = cs.map S.toO
  | [] => rfl
  | c :: cs => by rw [S.toOs, S.toOs_map cs]; rfl
mutual
def S.size : S → Nat
  | .nd _ _ cs => S.sizes cs + 1
  | .odd _ => 1
def S.sizes : List S → Nat
  | [] => 0
  | c :: cs => c.size + S.sizes cs
end
mutual
def S.depth : S → Nat
  | .nd _ _ cs => S.depths cs + 1
  | .odd _ => 1
def S.depths : List S → Nat
  | [] => 0
  | c :: cs => max c.depth (S.depths cs)
end
mutual
/-- how many finally blocks stand one within another in it -/
def S.bd : S → Nat
  | .nd k _ cs => if k = "final" then S.bdF cs else S.bds cs
  | .odd _ => 0
def S.bds : List S → Nat
  | [] => 0
  | c :: cs => max c.bd (S.bds cs)
def S.bdF : List S → Nat
  | [] => 0
  | c :: cs => max c.bd (S.bds cs + 1)
end
/-- kind, argument, how many parts -/
inductive Hd (wh : Nat) : Str → List O → Nat → Prop
  | do_ (x : Str) : nameOk x = true → Hd wh "do" [.str x] 0
  | call (x : Str) : nameOk x = true → Hd wh "call" [.str x] 0
  | if_ (x : Str) : nameOk x = true → Hd wh "if" [.str x] 2
  | whi (x : Str) : nameOk x = true → Hd wh "while" [.str x] 1
  | seq (m : Nat) : Hd wh "seq" [] (m + 1)
  | brk (i : Nat) : 1 ≤ i → i ≤ wh → Hd wh "break" [.int i] 0
  | con (i : Nat) : 1 ≤ i → i ≤ wh → Hd wh "continue" [.int i] 0
  | ret : Hd wh "return" [] 0
  | rse : Hd wh "raise" [] 0
  | try_ : Hd wh "try" [] 2
  | fin : Hd wh "final" [] 2
theorem two_of {α : Type} {l : List α} (h : l.length = 2) : ∃ a b, l = [a, b] := by
  match l, h with
  | [a, b], _ => exact ⟨a, b, rfl⟩
theorem one_of {α : Type} {l : List α} (h : l.length = 1) : ∃ a, l = [a] := by
  match l, h with
  | [a], _ => exact ⟨a, rfl⟩
theorem nil_of {α : Type} {l : List α} (h : l.length = 0) : l = [] := List.length_eq_zero_iff.mp h
theorem Hd.stmt {wh : Nat} {k : Str} {a : List O} {m : Nat} (h : Hd wh k a m) {cs : List S} (e : cs.length = m) : (S.nd k a cs).toO.isStmt wh = true := by
  cases h with
  | do_ x hx => obtain rfl := nil_of e; exact hx
  | call x hx => obtain rfl := nil_of e; exact hx
  | if_ x hx => obtain ⟨b, c, rfl⟩ := two_of e; exact hx
  | whi x hx => obtain ⟨b, rfl⟩ := one_of e; exact hx
  | seq m =>
    match cs, e with
    | c :: cs, _ => rfl
  | brk i h1 h2 =>
    obtain rfl := nil_of e
    show (decide ((1 : Int) ≤ (i : Int)) && decide ((i : Int) ≤ (wh : Int))) = true
    rw [decide_eq_true (by omega), decide_eq_true (by omega)]
    rfl
  | con i h1 h2 =>
    obtain rfl := nil_of e
    show (decide ((1 : Int) ≤ (i : Int)) && decide ((i : Int) ≤ (wh : Int))) = true
    rw [decide_eq_true (by omega), decide_eq_true (by omega)]
    rfl
  | ret => obtain rfl := nil_of e; rfl
  | rse => obtain rfl := nil_of e; rfl
  | try_ => obtain ⟨b, c, rfl⟩ := two_of e; rfl
  | fin => obtain ⟨b, c, rfl⟩ := two_of e; rfl
theorem Hd.parts {wh : Nat} {k : Str} {a : List O} {m : Nat} (h : Hd wh k a m) {cs : List S} (e : cs.length = m) : (S.nd k a cs).toO.parts = cs.map S.toO := by
  rw [← S.toOs_map]
  cases h with
  | do_ x hx => obtain rfl := nil_of e; rfl
  | call x hx => obtain rfl := nil_of e; rfl
  | if_ x hx => obtain ⟨b, c, rfl⟩ := two_of e; rfl
  | whi x hx => obtain ⟨b, rfl⟩ := one_of e; rfl
  | seq m => rfl
  | brk i h1 h2 => obtain rfl := nil_of e; rfl
  | con i h1 h2 => obtain rfl := nil_of e; rfl
  | ret => obtain rfl := nil_of e; rfl
  | rse => obtain rfl := nil_of e; rfl
  | try_ => obtain ⟨b, c, rfl⟩ := two_of e; rfl
  | fin => obtain ⟨b, c, rfl⟩ := two_of e; rfl
theorem S.kind (k : Str) (a : List O) (cs : List S) : (S.nd k a cs).toO.kind = k := by
  rw [S.toO]
  split <;> rfl
mutual
/-- well made, wh whiles around -/
def S.good : Nat → S → Prop
  | wh, .nd k a cs => Hd wh k a cs.length ∧ S.goods (if k = "while" then wh + 1 else wh) cs
  | _, .odd _ => False
def S.goods : Nat → List S → Prop
  | _, [] => True
  | wh, c :: cs => c.good wh ∧ S.goods wh cs
end
mutual
def S.rows : S → Nat → Spot → List Spot
  | .nd _ _ cs, n, s => s :: S.rowsL cs (n + 1) (inside n s)
  | .odd _, _, s => [s]
def S.rowsL : List S → Nat → List Spot → List Spot
  | [], _, _ => []
  | _ :: _, _, [] => []
  | c :: cs, n, q :: qs => c.rows n q ++ S.rowsL cs (n + c.size) qs
end
/-- the numbers at which the parts begin -/
def S.starts : Nat → List S → List Nat
  | _, [] => []
  | n, c :: cs => n :: S.starts (n + c.size) cs
theorem S.size_pos : ∀ s : S, 0 < s.size
  | .nd _ _ _ => Nat.succ_pos _
  | .odd _ => Nat.one_pos
theorem S.depth_pos : ∀ s : S, 0 < s.depth
  | .nd _ _ _ => Nat.succ_pos _
  | .odd _ => Nat.one_pos
/-- what a part's spot is -/
structure KidOf (n : Nat) (s : Spot) (k : Str) (q : Spot) : Prop where
  par : q.par = some n
  lev : q.lev = s.lev + 1
  wh : q.wh = if k = "while" then s.wh + 1 else s.wh
theorem inside_kids {wh : Nat} {k : Str} {a : List O} {cs : List S} (h : Hd wh k a cs.length) {n : Nat} {s : Spot} (e : s.o = (S.nd k a cs).toO) :
    Paired (fun (c : S) (q : Spot) => q.o = c.toO ∧ KidOf n s k q ∧ q.lay.length + c.bd ≤ s.lay.length + (S.nd k a cs).bd) cs (inside n s) := by
  have kn : s.o.kind = k := by rw [e, S.kind]
  have pt : s.o.parts = cs.map S.toO := by rw [e, h.parts rfl]
  unfold inside
  rw [kn, pt]
  by_cases f : k = "final"
  · rw [if_pos f]
    have l2 : cs.length = 2 := by
      subst f
      generalize cs.length = m at h
      cases h
      rfl
    obtain ⟨b, c, rfl⟩ := two_of l2
    have ebd : (S.nd k a [b, c]).bd = max b.bd (max c.bd 0 + 1) := by
      rw [S.bd, if_pos f]
      rfl
    have nw : ¬ k = "while" := by rw [f]; decide
    refine .cons ⟨rfl, ⟨rfl, rfl, ?_⟩, ?_⟩ (.cons ⟨rfl, ⟨rfl, rfl, ?_⟩, ?_⟩ .nil)
    · show (if s.o.kind = "while" then _ else _) = _
      rw [kn]
    · rw [ebd]
      show s.lay.length + b.bd ≤ _
      omega
    · show (if s.o.kind = "while" then _ else _) = _
      rw [kn]
    · rw [ebd]
      show (s.lay ++ [n]).length + c.bd ≤ _
      rw [List.length_append, List.length_singleton]
      omega
  · rw [if_neg f]
    have ebd : (S.nd k a cs).bd = S.bds cs := by rw [S.bd, if_neg f]
    rw [ebd]
    have go : ∀ l : List S, S.bds l ≤ S.bds cs → Paired (fun (c : S) (q : Spot) => q.o = c.toO ∧ KidOf n s k q ∧ q.lay.length + c.bd ≤ s.lay.length + S.bds cs) l ((l.map S.toO).map (inner n s)) := by
      intro l
      induction l with
      | nil => intro _; exact .nil
      | cons c l ih =>
        intro hl
        rw [S.bds] at hl
        refine .cons ⟨rfl, ⟨rfl, rfl, ?_⟩, ?_⟩ (ih (by omega))
        · show (if s.o.kind = "while" then _ else _) = _
          rw [kn]
        · show s.lay.length + c.bd ≤ _
          omega
    exact go cs (Nat.le_refl _)
/-- s fits at the spot q -/
structure Fit (s : S) (q : Spot) : Prop where
  o : q.o = s.toO
  good : s.good q.wh
  lev : q.lev + s.depth ≤ 101
  lay : q.lay.length + s.bd ≤ 25
theorem paired_len {α β : Type} {R : α → β → Prop} : ∀ {l : List α} {m : List β}, Paired R l m → l.length = m.length
  | _, _, .nil => rfl
  | _, _, .cons _ t => by rw [List.length_cons, List.length_cons, paired_len t]
theorem goods_of {wh : Nat} : ∀ {cs : List S}, S.goods wh cs → ∀ c ∈ cs, c.good wh
  | c :: cs, h, x, m => by
    unfold S.goods at h
    rcases List.mem_cons.mp m with rfl | m
    · exact h.1
    · exact goods_of h.2 x m
theorem depths_of : ∀ {cs : List S}, ∀ c ∈ cs, c.depth ≤ S.depths cs
  | c :: cs, x, m => by
    rw [S.depths]
    rcases List.mem_cons.mp m with rfl | m
    · omega
    · have := depths_of x m
      omega
theorem paired_mem {α β : Type} {R T : α → β → Prop} : ∀ {l : List α} {m : List β}, Paired R l m → (∀ a ∈ l, ∀ b, R a b → T a b) → Paired T l m
  | _, _, .nil, _ => .nil
  | _, _, .cons r t, f => .cons (f _ List.mem_cons_self _ r) (paired_mem t fun a ha b hb => f a (List.mem_cons_of_mem _ ha) b hb)
theorem fit_kids {k : Str} {a : List O} {cs : List S} {q : Spot} (f : Fit (.nd k a cs) q) (n : Nat) : Paired Fit cs (inside n q) := by
  have g := f.good
  unfold S.good at g
  have d := f.lev
  rw [S.depth] at d
  have b := f.lay
  refine paired_mem (inside_kids g.1 f.o) fun c hc x hx => ⟨hx.1, ?_, ?_, by omega⟩
  · rw [hx.2.1.wh]
    exact goods_of g.2 c hc
  · rw [hx.2.1.lev]
    have := depths_of c hc
    omega
theorem Fit.judge {s : S} {q : Spot} (f : Fit s q) {n : Nat} (h : n < 400) : judge n q = none := by
  have b := f.lay
  have d := f.lev
  have p := S.depth_pos s
  refine judge_ok h (by omega) (by omega) ?_
  match s, f with
  | .nd k a cs, f =>
    have g := f.good
    unfold S.good at g
    rw [f.o]
    exact g.1.stmt rfl
mutual
theorem S.eats : ∀ (s : S) {q : Spot} {rows : List Spot}, Fit s q → rows.length + s.size ≤ 400 → Eats q rows (rows ++ s.rows rows.length q)
  | .nd k a cs, q, rows, f, h => by
    intro rest res r
    rw [S.size] at h
    refine .step (f.judge (by omega)) ?_
    refine S.eatsL cs (fit_kids f _) (by rw [List.length_append, List.length_singleton]; omega) ?_
    rw [List.length_append, List.length_singleton, List.append_assoc]
    rw [S.rows] at r
    exact r
  | .odd _, _, _, f, _ => by
    have g := f.good
    unfold S.good at g
    exact g.elim
theorem S.eatsL : ∀ (cs : List S) {qs rest rows : List Spot} {res : Except Err (List Spot)}, Paired Fit cs qs → rows.length + S.sizes cs ≤ 400 → Runs rest (rows ++ S.rowsL cs rows.length qs) res → Runs (qs ++ rest) rows res
  | [], [], rest, rows, res, .nil, _, r => by
    rw [S.rowsL, List.append_nil] at r
    exact r
  | c :: cs, q :: qs, rest, rows, res, .cons f t, h, r => by
    rw [S.sizes] at h
    have lc : (c.rows rows.length q).length = c.size := S.rows_len c f rows.length
    refine S.eats c f (by omega) _ _ (S.eatsL cs t ?_ ?_)
    · rw [List.length_append, lc]
      omega
    · rw [S.rowsL] at r
      rw [List.length_append, lc, List.append_assoc]
      exact r
theorem S.rows_len : ∀ (s : S) {q : Spot}, Fit s q → ∀ n, (s.rows n q).length = s.size
  | .nd k a cs, q, f, n => by
    rw [S.rows, List.length_cons, S.size, S.rowsL_len cs (fit_kids f n)]
  | .odd _, _, f, n => rfl
theorem S.rowsL_len : ∀ (cs : List S) {qs : List Spot}, Paired Fit cs qs → ∀ n, (S.rowsL cs n qs).length = S.sizes cs
  | [], [], .nil, n => rfl
  | c :: cs, q :: qs, .cons f t, n => by
    rw [S.rowsL, List.length_append, S.sizes, S.rows_len c f, S.rowsL_len cs t]
end
/-- the rows of a whole statement -/
def S.all (s : S) : List Spot := s.rows 0 (root s.toO)
theorem fit_root {s : S} (g : s.good 0) (d : s.depth ≤ 100) (b : s.bd ≤ 25) : Fit s (root s.toO) := ⟨rfl, g, by show 1 + s.depth ≤ 101; omega, by show 0 + s.bd ≤ 25; omega⟩
theorem S.codes {s : S} (f : Fit s (root s.toO)) (h : s.size ≤ 400) : Codes s.toO (.ok s.all) := S.eats s f (rows := []) (by rw [List.length_nil]; omega) [] _ .nil
end Fc
end L2
set_option Elab.async false
set_option linter.all false
set_option maxRecDepth 100000
set_option maxHeartbeats 4000000
/-! Where a part stands among the rows of the whole. -/
namespace L2
namespace Fc
open PySem PySem.Spec PyProof.Rows

theorem getL {α : Type} {pre post : List α} {x : α} : (pre ++ x :: post)[pre.length]? = some x := by
  rw [List.getElem?_append_right (Nat.le_refl _), Nat.sub_self]
  rfl
theorem pars_in (s : S) {q : Spot} (f : Fit s q) (n : Nat) : ∃ more, s.rows n q = q :: more ∧ ∀ x ∈ more, ∃ m, x.par = some m ∧ n ≤ m ∧ m < n + s.size := by
  have go : ∀ d : Nat, (∀ (s : S) (q : Spot), s.depth ≤ d → Fit s q → ∀ n, ∃ more, s.rows n q = q :: more ∧ ∀ x ∈ more, ∃ m, x.par = some m ∧ n ≤ m ∧ m < n + s.size) := by
    intro d
    induction d with
    | zero =>
      intro s q h
      have := S.depth_pos s
      omega
    | succ d ih =>
      intro s q h f n
      match s, h, f with
      | .odd _, _, f =>
        have g := f.good
        unfold S.good at g
        exact g.elim
      | .nd k a cs, h, f =>
        refine ⟨S.rowsL cs (n + 1) (inside n q), by rw [S.rows], ?_⟩
        have g := f.good
        unfold S.good at g
        have pk : Paired (fun (_ : S) (x : Spot) => x.par = some n) cs (inside n q) := paired_mem (inside_kids g.1 f.o) fun c _ x hx => hx.2.1.par
        have fk := fit_kids f n
        rw [S.depth] at h
        have lists : ∀ (cs : List S) (qs : List Spot) (j : Nat), S.depths cs ≤ d → Paired (fun (_ : S) (x : Spot) => x.par = some n) cs qs → Paired Fit cs qs → n < j → ∀ x ∈ S.rowsL cs j qs, ∃ m, x.par = some m ∧ n ≤ m ∧ (m = n ∨ m < j + S.sizes cs) := by
          intro cs
          induction cs with
          | nil => 
            intro qs j _ _ _ _ x hx
            rw [S.rowsL] at hx
            cases hx
          | cons c cs ic =>
            intro qs j hd p1 p2 hj x hx
            match qs, p1, p2, hx with
            | y :: qs, .cons e1 t1, .cons e2 t2, hx =>
              rw [S.depths] at hd
              rw [S.rowsL] at hx
              rw [S.sizes]
              rcases List.mem_append.mp hx with hx | hx
              · obtain ⟨more, em, hm⟩ := ih c y (by omega) e2 j
                rw [em] at hx
                rcases List.mem_cons.mp hx with rfl | hx
                · exact ⟨n, e1, Nat.le_refl _, .inl rfl⟩
                · obtain ⟨m, m1, m2, m3⟩ := hm x hx
                  exact ⟨m, m1, by omega, .inr (by omega)⟩
              · have sp := S.size_pos c
                obtain ⟨m, m1, m2, m3⟩ := ic qs (j + c.size) (by omega) t1 t2 (by omega) x hx
                exact ⟨m, m1, m2, by omega⟩
        intro x hx
        obtain ⟨m, m1, m2, m3⟩ := lists cs _ (n + 1) (by omega) pk fk (by omega) x hx
        refine ⟨m, m1, m2, ?_⟩
        rw [S.size]
        omega
  exact go s.depth s q (Nat.le_refl _) f n
/-- the part t stands at the number i of the rows R, with the spot q -/
structure At (R : List Spot) (i : Nat) (q : Spot) (t : S) : Prop where
  fit : Fit t q
  cut : ∃ pre post, R = pre ++ t.rows i q ++ post ∧ pre.length = i ∧ (∀ x ∈ pre, ∀ m, x.par = some m → m < i) ∧ (∀ x ∈ post, ∀ m, x.par = some m → m < i ∨ i + t.size ≤ m)
  par : ∀ m, q.par = some m → m < i
theorem At.root {s : S} (f : Fit s (root s.toO)) : At s.all 0 (root s.toO) s :=
  ⟨f, ⟨[], [], by rw [List.append_nil]; rfl, rfl, (fun _ h => nomatch h), (fun _ h => nomatch h)⟩, fun _ h => nomatch h⟩
theorem At.get {R : List Spot} {i : Nat} {q : Spot} {t : S} (h : At R i q t) : R[i]? = some q := by
  obtain ⟨pre, post, e, l, _, _⟩ := h.cut
  obtain ⟨more, em, _⟩ := pars_in t h.fit i
  rw [e, em, ← l, List.append_assoc]
  exact getL
theorem At.lt {R : List Spot} {i : Nat} {q : Spot} {t : S} (h : At R i q t) : i + t.size ≤ R.length := by
  obtain ⟨pre, post, e, l, _, _⟩ := h.cut
  rw [e, List.length_append, List.length_append, l, S.rows_len t h.fit]
  omega
/-- its parts -/
theorem At.kids {R : List Spot} {i : Nat} {q : Spot} {k : Str} {a : List O} {cs : List S} (h : At R i q (.nd k a cs)) {j : Nat} {c : S} (hc : cs[j]? = some c) :
    ∃ (n : Nat) (x : Spot), (S.starts (i + 1) cs)[j]? = some n ∧ (inside i q)[j]? = some x ∧ At R n x c ∧ i < n ∧ KidOf i q k x := by
  obtain ⟨pre, post, e, l, h1, h2⟩ := h.cut
  rw [S.rows] at e
  have g := h.fit.good
  unfold S.good at g
  have pk : Paired (fun (c : S) (x : Spot) => Fit c x ∧ KidOf i q k x) cs (inside i q) := by
    have u := fit_kids h.fit i
    have v := inside_kids g.1 h.fit.o (n := i)
    generalize inside i q = qs at u v
    clear g e h hc h1 h2 l
    generalize (S.nd k a cs).bd = bb at v
    induction cs generalizing qs with
    | nil =>
      cases u
      exact .nil
    | cons c cs ih =>
      cases u with
      | cons f t =>
        cases v with
        | cons r s => exact .cons ⟨f, r.2.1⟩ (ih _ t s)
  have h2' : ∀ x ∈ post, ∀ m, x.par = some m → m < i ∨ i + 1 + S.sizes cs ≤ m := fun x hx m hm => by
    have := h2 x hx m hm
    rw [S.size] at this
    omega
  have go : ∀ (cs : List S) (qs : List Spot) (n : Nat) (pre : List Spot) (j : Nat), i < n → Paired (fun (c : S) (x : Spot) => Fit c x ∧ KidOf i q k x) cs qs → pre.length = n → (∀ x ∈ pre, ∀ m, x.par = some m → m < n) → R = pre ++ S.rowsL cs n qs ++ post →
      (∀ x ∈ post, ∀ m, x.par = some m → m < n ∨ n + S.sizes cs ≤ m) → cs[j]? = some c → ∃ (n' : Nat) (x : Spot), (S.starts n cs)[j]? = some n' ∧ qs[j]? = some x ∧ At R n' x c ∧ i < n' ∧ KidOf i q k x := by
    intro cs
    induction cs with
    | nil => intro qs n pre j _ _ _ _ _ _ hc; cases hc
    | cons c0 cs ih =>
      intro qs n pre j hn p hl hp hR hpost hc
      match qs, p with
      | y :: qs, .cons r t =>
        rw [S.rowsL] at hR
        rw [S.sizes] at hpost
        have lc := S.rows_len c0 r.1 n
        obtain ⟨more, em, hm⟩ := pars_in c0 r.1 n
        have yp : ∀ m, y.par = some m → m < n := fun m z => by
          rw [r.2.par] at z
          cases z
          exact hn
        cases j with
        | zero =>
          cases hc
          refine ⟨n, y, rfl, rfl, ⟨r.1, ⟨pre, S.rowsL cs (n + c.size) qs ++ post, by rw [hR]; simp [List.append_assoc], hl, hp, ?_⟩, yp⟩, hn, r.2⟩
          intro x hx m hmm
          rcases List.mem_append.mp hx with hx | hx
          · -- later siblings
            have later : ∀ (cs : List S) (qs : List Spot) (n2 : Nat), Paired (fun (c : S) (x : Spot) => Fit c x ∧ KidOf i q k x) cs qs → n + c.size ≤ n2 → ∀ x ∈ S.rowsL cs n2 qs, ∀ m, x.par = some m → m < n ∨ n + c.size ≤ m := by
              intro cs
              induction cs with
              | nil =>
                intro qs n2 _ _ x hx
                rw [S.rowsL] at hx
                cases hx
              | cons c2 cs ic =>
                intro qs n2 p h3 x hx m hmm
                match qs, p with
                | z :: qs, .cons r2 t2 =>
                  rw [S.rowsL] at hx
                  rcases List.mem_append.mp hx with hx | hx
                  · obtain ⟨more2, em2, hm2⟩ := pars_in c2 r2.1 n2
                    rw [em2] at hx
                    rcases List.mem_cons.mp hx with rfl | hx
                    · rw [r2.2.par] at hmm
                      cases hmm
                      exact .inl hn
                    · obtain ⟨m', m1, m2, _⟩ := hm2 x hx
                      rw [m1] at hmm
                      cases hmm
                      exact .inr (by omega)
                  · exact ic qs (n2 + c2.size) t2 (by omega) x hx m hmm
            exact later cs qs _ t (Nat.le_refl _) x hx m hmm
          · have := hpost x hx m hmm
            omega
        | succ j =>
          refine ih qs (n + c0.size) (pre ++ c0.rows n y) j (by omega) t (by rw [List.length_append, hl, lc]) ?_ (by rw [hR]; simp [List.append_assoc]) (fun x hx m hmm => by have := hpost x hx m hmm; omega) hc
          intro x hx m hmm
          rcases List.mem_append.mp hx with hx | hx
          · have := hp x hx m hmm
            omega
          · rw [em] at hx
            rcases List.mem_cons.mp hx with rfl | hx
            · have := yp m hmm
              omega
            · obtain ⟨m', m1, m2, m3⟩ := hm x hx
              rw [m1] at hmm
              cases hmm
              omega
  refine go cs (inside i q) (i + 1) (pre ++ [q]) j (by omega) pk (by rw [List.length_append, l, List.length_singleton]) ?_ (by rw [e]; simp [List.append_assoc]) (fun x hx m hm => by have := h2' x hx m hm; omega) hc
  intro x hx m hm
  rcases List.mem_append.mp hx with hx | hx
  · have := h1 x hx m hm
    omega
  · rw [List.mem_singleton] at hx
    subst hx
    have := h.par m hm
    omega
/-- the numbers of the parts are those that the rows tell -/
def kidsFrom (o : Nat) (l : List Spot) (i : Nat) : List Nat := (l.zipIdx o).filterMap fun p => if p.1.par = some i then some p.2 else none
theorem kids_from (l : List Spot) (i : Nat) : kids l i = kidsFrom 0 l i := rfl
theorem kidsFrom_app (o : Nat) (A B : List Spot) (i : Nat) : kidsFrom o (A ++ B) i = kidsFrom o A i ++ kidsFrom (o + A.length) B i := by
  unfold kidsFrom
  rw [List.zipIdx_append, List.filterMap_append]
theorem kidsFrom_none {o : Nat} {l : List Spot} {i : Nat} (h : ∀ x ∈ l, x.par ≠ some i) : kidsFrom o l i = [] := by
  unfold kidsFrom
  rw [List.filterMap_eq_nil_iff]
  rintro ⟨s, j⟩ hm
  have hs : s ∈ l := (List.mem_zipIdx hm).2.2 ▸ List.getElem_mem _
  show (if s.par = some i then some j else none) = none
  rw [if_neg (h s hs)]
theorem kidsFrom_cons (o : Nat) (x : Spot) (l : List Spot) (i : Nat) : kidsFrom o (x :: l) i = (if x.par = some i then [o] else []) ++ kidsFrom (o + 1) l i := by
  rw [show x :: l = [x] ++ l from rfl, kidsFrom_app]
  congr 1
  unfold kidsFrom
  rw [List.zipIdx_cons, List.zipIdx_nil]
  by_cases h : x.par = some i
  · rw [if_pos h]
    simp [h]
  · rw [if_neg h]
    simp [h]
theorem At.kids_eq {R : List Spot} {i : Nat} {q : Spot} {k : Str} {a : List O} {cs : List S} (h : At R i q (.nd k a cs)) : Fc.kids R i = S.starts (i + 1) cs := by
  obtain ⟨pre, post, e, l, h1, h2⟩ := h.cut
  have g := h.fit.good
  unfold S.good at g
  have fk := fit_kids h.fit i
  have pk : Paired (fun (_ : S) (x : Spot) => x.par = some i) cs (inside i q) := paired_mem (inside_kids g.1 h.fit.o) fun c _ x hx => hx.2.1.par
  rw [kids_from, e, S.rows, kidsFrom_app, kidsFrom_app, Nat.zero_add, l, kidsFrom_none (l := pre), kidsFrom_none (l := post), List.append_nil, List.nil_append, kidsFrom_cons, if_neg, List.nil_append]
  rotate_left
  · intro z
    have := h.par i z
    omega
  · intro x hx z
    have := h2 x hx i z
    rw [S.size] at this
    omega
  · intro x hx z
    have := h1 x hx i z
    omega
  have go : ∀ (cs : List S) (qs : List Spot) (n : Nat), i < n → Paired Fit cs qs → Paired (fun (_ : S) (x : Spot) => x.par = some i) cs qs → kidsFrom n (S.rowsL cs n qs) i = S.starts n cs := by
    intro cs
    induction cs with
    | nil =>
      intro qs n _ _ _
      rfl
    | cons c cs ih =>
      intro qs n hn p1 p2
      match qs, p1, p2 with
      | y :: qs, .cons f t, .cons u v =>
        obtain ⟨more, em, hm⟩ := pars_in c f n
        have lc := S.rows_len c f n
        rw [S.rowsL, S.starts, kidsFrom_app, lc, ih qs (n + c.size) (by have := S.size_pos c; omega) t v, em, kidsFrom_cons, if_pos u, kidsFrom_none]
        · rfl
        · intro x hx z
          obtain ⟨m, m1, m2, _⟩ := hm x hx
          rw [m1] at z
          cases z
          omega
  exact go cs _ (i + 1) (Nat.lt_succ_self _) fk pk
theorem starts_len : ∀ (n : Nat) (cs : List S), (S.starts n cs).length = cs.length
  | _, [] => rfl
  | n, c :: cs => by rw [S.starts, List.length_cons, List.length_cons, starts_len]
end Fc
end L2
set_option Elab.async false
set_option linter.all false
set_option maxRecDepth 100000
set_option maxHeartbeats 4000000
/-! Statements with some parts replaced, and what the numbering says of them. -/
namespace L2
namespace Fc
open PySem PySem.Spec PyProof.Rows

mutual
def S.sub (bad : Nat → Option S) : Nat → S → S
  | n, .nd k a cs => match bad n with
    | some u => u
    | none => .nd k a (S.subs bad (n + 1) cs)
  | _, .odd o => .odd o
def S.subs (bad : Nat → Option S) : Nat → List S → List S
  | _, [] => []
  | n, c :: cs => S.sub bad n c :: S.subs bad (n + c.size) cs
end
theorem subs_len (bad : Nat → Option S) : ∀ (n : Nat) (cs : List S), (S.subs bad n cs).length = cs.length
  | _, [] => rfl
  | n, c :: cs => by rw [S.subs, List.length_cons, List.length_cons, subs_len]
mutual
theorem S.sub_none (bad : Nat → Option S) : ∀ (n : Nat) (s : S), (∀ i, n ≤ i → i < n + s.size → bad i = none) → S.sub bad n s = s
  | n, .nd k a cs, h => by
    rw [S.size] at h
    have h0 := h n (Nat.le_refl _) (by omega)
    rw [S.sub, h0]
    show S.nd k a (S.subs bad (n + 1) cs) = _
    rw [S.subs_none bad (n + 1) cs fun i h1 h2 => h i (by omega) (by omega)]
  | n, .odd o, h => by rw [S.sub]
theorem S.subs_none (bad : Nat → Option S) : ∀ (n : Nat) (cs : List S), (∀ i, n ≤ i → i < n + S.sizes cs → bad i = none) → S.subs bad n cs = cs
  | n, [], h => by rw [S.subs]
  | n, c :: cs, h => by
    rw [S.sizes] at h
    rw [S.subs, S.sub_none bad n c fun i h1 h2 => h i h1 (by omega), S.subs_none bad _ cs fun i h1 h2 => h i (by omega) (by omega)]
end
def Spot.put (q : Spot) (s : S) : Spot := { q with o := s.toO }
theorem put_self {q : Spot} {s : S} (h : q.o = s.toO) : q.put s = q := by
  unfold Spot.put
  rw [← h]
theorem inside_put {wh : Nat} {k : Str} {a : List O} {cs cs' : List S} (h : Hd wh k a cs.length) (l : cs'.length = cs.length) {q : Spot} (e : q.o = (S.nd k a cs).toO) (n : Nat) :
    inside n (q.put (.nd k a cs')) = List.zipWith (fun c x => Spot.put x c) cs' (inside n q) := by
  have k1 : (q.put (.nd k a cs')).o.kind = k := S.kind _ _ _
  have k2 : q.o.kind = k := by rw [e, S.kind]
  have p1 : (q.put (.nd k a cs')).o.parts = cs'.map S.toO := h.parts l
  have p2 : q.o.parts = cs.map S.toO := by rw [e, h.parts rfl]
  unfold inside
  rw [k1, k2, p1, p2]
  by_cases f : k = "final"
  · rw [if_pos f, if_pos f]
    have l2 : cs.length = 2 := by
      subst f
      generalize cs.length = m at h
      cases h
      rfl
    obtain ⟨b, c, rfl⟩ := two_of l2
    obtain ⟨b', c', rfl⟩ := two_of l
    show [inner n _ _, inBlock n _ _] = [Spot.put (inner n q _) _, Spot.put (inBlock n q _) _]
    unfold inBlock inner Spot.put
    rw [S.kind, k2]
  · rw [if_neg f, if_neg f]
    have go : ∀ (l l' : List S), l'.length = l.length → (l'.map S.toO).map (inner n (q.put (.nd k a cs'))) = List.zipWith (fun c x => Spot.put x c) l' ((l.map S.toO).map (inner n q)) := by
      intro l
      induction l with
      | nil =>
        intro l' hl
        obtain rfl := nil_of hl
        rfl
      | cons c l ih =>
        intro l' hl
        match l', hl with
        | c' :: l', hl =>
          have z := ih l' (Nat.succ.inj hl)
          simp only [List.map_cons, List.zipWith_cons_cons, z]
          congr 1
          unfold inner Spot.put
          rw [S.kind, k2]
    exact go cs cs' l
mutual
/-- the first part that is replaced by what is no statement -/
theorem S.runs_bad (bad : Nat → Option S) (at_ : Nat) (o : O) (hb : bad at_ = some (.odd o)) : ∀ (s : S) {q : Spot} {rest rows : List Spot}, Fit s q → rows.length + s.size ≤ 400 → rows.length ≤ at_ → at_ < rows.length + s.size →
    (∀ i, rows.length ≤ i → i < at_ → bad i = none) → (∀ x, (s.rows rows.length q)[at_ - rows.length]? = some x → o.isStmt x.wh = false) → Runs (q.put (S.sub bad rows.length s) :: rest) rows (.error (.bad at_))
  | .odd _, _, _, _, f, _, _, _, _, _ => by
    have g := f.good
    unfold S.good at g
    exact g.elim
  | .nd k a cs, q, rest, rows, f, hs, h1, h2, hn, hx => by
    rw [S.size] at hs h2
    by_cases e : at_ = rows.length
    · subst e
      rw [S.sub, hb]
      have z := hx q (by rw [Nat.sub_self, S.rows]; rfl)
      have b := f.lay
      have d := f.lev
      have p := S.depth_pos (.nd k a cs)
      exact .bad (judge_bad (by omega) (by show q.lev ≤ 100; omega) (by show q.lay.length ≤ 25; omega) z)
    · have h0 := hn rows.length (Nat.le_refl _) (by omega)
      have g := f.good
      unfold S.good at g
      have b := f.lay
      have d := f.lev
      have p := S.depth_pos (.nd k a cs)
      rw [S.sub, h0]
      show Runs (q.put (.nd k a (S.subs bad (rows.length + 1) cs)) :: rest) rows _
      refine .step (judge_ok (by omega) (by show q.lev ≤ 100; omega) (by show q.lay.length ≤ 25; omega) (g.1.stmt (subs_len _ _ _))) ?_
      rw [inside_put g.1 (subs_len _ _ _) f.o]
      refine S.runs_badL bad at_ o hb cs (rows.length + 1) (by rw [List.length_append, List.length_singleton]) (fit_kids f _) (by omega) (by omega) (by omega) (fun i q1 q2 => hn i (by omega) q2) (fun x hx' => hx x ?_)
      rw [S.rows, show at_ - rows.length = (at_ - (rows.length + 1)) + 1 by omega, List.getElem?_cons_succ]
      exact hx'
theorem S.runs_badL (bad : Nat → Option S) (at_ : Nat) (o : O) (hb : bad at_ = some (.odd o)) : ∀ (cs : List S) {qs rest rows : List Spot} (n : Nat), rows.length = n → Paired Fit cs qs → n + S.sizes cs ≤ 400 → n ≤ at_ → at_ < n + S.sizes cs →
    (∀ i, n ≤ i → i < at_ → bad i = none) → (∀ x, (S.rowsL cs n qs)[at_ - n]? = some x → o.isStmt x.wh = false) →
    Runs (List.zipWith (fun c x => Spot.put x c) (S.subs bad n cs) qs ++ rest) rows (.error (.bad at_))
  | [], [], _, rows, n, _, .nil, _, h1, h2, _, _ => by
    rw [S.sizes] at h2
    omega
  | c :: cs, q :: qs, rest, rows, n, ln, .cons f t, hs, h1, h2, hn, hx => by
    subst ln
    rw [S.sizes] at hs h2
    rw [S.subs, List.zipWith_cons_cons, List.cons_append]
    have lc := S.rows_len c f rows.length
    by_cases e : at_ < rows.length + c.size
    · refine S.runs_bad bad at_ o hb c f (by omega) h1 e hn (fun x hx' => hx x ?_)
      rw [S.rowsL, List.getElem?_append_left (by omega)]
      exact hx'
    · rw [S.sub_none bad rows.length c fun i q1 q2 => hn i q1 (by omega), put_self f.o]
      refine S.eats c f (by omega) _ _ ?_
      refine S.runs_badL bad at_ o hb cs (rows.length + c.size) (by rw [List.length_append, lc]) t (by omega) (by omega) (by omega) (fun i q1 q2 => hn i (by omega) q2) (fun x hx' => hx x ?_)
      rw [S.rowsL, List.getElem?_append_right (by omega), lc, show at_ - rows.length - c.size = at_ - (rows.length + c.size) by omega]
      exact hx'
end
mutual
/-- parts that are replaced by statements without parts -/
theorem S.sub_good (bad : Nat → Option S) (hb : ∀ i u, bad i = some u → u.size = 1 ∧ u.depth = 1 ∧ u.bd = 0) : ∀ (s : S) {q : Spot} (n : Nat), Fit s q → (∀ i u x, bad i = some u → n ≤ i → (s.rows n q)[i - n]? = some x → u.good x.wh) →
    (S.sub bad n s).good q.wh ∧ (S.sub bad n s).size ≤ s.size ∧ (S.sub bad n s).depth ≤ s.depth ∧ (S.sub bad n s).bd ≤ s.bd
  | .odd _, _, _, f, _ => by
    have g := f.good
    unfold S.good at g
    exact g.elim
  | .nd k a cs, q, n, f, h => by
    rw [S.sub]
    cases e : bad n with
    | some u =>
      obtain ⟨e1, e2, e3⟩ := hb n u e
      have z := h n u q e (Nat.le_refl _) (by rw [Nat.sub_self, S.rows]; rfl)
      have p1 := S.size_pos (.nd k a cs)
      have p2 := S.depth_pos (.nd k a cs)
      exact ⟨z, by show u.size ≤ _; omega, by show u.depth ≤ _; omega, by show u.bd ≤ _; omega⟩
    | none =>
      show (S.nd k a (S.subs bad (n + 1) cs)).good _ ∧ (S.nd k a (S.subs bad (n + 1) cs)).size ≤ _ ∧ (S.nd k a (S.subs bad (n + 1) cs)).depth ≤ _ ∧ (S.nd k a (S.subs bad (n + 1) cs)).bd ≤ _
      have g := f.good
      unfold S.good at g
      have pk : Paired (fun (_ : S) (x : Spot) => x.wh = if k = "while" then q.wh + 1 else q.wh) cs (inside n q) := paired_mem (inside_kids g.1 f.o) fun c _ x hx => hx.2.1.wh
      obtain ⟨r1, r2, r3, r4, r5⟩ := S.subs_good bad hb cs (n + 1) (fit_kids f n) pk (fun i u x q1 q2 q3 => h i u x q1 (by omega) (by
        rw [S.rows, show i - n = (i - (n + 1)) + 1 by omega, List.getElem?_cons_succ]
        exact q3))
      refine ⟨?_, ?_, ?_, ?_⟩
      · unfold S.good
        rw [subs_len]
        exact ⟨g.1, r1⟩
      · rw [S.size, S.size]
        omega
      · rw [S.depth, S.depth]
        omega
      · rw [S.bd, S.bd]
        split
        · exact r5
        · exact r4
theorem S.subs_good (bad : Nat → Option S) (hb : ∀ i u, bad i = some u → u.size = 1 ∧ u.depth = 1 ∧ u.bd = 0) : ∀ (cs : List S) {qs : List Spot} {wh : Nat} (n : Nat), Paired Fit cs qs → Paired (fun (_ : S) (x : Spot) => x.wh = wh) cs qs →
    (∀ i u x, bad i = some u → n ≤ i → (S.rowsL cs n qs)[i - n]? = some x → u.good x.wh) →
    S.goods wh (S.subs bad n cs) ∧ S.sizes (S.subs bad n cs) ≤ S.sizes cs ∧ S.depths (S.subs bad n cs) ≤ S.depths cs ∧ S.bds (S.subs bad n cs) ≤ S.bds cs ∧ S.bdF (S.subs bad n cs) ≤ S.bdF cs
  | [], _, wh, n, _, _, _ => by
    rw [S.subs]
    exact ⟨by unfold S.goods; trivial, Nat.le_refl _, Nat.le_refl _, Nat.le_refl _, Nat.le_refl _⟩
  | c :: cs, q :: qs, wh, n, .cons f t, .cons e1 t1, h => by
    have lc := S.rows_len c f n
    obtain ⟨g1, g2, g3, g4⟩ := S.sub_good bad hb c n f (fun i u x q1 q2 q3 => h i u x q1 q2 (by
      have := (List.getElem?_eq_some_iff.mp q3).1
      rw [S.rowsL, List.getElem?_append_left this]
      exact q3))
    obtain ⟨r1, r2, r3, r4, r5⟩ := S.subs_good bad hb cs (n + c.size) t t1 (fun i u x q1 q2 q3 => h i u x q1 (by omega) (by
      rw [S.rowsL, List.getElem?_append_right (by omega), lc, show i - n - c.size = i - (n + c.size) by omega]
      exact q3))
    rw [S.subs, S.sizes, S.sizes, S.depths, S.depths, S.bds, S.bds, S.bdF, S.bdF]
    refine ⟨?_, by omega, by omega, by omega, by omega⟩
    unfold S.goods
    exact ⟨by rw [← e1]; exact g1, r1⟩
end
/-- every row belongs to a part; its spot is that of a part of the one above -/
theorem At.every {R : List Spot} : ∀ (t : S) (i : Nat) (q : Spot), At R i q t → ∀ n, i ≤ n → n < i + t.size → ∃ x u, At R n x u ∧ u.depth ≤ t.depth ∧ (n = i ∧ x = q ∨ ∃ (m : Nat) (p : Spot), R[m]? = some p ∧ m < n ∧ KidOf m p p.o.kind x ∧ u.depth < t.depth) := by
  have go : ∀ (d : Nat) (t : S) (i : Nat) (q : Spot), t.depth ≤ d → At R i q t → ∀ n, i ≤ n → n < i + t.size → ∃ x u, At R n x u ∧ u.depth ≤ t.depth ∧ (n = i ∧ x = q ∨ ∃ (m : Nat) (p : Spot), R[m]? = some p ∧ m < n ∧ KidOf m p p.o.kind x ∧ u.depth < t.depth) := by
    intro d
    induction d with
    | zero =>
      intro t i q hd
      have := S.depth_pos t
      omega
    | succ d ih =>
      intro t i q hd h n h1 h2
      by_cases e : n = i
      · subst e
        exact ⟨q, t, h, Nat.le_refl _, .inl ⟨rfl, rfl⟩⟩
      match t, hd, h, h2 with
      | .odd _, _, h, _ =>
        have g := h.fit.good
        unfold S.good at g
        exact g.elim
      | .nd k a cs, hd, h, h2 =>
        rw [S.size] at h2
        rw [S.depth] at hd
        have inK : ∀ (cs : List S) (m : Nat), m ≤ n → n < m + S.sizes cs → ∃ (j : Nat) (c : S) (n' : Nat), cs[j]? = some c ∧ (S.starts m cs)[j]? = some n' ∧ n' ≤ n ∧ n < n' + c.size := by
          intro cs
          induction cs with
          | nil => intro m a1 a2; rw [S.sizes] at a2; omega
          | cons c cs ic =>
            intro m a1 a2
            rw [S.sizes] at a2
            by_cases f : n < m + c.size
            · exact ⟨0, c, m, rfl, rfl, a1, f⟩
            · obtain ⟨j, c', n', b1, b2, b3, b4⟩ := ic (m + c.size) (by omega) (by omega)
              exact ⟨j + 1, c', n', b1, b2, b3, b4⟩
        obtain ⟨j, c, n', b1, b2, b3, b4⟩ := inK cs (i + 1) (by omega) (by omega)
        obtain ⟨n'', x, c1, _, c3, c4, c5⟩ := h.kids b1
        rw [b2] at c1
        cases c1
        have dc : c.depth ≤ S.depths cs := depths_of c (List.mem_of_getElem? b1)
        obtain ⟨y, u, d1, d2, d3⟩ := ih c n' x (by omega) c3 n b3 b4
        have kq : q.o.kind = k := by rw [h.fit.o, S.kind]
        refine ⟨y, u, d1, by rw [S.depth]; omega, .inr ?_⟩
        rcases d3 with ⟨rfl, rfl⟩ | ⟨m, p, e1, e2, e3, e4⟩
        · exact ⟨i, q, h.get, c4, by rw [kq]; exact c5, by rw [S.depth]; omega⟩
        · exact ⟨m, p, e1, e2, e3, by rw [S.depth]; omega⟩
  intro t i q
  exact go t.depth t i q (Nat.le_refl _)
theorem all_len {s : S} (f : Fit s (root s.toO)) : s.all.length = s.size := S.rows_len s f 0
theorem all_at {s : S} (f : Fit s (root s.toO)) {n : Nat} {x : Spot} (h : s.all[n]? = some x) : ∃ u, At s.all n x u ∧ u.depth ≤ s.depth ∧ (n = 0 ∧ x = root s.toO ∨ ∃ (m : Nat) (p : Spot), s.all[m]? = some p ∧ m < n ∧ KidOf m p p.o.kind x ∧ u.depth < s.depth) := by
  have l := (List.getElem?_eq_some_iff.mp h).1
  rw [all_len f] at l
  obtain ⟨y, u, a1, a2, a3⟩ := At.every s 0 _ (At.root f) n (Nat.zero_le _) (by omega)
  have e := a1.get
  rw [h] at e
  cases e
  exact ⟨u, a1, a2, a3⟩
theorem bad_codes {s : S} (f : Fit s (root s.toO)) (hs : s.size ≤ 400) {bad : Nat → Option S} {at_ : Nat} {o : O} {x : Spot} (hx : s.all[at_]? = some x) (hb : bad at_ = some (.odd o)) (h0 : ∀ i, i < at_ → bad i = none) (ho : o.isStmt x.wh = false) :
    Codes (S.sub bad 0 s).toO (.error (.bad at_)) := by
  have l := (List.getElem?_eq_some_iff.mp hx).1
  rw [all_len f] at l
  exact S.runs_bad bad at_ o hb s (q := root s.toO) (rest := []) (rows := []) f (by rw [List.length_nil]; omega) (Nat.zero_le _) (by rw [List.length_nil]; omega) (fun i _ h => h0 i h) (fun y hy => by
    rw [List.length_nil, Nat.sub_zero] at hy
    have z : s.all[at_]? = some y := hy
    rw [hx] at z
    cases z
    exact ho)
theorem good_codes {s : S} (f : Fit s (root s.toO)) (hs : s.size ≤ 400) {bad : Nat → Option S} (hb : ∀ i u, bad i = some u → u.size = 1 ∧ u.depth = 1 ∧ u.bd = 0) (h : ∀ i u x, bad i = some u → s.all[i]? = some x → u.good x.wh) :
    ∃ rows, Codes (S.sub bad 0 s).toO (.ok rows) := by
  obtain ⟨g1, g2, g3, g4⟩ := S.sub_good bad hb s 0 f (fun i u x q1 _ q3 => h i u x q1 q3)
  have d := f.lev
  have b := f.lay
  have d' : 1 + s.depth ≤ 101 := d
  have b' : 0 + s.bd ≤ 25 := b
  exact ⟨_, S.codes (fit_root g1 (by omega) (by omega)) (by omega)⟩
end Fc
end L2
set_option Elab.async false
set_option linter.all false
set_option maxRecDepth 100000
set_option maxHeartbeats 4000000
/-! Objects as data that == compares; drawn statements as trees. -/
namespace L2
namespace Fc
open PySem PySem.Spec PyProof.Rows
mutual
def O.py : O → PyData
  | .non => .none
  | .bl b => .bool b
  | .int i => .int i
  | .str x => .str x
  | .tup os => .tuple (O.pys os)
  | .lst => .none
  | .dct => .none
def O.pys : List O → List PyData
  | [] => []
  | o :: os => o.py :: O.pys os
end
mutual
theorem Ob.dp {K : PySem.W.Frag} {H : Hp} : ∀ {v : V} {o : O}, Ob K H v o → o.noL = true → Dp K H v o.py
  | _, _, .non, _ => by rw [O.py]; exact .non
  | _, _, .bl b, _ => by rw [O.py]; exact .bl b
  | _, _, .int i, _ => by rw [O.py]; exact .int i
  | _, _, .str x h, _ => by rw [O.py]; exact .str x
  | _, _, .tup h r b, e => by
    rw [O.noL] at e
    rw [O.py]
    exact .tup h (Obs.dp r e)
  | _, _, .lst _, e => by
    rw [O.noL] at e
    cases e
  | _, _, .dct _, e => by
    rw [O.noL] at e
    cases e
theorem Obs.dp {K : PySem.W.Frag} {H : Hp} : ∀ {vs : List V} {os : List O}, Obs K H vs os → O.noLs os = true → DpAll K H vs (O.pys os)
  | _, _, .nil, _ => by rw [O.pys]; exact .nil
  | _, _, .cons h r, e => by
    rw [O.noLs] at e
    obtain ⟨e1, e2⟩ := Bool.and_eq_true_iff.mp e
    rw [O.pys]
    exact .cons (Ob.dp h e1) (Obs.dp r e2)
end
mutual
theorem O.eqv_self : ∀ o : O, PyData.eqv o.py o.py = true
  | .non => by rw [O.py]; rfl
  | .bl b => by rw [O.py, PyData.eqv, beq_self_eq_true]
  | .int i => by rw [O.py, PyData.eqv, beq_self_eq_true]
  | .str x => by rw [O.py, PyData.eqv, beq_self_eq_true]
  | .tup os => by rw [O.py, PyData.eqv]; exact O.eqvs_self os
  | .lst => by rw [O.py]; rfl
  | .dct => by rw [O.py]; rfl
theorem O.eqvs_self : ∀ os : List O, PyData.eqvAll (O.pys os) (O.pys os) = true
  | [] => by rw [O.pys]; rfl
  | o :: os => by rw [O.pys, PyData.eqvAll, O.eqv_self o, O.eqvs_self os]; rfl
end
/-- no list in it, no sign that is none, not too deep to be compared -/
structure Plain (n : Nat) (o : O) : Prop where
  noL : o.noL = true
  lay : o.py.canLay0 = true
  dep : o.py.depth ≤ n
theorem pys_depth {n : Nat} : ∀ {os : List O}, PyData.depthAll (O.pys os) ≤ n → ∀ o ∈ os, o.py.depth ≤ n
  | o :: os, h, x, m => by
    rw [O.pys, PyData.depthAll] at h
    rcases List.mem_cons.mp m with rfl | m
    · omega
    · exact pys_depth (by omega) x m
theorem pys_lay : ∀ {os : List O}, PyData.canLayAll0 (O.pys os) = true → ∀ o ∈ os, o.py.canLay0 = true
  | o :: os, h, x, m => by
    rw [O.pys, PyData.canLayAll0] at h
    obtain ⟨e1, e2⟩ := Bool.and_eq_true_iff.mp h
    rcases List.mem_cons.mp m with rfl | m
    · exact e1
    · exact pys_lay e2 x m
theorem noLs_mem : ∀ {os : List O}, O.noLs os = true → ∀ o ∈ os, o.noL = true
  | o :: os, h, x, m => by
    rw [O.noLs] at h
    obtain ⟨e1, e2⟩ := Bool.and_eq_true_iff.mp h
    rcases List.mem_cons.mp m with rfl | m
    · exact e1
    · exact noLs_mem e2 x m
theorem Plain.item {n : Nat} {os : List O} (h : Plain n (.tup os)) {o : O} (m : o ∈ os) : Plain n o := by
  have h1 := h.noL
  have h2 := h.lay
  have h3 := h.dep
  rw [O.noL] at h1
  rw [O.py, PyData.canLay0] at h2
  rw [O.py, PyData.depth] at h3
  exact ⟨noLs_mem h1 o m, pys_lay h2 o m, pys_depth (n := n) (by omega) o m⟩
theorem mem_parts {o p : O} (m : p ∈ o.parts) : ∃ os, o = .tup os ∧ (p ∈ os ∨ ∃ us, .tup us ∈ os ∧ p ∈ us) := by
  unfold O.parts at m
  split at m
  · rename_i k r
    refine ⟨_, rfl, ?_⟩
    split at m
    · match r, m with
      | .tup us :: r, m => exact .inr ⟨us, by simp, m⟩
      | [], m => cases m
      | .non :: _, m => cases m
      | .bl _ :: _, m => cases m
      | .int _ :: _, m => cases m
      | .str _ :: _, m => cases m
      | .lst :: _, m => cases m
      | .dct :: _, m => cases m
    · split at m
      · exact .inl (List.mem_cons_of_mem _ m)
      · exact .inl (List.mem_cons_of_mem _ (List.mem_of_mem_drop m))
  · cases m
theorem Plain.part {n : Nat} {o p : O} (h : Plain n o) (m : p ∈ o.parts) : Plain n p := by
  obtain ⟨os, rfl, m | ⟨us, m1, m2⟩⟩ := mem_parts m
  · exact h.item m
  · exact (h.item m1).item m2
theorem strOk_name {x : Str} (h : nameOk x = true) : PyData.strOk x = true := by
  unfold nameOk at h
  obtain ⟨_, h⟩ := Bool.and_eq_true_iff.mp h
  obtain ⟨_, h⟩ := Bool.and_eq_true_iff.mp h
  unfold PyData.strOk
  rw [← Array.all_toList]
  rw [List.all_eq_true] at h ⊢
  intro ch m
  obtain ⟨_, h2⟩ := Bool.and_eq_true_iff.mp (h ch m)
  have := of_decide_eq_true h2
  exact decide_eq_true (by omega)
/-- how many statements a drawn one of so many levels has at most -/
def szB : Nat → Nat
  | 0 => 0
  | d + 1 => 3 * szB d + 1
mutual
def S.nm : S → Prop
  | .nd k _ cs => PyData.strOk k = true ∧ S.nms cs
  | .odd _ => False
def S.nms : List S → Prop
  | [] => True
  | c :: cs => c.nm ∧ S.nms cs
end
theorem kind_ok {wh : Nat} {k : Str} {a : List O} {m : Nat} (h : Hd wh k a m) : PyData.strOk k = true := by
  cases h <;> decide +kernel
theorem arg_plain {wh : Nat} {k : Str} {a : List O} {m : Nat} (h : Hd wh k a m) : ∀ o ∈ a, Plain 0 o := by
  intro o ho
  cases h with
  | do_ x hx =>
    rw [List.mem_singleton] at ho
    subst ho
    exact ⟨rfl, strOk_name hx, Nat.le_refl _⟩
  | call x hx =>
    rw [List.mem_singleton] at ho
    subst ho
    exact ⟨rfl, strOk_name hx, Nat.le_refl _⟩
  | if_ x hx =>
    rw [List.mem_singleton] at ho
    subst ho
    exact ⟨rfl, strOk_name hx, Nat.le_refl _⟩
  | whi x hx =>
    rw [List.mem_singleton] at ho
    subst ho
    exact ⟨rfl, strOk_name hx, Nat.le_refl _⟩
  | brk i _ _ =>
    rw [List.mem_singleton] at ho
    subst ho
    exact ⟨rfl, rfl, Nat.le_refl _⟩
  | con i _ _ =>
    rw [List.mem_singleton] at ho
    subst ho
    exact ⟨rfl, rfl, Nat.le_refl _⟩
  | seq _ => cases ho
  | ret => cases ho
  | rse => cases ho
  | try_ => cases ho
  | fin => cases ho
theorem Plain.mono {n m : Nat} {o : O} (h : Plain n o) (l : n ≤ m) : Plain m o := ⟨h.noL, h.lay, Nat.le_trans h.dep l⟩
theorem plain_tup {n : Nat} : ∀ {os : List O}, (∀ o ∈ os, Plain n o) → O.noLs os = true ∧ PyData.canLayAll0 (O.pys os) = true ∧ PyData.depthAll (O.pys os) ≤ n
  | [], _ => ⟨by rw [O.noLs], by rw [O.pys]; rfl, by rw [O.pys]; exact Nat.zero_le _⟩
  | o :: os, h => by
    obtain ⟨h1, h2, h3⟩ := h o List.mem_cons_self
    obtain ⟨r1, r2, r3⟩ := plain_tup (os := os) (n := n) fun u hu => h u (List.mem_cons_of_mem _ hu)
    refine ⟨?_, ?_, ?_⟩
    · rw [O.noLs, h1, r1]
      rfl
    · rw [O.pys, PyData.canLayAll0, h2, r2]
      rfl
    · rw [O.pys, PyData.depthAll]
      omega
theorem Plain.tup {n : Nat} {os : List O} (h : ∀ o ∈ os, Plain n o) : Plain (n + 1) (.tup os) := by
  obtain ⟨r1, r2, r3⟩ := plain_tup h
  refine ⟨?_, ?_, ?_⟩
  · rw [O.noL]
    exact r1
  · rw [O.py, PyData.canLay0]
    exact r2
  · rw [O.py, PyData.depth]
    omega
theorem plain_str {k : Str} (h : PyData.strOk k = true) (n : Nat) : Plain n (.str k) := ⟨rfl, h, Nat.zero_le _⟩
mutual
theorem S.plain : ∀ (s : S) (wh : Nat), s.good wh → Plain (2 * s.depth) s.toO
  | .odd _, wh, g => by
    unfold S.good at g
    exact g.elim
  | .nd k a cs, wh, g => by
    unfold S.good at g
    have r := S.plains cs _ g.2
    rw [S.toO, S.depth]
    have sk := kind_ok g.1
    split
    · refine (Plain.tup (n := 2 * S.depths cs + 1) fun o ho => ?_).mono (by omega)
      simp only [List.mem_cons, List.mem_nil_iff, or_false] at ho
      rcases ho with rfl | rfl
      · exact plain_str sk _
      · exact Plain.tup r
    · refine (Plain.tup (n := 2 * S.depths cs) fun o ho => ?_).mono (by omega)
      rcases List.mem_cons.mp ho with rfl | ho
      · exact plain_str sk _
      rcases List.mem_append.mp ho with ho | ho
      · exact (arg_plain g.1 o ho).mono (Nat.zero_le _)
      · exact r o ho
theorem S.plains : ∀ (cs : List S) (wh : Nat), S.goods wh cs → ∀ o ∈ S.toOs cs, Plain (2 * S.depths cs) o
  | [], wh, _, o, ho => by
    rw [S.toOs] at ho
    cases ho
  | c :: cs, wh, g, o, ho => by
    unfold S.goods at g
    rw [S.toOs] at ho
    rw [S.depths]
    rcases List.mem_cons.mp ho with rfl | ho
    · exact (S.plain c wh g.1).mono (by omega)
    · exact (S.plains cs wh g.2 o ho).mono (by omega)
end
theorem bd_le : ∀ s : S, s.bd ≤ s.depth := by
  have go : ∀ d : Nat, ∀ s : S, s.depth ≤ d → s.bd ≤ s.depth := by
    intro d
    induction d with
    | zero =>
      intro s h
      have := S.depth_pos s
      omega
    | succ d ih =>
      intro s h
      match s, h with
      | .odd _, _ => exact Nat.zero_le _
      | .nd k a cs, h =>
        rw [S.depth] at h
        have all : ∀ cs : List S, S.depths cs ≤ d → S.bds cs ≤ S.depths cs := by
          intro cs
          induction cs with
          | nil => intro _; exact Nat.le_refl _
          | cons c cs ic =>
            intro h
            rw [S.depths] at h
            have := ih c (by omega)
            have := ic (by omega)
            rw [S.bds, S.depths]
            omega
        rw [S.bd, S.depth]
        split
        · match cs, h with
          | [], _ => exact Nat.zero_le _
          | c :: cs, h =>
            rw [S.depths] at h
            have := ih c (by omega)
            have := all cs (by omega)
            rw [S.bdF, S.depths]
            omega
        · have := all cs (by omega)
          omega
  exact fun s => go s.depth s (Nat.le_refl _)
/-- a drawn statement as a tree -/
theorem Lf.tree {n : Nat} {o : O} (h : Lf n o) : ∃ s : S, o = s.toO ∧ s.good n ∧ s.depth = 1 ∧ s.size = 1 := by
  have e : ∀ (k : Str) (a : List O), Hd n k a 0 → (S.nd k a []).good n := fun k a h => by
    unfold S.good S.goods
    exact ⟨h, trivial⟩
  cases h with
  | name k x hk hx =>
    refine ⟨.nd k [.str x] [], ?_, ?_, rfl, rfl⟩
    · rcases hk with rfl | rfl <;> rfl
    · rcases hk with rfl | rfl
      · exact e _ _ (.do_ x hx)
      · exact e _ _ (.call x hx)
  | end_ k hk =>
    refine ⟨.nd k [] [], ?_, ?_, rfl, rfl⟩
    · rcases hk with rfl | rfl <;> rfl
    · rcases hk with rfl | rfl
      · exact e _ _ .ret
      · exact e _ _ .rse
  | jump k i hk h1 h2 =>
    obtain ⟨m, rfl⟩ : ∃ m : Nat, i = m := ⟨i.toNat, by omega⟩
    refine ⟨.nd k [.int m] [], ?_, ?_, rfl, rfl⟩
    · rcases hk with rfl | rfl <;> rfl
    · rcases hk with rfl | rfl
      · exact e _ _ (.brk m (by omega) (by omega))
      · exact e _ _ (.con m (by omega) (by omega))
theorem Tr.tree {d n : Nat} {o : O} (h : Tr d n o) : ∃ s : S, o = s.toO ∧ s.good n ∧ s.depth ≤ d ∧ s.size ≤ szB d := by
  induction h with
  | leaf d n o h =>
    obtain ⟨s, e, g, h1, h2⟩ := h.tree
    refine ⟨s, e, g, by omega, ?_⟩
    rw [szB]
    omega
  | seq d n os ne l _ ih =>
    have all : ∀ os : List O, (∀ o ∈ os, ∃ s : S, o = s.toO ∧ s.good n ∧ s.depth ≤ d ∧ s.size ≤ szB d) → ∃ cs : List S, os = S.toOs cs ∧ S.goods n cs ∧ S.depths cs ≤ d ∧ S.sizes cs ≤ os.length * szB d ∧ cs.length = os.length := by
      intro os
      induction os with
      | nil => exact fun _ => ⟨[], rfl, by unfold S.goods; trivial, Nat.zero_le _, Nat.zero_le _, rfl⟩
      | cons o os io =>
        intro h
        obtain ⟨s, e, g, h1, h2⟩ := h o List.mem_cons_self
        obtain ⟨cs, r1, r2, r3, r4, r5⟩ := io fun u hu => h u (List.mem_cons_of_mem _ hu)
        refine ⟨s :: cs, by rw [S.toOs, e, r1], ?_, ?_, ?_, by rw [List.length_cons, List.length_cons, r5]⟩
        · unfold S.goods
          exact ⟨g, r2⟩
        · rw [S.depths]
          omega
        · rw [S.sizes, List.length_cons, Nat.succ_mul]
          omega
    obtain ⟨cs, r1, r2, r3, r4, r5⟩ := all os ih
    refine ⟨.nd "seq" [] cs, by rw [r1]; rfl, ?_, ?_, ?_⟩
    · unfold S.good
      refine ⟨?_, by rw [if_neg (by decide)]; exact r2⟩
      match cs, r5 with
      | [], r5 => exact absurd (List.length_eq_zero_iff.mp r5.symm) ne
      | c :: cs, _ => exact .seq _
    · rw [S.depth]
      omega
    · rw [S.size, szB]
      have : os.length * szB d ≤ 3 * szB d := Nat.mul_le_mul_right _ l
      omega
  | whi d n x o hx _ ih =>
    obtain ⟨s, e, g, h1, h2⟩ := ih
    refine ⟨.nd "while" [.str x] [s], by rw [e]; rfl, ?_, ?_, ?_⟩
    · unfold S.good S.goods S.goods
      exact ⟨.whi x hx, by rw [if_pos rfl]; exact g, trivial⟩
    · rw [S.depth, S.depths, S.depths]
      omega
    · rw [S.size, S.sizes, S.sizes, szB]
      omega
  | if_ d n o u _ _ i1 i2 =>
    obtain ⟨s, e, g, h1, h2⟩ := i1
    obtain ⟨t, e', g', h1', h2'⟩ := i2
    refine ⟨.nd "if" [.str "i"] [s, t], by rw [e, e']; rfl, ?_, ?_, ?_⟩
    · unfold S.good S.goods S.goods S.goods
      exact ⟨.if_ _ (by decide), by rw [if_neg (by decide)]; exact g, by rw [if_neg (by decide)]; exact g', trivial⟩
    · rw [S.depth, S.depths, S.depths, S.depths]
      omega
    · rw [S.size, S.sizes, S.sizes, S.sizes, szB]
      omega
  | two d n k o u hk _ _ i1 i2 =>
    obtain ⟨s, e, g, h1, h2⟩ := i1
    obtain ⟨t, e', g', h1', h2'⟩ := i2
    have nw : ¬ k = "while" := by rcases hk with rfl | rfl <;> decide
    have ns : ¬ k = "seq" := by rcases hk with rfl | rfl <;> decide
    refine ⟨.nd k [] [s, t], by rw [e, e', S.toO, if_neg ns]; rfl, ?_, ?_, ?_⟩
    · unfold S.good S.goods S.goods S.goods
      refine ⟨?_, by rw [if_neg nw]; exact g, by rw [if_neg nw]; exact g', trivial⟩
      rcases hk with rfl | rfl
      · exact .try_
      · exact .fin
    · rw [S.depth, S.depths, S.depths, S.depths]
      omega
    · rw [S.size, S.sizes, S.sizes, S.sizes, szB]
      omega
/-- the objects of the spots inside -/
theorem inside_os {n : Nat} {s : Spot} (h : s.o.isStmt s.wh = true) : (inside n s).map (·.o) = s.o.parts := by
  unfold inside
  by_cases f : s.o.kind = "final"
  · rw [if_pos f]
    have hk : s.o.hasKind = true := by
      unfold O.isStmt at h
      exact (Bool.and_eq_true_iff.mp h).1
    obtain ⟨z, r, e, hsz⟩ := hasKind_of hk
    rw [e] at f ⊢
    have f' : z = "final" := f
    subst f'
    have l2 : r.length = 2 := by
      have q : szOf "final" = some 3 := by decide +kernel
      rw [q] at hsz
      have := Option.some.inj hsz
      omega
    obtain ⟨b, c, rfl⟩ := two_of l2
    rfl
  · rw [if_neg f, List.map_map]
    have : ((fun x => x.o) ∘ inner n s) = id := rfl
    rw [this, List.map_id]
end Fc
end L2
set_option Elab.async false
set_option linter.all false
set_option maxRecDepth 100000
set_option maxHeartbeats 4000000
/-! The rows of a statement as a law lists them: lists that are changed. -/
namespace L2
namespace Fc
open PySem PySem.Spec PyProof.Rows
/-- len of a list or tuple, said of K itself -/
abbrev rLenS (K : PySem.W.Frag) : List V → Hp → VK → Prop := fun xs H Q => ∃ p ys, xs = [V.ref p] ∧ (SqL K H p ys ∨ SqT K H p ys) ∧ Q (.int (ys.length : Nat)) H
/-- the rows stand at l -/
def RowsAt (K : PySem.W.Frag) (F : Hp) (l : Addr) (R : List Spot) : Prop := ∃ rs : List Addr, F l = some (.lst (rs.map V.ref)) ∧ rs.length = R.length ∧
  ∀ (i : Nat) (q : Spot), R[i]? = some q → ∃ (r : Addr) (v : V) (kl : Addr), rs[i]? = some r ∧ F r = some (.lst [v, optV q.par, .ref kl]) ∧ Ob K F v q.o ∧ F kl = some (.lst (intsV (kids R i)))
theorem RowsAt.mono {K : PySem.W.Frag} {F F' : Hp} {l : Addr} {R : List Spot} (e : Same F F') (h : RowsAt K F l R) : RowsAt K F' l R := by
  obtain ⟨rs, h1, h2, h3⟩ := h
  refine ⟨rs, e _ _ h1, h2, fun i q hq => ?_⟩
  obtain ⟨r, v, kl, r1, r2, r3, r4⟩ := h3 i q hq
  exact ⟨r, v, kl, r1, e _ _ r2, r3.mono e, e _ _ r4⟩
structure FS (K : PySem.W.Frag) (a l W : Addr) (H0 H : Hp) (rows : List Spot) (rs kls : List Addr) (ks : Nat → List Nat) : Prop where
  src : Src H a
  base : Same H0 H
  hl : H l = some (.lst (rs.map V.ref))
  hW : ∃ xs, H W = some (.lst xs)
  lr : rs.length = rows.length
  lk : kls.length = rows.length
  row : ∀ (i : Nat) (q : Spot) (r kl : Addr), rows[i]? = some q → rs[i]? = some r → kls[i]? = some kl → ∃ v, H r = some (.lst [v, optV q.par, .ref kl]) ∧ Ob K (Fz a H) v q.o ∧ H kl = some (.lst (intsV (ks i)))
  la : l ≠ a
  Wa : W ≠ a
  lW : l ≠ W
  far : ∀ r ∈ rs ++ kls, r ≠ a ∧ r ≠ l ∧ r ≠ W
  nd : (rs ++ kls).Nodup
  pl : ∀ q ∈ rows, q.o.noL = true
  f0 : H0 l = none ∧ H0 W = none ∧ ∀ k ∈ kls, H0 k = none
def Stk (K : PySem.W.Frag) (a : Addr) (H : Hp) (ps : List Addr) (ss : List Spot) : Prop := Paired (fun p (s : Spot) => ∃ v, SqT K (Fz a H) p [v, optV s.par] ∧ Ob K (Fz a H) v s.o ∧ s.o.noL = true) ps ss
section
variable {K : PySem.W.Frag} {a l W : Addr} {H0 H : Hp} {rows : List Spot} {rs kls : List Addr} {ks : Nat → List Nat} {ps : List Addr} {ss : List Spot}
theorem FS.adv (h : FS K a l W H0 H rows rs kls ks) {H' : Hp} (e : Same H H') : FS K a l W H0 H' rows rs kls ks := by
  have ad := Adv.of_same h.src e
  obtain ⟨xs, hW⟩ := h.hW
  exact ⟨ad.src, h.base.trans e, e _ _ h.hl, ⟨xs, e _ _ hW⟩, h.lr, h.lk, fun i q r kl h1 h2 h3 => by
    obtain ⟨v, r1, r2, r3⟩ := h.row i q r kl h1 h2 h3
    exact ⟨v, e _ _ r1, r2.mono ad.fz, e _ _ r3⟩, h.la, h.Wa, h.lW, h.far, h.nd, h.pl, h.f0⟩
theorem FS.new (h : FS K a l W H0 H rows rs kls ks) {p : Addr} {o : HO} (n : H p = none) : FS K a l W H0 (upd H p o) rows rs kls ks := h.adv (Same.put n)
theorem Stk.adv (h : Stk K a H ps ss) (s : Src H a) {H' : Hp} (e : Same H H') : Stk K a H' ps ss := by
  have ad := Adv.of_same s e
  exact Fc.Paired.map2 (fun _ _ ⟨v, h1, h2, h3⟩ => ⟨v, Same.sqt ad.fz h1, h2.mono ad.fz, h3⟩) h
/-- a list that is changed -/
theorem Stk.chg (h : Stk K a H ps ss) {D : Addr} {ys zs : List V} (hD : H D = some (.lst ys)) (na : D ≠ a) : Stk K a (upd H D (.lst zs)) ps ss := by
  have zD : Fz a H D = some (.lst ys) := by
    rw [fz_ne na]
    exact hD
  refine Fc.Paired.map2 (fun _ _ ⟨v, h1, h2, h3⟩ => ⟨v, ?_, ?_, h3⟩) h
  · rw [fz_upd na]
    exact sqt_upd zD h1
  · rw [fz_upd na]
    exact Ob.upd zD h2 h3
theorem Src.chg {D : Addr} {o : HO} (s : Src H a) (na : D ≠ a) : Src (L2.upd H D o) a := by
  obtain ⟨x, y, z, e⟩ := s
  exact ⟨x, y, z, by rw [upd_ne na.symm]; exact e⟩
theorem FS.setW (h : FS K a l W H0 H rows rs kls ks) (zs : List V) : FS K a l W H0 (upd H W (.lst zs)) rows rs kls ks := by
  obtain ⟨xs, hW⟩ := h.hW
  have zD : Fz a H W = some (.lst xs) := by
    rw [fz_ne h.Wa]
    exact hW
  refine ⟨h.src.chg h.Wa, Same.chg h.base h.f0.2.1, by rw [upd_ne h.lW]; exact h.hl, ⟨zs, upd_same⟩, h.lr, h.lk, fun i q r kl h1 h2 h3 => ?_, h.la, h.Wa, h.lW, h.far, h.nd, h.pl, h.f0⟩
  obtain ⟨v, r1, r2, r3⟩ := h.row i q r kl h1 h2 h3
  have f1 := h.far r (List.mem_append_left _ (List.mem_of_getElem? h2))
  have f2 := h.far kl (List.mem_append_right _ (List.mem_of_getElem? h3))
  refine ⟨v, by rw [upd_ne f1.2.2]; exact r1, ?_, by rw [upd_ne f2.2.2]; exact r3⟩
  rw [fz_upd h.Wa]
  exact Ob.upd zD r2 (h.pl q (List.mem_of_getElem? h1))
/-- a new row -/
theorem FS.push (h : FS K a l W H0 H rows rs kls ks) {s : Spot} {r kl : Addr} {v : V} (hr : H r = some (.lst [v, optV s.par, .ref kl])) (hk : H kl = some (.lst [])) (ho : Ob K (Fz a H) v s.o) (pl : s.o.noL = true)
    (nr : r ∉ rs ++ kls) (nk : kl ∉ rs ++ kls) (rk : r ≠ kl) (r0 : r ≠ a ∧ r ≠ l ∧ r ≠ W) (k0 : kl ≠ a ∧ kl ≠ l ∧ kl ≠ W) (kb : H0 kl = none) :
    FS K a l W H0 (upd H l (.lst ((rs ++ [r]).map V.ref))) (rows ++ [s]) (rs ++ [r]) (kls ++ [kl]) (fun i => if i = rows.length then [] else ks i) := by
  have zD : Fz a H l = some (.lst (rs.map V.ref)) := by
    rw [fz_ne h.la]
    exact h.hl
  obtain ⟨xs, hW⟩ := h.hW
  simp only [List.mem_append, not_or] at nr nk
  refine ⟨h.src.chg h.la, Same.chg h.base h.f0.1, upd_same, ⟨xs, by rw [upd_ne h.lW.symm]; exact hW⟩, by rw [List.length_append, List.length_append, h.lr]; rfl, by rw [List.length_append, List.length_append, h.lk]; rfl, ?_, h.la, h.Wa, h.lW, ?_, ?_, ?_, h.f0.1, h.f0.2.1, ?_⟩
  · intro i q r' kl' h1 h2 h3
    by_cases e : i < rows.length
    · rw [List.getElem?_append_left e] at h1
      rw [List.getElem?_append_left (by rw [h.lr]; exact e)] at h2
      rw [List.getElem?_append_left (by rw [h.lk]; exact e)] at h3
      obtain ⟨v', r1, r2, r3⟩ := h.row i q r' kl' h1 h2 h3
      have f1 := h.far r' (List.mem_append_left _ (List.mem_of_getElem? h2))
      have f2 := h.far kl' (List.mem_append_right _ (List.mem_of_getElem? h3))
      refine ⟨v', by rw [upd_ne f1.2.1]; exact r1, ?_, by rw [upd_ne f2.2.1, r3, if_neg (by omega)]⟩
      rw [fz_upd h.la]
      exact Ob.upd zD r2 (h.pl q (List.mem_of_getElem? h1))
    · have l1 := (List.getElem?_eq_some_iff.mp h1).1
      rw [List.length_append, List.length_singleton] at l1
      have ei : i = rows.length := by omega
      subst ei
      rw [List.getElem?_append_right (Nat.le_refl _), Nat.sub_self] at h1
      rw [List.getElem?_append_right (by rw [h.lr]; exact Nat.le_refl _), h.lr, Nat.sub_self] at h2
      rw [List.getElem?_append_right (by rw [h.lk]; exact Nat.le_refl _), h.lk, Nat.sub_self] at h3
      cases h1
      cases h2
      cases h3
      refine ⟨v, by rw [upd_ne r0.2.1]; exact hr, ?_, by rw [upd_ne k0.2.1, hk, if_pos rfl]; rfl⟩
      rw [fz_upd h.la]
      exact Ob.upd zD ho pl
  · intro x hx
    simp only [List.mem_append, List.mem_singleton] at hx
    rcases hx with (hx | rfl) | (hx | rfl)
    · exact h.far x (List.mem_append_left _ hx)
    · exact r0
    · exact h.far x (List.mem_append_right _ hx)
    · exact k0
  · have nd := h.nd
    rw [List.nodup_append] at nd ⊢
    obtain ⟨n1, n2, n3⟩ := nd
    refine ⟨?_, ?_, ?_⟩
    · rw [List.nodup_append]
      refine ⟨n1, by simp, fun x hx y hy => ?_⟩
      rw [List.mem_singleton] at hy
      rw [hy]
      exact fun z => nr.1 (z ▸ hx)
    · rw [List.nodup_append]
      refine ⟨n2, by simp, fun x hx y hy => ?_⟩
      rw [List.mem_singleton] at hy
      rw [hy]
      exact fun z => nk.2 (z ▸ hx)
    · intro x hx y hy
      rw [List.mem_append, List.mem_singleton] at hx hy
      rcases hx with hx | rfl <;> rcases hy with hy | rfl
      · exact n3 x hx y hy
      · exact fun z => nk.1 (z ▸ hx)
      · exact fun z => nr.2 (z ▸ hy)
      · exact rk
  · intro q hq
    rcases List.mem_append.mp hq with hq | hq
    · exact h.pl q hq
    · rw [List.mem_singleton] at hq
      rw [hq]
      exact pl
  · intro k hk
    rcases List.mem_append.mp hk with hk | hk
    · exact h.f0.2.2 k hk
    · rw [List.mem_singleton] at hk
      rw [hk]
      exact kb
/-- a part more of the row m -/
theorem FS.kid (h : FS K a l W H0 H rows rs kls ks) {m : Nat} {kl : Addr} (hm : kls[m]? = some kl) (n : Nat) :
    FS K a l W H0 (upd H kl (.lst (intsV (ks m ++ [n])))) rows rs kls (fun i => if i = m then ks m ++ [n] else ks i) := by
  have lm : m < rows.length := by
    rw [← h.lk]
    exact (List.getElem?_eq_some_iff.mp hm).1
  obtain ⟨q0, hq0⟩ : ∃ q, rows[m]? = some q := ⟨_, List.getElem?_eq_getElem lm⟩
  obtain ⟨r0, hr0⟩ : ∃ r, rs[m]? = some r := ⟨_, List.getElem?_eq_getElem (by rw [h.lr]; exact lm)⟩
  obtain ⟨_, _, _, hk⟩ := h.row m q0 r0 kl hq0 hr0 hm
  have f := h.far kl (List.mem_append_right _ (List.mem_of_getElem? hm))
  have zD : Fz a H kl = some (.lst (intsV (ks m))) := by
    rw [fz_ne f.1]
    exact hk
  obtain ⟨xs, hW⟩ := h.hW
  refine ⟨h.src.chg f.1, Same.chg h.base (h.f0.2.2 _ (List.mem_of_getElem? hm)), by rw [upd_ne f.2.1.symm]; exact h.hl, ⟨xs, by rw [upd_ne f.2.2.symm]; exact hW⟩, h.lr, h.lk, ?_, h.la, h.Wa, h.lW, h.far, h.nd, h.pl, h.f0⟩
  intro i q r kl' h1 h2 h3
  obtain ⟨v', r1, r2, r3⟩ := h.row i q r kl' h1 h2 h3
  have nd := h.nd
  rw [List.nodup_append] at nd
  refine ⟨v', by rw [upd_ne (nd.2.2 r (List.mem_of_getElem? h2) kl (List.mem_of_getElem? hm))]; exact r1, ?_, ?_⟩
  · rw [fz_upd f.1]
    exact Ob.upd zD r2 (h.pl q (List.mem_of_getElem? h1))
  · by_cases e : i = m
    · subst e
      rw [hm] at h3
      cases h3
      rw [if_pos rfl, upd_same]
    · rw [if_neg e, upd_ne]
      · exact r3
      · intro z
        subst z
        have l1 := (List.getElem?_eq_some_iff.mp h3).1
        exact e ((List.getElem?_inj l1 nd.2.1).mp (h3.trans hm.symm))
theorem FS.congr {ks' : Nat → List Nat} (h : FS K a l W H0 H rows rs kls ks) (e : ∀ i, i < rows.length → ks i = ks' i) : FS K a l W H0 H rows rs kls ks' :=
  ⟨h.src, h.base, h.hl, h.hW, h.lr, h.lk, fun i q r kl h1 h2 h3 => by
    rw [← e i (List.getElem?_eq_some_iff.mp h1).1]
    exact h.row i q r kl h1 h2 h3, h.la, h.Wa, h.lW, h.far, h.nd, h.pl, h.f0⟩
theorem FS.told (h : FS K a l W H0 H rows rs kls (kids rows)) : RowsAt K (Fz a H) l rows := by
  refine ⟨rs, by rw [fz_ne h.la]; exact h.hl, h.lr, fun i q hq => ?_⟩
  have li := (List.getElem?_eq_some_iff.mp hq).1
  obtain ⟨r, hr⟩ : ∃ r, rs[i]? = some r := ⟨_, List.getElem?_eq_getElem (by rw [h.lr]; exact li)⟩
  obtain ⟨kl, hk⟩ : ∃ r, kls[i]? = some r := ⟨_, List.getElem?_eq_getElem (by rw [h.lk]; exact li)⟩
  obtain ⟨v, r1, r2, r3⟩ := h.row i q r kl hq hr hk
  exact ⟨r, v, kl, hr, by rw [fz_ne (h.far r (List.mem_append_left _ (List.mem_of_getElem? hr))).1]; exact r1, r2, by rw [fz_ne (h.far kl (List.mem_append_right _ (List.mem_of_getElem? hk))).1]; exact r3⟩
end
end Fc
end L2
set_option Elab.async false
set_option linter.all false
set_option maxRecDepth 100000
set_option maxHeartbeats 4000000
/-! == and != with the empty list or tuple, whatever the other one holds. -/
namespace L2
namespace Fc
open PySem PySem.Spec PyProof.Rows PySem.SeqAt
section
variable {X : Cx}
def rNeE (K : PySem.W.Frag) : R2 := fun x y H Q => ∃ a b xs, x = .ref a ∧ y = .ref b ∧ ((SqL K H a xs ∧ SqL K H b []) ∨ (SqT K H a xs ∧ SqT K H b [])) ∧ Q (.bl (!xs.isEmpty)) H
def rEqE (K : PySem.W.Frag) : R2 := fun x y H Q => ∃ a b xs, x = .ref a ∧ y = .ref b ∧ ((SqL K H a xs ∧ SqL K H b []) ∨ (SqT K H a xs ∧ SqT K H b [])) ∧ Q (.bl xs.isEmpty) H
theorem op_neE (hu : X.A.units + 64 < cLine) : OpR X (compareOp .NotEq) (rNeE X.K) := by
  intro pins s σ H x y v u Q I rx ry h
  obtain ⟨a, b, xs, rfl, rfl, h, q⟩ := h
  cases rx
  cases ry
  have hu1 : X.A.units < cLine := by omega
  rcases h with ⟨h1, h2⟩ | ⟨h1, h2⟩
  · obtain ⟨its, r1, p1, _⟩ := I.list h1
    obtain ⟨its2, r2, p2, _⟩ := I.list h2
    cases r2
    cases r1 with
    | nil => exact RcNeAt.lists (e := fun _ => true) p1.isList p2.isList rfl hu1 (fun j j1 => absurd j1 (Nat.not_lt_zero _)) _ _ _ _ ⟨.bl _, H, I, rfl, q⟩
    | cons r rs => exact RcNeAt.lists_lengths p1.isList p2.isList (by simp) hu1 _ _ _ _ ⟨.bl _, H, I, rfl, q⟩
  · obtain ⟨its, r1, p1, _⟩ := I.tuple h1
    obtain ⟨its2, r2, p2, _⟩ := I.tuple h2
    cases r2
    cases r1 with
    | nil => exact RcNeAt.tuples (e := fun _ => true) p1 p2 hu1 (fun j j1 => absurd j1 (Nat.not_lt_zero _)) _ _ _ _ ⟨.bl _, H, I, rfl, q⟩
    | cons r rs => exact RcNeAt.tuples (e := fun _ => true) p1 p2 hu1 (fun j _ j1 => absurd j1 (Nat.not_lt_zero _)) _ _ _ _ ⟨.bl _, H, I, rfl, by simpa using q⟩
theorem op_eqE (hu : X.A.units + 64 < cLine) : OpR X (compareOp .Eq) (rEqE X.K) := by
  intro pins s σ H x y v u Q I rx ry h
  obtain ⟨a, b, xs, rfl, rfl, h, q⟩ := h
  cases rx
  cases ry
  have hu1 : X.A.units < cLine := by omega
  rcases h with ⟨h1, h2⟩ | ⟨h1, h2⟩
  · obtain ⟨its, r1, p1, _⟩ := I.list h1
    obtain ⟨its2, r2, p2, _⟩ := I.list h2
    cases r2
    cases r1 with
    | nil => exact RcAt.lists (e := fun _ => true) p1.isList p2.isList rfl hu1 (fun j j1 => absurd j1 (Nat.not_lt_zero _)) _ _ _ _ ⟨.bl _, H, I, rfl, q⟩
    | cons r rs => exact RcAt.lists_lengths p1.isList p2.isList (by simp) hu1 _ _ _ _ ⟨.bl _, H, I, rfl, q⟩
  · obtain ⟨its, r1, p1, _⟩ := I.tuple h1
    obtain ⟨its2, r2, p2, _⟩ := I.tuple h2
    cases r2
    cases r1 with
    | nil => exact RcAt.tuples (e := fun _ => true) p1 p2 hu1 (fun j j1 => absurd j1 (Nat.not_lt_zero _)) _ _ _ _ ⟨.bl _, H, I, rfl, q⟩
    | cons r rs => exact RcAt.tuples (e := fun _ => true) p1 p2 hu1 (fun j _ j1 => absurd j1 (Nat.not_lt_zero _)) _ _ _ _ ⟨.bl _, H, I, rfl, by simpa using q⟩
end
end Fc
end L2
set_option Elab.async false
set_option linter.all false
set_option maxRecDepth 100000
set_option maxHeartbeats 4000000
/-! Written objects: what a display makes, once for all. -/
namespace L2
namespace Fc
open PySem PySem.Spec PyProof.Rows
/-! what stands in front, opened -/
theorem set_use {te : TE} {i : Nat} {u : TS} {D : Ends} {σ : St} {H : Hp} (h : te σ H fun x H1 => u D (σ.set i (some x)) H1) : tSeq (tAsg te (gName i)) u D σ H := h
theorem set_last {te : TE} {i : Nat} {D : Ends} {σ : St} {H : Hp} (h : te σ H fun x H1 => D.nx (σ.set i (some x)) H1) : tAsg te (gName i) D σ H := h
theorem nx_use {u : TS} {D : Ends} {σ : St} {H : Hp} (h : u D σ H) : tSeq Ends.nx u D σ H := h
theorem ret_use {te : TE} {D : Ends} {σ : St} {H : Hp} (h : te σ H D.rt) : tRet te D σ H := h
section
variable {K : PySem.W.Frag} {F : Hp} {σ : St}
def Lit (K : PySem.W.Frag) (F : Hp) (σ : St) (t : TE) (o : O) : Prop := ∀ (F1 H : Hp) (Q : VK), Same F F1 → Same F1 H → (∀ F' H' v, Grow F1 H F' H' → Ob K F' v o → Q v H') → t σ H Q
def LitA (K : PySem.W.Frag) (F : Hp) (σ : St) (t : TA) (os : List O) : Prop := ∀ (F1 H : Hp) (Q : List V → Hp → Prop), Same F F1 → Same F1 H → (∀ F' H' vs, Grow F1 H F' H' → Obs K F' vs os → Q vs H') → t σ H Q
def LitL (K : PySem.W.Frag) (F : Hp) (σ : St) (t : TE) (os : List O) : Prop := ∀ (F1 H : Hp) (Q : VK), Same F F1 → Same F1 H → (∀ F' H' p vs, Grow F1 H F' H' → F' p = some (.lst vs) → Obs K F' vs os → Q (.ref p) H') → t σ H Q
theorem lit_pure {t : TE} {v : V} {o : O} (h : ∀ H Q, Q v H → t σ H Q) (ob : Ob K F v o) : Lit K F σ t o := fun F1 H Q e s k => h H Q (k F1 H v (Grow.refl s) (ob.mono e))
theorem lit_str {x : Str} (h : x.length ≤ 100 := by decide) : Lit K F σ (tC (.str x)) (.str x) := lit_pure (fun _ _ q => q) (str_ob x h)
theorem lit_int {i : Int} : Lit K F σ (tC (.int i)) (.int i) := lit_pure (fun _ _ q => q) (.int i)
theorem lit_bl {b : Bool} : Lit K F σ (tC (.bl b)) (.bl b) := lit_pure (fun _ _ q => q) (.bl b)
theorem lit_non : Lit K F σ (tC .non) .non := lit_pure (fun _ _ q => q) .non
theorem lit_var {i : Nat} {v : V} {o : O} (h : σ[i]? = some (some v)) (ob : Ob K F v o) : Lit K F σ (tVar i) o := lit_pure (fun _ _ q => ⟨v, h, q⟩) ob
theorem lit_nil : LitA K F σ tNil [] := fun F1 H Q e s k => k F1 H [] (Grow.refl s) .nil
theorem lit_cons {t : TE} {ts : TA} {o : O} {os : List O} (h : Lit K F σ t o) (hs : LitA K F σ ts os) : LitA K F σ (tCons t ts) (o :: os) := fun F1 H Q e s k =>
  h F1 H _ e s fun F2 H2 v g ob => hs F2 H2 _ (e.trans g.ff) g.fh fun F3 H3 vs g2 obs => k F3 H3 (v :: vs) (g.trans g2) (.cons (ob.mono g2.ff) obs)
theorem lit_tup {ts : TA} {os : List O} (hs : LitA K F σ ts os) (l : os.length ≤ 100 := by decide) : Lit K F σ (tTup ts) (.tup os) := fun F1 H Q e s k =>
  hs F1 H _ e s fun F2 H2 vs g obs => ⟨by rw [obs.len]; exact Nat.le_trans l (by decide), fun p np => by
    have g2 := g.trans (Grow.add (o := .tup vs) g.fh np)
    exact k _ _ _ g2 (.tup (SqT.of upd_same) (obs.mono (Same.put (g.fh.free np))) (Nat.lt_of_le_of_lt l (by decide)))⟩
theorem litL_lst {ts : TA} {os : List O} (hs : LitA K F σ ts os) (l : os.length ≤ 100 := by decide) : LitL K F σ (tLst ts) os := fun F1 H Q e s k =>
  hs F1 H _ e s fun F2 H2 vs g obs => ⟨by rw [obs.len]; exact Nat.le_trans l (by decide), fun p np => by
    have g2 := g.trans (Grow.add (o := .lst vs) g.fh np)
    exact k _ _ p vs g2 upd_same (obs.mono (Same.put (g.fh.free np)))⟩
theorem lit_lst {ts : TA} {os : List O} (hs : LitA K F σ ts os) (l : os.length ≤ 100 := by decide) : Lit K F σ (tLst ts) .lst := fun F1 H Q e s k =>
  litL_lst hs l F1 H Q e s fun F2 H2 p vs g e2 _ => k F2 H2 _ g (.lst e2)
theorem lit_lst0 : Lit K F σ (tLst tNil) .lst := lit_lst lit_nil (by decide)
theorem lit_lst1 {t : TE} {o : O} (h : Lit K F σ t o) : Lit K F σ (tLst (tCons t tNil)) .lst := lit_lst (lit_cons h lit_nil) (by show 1 ≤ 100; decide)
theorem lit_lst2 {t u : TE} {o p : O} (h : Lit K F σ t o) (h2 : Lit K F σ u p) : Lit K F σ (tLst (tCons t (tCons u tNil))) .lst := lit_lst (lit_cons h (lit_cons h2 lit_nil)) (by show 2 ≤ 100; decide)
theorem lit_dct : Lit K F σ tDNewK .dct := fun F1 H Q e s k p np => k _ _ _ ((Grow.refl s).trans (Grow.add (o := .dK []) s np)) (.dct upd_same)
theorem litL_var {i : Nat} {p : Addr} {vs : List V} {os : List O} (h : σ[i]? = some (some (.ref p))) (e : F p = some (.lst vs)) (obs : Obs K F vs os) : LitL K F σ (tVar i) os := fun F1 H Q e1 s k => ⟨_, h, k F1 H p vs (Grow.refl s) (e1 _ _ e) (obs.mono e1)⟩
theorem Obs.app {H : Hp} : ∀ {vs ws : List V} {os us : List O}, Obs K H vs os → Obs K H ws us → Obs K H (vs ++ ws) (os ++ us)
  | _, _, _, _, .nil, h => h
  | _, _, _, _, .cons g r, h => .cons g (Obs.app r h)
theorem litL_cat {t u : TE} {os us : List O} (h1 : LitL K F σ t os) (h2 : LitL K F σ u us) (l : (os ++ us).length ≤ 200 := by decide) : LitL K F σ (tOp rCat t u) (os ++ us) := fun F1 H Q e s k =>
  h1 F1 H _ e s fun F2 H2 p vs g e2 ob2 => h2 F2 H2 _ (e.trans g.ff) g.fh fun F3 H3 q ws g2 e3 ob3 => by
    refine ⟨p, q, vs, ws, rfl, rfl, g2.hh _ _ (g.fh _ _ e2), g2.fh _ _ e3, ?_, fun r nr => ?_⟩
    · rw [List.length_append] at l
      rw [ob2.len, ob3.len]
      exact Nat.le_trans l (by decide)
    · have g3 := (g.trans g2).trans (Grow.add (o := .lst (vs ++ ws)) g2.fh nr)
      exact k _ _ r _ g3 upd_same (Obs.app ((ob2.mono g2.ff).mono (Same.put (g2.fh.free nr))) (ob3.mono (Same.put (g2.fh.free nr))))
/-! slices and sums of tuples -/
theorem cut_take {xs : List V} {n : Nat} (h : n ≤ xs.length) : cutV xs none (some (n : Int)) = xs.take n := by
  unfold cutV
  rw [HT.sIx_nat, HT.sIx_none, Nat.min_eq_left h, List.drop_zero, Nat.sub_zero]
theorem cut_from {xs : List V} {n : Nat} (h : n ≤ xs.length) : cutV xs (some (n : Int)) none = xs.drop n := by
  unfold cutV
  rw [HT.sIx_nat, HT.sIx_none, Nat.min_eq_left h]
  rw [List.take_of_length_le]
  rw [List.length_drop]
  exact Nat.le_refl _
theorem sIx_m1 {n : Nat} (h : 0 < n) : HT.sIx n n (some (-1)) = n - 1 := by
  show (if (-1 : Int) < 0 then ((-1 : Int) + (n : Int)).toNat else min (-1 : Int).toNat n) = n - 1
  rw [if_pos (by decide)]
  omega
theorem cut_m1 {xs : List V} (h : 0 < xs.length) : cutV xs none (some (-1)) = xs.take (xs.length - 1) := by
  unfold cutV
  rw [sIx_m1 h, HT.sIx_none, List.drop_zero, Nat.sub_zero]
theorem Obs.take {H : Hp} : ∀ {vs : List V} {os : List O} (n : Nat), Obs K H vs os → Obs K H (vs.take n) (os.take n)
  | _, _, 0, _ => .nil
  | _, _, _ + 1, .nil => .nil
  | _, _, n + 1, .cons h r => .cons h (Obs.take n r)
theorem lit_sl {t : TE} {lo hi : Option Int} {tl th : TO} {os : List O} (f : {α : Type} → List α → List α) (h : Lit K F σ t (.tup os)) (hl : ∀ H Q, Q lo H → tl σ H Q) (hh : ∀ H Q, Q hi H → th σ H Q)
    (hn : ¬ (HT.sIx os.length 0 lo = 0 ∧ HT.sIx os.length os.length hi = os.length)) (hf : ∀ xs : List V, xs.length = os.length → cutV xs lo hi = f xs) (fo : ∀ {H : Hp} {vs : List V}, Obs K H vs os → Obs K H (f vs) (f os)) (fl : (f os).length < 20000) :
    Lit K F σ (tSl (rSlT K) t tl th) (.tup (f os)) := fun F1 H Q e s k => h F1 H _ e s fun F2 H2 v g ob => hl H2 _ (hh H2 _ (by
  obtain ⟨a, xs, rfl, ht, hos⟩ := ob.tup_eq
  refine ⟨a, xs, rfl, Same.sqt g.fh ht, by rw [hos.len]; exact hn, fun p np => ?_⟩
  rw [hf xs hos.len]
  have g2 := g.trans (Grow.add (o := .tup (f xs)) g.fh np)
  exact k _ _ _ g2 (.tup (SqT.of upd_same) ((fo hos).mono (Same.put (g.fh.free np))) fl)))
theorem lit_slTo {t : TE} {os : List O} (n : Nat) (h : Lit K F σ t (.tup os)) (l : n < os.length) (b : os.length ≤ 100) : Lit K F σ (tSl (rSlT K) t tNoPart (tPart (tC (.int (n : Int))))) (.tup (os.take n)) :=
  lit_sl (fun l => l.take n) h (fun _ _ q => q) (fun _ _ q => ⟨_, rfl, q⟩) (by
    rintro ⟨_, q⟩
    rw [HT.sIx_nat] at q
    omega) (fun xs e => cut_take (by omega)) (fun ob => Obs.take n ob) (by rw [List.length_take]; omega)
theorem lit_slFrom {t : TE} {os : List O} (n : Nat) (h : Lit K F σ t (.tup os)) (n0 : 0 < n) (l : n ≤ os.length) (l0 : 0 < os.length) (b : os.length ≤ 100) : Lit K F σ (tSl (rSlT K) t (tPart (tC (.int (n : Int)))) tNoPart) (.tup (os.drop n)) :=
  lit_sl (fun l => l.drop n) h (fun _ _ q => ⟨_, rfl, q⟩) (fun _ _ q => q) (by
    rintro ⟨q, _⟩
    rw [HT.sIx_nat] at q
    omega) (fun xs e => cut_from (by omega)) (fun ob => Obs.drop n ob) (by rw [List.length_drop]; omega)
theorem lit_slM1 {t : TE} {os : List O} {th : TO} (h : Lit K F σ t (.tup os)) (hh : ∀ H Q, Q (some (-1)) H → th σ H Q) (l0 : 0 < os.length) (b : os.length ≤ 100) : Lit K F σ (tSl (rSlT K) t tNoPart th) (.tup (os.take (os.length - 1))) :=
  lit_sl (fun l => l.take (os.length - 1)) h (fun _ _ q => q) hh (by
    rintro ⟨_, q⟩
    rw [sIx_m1 l0] at q
    omega) (fun xs e => by rw [cut_m1 (by omega), e]) (fun ob => Obs.take _ ob) (by rw [List.length_take]; omega)
theorem lit_catT {t u : TE} {os us : List O} (h1 : Lit K F σ t (.tup os)) (h2 : Lit K F σ u (.tup us)) (ne : os ≠ []) (l : (os ++ us).length ≤ 200) : Lit K F σ (tOp (rCatT K) t u) (.tup (os ++ us)) := fun F1 H Q e s k =>
  h1 F1 H _ e s fun F2 H2 v g ob1 => h2 F2 H2 _ (e.trans g.ff) g.fh fun F3 H3 w g2 ob2 => by
    obtain ⟨a, xs, rfl, ht, hos⟩ := (ob1.mono g2.ff).tup_eq
    obtain ⟨b, ys, rfl, ht2, hos2⟩ := ob2.tup_eq
    have l' := l
    rw [List.length_append] at l
    refine ⟨a, b, xs, ys, rfl, rfl, Same.sqt g2.fh ht, Same.sqt g2.fh ht2, ?_, ?_, fun z => ?_, fun _ p np => ?_⟩
    · intro z
      rw [z] at hos
      cases hos
      exact ne rfl
    · rw [hos.len, hos2.len]
      exact Nat.le_trans l (by decide)
    · rw [z] at hos2
      cases hos2
      have o1 := ob1.mono g2.ff
      refine k _ _ _ (g.trans g2) ?_
      rw [List.append_nil]
      exact o1
    · have g3 := (g.trans g2).trans (Grow.add (o := .tup (xs ++ ys)) g2.fh np)
      have sp : Same F3 (upd F3 p (.tup (xs ++ ys))) := Same.put (g2.fh.free np)
      exact k _ _ _ g3 (.tup (SqT.of upd_same) (Obs.app (hos.mono sp) (hos2.mono sp)) (Nat.lt_of_le_of_lt l' (by decide)))
theorem obs_rep {H : Hp} {vs : List V} {os : List O} (h : Obs K H vs os) : ∀ n, Obs K H (List.replicate n vs).flatten (List.replicate n os).flatten
  | 0 => .nil
  | n + 1 => by
    rw [List.replicate_succ, List.replicate_succ, List.flatten_cons, List.flatten_cons]
    exact Obs.app h (obs_rep h n)
theorem litL_rep {t : TE} {os : List O} (n : Nat) (h : LitL K F σ t os) (hn : n ≤ 1000) (l : os.length * n ≤ 1000) : LitL K F σ (tOp rRep t (tC (.int (n : Int)))) (List.replicate n os).flatten := fun F1 H Q e s k =>
  h F1 H _ e s fun F2 H2 p vs g e2 ob => by
    refine ⟨p, (n : Int), vs, rfl, rfl, g.fh _ _ e2, by omega, by omega, ?_, fun q nq => ?_⟩
    · rw [ob.len, Int.toNat_natCast]
      exact Nat.le_trans l (by decide)
    · rw [Int.toNat_natCast]
      have g3 := g.trans (Grow.add (o := .lst (List.replicate n vs).flatten) g.fh nq)
      exact k _ _ q _ g3 upd_same ((obs_rep ob n).mono (Same.put (g.fh.free nq)))
/-! lists that will be changed: not in the frozen part -/
theorem litM_lst {ts : TA} {os : List O} (hs : LitA K F σ ts os) (l : os.length ≤ 100) {F1 H : Hp} {Q : VK} (e : Same F F1) (s : Same F1 H)
    (k : ∀ F' H' p vs, Grow F1 H F' H' → F' p = none → H p = none → H' p = some (.lst vs) → Obs K F' vs os → Q (.ref p) H') : tLst ts σ H Q :=
  hs F1 H _ e s fun F2 H2 vs g obs => ⟨by rw [obs.len]; exact Nat.le_trans l (by decide), fun p np => k F2 _ p vs (g.trans (Grow.mut g.fh np)) (g.fh.free np) (g.hh.free np) upd_same obs⟩
theorem litM_cat {i : Nat} {p : Addr} {vs : List V} {os us : List O} {ts : TA} (hi : σ[i]? = some (some (.ref p))) (hs : LitA K F σ ts us) (l : us.length ≤ 100) (lo : os.length ≤ 1000) {F1 H : Hp} {Q : VK} (e : Same F F1) (s : Same F1 H) (hp : H p = some (.lst vs)) (ob : Obs K F1 vs os)
    (k : ∀ F' H' q ws, Grow F1 H F' H' → F' q = none → H q = none → H' q = some (.lst ws) → Obs K F' ws (os ++ us) → Q (.ref q) H') : tOp rCat (tVar i) (tLst ts) σ H Q :=
  ⟨_, hi, hs F1 H _ e s fun F2 H2 ws g obs => ⟨by rw [obs.len]; exact Nat.le_trans l (by decide), fun r nr => by
    have g2 := g.trans (Grow.mut (o := .lst ws) g.fh nr)
    have hp2 := g.hh _ _ hp
    refine ⟨p, r, vs, ws, rfl, rfl, by rw [upd_ne (ne_of_none hp2 nr)]; exact hp2, upd_same, ?_, fun q nq => ?_⟩
    · rw [ob.len, obs.len]
      exact Nat.le_trans (show os.length + us.length ≤ 1100 by omega) (by decide)
    · exact k F2 _ q _ (g2.trans (Grow.mut g2.fh nq)) (g2.fh.free nq) (g2.hh.free nq) upd_same (Obs.app (ob.mono g.ff) obs)⟩⟩
theorem grow_fz {a : Addr} {H F' H' : Hp} (s : Src H a) (g : Grow (Fz a H) H F' H') : Same F' (Fz a H') := fun b u q => by
  have n := g.out a fz_at s.some
  have ne : b ≠ a := fun z => by
    rw [z, n] at q
    cases q
  rw [fz_ne ne]
  exact g.fh b u q
theorem frozen_fz {a : Addr} {F H : Hp} (n : F a = none) (e : Same F H) : Same F (Fz a H) := fun b u q => by
  have ne : b ≠ a := fun z => by
    rw [z, n] at q
    cases q
  rw [fz_ne ne]
  exact e b u q
theorem Adv.keep {a : Addr} {F H H' : Hp} (ad : Adv a H H') (n : F a = none) (e : Same F H) : Same F H' := ((frozen_fz n e).trans ad.fz).trans fz_same
end
end Fc
end L2
set_option Elab.async false
set_option linter.all false
set_option maxRecDepth 100000
set_option maxHeartbeats 4000000
/-! tuple * 0 and tuple * 1. -/
namespace L2
open PySem PySem.Spec PyProof.Rows
theorem tuple_mul1 (l : Addr) (items : Array Value) (n : Nat) (dd : Option Addr) (sl : Array (Option Value)) (u : Tok) :
    Meets (Builtin.«tuple.__mul__» ⟨[.ref l, .int 1 u], []⟩) (fun _ R s => s.heap.get? l = some { cls := .type "tuple", dict := dd, data := .seq items n, slots := sl } ∧
      R (.ok (.ret (Value.ref l))) s) :=
  .of_wp fun prog w A R s h => by
    obtain ⟨hp, g, d, tk, os⟩ := s
    obtain ⟨hl, h⟩ := h
    have f1 := AutoSeq1.idx_int
    wp_walk using wpAny_loadPart' hl
    exact ⟨_, rfl, h⟩
theorem tuple_mul0 (l : Addr) (items : Array Value) (n : Nat) (dd : Option Addr) (sl : Array (Option Value)) (u : Tok) (c1 : (items.isEmpty || (0 : Int) == 1) = false) :
    Meets (Builtin.«tuple.__mul__» ⟨[.ref l, .int 0 u], []⟩) (fun _ R s => s.heap.get? l = some { cls := .type "tuple", dict := dd, data := .seq items n, slots := sl } ∧
      R (.ok (.ret (Value.ref s.heap.objs.size))) { s with heap := s.heap.push { cls := Value.type "tuple", data := Data.seq #[] }, toks := s.toks }) :=
  .of_wp fun prog w A R s h => by
    obtain ⟨hp, g, d, tk, os⟩ := s
    obtain ⟨hl, h⟩ := h
    have f1 := AutoSeq1.idx_int
    wp_walk using wpAny_loadPart' hl
    repeat (first
      | (refine wpAny_ite_false (decide_eq_false (by rw [c1]; exact Bool.false_ne_true)) ?_; wp_walk using wpAny_loadPart' hl))
    exact ⟨_, rfl, h⟩
def rRepT01 (K : PySem.W.Frag) : R2 := fun x y H Q => ∃ l k xs, x = .ref l ∧ y = .int k ∧ SqT K H l xs ∧ xs ≠ [] ∧ ((k = 1 ∧ Q (.ref l) H) ∨ (k = 0 ∧ ∀ p, H p = none → Q (.ref p) (upd H p (.tup []))))
theorem op_repT01 {X : Cx} : OpR X (binaryOp .Mult) (rRepT01 X.K) := by
  intro pins s σ H x y v u Q I rx ry h
  obtain ⟨l, k, xs, rfl, rfl, hT, hne, h⟩ := h
  cases rx
  obtain ⟨t, rfl⟩ := ry
  obtain ⟨its, r, ⟨⟨cls, dd, data, sl⟩, ho, hc, n, hd⟩, hs⟩ := I.tuple hT
  simp only at hc hd
  subst hc hd
  have hle : its.length = xs.length := r.length.symm
  have hn : its ≠ [] := fun e => hne (by
    rw [e] at hle
    exact List.eq_nil_of_length_eq_zero hle.symm)
  have hi : its.toArray.isEmpty = false := by
    cases its with
    | nil => exact absurd rfl hn
    | cons a b => rfl
  rcases h with ⟨rfl, q⟩ | ⟨rfl, q⟩
  · exact wpAny_binaryOp_repeat_ref (T := "tuple") (U := "int") (by decide) ⟨_, ho, rfl⟩ (fun s' => typeIs_int s' 1 t) noFill_tuple_mul F.fills_int_mul F.slot_int_rmul repeat_tuple F.slot_int_index.lookup
      (call_meets F.slot_int_rmul (typeIs_int s 1 t) F.entry_int_rmul (F.args_int_rmul_2 _ _) (int_rmul_tuple 1 t l its.toArray n dd sl)
        ⟨ho, rfl, ⟨_, ho, rfl⟩, call_meets F.slot_tuple_mul ⟨_, ho, rfl⟩ F.entry_tuple_mul (F.args_tuple_mul_2 _ _) (tuple_mul1 l its.toArray n dd sl t) ⟨ho, ⟨.ref l, H, I, rfl, q⟩⟩⟩)
  · have c1 : (its.toArray.isEmpty || (0 : Int) == 1) = false := by
      rw [hi]
      rfl
    refine wpAny_binaryOp_repeat_ref (T := "tuple") (U := "int") (by decide) ⟨_, ho, rfl⟩ (fun s' => typeIs_int s' 0 t) noFill_tuple_mul F.fills_int_mul F.slot_int_rmul repeat_tuple F.slot_int_index.lookup
      (call_meets F.slot_int_rmul (typeIs_int s 0 t) F.entry_int_rmul (F.args_int_rmul_2 _ _) (int_rmul_tuple 0 t l its.toArray n dd sl)
        ⟨ho, rfl, ⟨_, ho, rfl⟩, call_meets F.slot_tuple_mul ⟨_, ho, rfl⟩ F.entry_tuple_mul (F.args_tuple_mul_2 _ _) (tuple_mul0 l its.toArray n dd sl t c1) ⟨ho, ?_⟩⟩)
    refine ⟨.ref s.heap.objs.size, _, I.laid (t' := s.toks) (o := .tup []) (fun b ob q => Heap.get?_push_of_some _ q) (Nat.le_refl _) ?_, rfl, q _ (I.hok.fresh (Nat.le_refl _))⟩
    exact ⟨Nat.zero_le _, [], .nil, IsTup.new _ _⟩
namespace Fc
theorem lit_repT {K : PySem.W.Frag} {F : Hp} {σ : St} {t te : TE} {o : O} (m : Nat) (h : Lit K F σ t (.tup [o])) (hm : ∀ F1 H Q, Same F F1 → Same F1 H → Q (.int (m : Nat)) H → te σ H Q) (l : m ≤ 100) :
    Lit K F σ (tOp (fun x y H Q => rRepT01 K x y H Q ∨ rRepT K x y H Q) t te) (.tup (List.replicate m o)) := fun F1 H Q e s k => h F1 H _ e s fun F2 H2 v g ob => hm F2 H2 _ (e.trans g.ff) g.fh (by
  obtain ⟨a, xs, rfl, ht, hos⟩ := ob.tup_eq
  have ne : xs ≠ [] := fun z => by
    rw [z] at hos
    cases hos
  match m, l with
  | 0, _ =>
    refine .inl ⟨a, 0, xs, rfl, rfl, Same.sqt g.fh ht, ne, .inr ⟨rfl, fun p np => ?_⟩⟩
    exact k _ _ _ (g.trans (Grow.add (o := .tup []) g.fh np)) (.tup (SqT.of upd_same) .nil (show 0 < 20000 by decide))
  | 1, _ => exact .inl ⟨a, 1, xs, rfl, rfl, Same.sqt g.fh ht, ne, .inl ⟨rfl, k _ _ _ g ob⟩⟩
  | m + 2, l =>
    have lx : xs.length = 1 := hos.len
    refine .inr ⟨a, ((m + 2 : Nat) : Int), xs, rfl, rfl, Same.sqt g.fh ht, ne, by omega, by omega, by omega, fun p np => ?_⟩
    rw [Int.toNat_natCast]
    have e2 : (List.replicate (m + 2) [o]).flatten = List.replicate (m + 2) o := List.flatten_replicate_singleton
    have ob2 := obs_rep hos (m + 2)
    rw [e2] at ob2
    exact k _ _ _ (g.trans (Grow.add (o := .tup (List.replicate (m + 2) xs).flatten) g.fh np)) (.tup (SqT.of upd_same) (ob2.mono (Same.put (g.fh.free np))) (by rw [List.length_replicate]; omega)))
end Fc
end L2
set_option Elab.async false
set_option linter.all false
set_option maxRecDepth 100000
set_option maxHeartbeats 4000000
namespace L2
namespace N3
open PySem PySem.Spec PyProof.Rows Fc
def top (i : Nat) : Stmt := PySem.Challenge.pw_finallycopies_k03_invalid_statements.main.body.getD i (.Pass ⟨0, 0, 0, 0⟩)
/-- addresses of the top's own things -/
structure Cs where
  (aNAMED aJUMPS aPAIRS aPLACELESS aSIZES cCopyError cInvalidCode cInvalidNumber cLimitExceeded cCode iInvalidCode iInvalidNumber iLimitExceeded : Addr)
structure Txt (K : PySem.W.Frag) (mg : Str → Option Value) (w : World) (c : Cs) : Prop where
  n_len : mg "len" = none
  n_int : mg "int" = none
  n_bool : mg "bool" = none
  n_str : mg "str" = none
  n_tuple : mg "tuple" = none
  n_list : mg "list" = none
  n_all : mg "all" = none
  n_range : mg "range" = none
  n_reversed : mg "reversed" = none
  n_isinstance : mg "isinstance" = none
  n_enumerate : mg "enumerate" = none
  n_min : mg "min" = none
  n_max : mg "max" = none
  n_sorted : mg "sorted" = none
  n_sum : mg "sum" = none
  n_dict : mg "dict" = none
  n_zip : mg "zip" = none
  n_any : mg "any" = none
  n_repr : mg "repr" = none
  n_set : mg "set" = none
  g_MOST_STATEMENTS : ∃ u, mg "MOST_STATEMENTS" = some u ∧ RelV (.int 400) u
  g_MOST_LEVELS : ∃ u, mg "MOST_LEVELS" = some u ∧ RelV (.int 100) u
  g_MOST_BLOCKS : ∃ u, mg "MOST_BLOCKS" = some u ∧ RelV (.int 25) u
  g_LONGEST_NAME : ∃ u, mg "LONGEST_NAME" = some u ∧ RelV (.int 8) u
  g_NAMED : ∃ u, mg "NAMED" = some u ∧ RelV (.ref c.aNAMED) u
  g_JUMPS : ∃ u, mg "JUMPS" = some u ∧ RelV (.ref c.aJUMPS) u
  g_PAIRS : ∃ u, mg "PAIRS" = some u ∧ RelV (.ref c.aPAIRS) u
  g_PLACELESS : ∃ u, mg "PLACELESS" = some u ∧ RelV (.ref c.aPLACELESS) u
  g_SIZES : ∃ u, mg "SIZES" = some u ∧ RelV (.ref c.aSIZES) u
  g_CopyError : mg "CopyError" = some (.ref c.cCopyError)
  g_InvalidCode : mg "InvalidCode" = some (.ref c.cInvalidCode)
  g_InvalidNumber : mg "InvalidNumber" = some (.ref c.cInvalidNumber)
  g_LimitExceeded : mg "LimitExceeded" = some (.ref c.cLimitExceeded)
  g_Code : mg "Code" = some (.ref c.cCode)
  ar_InvalidCode : ArC K c.cInvalidCode c.iInvalidCode "number"
  ar_InvalidNumber : ArC K c.cInvalidNumber c.iInvalidNumber "number"
  ar_LimitExceeded : ArC K c.cLimitExceeded c.iLimitExceeded "limit"
  x_InvalidCode_InvalidCode : PySem.W.exmOne K (.ref c.cInvalidCode) (.ref c.cInvalidCode) = some true
  x_InvalidCode_InvalidNumber : PySem.W.exmOne K (.ref c.cInvalidCode) (.ref c.cInvalidNumber) = some false
  x_InvalidCode_LimitExceeded : PySem.W.exmOne K (.ref c.cInvalidCode) (.ref c.cLimitExceeded) = some false
  x_InvalidCode_CopyError : PySem.W.exmOne K (.ref c.cInvalidCode) (.ref c.cCopyError) = some true
  x_InvalidNumber_InvalidCode : PySem.W.exmOne K (.ref c.cInvalidNumber) (.ref c.cInvalidCode) = some false
  x_InvalidNumber_InvalidNumber : PySem.W.exmOne K (.ref c.cInvalidNumber) (.ref c.cInvalidNumber) = some true
  x_InvalidNumber_LimitExceeded : PySem.W.exmOne K (.ref c.cInvalidNumber) (.ref c.cLimitExceeded) = some false
  x_InvalidNumber_CopyError : PySem.W.exmOne K (.ref c.cInvalidNumber) (.ref c.cCopyError) = some true
  x_LimitExceeded_InvalidCode : PySem.W.exmOne K (.ref c.cLimitExceeded) (.ref c.cInvalidCode) = some false
  x_LimitExceeded_InvalidNumber : PySem.W.exmOne K (.ref c.cLimitExceeded) (.ref c.cInvalidNumber) = some false
  x_LimitExceeded_LimitExceeded : PySem.W.exmOne K (.ref c.cLimitExceeded) (.ref c.cLimitExceeded) = some true
  x_LimitExceeded_CopyError : PySem.W.exmOne K (.ref c.cLimitExceeded) (.ref c.cCopyError) = some true
  cl_Code : Cls K c.cCode
  a_Code_statements : NoAttr K c.cCode "_statements"
  a_Code_heads : NoAttr K c.cCode "_heads"
  a_Code_parents : NoAttr K c.cCode "_parents"
  a_Code_parts : NoAttr K c.cCode "_parts"
  a_Code_siblings : NoAttr K c.cCode "_siblings"
  a_Code_layers : NoAttr K c.cCode "_layers"
  kd : ∃ es n, KDict K w c.aSIZES es n
  szs : ∀ z, ∃ r, PySem.W.nsIn K c.aSIZES z = some r ∧ RelO ((szOf z).map fun n => V.int (n : Nat)) r
  t_NAMED : ∀ H, SqT K H c.aNAMED [.str "do", .str "call", .str "if", .str "while"]
  t_JUMPS : ∀ H, SqT K H c.aJUMPS [.str "break", .str "continue"]
  t_PAIRS : ∀ H, SqT K H c.aPAIRS [.str "try", .str "final"]
  t_PLACELESS : ∀ H, SqT K H c.aPLACELESS [.str "seq", .str "try"]
section
variable {P : Program} {w : World} {K : PySem.W.Frag} {mg : Str → Option Value} {base : Heap} {c : Cs}

/-! ### the draws -/
def spDraw : Sp := fun vs H Q _ => ∃ (a : Addr) (m : Int), vs = [.ref a, .int m] ∧ Src H a ∧ 0 < m ∧ m < 1073741824 ∧
  ∀ r x y z : Int, 0 ≤ r → r < m → Q (.int r) (upd H a (.lst [.int x, .int y, .int z]))

abbrev s_draw : Stmt := top 29
theorem sc_draw : FnScope ["_law_source", "_law_many", "_law_found", "_law_mixed"] ["_law_source", "_law_many"] (defScope s_draw) := ⟨rfl, rfl, rfl, by decide +kernel, rfl, by decide +kernel, by decide +kernel⟩
theorem fmod_in {x m : Int} (h : 0 < m) : 0 ≤ x.fmod m ∧ x.fmod m < m := ⟨Int.fmod_nonneg_of_pos x h, Int.fmod_lt_of_pos x h⟩
theorem ok_draw {f : Addr} {fd : FuncData} (F : Fun K "_law_draw" "_law_draw" s_draw f fd) (T : Txt K mg w c) : FnOk P w K mg base CX0 1 f fd ["_law_source", "_law_many"] spDraw := by
  refine F.ok sc_draw (fun vs H Q E h => ?_) (fun cdv A outer s H vs Q E hr h => ?_)
  · obtain ⟨a, m, rfl, _⟩ := h
    rfl
  · obtain ⟨a, m, rfl, ⟨x, y, z, hs⟩, m0, m1, k⟩ := h
    refine ⟨_, (pss_cons (ps_if (pt_cmpR op_gt (pe_ix ix_list (pv 0) pe_int (fun _ _ => rfl)) pe_int (nomark _))
(pss_cons (ps_set (i := 2) sc_draw.nd rfl (Or.inl rfl) (pe_op op_modN (pe_callTy call_int1 (by rfl) T.n_int (by decide +kernel) (pa_cons (pe_ix ix_list (pv 0) pe_int (fun _ _ => rfl)) pa_nil)) (pv 1)))
(pss_cons (ps_asg (pe_op op_fdivN (pe_ix ix_list (pv 0) pe_int (fun _ _ => rfl)) (pv 1)) (pg_sub (pv 0) pe_int set_list))
(pss_one (ps_ret (pv 2)))))
pss_nil)
(pss_cons (ps_asg (pe_op op_add (pe_ix ix_list (pv 0) pe_int (fun _ _ => rfl)) pe_int) (pg_sub (pv 0) pe_int set_list))
(pss_cons (ps_set (i := 3) sc_draw.nd rfl (Or.inl rfl) (pe_op op_mod (pe_callTy call_int1 (by rfl) T.n_int (by decide +kernel) (pa_cons (pe_op op_mul (pe_op op_add (pe_ix ix_list (pv 0) pe_int (fun _ _ => rfl)) (pe_op op_mul pe_int (pe_ix ix_list (pv 0) pe_int (fun _ _ => rfl)))) pe_int) pa_nil)) pe_int))
(pss_cons (ps_set (i := 3) sc_draw.nd rfl (Or.inl rfl) (pe_op op_mod (pe_callTy call_int1 (by rfl) T.n_int (by decide +kernel) (pa_cons (pe_op op_mul (pv 3) (pe_op op_add (pe_op op_add (pe_op op_fdiv (pv 3) pe_int) pe_int) (pe_ix ix_list (pv 0) pe_int (fun _ _ => rfl)))) pa_nil)) pe_int))
(pss_one (ps_ret (pe_op op_modN (pe_callTy call_int1 (by rfl) T.n_int (by decide +kernel) (pa_cons (pe_op op_fdiv (pe_op op_mod (pe_callTy call_int1 (by rfl) T.n_int (by decide +kernel) (pa_cons (pe_op op_mul (pv 3) (pe_op op_add (pe_op op_fdiv (pv 3) pe_int) pe_int)) pa_nil)) pe_int) pe_int) pa_nil)) (pv 1)))))))), ?_⟩
    -- if _law_source[0] > 0
    refine ⟨_, rfl, a, _, _, _, rfl, rfl, SqL.of hs, at_of rfl rfl, _, _, rfl, rfl, _, rfl, ?_⟩
    refine ite2 (fun _ => ?_) (fun _ => ?_)
    · refine ⟨_, rfl, a, _, _, _, rfl, rfl, SqL.of hs, at_of rfl rfl, .inl ⟨_, rfl, ?_⟩⟩
      refine ⟨_, rfl, _, _, rfl, rfl, by omega, ?_⟩
      refine ⟨_, rfl, a, _, _, _, rfl, rfl, SqL.of hs, at_of rfl rfl, _, rfl, _, _, rfl, rfl, ⟨by omega, by omega⟩, ?_⟩
      refine ⟨_, rfl, a, _, _, 0, rfl, rfl, hs, rfl, ?_⟩
      refine ⟨_, rfl, ?_⟩
      exact k _ _ _ _ (fmod_in m0).1 (fmod_in m0).2
    · refine ⟨_, rfl, a, _, _, _, rfl, rfl, SqL.of hs, at_of rfl rfl, _, _, rfl, rfl, ?_⟩
      refine ⟨_, rfl, a, _, _, 2, rfl, rfl, hs, rfl, ?_⟩
      have hs1 : upd H a (.lst [.int x, .int y, .int (z + 1)]) a = some (.lst [.int x, .int y, .int (z + 1)]) := upd_same
      refine ⟨_, rfl, a, _, _, _, rfl, rfl, SqL.of hs1, at_of rfl rfl, _, rfl, a, _, _, _, rfl, rfl, SqL.of hs1, at_of rfl rfl, 8191, z + 1, rfl, rfl, .inl ⟨by decide, by decide⟩, ?_⟩
      refine ⟨y, 8191 * (z + 1), rfl, rfl, y + 8191 * (z + 1), 48271, rfl, rfl, .inr ⟨by decide, by decide⟩, .inl ⟨_, rfl, ?_⟩⟩
      refine ⟨_, 2147483647, rfl, rfl, (by show (0 : Int) < 2147483647; decide), ?_⟩
      have b1 : -(2 ^ 64) < (y + 8191 * (z + 1)) * 48271 % 2147483647 ∧ (y + 8191 * (z + 1)) * 48271 % 2147483647 < 2 ^ 64 := by omega
      refine ⟨_, rfl, _, rfl, _, 1021, rfl, rfl, ⟨by decide, by decide⟩, _, 69621, rfl, rfl, _, rfl, a, _, _, _, rfl, rfl, SqL.of hs1, at_of rfl rfl, _, z + 1, rfl, rfl, ?_⟩
      refine ⟨_, _, rfl, rfl, .inl b1, .inl ⟨_, rfl, ?_⟩⟩
      refine ⟨_, 2147483587, rfl, rfl, (by show (0 : Int) < 2147483587; decide), ?_⟩
      refine ⟨_, rfl, _, rfl, _, 2011, rfl, rfl, ⟨by decide, by decide⟩, _, 40692, rfl, rfl, ?_⟩
      refine ⟨_, _, rfl, rfl, .inl ⟨?_, ?_⟩, .inl ⟨_, rfl, ?_⟩⟩
      · have q := fun u : Int => Int.emod_nonneg u (b := 2147483587) (by decide)
        exact Int.lt_of_lt_of_le (by decide) (q _)
      · have q := fun u : Int => Int.emod_lt_of_pos u (b := 2147483587) (by decide)
        exact Int.lt_trans (q _) (by decide)
      refine ⟨_, 2147483549, rfl, rfl, (by show (0 : Int) < 2147483549; decide), ?_⟩
      refine ⟨_, 13, rfl, rfl, ⟨by decide, by decide⟩, .inl ⟨_, rfl, ?_⟩⟩
      refine ⟨_, rfl, _, m, rfl, rfl, by omega, ?_⟩
      exact k _ _ _ _ (fmod_in m0).1 (fmod_in m0).2
end
end N3
end L2
set_option Elab.async false
set_option linter.all false
set_option maxRecDepth 100000
set_option maxHeartbeats 4000000
namespace L2
namespace N3
open PySem PySem.Spec PyProof.Rows Fc C8
section
variable {P : Program} {w : World} {K : PySem.W.Frag} {mg : Str → Option Value} {base : Heap} {c : Cs}

/-! ### is_integer -/
def spIsInt (K : PySem.W.Frag) : Sp := fun vs H Q _ => ∃ (v : V) (o : O), vs = [v] ∧ Ob K H v o ∧ Q (.bl o.isInt) H
abbrev s_is_integer : Stmt := top 7
theorem sc_is_integer : FnScope ["value"] ["value"] (defScope s_is_integer) := ⟨rfl, rfl, rfl, by decide +kernel, rfl, by decide +kernel, by decide +kernel⟩
theorem ok_is_integer {f : Addr} {fd : FuncData} (F : Fun K "is_integer" "is_integer" s_is_integer f fd) (T : Txt K mg w c) : FnOk P w K mg base CX0 1 f fd ["value"] (spIsInt K) := by
  refine F.ok sc_is_integer (fun vs H Q E h => ?_) (fun cdv A outer s H vs Q E hr h => ?_)
  · obtain ⟨v, o, rfl, _⟩ := h
    rfl
  · obtain ⟨v, o, rfl, ho, k⟩ := h
    refine ⟨_, (pss_one (ps_ret (pe_and (pe_callB call_isi (by rfl) T.n_isinstance (by decide +kernel) (pa_cons (pv 0) (pa_cons (pe_bltn (v := .ty "int") rfl T.n_int (by decide +kernel) rfl) pa_nil))) (pe_one (pe_not (pe_callB call_isi (by rfl) T.n_isinstance (by decide +kernel) (pa_cons (pv 0) (pa_cons (pe_bltn (v := .ty "bool") rfl T.n_bool (by decide +kernel) rfl) pa_nil)))))))), ?_⟩
    rw [← is_int] at k
    refine ⟨_, rfl, v, _, _, _, _, rfl, .ty _, ho.tyx, kit_ty (kb_int o), _, rfl, ?_⟩
    cases e : o.is "int" with
    | true =>
      rw [e] at k
      exact iteT ⟨_, rfl, v, _, _, _, _, rfl, .ty _, ho.tyx, kit_ty (kb_bool o), _, rfl, k⟩
    | false =>
      rw [e] at k
      exact iteF k

/-! ### is_name -/
def spIsName (K : PySem.W.Frag) : Sp := fun vs H Q _ => ∃ (v : V) (o : O), vs = [v] ∧ Ob K H v o ∧ ∀ H', Same H H' → Q (.bl o.isName) H'
abbrev s_is_name : Stmt := top 18
theorem sc_is_name : FnScope ["value", "letter"] ["value"] (defScope s_is_name) := ⟨rfl, rfl, rfl, by decide +kernel, rfl, by decide +kernel, by decide +kernel⟩
theorem lt1 (a b : Nat) : decide (([a] : List Nat) < [b]) = decide (a < b) := by
  by_cases h : a < b
  · rw [decide_eq_true h]
    exact decide_eq_true (List.Lex.rel h)
  · rw [decide_eq_false h]
    refine decide_eq_false fun q => ?_
    cases q with
    | rel q => exact h q
    | cons q => cases q
def low (ch : Nat) : Bool := decide (97 ≤ ch) && decide (ch ≤ 122)
theorem ok_is_name {f : Addr} {fd : FuncData} (F : Fun K "is_name" "is_name" s_is_name f fd) (T : Txt K mg w c) : FnOk P w K mg base CX0 1 f fd ["value"] (spIsName K) := by
  refine F.ok sc_is_name (fun vs H Q E h => ?_) (fun cdv A outer s H vs Q E hr h => ?_)
  · obtain ⟨v, o, rfl, _⟩ := h
    rfl
  · obtain ⟨v, o, rfl, ho, k⟩ := h
    refine ⟨_, (pss_cons (ps_if (PW.pt (pw_or (pt_not (pt_val (pe_callB call_isi (by rfl) T.n_isinstance (by decide +kernel) (pa_cons (pv 0) (pa_cons (pe_bltn (v := .ty "str") rfl T.n_str (by decide +kernel) rfl) pa_nil))))) (pw_or1 (pt_not (pt_chain op_le op_le pe_int (pe_callB call_len (by rfl) T.n_len (by decide +kernel) (pa_cons (pv 0) pa_nil)) (pe_gc rfl T.g_LONGEST_NAME))))))
(pss_one (ps_ret pe_bl))
pss_nil)
(pss_one (ps_ret (pe_callB (cr_all rfl) (by rfl) T.n_all (by decide +kernel) (pa_cons (pe_lc (own := [("letter", 1)]) rfl sc_is_name.nd (pi_str (pv 0)) (blkOk_by (N := ["value", "letter"]) (sc := defScope s_is_name) (by decide +kernel)) (fun _ _ _ _ _ => pg_name (i := 1) sc_is_name.nd rfl (Or.inl rfl)) (fun _ _ _ _ _ => pts_nil) (fun _ _ _ _ _ => (pe_chain op_le_str op_le_str pe_str (pv 1) pe_str))) pa_nil))))), ?_⟩
    refine ⟨_, rfl, v, _, _, _, _, rfl, .ty _, ho.tyx, kit_ty (kb_str o), _, rfl, ?_⟩
    rw [is_str]
    cases o with
    | str x =>
      obtain rfl := ho.str_eq
      refine iteF ?_
      refine ⟨_, rfl, _, x.length, rfl, ho.lenv, 1, _, rfl, rfl, _, rfl, ?_⟩
      refine ite2 (fun h1 => ?_) (fun h1 => ?_)
      · have g1 : (1 : Int) ≤ (x.length : Nat) := of_decide_eq_true h1
        refine ⟨_, 8, rfl, rfl, _, rfl, ?_⟩
        by_cases h2 : ((x.length : Nat) : Int) ≤ 8
        · rw [decide_eq_true h2]
          refine iteF ?_
          refine ⟨_, rfl, x, rfl, fun D hD => ?_⟩
          have hz : x.cps.size = x.length := rfl
          refine lc_it (n := x.cps.size) (fun i H' => Same H H' ∧ H' D = some (.lst (((x.cps.toList.take i).map low).map V.bl))) ⟨Same.put hD, upd_same⟩ (fun i H' hi _ => hi) (fun H' _ => Nat.le_refl _) ?_ ?_
          · rintro i v H1 H1' hi ⟨s1, e1⟩ ⟨rfl, ch, hc, rfl⟩
            have hn : (x.cps.toList.take (i + 1)).map low = (x.cps.toList.take i).map low ++ [low ch] := by
              have q : x.cps.toList[i]? = some ch := by rw [Array.getElem?_toList]; exact hc
              rw [List.take_add_one, q, List.map_append]
              rfl
            have fin : ∀ b : Bool, b = low ch → (∃ acc, H1' D = some (.lst acc) ∧ acc.length < sizeLine ∧ (Same H (upd H1' D (.lst (acc ++ [V.bl b]))) ∧ (upd H1' D (.lst (acc ++ [V.bl b]))) D = some (.lst (((x.cps.toList.take (i + 1)).map low).map V.bl)))) := by
              intro b hb
              refine ⟨_, e1, ?_, Same.chg s1 hD, ?_⟩
              · rw [List.length_map, List.length_map, List.length_take]
                exact small1000 (by omega)
              · rw [upd_same, hn, List.map_append, hb]
                rfl
            refine ⟨rfl, ?_⟩
            refine ⟨_, rfl, _, _, rfl, rfl, _, rfl, ?_⟩
            have ea : (!decide ((⟨#[ch]⟩ : Str).cps.toList < ("a" : Str).cps.toList)) = decide (97 ≤ ch) := by
              show (!decide (([ch] : List Nat) < [97])) = _
              rw [lt1]
              by_cases q : ch < 97
              · rw [decide_eq_true q, decide_eq_false (by omega)]; rfl
              · rw [decide_eq_false q, decide_eq_true (by omega)]; rfl
            have ez : (!decide (("z" : Str).cps.toList < (⟨#[ch]⟩ : Str).cps.toList)) = decide (ch ≤ 122) := by
              show (!decide (([122] : List Nat) < [ch])) = _
              rw [lt1]
              by_cases q : 122 < ch
              · rw [decide_eq_true q, decide_eq_false (by omega)]; rfl
              · rw [decide_eq_false q, decide_eq_true (by omega)]; rfl
            rw [ea]
            cases hA : decide (97 ≤ ch) with
            | false => exact iteF (fin false (by unfold low; rw [hA]; rfl))
            | true =>
              refine iteT ⟨_, _, rfl, rfl, ?_⟩
              rw [ez]
              exact fin _ (by unfold low; rw [hA]; rfl)
          · rintro H1 ⟨s1, e1⟩
            have e2 : (x.cps.toList.take x.cps.size).map low = x.cps.toList.map low := by
              rw [List.take_of_length_le (by rw [Array.length_toList]; exact Nat.le_refl _)]
            rw [e2] at e1
            refine ⟨D, _, rfl, SqL.of e1, ?_⟩
            have e3 : (x.cps.toList.map low).all id = O.isName (.str x) := by
              show _ = nameOk x
              unfold nameOk
              rw [decide_eq_true (by omega : 1 ≤ x.length), decide_eq_true (by omega : x.length ≤ 8), List.all_map]
              rfl
            rw [e3]
            exact k _ s1
        · rw [decide_eq_false h2]
          refine iteT ?_
          have e : O.isName (.str x) = false := by
            show nameOk x = false
            unfold nameOk
            rw [decide_eq_false (by omega : ¬ x.length ≤ 8)]
            simp
          rw [e] at k
          exact k _ (Same.refl H)
      · refine ⟨_, rfl, iteT ?_⟩
        have g1 : ¬ (1 : Int) ≤ (x.length : Nat) := fun q => h1 (decide_eq_true q)
        have e : O.isName (.str x) = false := by
          show nameOk x = false
          unfold nameOk
          rw [decide_eq_false (by omega : ¬ 1 ≤ x.length)]
          rfl
        rw [e] at k
        exact k _ (Same.refl H)
    | _ => exact iteT (iteT (k _ (Same.refl H)))
end
end N3
end L2
set_option Elab.async false
set_option linter.all false
set_option maxRecDepth 100000
set_option maxHeartbeats 4000000
namespace L2
namespace N3
open PySem PySem.Spec PyProof.Rows Fc C8
section
variable {P : Program} {w : World} {K : PySem.W.Frag} {mg : Str → Option Value} {base : Heap} {c : Cs}

/-! ### has_kind -/
def spHasKind (K : PySem.W.Frag) : Sp := fun vs H Q _ => ∃ (v : V) (o : O), vs = [v] ∧ Ob K H v o ∧ Q (.bl o.hasKind) H
abbrev s_has_kind : Stmt := top 19
theorem sc_has_kind : FnScope ["value", "kind"] ["value"] (defScope s_has_kind) := ⟨rfl, rfl, rfl, by decide +kernel, rfl, by decide +kernel, by decide +kernel⟩
theorem ok_has_kind {f : Addr} {fd : FuncData} (F : Fun K "has_kind" "has_kind" s_has_kind f fd) (T : Txt K mg w c) : FnOk P w K mg base CX0 1 f fd ["value"] (spHasKind K) := by
  refine F.ok sc_has_kind (fun vs H Q E h => ?_) (fun cdv A outer s H vs Q E hr h => ?_)
  · obtain ⟨v, o, rfl, _⟩ := h
    rfl
  · obtain ⟨v, o, rfl, ho, k⟩ := h
    obtain ⟨es, nS, D⟩ := T.kd
    refine ⟨_, (pss_cons (ps_if (PW.pt (pw_or (pt_not (pt_val (pe_callB call_isi (by rfl) T.n_isinstance (by decide +kernel) (pa_cons (pv 0) (pa_cons (pe_bltn (v := .ty "tuple") rfl T.n_tuple (by decide +kernel) rfl) pa_nil))))) (pw_or1 (pt_cmpR op_eq (pe_callB call_len (by rfl) T.n_len (by decide +kernel) (pa_cons (pv 0) pa_nil)) pe_int (nomark _)))))
(pss_one (ps_ret pe_bl))
pss_nil)
(pss_cons (ps_set (i := 1) sc_has_kind.nd rfl (Or.inl rfl) (pe_ix ix_tup (pv 0) pe_int (fun _ _ => rfl)))
(pss_one (ps_ret (pe_and (pe_callB call_isi (by rfl) T.n_isinstance (by decide +kernel) (pa_cons (pv 1) (pa_cons (pe_bltn (v := .ty "str") rfl T.n_str (by decide +kernel) rfl) pa_nil))) (pe_and (pe_cmpR (op_in_kd D) (pv 1) (pe_gc rfl T.g_SIZES) (by with_unfolding_all rfl)) (pe_one (pe_cmpR op_eq (pe_callB call_len (by rfl) T.n_len (by decide +kernel) (pa_cons (pv 0) pa_nil)) (pe_ix ix_kdict (pe_gc rfl T.g_SIZES) (pv 1) (fun _ _ => rfl)) (nomark _))))))))), ?_⟩
    refine ⟨_, rfl, v, _, _, _, _, rfl, .ty _, ho.tyx, kit_ty (kb_tuple o), _, rfl, ?_⟩
    rw [is_tuple]
    cases o with
    | tup os =>
      refine iteF ?_
      refine ⟨_, rfl, _, os.length, rfl, ho.lent, rfl, _, rfl, ?_⟩
      obtain ⟨a, xs, rfl, ht, hos⟩ := ho.tup_eq
      cases os with
      | nil =>
        rw [decide_eq_true (by rfl)]
        exact iteT k
      | cons o r =>
        rw [decide_eq_false (by intro q; cases q)]
        refine iteF ?_
        obtain ⟨y, hy, hyo⟩ := hos.get (i := 0) (o := o) rfl
        refine ⟨_, rfl, a, xs, 0, y, rfl, rfl, ht, at_of rfl hy, ?_⟩
        refine ⟨_, rfl, y, _, _, _, _, rfl, .ty _, hyo.tyx, kit_ty (kb_str o), _, rfl, ?_⟩
        rw [is_str]
        cases o with
        | str z =>
          obtain rfl := hyo.str_eq
          refine iteT ?_
          obtain ⟨rr, hrr, hz⟩ := T.szs z
          refine ⟨_, rfl, z, rr, rfl, rfl, hrr, _, rfl, ?_⟩
          show (if rr.isSome = true then _ else _)
          have ek : O.hasKind (.tup (.str z :: r)) = (szOf z == some (r.length + 1)) := rfl
          rw [ek] at k
          cases e : szOf z with
          | none =>
            rw [e] at hz k
            cases rr with
            | none => exact iteF k
            | some u => exact hz.elim
          | some n =>
            rw [e] at hz k
            cases rr with
            | none => exact hz.elim
            | some u =>
              refine iteT ?_
              refine ⟨_, rfl, _, r.length + 1, rfl, ho.lent, _, rfl, _, z, V.int (n : Nat), rfl, rfl, ⟨es, nS, u, D.at_, D.lit, hrr, hz⟩, rfl, ?_⟩
              have eq : decide (V.int ((r.length + 1 : Nat) : Int) = V.int ((n : Nat) : Int)) = (some n == some (r.length + 1)) := by
                by_cases q : n = r.length + 1
                · rw [q]
                  simp
                · have q1 : ¬ V.int ((r.length + 1 : Nat) : Int) = V.int ((n : Nat) : Int) := fun z => q (by
                    have z2 := V.int.inj z
                    omega)
                  rw [decide_eq_false q1]
                  simp [q]
              rw [eq]
              exact k
        | _ => exact iteF k
    | _ => exact iteT (iteT k)

/-! ### is_statement -/
def spIsStmt (K : PySem.W.Frag) : Sp := fun vs H Q _ => ∃ (v : V) (o : O) (n : Nat), vs = [v, .int n] ∧ Ob K H v o ∧ ∀ H', Same H H' → Q (.bl (o.isStmt n)) H'
abbrev s_is_statement : Stmt := top 20
theorem sc_is_statement : FnScope ["value", "whiles", "kind"] ["value", "whiles"] (defScope s_is_statement) := ⟨rfl, rfl, rfl, by decide +kernel, rfl, by decide +kernel, by decide +kernel⟩
theorem ok_is_statement {f : Addr} {fd : FuncData} (F : Fun K "is_statement" "is_statement" s_is_statement f fd) (T : Txt K mg w c)
    (c_has_kind : Cal P w K mg base 1 "has_kind" (spHasKind K) []) (c_is_name : Cal P w K mg base 1 "is_name" (spIsName K) []) (c_is_integer : Cal P w K mg base 1 "is_integer" (spIsInt K) []) :
    FnOk P w K mg base CX0 2 f fd ["value", "whiles"] (spIsStmt K) := by
  refine F.ok sc_is_statement (fun vs H Q E h => ?_) (fun cdv A outer s H vs Q E hr h => ?_)
  · obtain ⟨v, o, n, rfl, _⟩ := h
    rfl
  · obtain ⟨v, o, n, rfl, ho, k⟩ := h
    refine ⟨_, (pss_cons (ps_if (pt_not (pt_val (pe_c c_has_kind hr (by decide) rfl (pa_cons (pv 0) pa_nil))))
(pss_one (ps_ret pe_bl))
pss_nil)
(pss_cons (ps_set (i := 2) sc_is_statement.nd rfl (Or.inl rfl) (pe_ix ix_tup (pv 0) pe_int (fun _ _ => rfl)))
(pss_cons (ps_if (pt_cmpR op_in_seq (pv 2) (pe_gc rfl T.g_NAMED) (by with_unfolding_all rfl))
(pss_one (ps_ret (pe_c c_is_name hr (by decide) rfl (pa_cons (pe_ix ix_tup (pv 0) pe_int (fun _ _ => rfl)) pa_nil))))
pss_nil)
(pss_cons (ps_if (pt_cmpR op_in_seq (pv 2) (pe_gc rfl T.g_JUMPS) (by with_unfolding_all rfl))
(pss_one (ps_ret (pe_and (pe_c c_is_integer hr (by decide) rfl (pa_cons (pe_ix ix_tup (pv 0) pe_int (fun _ _ => rfl)) pa_nil)) (pe_one (pe_chain op_le op_le pe_int (pe_ix ix_tup (pv 0) pe_int (fun _ _ => rfl)) (pv 1))))))
pss_nil)
(pss_cons (ps_if (pt_cmpR op_eq (pv 2) pe_str (nomark _))
(pss_one (ps_ret (pe_and (pe_callB call_isi (by rfl) T.n_isinstance (by decide +kernel) (pa_cons (pe_ix ix_tup (pv 0) pe_int (fun _ _ => rfl)) (pa_cons (pe_bltn (v := .ty "tuple") rfl T.n_tuple (by decide +kernel) rfl) pa_nil))) (pe_one (pe_cmpR op_gt (pe_callB call_len (by rfl) T.n_len (by decide +kernel) (pa_cons (pe_ix ix_tup (pv 0) pe_int (fun _ _ => rfl)) pa_nil)) pe_int (nomark _))))))
pss_nil)
(pss_one (ps_ret pe_bl))))))), ?_⟩
    refine ⟨_, rfl, v, o, rfl, ho, _, rfl, ?_⟩
    cases ek : o.hasKind with
    | false =>
      have e : o.isStmt n = false := by
        unfold O.isStmt
        rw [ek]
        rfl
      rw [e] at k
      exact iteT (k _ (Same.refl H))
    | true =>
      refine iteF ?_
      obtain ⟨z, r, rfl, hsz⟩ := hasKind_of ek
      obtain ⟨a, xs, rfl, ht, hos⟩ := ho.tup_eq
      obtain ⟨y, hy, hyo⟩ := hos.get (i := 0) (o := .str z) rfl
      obtain rfl := hyo.str_eq
      have eS : O.isStmt (.tup (.str z :: r)) n = tailOk n z r := by
        unfold O.isStmt
        rw [ek]
        rfl
      rw [eS] at k
      unfold tailOk at k
      refine ⟨_, rfl, a, xs, 0, _, rfl, rfl, ht, at_of rfl hy, ?_⟩
      refine ⟨_, rfl, c.aNAMED, _, rfl, .inr (T.t_NAMED H), rfl, rfl, _, rfl, ?_⟩
      rw [inV_named]
      cases e1 : named z with
      | true =>
        rw [if_pos e1] at k
        obtain ⟨o1, r1, rfl⟩ : ∃ o1 r1, r = o1 :: r1 := by
          cases r with
          | nil => exact absurd hsz (sz_named e1)
          | cons o1 r1 => exact ⟨o1, r1, rfl⟩
        obtain ⟨y1, hy1, hyo1⟩ := hos.get (i := 1) (o := o1) rfl
        refine iteT ?_
        exact ⟨_, rfl, a, xs, 1, y1, rfl, rfl, ht, at_of rfl hy1, y1, o1, rfl, hyo1, k⟩
      | false =>
        rw [if_neg (by rw [e1]; exact Bool.false_ne_true)] at k
        refine iteF ?_
        refine ⟨_, rfl, c.aJUMPS, _, rfl, .inr (T.t_JUMPS H), rfl, rfl, _, rfl, ?_⟩
        rw [inV_jumps]
        cases e2 : jumps z with
        | true =>
          rw [if_pos e2] at k
          obtain ⟨o1, r1, rfl⟩ : ∃ o1 r1, r = o1 :: r1 := by
            cases r with
            | nil => exact absurd hsz (sz_jumps e2)
            | cons o1 r1 => exact ⟨o1, r1, rfl⟩
          obtain ⟨y1, hy1, hyo1⟩ := hos.get (i := 1) (o := o1) rfl
          refine iteT ?_
          refine ⟨_, rfl, a, xs, 1, y1, rfl, rfl, ht, at_of rfl hy1, y1, o1, rfl, hyo1, _, rfl, ?_⟩
          have k' : ∀ H', Same H H' → Q (.bl (o1.jumpOk n)) H' := k
          cases o1 with
          | int i =>
            obtain rfl := hyo1.int_eq
            refine iteT ?_
            refine ⟨_, rfl, a, xs, 1, _, rfl, rfl, ht, at_of rfl hy1, 1, i, rfl, rfl, _, rfl, ?_⟩
            have k2 : ∀ H', Same H H' → Q (.bl (decide ((1 : Int) ≤ i) && decide (i ≤ (n : Nat)))) H' := k'
            cases e3 : decide ((1 : Int) ≤ i) with
            | true =>
              rw [e3] at k2
              exact iteT ⟨_, rfl, i, n, rfl, rfl, k2 _ (Same.refl H)⟩
            | false =>
              rw [e3] at k2
              exact iteF (k2 _ (Same.refl H))
          | _ => exact iteF (k' _ (Same.refl H))
        | false =>
          rw [if_neg (by rw [e2]; exact Bool.false_ne_true)] at k
          refine iteF ?_
          refine ⟨_, rfl, rfl, _, rfl, ?_⟩
          by_cases e3 : z = "seq"
          · rw [if_pos e3] at k
            rw [decide_eq_true (by rw [e3])]
            obtain ⟨o1, r1, rfl⟩ : ∃ o1 r1, r = o1 :: r1 := by
              cases r with
              | nil => exact absurd hsz (by rw [e3]; decide)
              | cons o1 r1 => exact ⟨o1, r1, rfl⟩
            obtain ⟨y1, hy1, hyo1⟩ := hos.get (i := 1) (o := o1) rfl
            refine iteT ?_
            refine ⟨_, rfl, a, xs, 1, y1, rfl, rfl, ht, at_of rfl hy1, y1, _, _, _, _, rfl, .ty _, hyo1.tyx, kit_ty (kb_tuple o1), _, rfl, ?_⟩
            rw [is_tuple]
            have k' : ∀ H', Same H H' → Q (.bl o1.seqOk) H' := k
            cases o1 with
            | tup os =>
              refine iteT ?_
              refine ⟨_, rfl, a, xs, 1, y1, rfl, rfl, ht, at_of rfl hy1, _, os.length, rfl, hyo1.lent, _, 0, rfl, rfl, ?_⟩
              have e4 : decide ((0 : Int) < ((os.length : Nat) : Int)) = !os.isEmpty := by
                cases os with
                | nil => rfl
                | cons _ _ => exact decide_eq_true (by rw [List.length_cons]; omega)
              show Q (.bl (decide ((0 : Int) < ((os.length : Nat) : Int)))) H
              rw [e4]
              exact k' _ (Same.refl H)
            | _ => exact iteF (k' _ (Same.refl H))
          · rw [if_neg e3] at k
            rw [decide_eq_false (fun q => e3 (V.str.inj q))]
            exact iteF (k _ (Same.refl H))
end
end N3
end L2
set_option Elab.async false
set_option linter.all false
set_option maxRecDepth 100000
set_option maxHeartbeats 4000000
namespace L2
namespace N3
open PySem PySem.Spec PyProof.Rows Fc C8
section
variable {P : Program} {w : World} {K : PySem.W.Frag} {mg : Str → Option Value} {base : Heap} {c : Cs}

/-! ### judge -/
def spJudge (K : PySem.W.Frag) (c : Cs) : Sp := fun vs H Q E => ∃ (p : Addr) (s : Spot) (n : Nat), vs = [.ref p, .int n] ∧ SpotAt K H p s ∧
  (judge n s = none → ∀ H', Same H H' → Q .non H') ∧ ∀ e, judge n s = some e → ErrE c.cInvalidCode c.cLimitExceeded H E e
abbrev s_judge : Stmt := top 21
theorem sc_judge : FnScope ["spot", "number", "value", "_", "level", "whiles", "layers"] ["spot", "number"] (defScope s_judge) := ⟨rfl, rfl, rfl, by decide +kernel, rfl, by decide +kernel, by decide +kernel⟩
theorem ok_judge {f : Addr} {fd : FuncData} (F : Fun K "judge" "judge" s_judge f fd) (T : Txt K mg w c) (c_is_statement : Cal P w K mg base 2 "is_statement" (spIsStmt K) [])
    (c_LimitExceeded : ExcOk P w K mg base 1 "LimitExceeded" c.cLimitExceeded "limit") (c_InvalidCode : ExcOk P w K mg base 1 "InvalidCode" c.cInvalidCode "number") :
    FnOk P w K mg base (L2.CX P w) 3 f fd ["spot", "number"] (spJudge K c) := by
  refine F.okX sc_judge (fun vs H Q E h => ?_) (fun cdv A outer s H vs Q E hr h => ?_)
  · obtain ⟨p, s, n, rfl, _⟩ := h
    rfl
  · obtain ⟨p, s, n, rfl, ⟨v, la, ht, ho, hl⟩, kN, kE⟩ := h
    refine ⟨_, (pss_cons (ps_asg (pv 0) (pg_tup rfl (pgs_cons (pg_name (i := 2) sc_judge.nd rfl (Or.inl rfl)) (pgs_cons (pg_name (i := 3) sc_judge.nd rfl (Or.inl rfl)) (pgs_cons (pg_name (i := 4) sc_judge.nd rfl (Or.inl rfl)) (pgs_cons (pg_name (i := 5) sc_judge.nd rfl (Or.inl rfl)) (pgs_cons (pg_name (i := 6) sc_judge.nd rfl (Or.inl rfl)) pgs_nil)))))))
(pss_cons (ps_if (pt_cmpR op_ge (pv 1) (pe_gc rfl T.g_MOST_STATEMENTS) (nomark _))
(pss_one (ps_raise rfl (takes_of rfl rfl rfl rfl) (pmk_x c_LimitExceeded hr (by decide) rfl (pa_cons (pe_gc rfl T.g_MOST_STATEMENTS) pa_nil))))
pss_nil)
(pss_cons (ps_if (pt_cmpR op_gt (pv 4) (pe_gc rfl T.g_MOST_LEVELS) (nomark _))
(pss_one (ps_raise rfl (takes_of rfl rfl rfl rfl) (pmk_x c_LimitExceeded hr (by decide) rfl (pa_cons (pe_gc rfl T.g_MOST_LEVELS) pa_nil))))
pss_nil)
(pss_cons (ps_if (pt_cmpR op_gt (pe_callB call_len (by rfl) T.n_len (by decide +kernel) (pa_cons (pv 6) pa_nil)) (pe_gc rfl T.g_MOST_BLOCKS) (nomark _))
(pss_one (ps_raise rfl (takes_of rfl rfl rfl rfl) (pmk_x c_LimitExceeded hr (by decide) rfl (pa_cons (pe_gc rfl T.g_MOST_BLOCKS) pa_nil))))
pss_nil)
(pss_one (ps_if (pt_not (pt_val (pe_c c_is_statement hr (by decide) rfl (pa_cons (pv 2) (pa_cons (pv 5) pa_nil)))))
(pss_one (ps_raise rfl (takes_of rfl rfl rfl rfl) (pmk_x c_InvalidCode hr (by decide) rfl (pa_cons (pv 1) pa_nil))))
pss_nil)))))), ?_⟩
    refine ⟨_, rfl, p, _, rfl, ht, rfl, _, _, rfl, _, _, rfl, _, _, rfl, _, _, rfl, _, _, rfl, rfl, ?_⟩
    refine ⟨_, rfl, _, _, rfl, rfl, _, rfl, ?_⟩
    refine ite2 (fun h1 => ?_) (fun h1 => ?_)
    · have g : 400 ≤ n := by
        have := of_decide_eq_true h1
        omega
      have e : judge n s = some (.lim 400) := by unfold judge; rw [if_pos g]
      exact ⟨_, rfl, fun d hd => kE _ e _ d (Same.put hd) hd upd_same⟩
    have g1 : ¬ 400 ≤ n := fun q => h1 (decide_eq_true (by omega))
    refine ⟨_, rfl, _, _, rfl, rfl, _, rfl, ?_⟩
    refine ite2 (fun h2 => ?_) (fun h2 => ?_)
    · have g : 100 < s.lev := by
        have := of_decide_eq_true h2
        omega
      have e : judge n s = some (.lim 100) := by unfold judge; rw [if_neg g1, if_pos g]
      exact ⟨_, rfl, fun d hd => kE _ e _ d (Same.put hd) hd upd_same⟩
    have g2 : ¬ 100 < s.lev := fun q => h2 (decide_eq_true (by omega))
    refine ⟨_, rfl, _, s.lay.length, rfl, .inl ⟨_, SqL.of hl, by unfold intsV; rw [List.length_map]⟩, _, _, rfl, rfl, _, rfl, ?_⟩
    refine ite2 (fun h3 => ?_) (fun h3 => ?_)
    · have g : 25 < s.lay.length := by
        have := of_decide_eq_true h3
        omega
      have e : judge n s = some (.lim 25) := by unfold judge; rw [if_neg g1, if_neg g2, if_pos g]
      exact ⟨_, rfl, fun d hd => kE _ e _ d (Same.put hd) hd upd_same⟩
    have g3 : ¬ 25 < s.lay.length := fun q => h3 (decide_eq_true (by omega))
    refine ⟨_, rfl, _, rfl, v, s.o, s.wh, rfl, ho, fun H' s1 => ⟨_, rfl, ?_⟩⟩
    cases h4 : s.o.isStmt s.wh with
    | true =>
      have e : judge n s = none := by unfold judge; rw [if_neg g1, if_neg g2, if_neg g3, if_pos h4]
      exact iteF (kN e _ s1)
    | false =>
      have e : judge n s = some (.bad n) := by unfold judge; rw [if_neg g1, if_neg g2, if_neg g3, if_neg (by rw [h4]; exact Bool.false_ne_true)]
      refine iteT ⟨_, rfl, _, rfl, fun d hd => ?_⟩
      exact kE _ e _ d (Same.new s1 hd) (s1.free hd) upd_same

/-! ### parts_of -/
def spParts (K : PySem.W.Frag) : Sp := fun vs H Q _ => ∃ (v : V) (o : O) (wh : Nat) (F : Hp), vs = [v] ∧ Same F H ∧ Ob K F v o ∧ o.isStmt wh = true ∧
  ∀ H' p ys, Same H H' → H p = none → H' p = some (.lst ys) → Obs K F ys o.parts → Q (.ref p) H'
abbrev s_parts_of : Stmt := top 23
theorem sc_parts_of : FnScope ["statement", "kind"] ["statement"] (defScope s_parts_of) := ⟨rfl, rfl, rfl, by decide +kernel, rfl, by decide +kernel, by decide +kernel⟩
theorem cut1 (xs : List V) (n : Nat) : cutV xs (some (n : Int)) none = xs.drop n := by
  unfold cutV
  rw [HT.sIx_nat, HT.sIx_none]
  rcases Nat.le_total n xs.length with h | h
  · rw [Nat.min_eq_left h]
    exact List.take_of_length_le (by rw [List.length_drop]; exact Nat.le_refl _)
  · rw [Nat.min_eq_right h, List.drop_eq_nil_of_le h, List.drop_eq_nil_of_le (Nat.le_refl _)]
    simp
theorem cut_part {xs : List V} {n : Nat} (hn : 0 < n) (hx : 0 < xs.length) {Z : Prop} : ¬ (HT.sIx xs.length 0 (some (n : Int)) = 0 ∧ Z) := by
  rintro ⟨q, _⟩
  rw [HT.sIx_nat] at q
  omega
theorem ok_parts_of {f : Addr} {fd : FuncData} (F : Fun K "parts_of" "parts_of" s_parts_of f fd) (T : Txt K mg w c) : FnOk P w K mg base CX0 1 f fd ["statement"] (spParts K) := by
  refine F.ok sc_parts_of (fun vs H Q E h => ?_) (fun cdv A outer s H vs Q E hr h => ?_)
  · obtain ⟨v, o, wh, F, rfl, _⟩ := h
    rfl
  · obtain ⟨v, o, wh, F, rfl, sF, ho, hst, k⟩ := h
    refine ⟨_, (pss_cons (ps_set (i := 1) sc_parts_of.nd rfl (Or.inl rfl) (pe_ix ix_tup (pv 0) pe_int (fun _ _ => rfl)))
(pss_cons (ps_if (pt_cmpR op_eq (pv 1) pe_str (nomark _))
(pss_one (ps_ret (pe_callTy call_list_of (by rfl) T.n_list (by decide +kernel) (pa_cons (pe_ix ix_tup (pv 0) pe_int (fun _ _ => rfl)) pa_nil))))
pss_nil)
(pss_cons (ps_if (pt_cmpR op_in_seq (pv 1) (pe_gc rfl T.g_PAIRS) (by with_unfolding_all rfl))
(pss_one (ps_ret (pe_callTy call_list_of (by rfl) T.n_list (by decide +kernel) (pa_cons (pe_slice sl_tup (pv 0) (po_some pe_int) po_none) pa_nil))))
pss_nil)
(pss_one (ps_ret (pe_callTy call_list_of (by rfl) T.n_list (by decide +kernel) (pa_cons (pe_slice sl_tup (pv 0) (po_some pe_int) po_none) pa_nil))))))), ?_⟩
    have hk : o.hasKind = true := by
      unfold O.isStmt at hst
      exact (Bool.and_eq_true_iff.mp hst).1
    obtain ⟨z, r, rfl, hsz⟩ := hasKind_of hk
    obtain ⟨a, xs, rfl, htF, hos⟩ := ho.tup_eq
    have ht : SqT K H a xs := Same.sqt sF htF
    obtain ⟨y, hy, hyo⟩ := hos.get (i := 0) (o := .str z) rfl
    obtain rfl := hyo.str_eq
    refine ⟨_, rfl, a, xs, 0, _, rfl, rfl, ht, at_of rfl hy, ?_⟩
    refine ⟨_, rfl, rfl, _, rfl, ?_⟩
    have hx : 0 < xs.length := (List.getElem?_eq_some_iff.mp hy).1
    have tail : O.isStmt (.tup (.str z :: r)) wh = tailOk wh z r := by
      unfold O.isStmt
      rw [hk]
      rfl
    rw [tail] at hst
    by_cases e3 : z = "seq"
    · rw [decide_eq_true (by rw [e3])]
      refine iteT ?_
      obtain ⟨o1, r1, rfl⟩ : ∃ o1 r1, r = o1 :: r1 := by
        cases r with
        | nil => exact absurd hsz (by rw [e3]; decide)
        | cons o1 r1 => exact ⟨o1, r1, rfl⟩
      obtain ⟨os, rfl⟩ : ∃ os, o1 = .tup os := by
        have q : o1.seqOk = true := by
          subst e3
          exact hst
        cases o1 with
        | tup os => exact ⟨os, rfl⟩
        | _ => cases q
      obtain ⟨y1, hy1, hyo1⟩ := hos.get (i := 1) (o := .tup os) rfl
      obtain ⟨b, ys, rfl, hb, hbs⟩ := hyo1.tup_eq
      have ep : O.parts (.tup (.str z :: .tup os :: r1)) = os := by
        subst e3
        rfl
      rw [ep] at k
      refine ⟨_, rfl, a, xs, 1, _, rfl, rfl, ht, at_of rfl hy1, b, ys, rfl, .inr (Same.sqt sF hb), fun l hl => ?_⟩
      exact k _ l ys (Same.put hl) hl upd_same hbs
    · rw [decide_eq_false (fun q => e3 (V.str.inj q))]
      refine iteF ?_
      refine ⟨_, rfl, c.aPAIRS, _, rfl, .inr (T.t_PAIRS H), rfl, rfl, _, rfl, ?_⟩
      rw [inV_pairs]
      have both : ∀ n : Nat, 0 < n → ∀ Q2 : VK, Q2 = Q → O.parts (.tup (.str z :: r)) = (O.str z :: r).drop n →
          ∀ q, H q = none → ∀ l, upd H q (.tup (cutV xs (some (n : Int)) none)) l = none → Q2 (.ref l) (upd (upd H q (.tup (cutV xs (some (n : Int)) none))) l (.lst (cutV xs (some (n : Int)) none))) := by
        intro n hn Q2 e2 ep q hq l hl
        subst e2
        rw [ep] at k
        refine k _ l _ (Same.new (Same.put hq) hl) ((Same.put hq).free hl) upd_same ?_
        rw [cut1]
        exact hos.drop n
      cases e4 : pairs z with
      | true =>
        refine iteT ⟨_, rfl, 1, rfl, a, xs, rfl, ht, cut_part (n := 1) (by decide) hx, fun q hq => ?_⟩
        refine ⟨q, _, rfl, .inr (SqT.of upd_same), fun l hl => both 1 (by decide) Q rfl ?_ q hq l hl⟩
        show (if z = "seq" then _ else if pairs z = true then r else _) = r
        rw [if_neg e3, if_pos e4]
      | false =>
        refine iteF ⟨_, rfl, 2, rfl, a, xs, rfl, ht, cut_part (n := 2) (by decide) hx, fun q hq => ?_⟩
        refine ⟨q, _, rfl, .inr (SqT.of upd_same), fun l hl => both 2 (by decide) Q rfl ?_ q hq l hl⟩
        show (if z = "seq" then _ else if pairs z = true then r else r.drop 1) = r.drop 1
        rw [if_neg e3, if_neg (by rw [e4]; exact Bool.false_ne_true)]

/-! ### head_of -/
def spHead (K : PySem.W.Frag) : Sp := fun vs H Q _ => ∃ (v : V) (o : O) (wh : Nat) (F : Hp), vs = [v] ∧ Same F H ∧ Ob K F v o ∧ o.isStmt wh = true ∧
  ∀ p ys, H p = none → Obs K F ys o.head → Q (.ref p) (upd H p (.tup ys))
abbrev s_head_of : Stmt := top 22
theorem sc_head_of : FnScope ["statement", "kind"] ["statement"] (defScope s_head_of) := ⟨rfl, rfl, rfl, by decide +kernel, rfl, by decide +kernel, by decide +kernel⟩
theorem ok_head_of {f : Addr} {fd : FuncData} (F : Fun K "head_of" "head_of" s_head_of f fd) (T : Txt K mg w c) : FnOk P w K mg base CX0 1 f fd ["statement"] (spHead K) := by
  refine F.ok sc_head_of (fun vs H Q E h => ?_) (fun cdv A outer s H vs Q E hr h => ?_)
  · obtain ⟨v, o, wh, F, rfl, _⟩ := h
    rfl
  · obtain ⟨v, o, wh, F, rfl, sF, ho, hst, k⟩ := h
    refine ⟨_, (pss_cons (ps_set (i := 1) sc_head_of.nd rfl (Or.inl rfl) (pe_ix ix_tup (pv 0) pe_int (fun _ _ => rfl)))
(pss_cons (ps_if (pt_cmpR op_eq (pv 1) pe_str (nomark _))
(pss_one (ps_ret (pe_tup (pa_cons (pv 1) (pa_cons (pe_callB call_len (by rfl) T.n_len (by decide +kernel) (pa_cons (pe_ix ix_tup (pv 0) pe_int (fun _ _ => rfl)) pa_nil)) pa_nil)))))
pss_nil)
(pss_cons (ps_if (PW.pt (pw_or (pt_cmpR op_in_seq (pv 1) (pe_gc rfl T.g_NAMED) (by with_unfolding_all rfl)) (pw_or1 (pt_cmpR op_in_seq (pv 1) (pe_gc rfl T.g_JUMPS) (by with_unfolding_all rfl)))))
(pss_one (ps_ret (pe_tup (pa_cons (pv 1) (pa_cons (pe_ix ix_tup (pv 0) pe_int (fun _ _ => rfl)) pa_nil)))))
pss_nil)
(pss_one (ps_ret (pe_tup (pa_cons (pv 1) pa_nil))))))), ?_⟩
    have hk : o.hasKind = true := by
      unfold O.isStmt at hst
      exact (Bool.and_eq_true_iff.mp hst).1
    obtain ⟨z, r, rfl, hsz⟩ := hasKind_of hk
    obtain ⟨a, xs, rfl, htF, hos⟩ := ho.tup_eq
    have ht : SqT K H a xs := Same.sqt sF htF
    obtain ⟨y, hy, hyo⟩ := hos.get (i := 0) (o := .str z) rfl
    obtain rfl := hyo.str_eq
    refine ⟨_, rfl, a, xs, 0, _, rfl, rfl, ht, at_of rfl hy, ?_⟩
    refine ⟨_, rfl, rfl, _, rfl, ?_⟩
    have tail : O.isStmt (.tup (.str z :: r)) wh = tailOk wh z r := by
      unfold O.isStmt
      rw [hk]
      rfl
    rw [tail] at hst
    by_cases e3 : z = "seq"
    · rw [decide_eq_true (by rw [e3])]
      refine iteT ?_
      obtain ⟨o1, r1, rfl⟩ : ∃ o1 r1, r = o1 :: r1 := by
        cases r with
        | nil => exact absurd hsz (by rw [e3]; decide)
        | cons o1 r1 => exact ⟨o1, r1, rfl⟩
      obtain ⟨os, rfl⟩ : ∃ os, o1 = .tup os := by
        have q : o1.seqOk = true := by
          subst e3
          exact hst
        cases o1 with
        | tup os => exact ⟨os, rfl⟩
        | _ => cases q
      obtain ⟨y1, hy1, hyo1⟩ := hos.get (i := 1) (o := .tup os) rfl
      have ep : O.head (.tup (.str z :: .tup os :: r1)) = [.str z, .int os.length] := by
        subst e3
        rfl
      rw [ep] at k
      refine ⟨_, rfl, _, rfl, a, xs, 1, _, rfl, rfl, ht, at_of rfl hy1, _, os.length, rfl, (hyo1.mono sF).lent, (by show 2 ≤ sizeLine; decide), fun l hl => ?_⟩
      exact k l _ hl (.cons hyo (.cons (.int _) .nil))
    · rw [decide_eq_false (fun q => e3 (V.str.inj q))]
      refine iteF ?_
      refine ⟨_, rfl, c.aNAMED, _, rfl, .inr (T.t_NAMED H), rfl, rfl, _, rfl, ?_⟩
      rw [inV_named]
      have two : (named z || jumps z) = true → ∃ (o1 : O) (r1 : List O) (y1 : V), r = o1 :: r1 ∧ xs[1]? = some y1 ∧ Ob K F y1 o1 ∧ O.head (.tup (.str z :: r)) = [.str z, o1] := by
        intro q
        obtain ⟨o1, r1, rfl⟩ : ∃ o1 r1, r = o1 :: r1 := by
          cases r with
          | nil =>
            rcases Bool.or_eq_true_iff.mp q with q | q
            · exact absurd hsz (sz_named q)
            · exact absurd hsz (sz_jumps q)
          | cons o1 r1 => exact ⟨o1, r1, rfl⟩
        obtain ⟨y1, hy1, hyo1⟩ := hos.get (i := 1) (o := o1) rfl
        refine ⟨o1, r1, y1, rfl, hy1, hyo1, ?_⟩
        show (if z = "seq" then _ else if (named z || jumps z) = true then [O.str z, o1] else _) = _
        rw [if_neg e3, if_pos q]
      cases e1 : named z with
      | true =>
        obtain ⟨o1, r1, y1, rfl, hy1, hyo1, ep⟩ := two (by rw [e1]; rfl)
        rw [ep] at k
        refine iteT (iteT ⟨_, rfl, _, rfl, a, xs, 1, _, rfl, rfl, ht, at_of rfl hy1, (by show 2 ≤ sizeLine; decide), fun l hl => ?_⟩)
        exact k l _ hl (.cons hyo (.cons hyo1 .nil))
      | false =>
        refine iteF ?_
        refine ⟨_, rfl, c.aJUMPS, _, rfl, .inr (T.t_JUMPS H), rfl, rfl, _, rfl, ?_⟩
        rw [inV_jumps]
        cases e2 : jumps z with
        | true =>
          obtain ⟨o1, r1, y1, rfl, hy1, hyo1, ep⟩ := two (by rw [e2, Bool.or_true])
          rw [ep] at k
          refine iteT ⟨_, rfl, _, rfl, a, xs, 1, _, rfl, rfl, ht, at_of rfl hy1, (by show 2 ≤ sizeLine; decide), fun l hl => ?_⟩
          exact k l _ hl (.cons hyo (.cons hyo1 .nil))
        | false =>
          have ep : O.head (.tup (.str z :: r)) = [.str z] := by
            show (if z = "seq" then _ else if (named z || jumps z) = true then _ else [O.str z]) = _
            rw [if_neg e3, e1, e2]
            rfl
          rw [ep] at k
          refine iteF ⟨_, rfl, (by show 1 ≤ sizeLine; decide), fun l hl => ?_⟩
          exact k l _ hl (.cons hyo .nil)
end
end N3
end L2
set_option Elab.async false
set_option linter.all false
set_option maxRecDepth 100000
set_option maxHeartbeats 4000000
namespace L2
namespace N3
open PySem PySem.Spec PyProof.Rows Fc C8
section
variable {P : Program} {w : World} {K : PySem.W.Frag} {mg : Str → Option Value} {base : Heap} {c : Cs}

/-! ### spots_inside -/
def spInside (K : PySem.W.Frag) : Sp := fun vs H Q _ => ∃ (p : Addr) (s : Spot) (n : Nat) (F : Hp), vs = [.ref p, .int n] ∧ Same F H ∧ SpotAt K F p s ∧ s.o.isStmt s.wh = true ∧ s.lay.length ≤ 900 ∧
  ∀ F' H' (l : Addr) (qs : List Addr), Grow F H F' H' → H l = none → F' l = none → H' l = some (.lst (qs.map V.ref)) → Paired (SpotAt K F') qs (inside n s) → Q (.ref l) H'
abbrev s_spots_inside : Stmt := top 24
theorem sc_spots_inside : FnScope ["spot", "number", "statement", "_", "level", "whiles", "layers", "kind", "spots", "part"] ["spot", "number"] (defScope s_spots_inside) := ⟨rfl, rfl, rfl, by decide +kernel, rfl, by decide +kernel, by decide +kernel⟩
theorem ok_spots_inside {f : Addr} {fd : FuncData} (F : Fun K "spots_inside" "spots_inside" s_spots_inside f fd) (T : Txt K mg w c) (c_parts_of : Cal P w K mg base 1 "parts_of" (spParts K) []) :
    FnOk P w K mg base CX0 2 f fd ["spot", "number"] (spInside K) := by
  refine F.ok sc_spots_inside (fun vs H Q E h => ?_) (fun cdv A outer s H vs Q E hr h => ?_)
  · obtain ⟨p, s, n, F, rfl, _⟩ := h
    rfl
  · obtain ⟨p, s, n, F, rfl, sF, ⟨v, la, ht, ho, hl⟩, hst, hlay, k⟩ := h
    refine ⟨_, (pss_cons (ps_asg (pv 0) (pg_tup rfl (pgs_cons (pg_name (i := 2) sc_spots_inside.nd rfl (Or.inl rfl)) (pgs_cons (pg_name (i := 3) sc_spots_inside.nd rfl (Or.inl rfl)) (pgs_cons (pg_name (i := 4) sc_spots_inside.nd rfl (Or.inr rfl)) (pgs_cons (pg_name (i := 5) sc_spots_inside.nd rfl (Or.inr rfl)) (pgs_cons (pg_name (i := 6) sc_spots_inside.nd rfl (Or.inr rfl)) pgs_nil)))))))
(pss_cons (ps_set (i := 7) sc_spots_inside.nd rfl (Or.inl rfl) (pe_ix ix_tup (pv 2) pe_int (fun _ _ => rfl)))
(pss_cut (ps_if (pt_cmpR op_eq (pv 7) pe_str (nomark _))
(pss_one (ps_set (i := 5) sc_spots_inside.nd rfl (Or.inr rfl) (pe_op op_add (pv 5) pe_int)))
pss_nil)
(pss_cons (ps_setLc (i := 8) (own := [("part", 9)]) rfl sc_spots_inside.nd rfl rfl (sw_true rfl rfl rfl (by decide +kernel)) (pi_list (pe_c c_parts_of hr (by decide) rfl (pa_cons (pv 2) pa_nil))) (blkOk_by (N := ["spot", "number", "statement", "_", "level", "whiles", "layers", "kind", "spots", "part"]) (sc := defScope s_spots_inside) (by decide +kernel)) (fun _ _ _ _ _ => pg_name (i := 9) sc_spots_inside.nd rfl (Or.inl rfl)) (fun _ _ _ _ _ => pts_nil) (fun _ _ _ _ _ => (pe_tup (pa_cons (pv 9) (pa_cons (pv 1) (pa_cons (pe_op op_add (pv 4) pe_int) (pa_cons (pv 5) (pa_cons (pv 6) pa_nil))))))))
(pss_cons (ps_if (pt_cmpR op_eq (pv 7) pe_str (nomark _))
(pss_one (ps_asg (pe_tup (pa_cons (pe_ix ix_tup (pv 2) pe_int (fun _ _ => rfl)) (pa_cons (pv 1) (pa_cons (pe_op op_add (pv 4) pe_int) (pa_cons (pv 5) (pa_cons (pe_op op_cat (pv 6) (pe_lst (pa_cons (pv 1) pa_nil))) pa_nil)))))) (pg_sub (pv 8) pe_int set_list)))
pss_nil)
(pss_one (ps_ret (pv 8)))))))), ?_⟩
    have hk : s.o.hasKind = true := by
      unfold O.isStmt at hst
      exact (Bool.and_eq_true_iff.mp hst).1
    obtain ⟨so, spar, slev, swh, slay⟩ := s
    obtain ⟨z, r, rfl, hsz⟩ := hasKind_of hk
    obtain ⟨a, xs, rfl, hx, hos⟩ := ho.tup_eq
    obtain ⟨y, hy, hyo⟩ := hos.get (i := 0) (o := .str z) rfl
    obtain rfl := hyo.str_eq
    refine ⟨_, rfl, p, _, rfl, Same.sqt sF ht, rfl, _, _, rfl, _, _, rfl, _, _, rfl, _, _, rfl, _, _, rfl, rfl, ?_⟩
    refine ⟨_, rfl, a, xs, 0, _, rfl, rfl, Same.sqt sF hx, at_of rfl hy, ?_⟩
    have ekind : O.kind (.tup (.str z :: r)) = z := rfl
    refine ⟨fun σ' H' => H' = H ∧ σ' = [some (.ref p), some (.int n), some (.ref a), some (optV spar), some (.int slev), some (.int ((if z = "while" then swh + 1 else swh : Nat) : Int)), some (.ref la), some (.str z), none, none], ?_, ?_⟩
    · refine ⟨_, rfl, rfl, _, rfl, ?_⟩
      refine ite2 (fun h1 => ?_) (fun h1 => ?_)
      · have e : z = "while" := V.str.inj (of_decide_eq_true h1)
        refine ⟨_, rfl, _, _, rfl, rfl, rfl, ?_⟩
        rw [if_pos e]
        rfl
      · have e : ¬ z = "while" := fun q => h1 (decide_eq_true (by rw [q]))
        refine ⟨rfl, ?_⟩
        rw [if_neg e]
        rfl
    rintro σ' H' ⟨rfl, rfl⟩
    refine ⟨_, rfl, .ref a, _, swh, F, rfl, sF, ho, hst, fun H1 b ys s1 hb e1 hys => ?_⟩
    refine ⟨b, rfl, ⟨_, SqL.of e1⟩, fun D hD => ?_⟩
    have sF1 : Same F H1 := sF.trans s1
    have grow0 : Grow F H' F H1 := ⟨s1, Same.refl F, sF1, fun _ q _ => q⟩
    have fD : F D = none := sF1.free hD
    -- the loop: what is frozen grows by the tuples
    refine lc_list (xs := ys) (fun i H2 => ∃ (F2 : Hp) (qs : List Addr), Grow F H' F2 H2 ∧ F2 D = none ∧ H2 b = some (.lst ys) ∧ H2 D = some (.lst (qs.map V.ref)) ∧
        Paired (SpotAt K F2) qs (((O.parts (.tup (.str z :: r))).take i).map (inner n ⟨.tup (.str z :: r), spar, slev, swh, slay⟩)))
      ⟨F, [], grow0.trans (Grow.mut sF1 hD), fD, by rw [upd_ne (ne_of_none e1 hD)]; exact e1, upd_same, .nil⟩ (fun i H2 _ ⟨_, _, _, _, e2, _⟩ => SqL.of e2) ?_ ?_
    · rintro i x H2 hx2 ⟨F2, qs, g2, f2, e2, eD, pq⟩
      refine ⟨rfl, ?_⟩
      refine ⟨_, rfl, _, rfl, _, rfl, _, _, rfl, rfl, _, rfl, _, rfl, (by show 5 ≤ sizeLine; decide), fun q hq => ?_⟩
      have nqD : q ≠ D := (ne_of_none eD hq).symm
      have nqb : q ≠ b := (ne_of_none e2 hq).symm
      have hlen : ys.length = (O.parts (.tup (.str z :: r))).length := hys.len
      have hi : i < ys.length := (List.getElem?_eq_some_iff.mp hx2).1
      have plen : (O.parts (.tup (.str z :: r))).length < 20000 := ho.parts_lt
      have qlen : qs.length ≤ i := by
        have e := Paired.length pq
        rw [List.length_map, List.length_take] at e
        omega
      have H0D : H' D = none := s1.free hD
      refine ⟨qs.map V.ref, by rw [upd_ne nqD.symm]; exact eD, ?_, upd F2 q (.tup [x, .int n, .int ((slev : Int) + 1), .int ((if z = "while" then swh + 1 else swh : Nat) : Int), .ref la]), qs ++ [q], ?_, ?_, ?_, ?_, ?_⟩
      · rw [List.length_map]
        exact Nat.lt_of_le_of_lt qlen (Nat.lt_trans (by omega : i < 20000) (by decide))
      · exact (g2.trans (Grow.add g2.fh hq)).chg H0D (by rw [upd_ne nqD.symm]; exact f2)
      · rw [upd_ne nqD.symm]
        exact f2
      · rw [upd_ne (ne_of_none e1 hD), upd_ne nqb.symm]
        exact e2
      · rw [upd_same, List.map_append]
        rfl
      · obtain ⟨o, ho1⟩ : ∃ o, (O.parts (.tup (.str z :: r)))[i]? = some o := ⟨_, List.getElem?_eq_getElem (by omega)⟩
        obtain ⟨x', hx', hxo⟩ := hys.get ho1
        rw [hx2] at hx'
        cases hx'
        have sq : Same F2 (upd F2 q (.tup [x, .int n, .int ((slev : Int) + 1), .int ((if z = "while" then swh + 1 else swh : Nat) : Int), .ref la])) := Same.put (g2.fh.free hq)
        rw [List.take_add_one, ho1, List.map_append]
        refine Paired.snoc ?_ (Paired.map2 (fun _ _ h => SpotAt.mono sq h) pq)
        exact ⟨x, la, SqT.of upd_same, hxo.mono (g2.ff.trans sq), g2.ff.trans sq _ _ hl⟩
    · rintro H2 ⟨F2, qs, g2, f2, e2, eD, pq⟩
      have hlen : ys.length = (O.parts (.tup (.str z :: r))).length := hys.len
      rw [hlen, List.take_of_length_le (Nat.le_refl _)] at pq
      refine ⟨_, rfl, rfl, _, rfl, ?_⟩
      have H0D : H' D = none := s1.free hD
      refine ite2 (fun h1 => ?_) (fun h1 => ?_)
      · have e : z = "final" := V.str.inj (of_decide_eq_true h1)
        obtain ⟨o1, o2, rfl⟩ : ∃ o1 o2, r = [o1, o2] := by
          rw [e] at hsz
          have q : r.length + 1 = 3 := (Option.some.inj hsz).symm
          match r, q with
          | [o1, o2], _ => exact ⟨o1, o2, rfl⟩
        have ep : O.parts (.tup [.str z, o1, o2]) = [o1, o2] := by
          subst e
          rfl
        rw [ep] at pq
        obtain ⟨y2, hy2, hyo2⟩ := hos.get (i := 2) (o := o2) rfl
        cases pq with
        | @cons q1 _ qs' _ p1 pq =>
          cases pq with
          | @cons q2 _ qs'' _ p2 pq =>
            cases pq
            have sH : Same F H2 := g2.ff.trans g2.fh
            refine ⟨_, rfl, a, xs, 2, y2, rfl, rfl, Same.sqt sH hx, at_of rfl hy2, _, rfl, _, rfl, _, _, rfl, rfl, _, rfl, _, rfl, _, rfl, (by show 1 ≤ sizeLine; decide), fun m hm => ?_⟩
            have g3 := g2.trans (Grow.mut (o := .lst [.int n]) g2.fh hm)
            have mD : D ≠ m := ne_of_none eD hm
            have mla : la ≠ m := ne_of_none (sH _ _ hl) hm
            refine ⟨la, m, _, _, rfl, rfl, by rw [upd_ne mla]; exact sH _ _ hl, upd_same, ?_, fun l hl2 => ?_⟩
            · unfold intsV
              rw [List.length_map]
              have q900 : slay.length ≤ 900 := hlay
              exact Nat.le_of_lt (small1000 (by show slay.length + 1 ≤ 1000; omega))
            have g4 := g3.trans (Grow.add (o := .lst (intsV slay ++ [.int n])) g3.fh hl2)
            have lD : D ≠ l := ne_of_none (by rw [upd_ne mD]; exact eD) hl2
            refine ⟨by show 5 ≤ sizeLine; decide, fun t ht2 => ?_⟩
            have tD : D ≠ t := ne_of_none (by rw [upd_ne lD, upd_ne mD]; exact eD) ht2
            have g5 := g4.trans (Grow.add (o := .tup [y2, .int n, .int ((slev : Int) + 1), .int ((if z = "while" then swh + 1 else swh : Nat) : Int), .ref l]) g4.fh ht2)
            have lt : l ≠ t := ne_of_none upd_same ht2
            refine ⟨_, rfl, D, _, _, 1, rfl, rfl, by rw [upd_ne tD, upd_ne lD, upd_ne mD]; exact eD, rfl, ?_⟩
            have fD5 : upd (upd F2 l (.lst (intsV slay ++ [.int n]))) t (.tup [y2, .int n, .int ((slev : Int) + 1), .int ((if z = "while" then swh + 1 else swh : Nat) : Int), .ref l]) D = none := by
              rw [upd_ne tD, upd_ne lD]
              exact f2
            have s25 : Same F2 (upd (upd F2 l (.lst (intsV slay ++ [.int n]))) t (.tup [y2, .int n, .int ((slev : Int) + 1), .int ((if z = "while" then swh + 1 else swh : Nat) : Int), .ref l])) := by
              refine Same.new (Same.put (g3.fh.free hl2)) ?_
              rw [upd_ne lt.symm]
              exact g3.fh.free (by rw [upd_ne lt.symm] at ht2; exact ht2)
            refine ⟨_, rfl, k _ _ D [q1, t] (g5.chg H0D fD5) H0D fD5 upd_same ?_⟩
            unfold inside
            have ef : O.kind (.tup [.str z, o1, o2]) = "final" := e
            show Paired _ _ (if O.kind (.tup [.str z, o1, o2]) = "final" then (match O.parts (.tup [.str z, o1, o2]) with | [u1, u2] => [inner n ⟨.tup [.str z, o1, o2], spar, slev, swh, slay⟩ u1, inBlock n ⟨.tup [.str z, o1, o2], spar, slev, swh, slay⟩ u2] | _ => []) else _)
            rw [if_pos ef, ep]
            refine .cons (SpotAt.mono s25 p1) (.cons ?_ .nil)
            refine ⟨y2, l, SqT.of upd_same, hyo2.mono (g2.ff.trans s25), ?_⟩
            rw [upd_ne lt, upd_same]
            show some (HO.lst (intsV slay ++ [V.int n])) = some (.lst (intsV (slay ++ [n])))
            unfold intsV
            rw [List.map_append]
            rfl
      · have e : ¬ z = "final" := fun q => h1 (decide_eq_true (by rw [q]))
        refine ⟨_, rfl, k F2 _ D qs g2 H0D f2 eD ?_⟩
        show Paired (SpotAt K F2) qs (if z = "final" then _ else _)
        rw [if_neg e]
        exact pq
end
end N3
end L2
set_option Elab.async false
set_option linter.all false
set_option maxRecDepth 100000
set_option maxHeartbeats 8000000
namespace L2
namespace N3
open PySem PySem.Spec PyProof.Rows Fc C8
section
variable {P : Program} {w : World} {K : PySem.W.Frag} {mg : Str → Option Value} {base : Heap} {c : Cs}

/-! ### Code._keep -/
def spKeep (K : PySem.W.Frag) (c : Cs) : Sp := fun vs H Q _ => ∃ (p q : Addr) (rows : List Spot) (s : Spot) (F R : Hp) (dx S D A B X L : Addr) (ts : List Addr),
  vs = [.ref p, .ref q, .int (rows.length : Nat)] ∧ Same F R ∧ Same R H ∧ CodeSt K c.cCode F H p dx S D A B X L ts rows ∧ Off R (own p dx S D A B X L ts) ∧ SpotAt K F q s ∧ s.o.isStmt s.wh = true ∧
  rows.length ≤ 1000 ∧ (∀ m, s.par = some m → m < rows.length) ∧ (∀ r ∈ rows, ∀ m, r.par = some m → m < rows.length) ∧
  ∀ (F' H' : Hp) (t : Addr), Same F F' → Same F' H' → Same R H' → (∀ b, F b = none → H b ≠ none → F' b = none) → H t = none → Off F' (own p dx S D A B X L (ts ++ [t])) →
    CodeSt K c.cCode F' H' p dx S D A B X L (ts ++ [t]) (rows ++ [s]) → Q .non H'
abbrev s_keep : Stmt := inClass (top 25) 1
theorem sc_keep : FnScope ["self", "spot", "number", "statement", "parent", "_", "layers"] ["self", "spot", "number"] (defScope s_keep) := ⟨rfl, rfl, rfl, by decide +kernel, rfl, by decide +kernel, by decide +kernel⟩
theorem lt_of_getLast {l : List Nat} {x : Nat} (h : l.getLast? = some x) : ∃ l', l = l' ++ [x] := by
  cases l with
  | nil => cases h
  | cons a l =>
    rw [List.getLast?_eq_some_getLast (List.cons_ne_nil a l)] at h
    refine ⟨(a :: l).dropLast, ?_⟩
    rw [← Option.some.inj h]
    exact (List.dropLast_concat_getLast _).symm
theorem set_map {l : List (Option Nat)} {j : Nat} {x : Option Nat} : (l.map optV).set j (optV x) = (l.set j x).map optV := List.map_set.symm
theorem ok_keep {f : Addr} {fd : FuncData} (Fn : Fun K "_keep" "Code._keep" s_keep f fd) (T : Txt K mg w c) (c_head_of : Cal P w K mg base 1 "head_of" (spHead K) []) :
    FnOk P w K mg base CX0 2 f fd ["self", "spot", "number"] (spKeep K c) := by
  refine Fn.ok sc_keep (fun vs H Q E h => ?_) (fun cdv A0 outer s0 H vs Q E hr h => ?_)
  · obtain ⟨p, q, rows, s, F, R, dx, S, D, A, B, X, L, ts, rfl, _⟩ := h
    rfl
  · obtain ⟨p, q, rows, s, F, R, dx, S, D, A, B, X, L, ts, rfl, sFR, sRH, cs, off, ⟨v, la, hq, ho, hla⟩, hst, hlen, hpar, hpars, k⟩ := h
    refine ⟨_, (pss_cons (ps_asg (pv 1) (pg_tup rfl (pgs_cons (pg_name (i := 3) sc_keep.nd rfl (Or.inl rfl)) (pgs_cons (pg_name (i := 4) sc_keep.nd rfl (Or.inl rfl)) (pgs_cons (pg_name (i := 5) sc_keep.nd rfl (Or.inl rfl)) (pgs_cons (pg_name (i := 5) sc_keep.nd rfl (Or.inl rfl)) (pgs_cons (pg_name (i := 6) sc_keep.nd rfl (Or.inl rfl)) pgs_nil)))))))
(pss_cons (ps_expr (pe_bm PySem.F.plainAttrs_list PySem.F.slot_list_append PySem.F.type_list_append mt_append (pe_fld (pv 0) rfl) (pa_cons (pv 3) pa_nil)))
(pss_cons (ps_expr (pe_bm PySem.F.plainAttrs_list PySem.F.slot_list_append PySem.F.type_list_append mt_append (pe_fld (pv 0) rfl) (pa_cons (pe_c c_head_of hr (by decide) rfl (pa_cons (pv 3) pa_nil)) pa_nil)))
(pss_cons (ps_expr (pe_bm PySem.F.plainAttrs_list PySem.F.slot_list_append PySem.F.type_list_append mt_append (pe_fld (pv 0) rfl) (pa_cons (pv 4) pa_nil)))
(pss_cons (ps_expr (pe_bm PySem.F.plainAttrs_list PySem.F.slot_list_append PySem.F.type_list_append mt_append (pe_fld (pv 0) rfl) (pa_cons (pe_lst pa_nil) pa_nil)))
(pss_cons (ps_expr (pe_bm PySem.F.plainAttrs_list PySem.F.slot_list_append PySem.F.type_list_append mt_append (pe_fld (pv 0) rfl) (pa_cons pe_non pa_nil)))
(pss_cons (ps_expr (pe_bm PySem.F.plainAttrs_list PySem.F.slot_list_append PySem.F.type_list_append mt_append (pe_fld (pv 0) rfl) (pa_cons (pv 6) pa_nil)))
(pss_one (ps_if (pt_cmpR op_notN (pv 4) pe_non (nomark _))
(pss_cut (ps_if (pt_truth (pe_ix ix_list (pe_fld (pv 0) rfl) (pv 4) (fun _ _ => rfl)) (by intro _; rfl))
(pss_one (ps_asg (pv 2) (pg_sub (pe_fld (pv 0) rfl) (pe_ix ix_list (pe_ix ix_list (pe_fld (pv 0) rfl) (pv 4) (fun _ _ => rfl)) (pe_un un_neg pe_int) (fun _ _ => rfl)) set_list)))
pss_nil)
(pss_one (ps_expr (pe_bm PySem.F.plainAttrs_list PySem.F.slot_list_append PySem.F.type_list_append mt_append (pe_ix ix_list (pe_fld (pv 0) rfl) (pv 4) (fun _ _ => rfl)) (pa_cons (pv 2) pa_nil)))))
pss_nil))))))))), ?_⟩
    obtain ⟨⟨vs, ds, ls, m, oS, qD, qL⟩, cl⟩ := cs
    have sFH : Same F H := sFR.trans sRH
    have lenS : vs.length = rows.length := by rw [oS.len, List.length_map]
    have lenD : ds.length = rows.length := Paired.length qD
    have lenL : ls.length = rows.length := Paired.length qL
    have lenX := sibs_len rows
    have rO : ∀ b ∈ [p, dx, S, D, A, B, X, L] ++ ts, R b = none := off
    have k0 := kids_none hpars
    refine ⟨_, rfl, q, _, rfl, Same.sqt sFH hq, rfl, _, _, rfl, _, _, rfl, _, _, rfl, _, _, rfl, _, _, rfl, rfl, ?_⟩
    -- self._statements.append(statement)
    refine ⟨_, rfl, p, c.cCode, dx, _, _, rfl, m.eP, T.cl_Code, T.a_Code_statements, cf_S, .inl ⟨rfl, _, SqL.of m.eS⟩, _, rfl, S, _, _, rfl, rfl, m.eS, small1000 (by omega), ?_⟩
    have m1 := m.setS (vs ++ [v])
    have s1 : Same R (upd H S (.lst (vs ++ [v]))) := Same.chg sRH (rO S (by simp))
    have n1 : ∀ b, upd H S (.lst (vs ++ [v])) b = none → H b = none := fun b e => (upd_none e).2
    obtain ⟨H1, e1⟩ : ∃ H1, H1 = upd H S (.lst (vs ++ [v])) := ⟨_, rfl⟩
    rw [← e1] at m1 s1 n1 ⊢
    clear e1
    -- self._heads.append(head_of(statement))
    refine ⟨_, rfl, p, c.cCode, dx, _, _, rfl, m1.eP, T.cl_Code, T.a_Code_heads, cf_D, .inl ⟨rfl, _, SqL.of m1.eD⟩, _, rfl, v, _, _, F, rfl, sFR.trans s1, ho, hst, fun h ys hh hys => ?_⟩
    have m2 := m1.same (Same.put (o := .tup ys) hh)
    have s2 : Same R (upd H1 h (.tup ys)) := Same.new s1 hh
    have n2 : ∀ b, upd H1 h (.tup ys) b = none → H b = none := fun b e => n1 b (upd_none e).2
    have hH := n1 h hh
    have eh2 : upd H1 h (.tup ys) h = some (.tup ys) := upd_same
    have ho2 : h ∉ [p, dx, S, D, A, B, X, L] ++ ts := fun z => m1.there h z hh
    obtain ⟨H2, e2⟩ : ∃ H2, H2 = upd H1 h (.tup ys) := ⟨_, rfl⟩
    rw [← e2] at m2 s2 n2 eh2 ⊢
    clear e2 m1 s1 n1
    refine ⟨D, _, _, rfl, rfl, m2.eD, small1000 (by rw [List.length_map]; omega), ?_⟩
    have m3 := m2.setD (ds.map V.ref ++ [.ref h])
    have s3 : Same R (upd H2 D (.lst (ds.map V.ref ++ [.ref h]))) := Same.chg s2 (rO D (by simp))
    have n3 : ∀ b, upd H2 D (.lst (ds.map V.ref ++ [.ref h])) b = none → H b = none := fun b e => n2 b (upd_none e).2
    have eh3 : upd H2 D (.lst (ds.map V.ref ++ [.ref h])) h = some (.tup ys) := by rw [upd_ne (fun z => ho2 (by rw [z]; simp))]; exact eh2
    obtain ⟨H3, e3⟩ : ∃ H3, H3 = upd H2 D (.lst (ds.map V.ref ++ [.ref h])) := ⟨_, rfl⟩
    rw [← e3] at m3 s3 n3 eh3 ⊢
    clear e3 m2 s2 n2 eh2
    -- self._parents.append(parent)
    refine ⟨_, rfl, p, c.cCode, dx, _, _, rfl, m3.eP, T.cl_Code, T.a_Code_parents, cf_A, .inl ⟨rfl, _, SqL.of m3.eA⟩, _, rfl, A, _, _, rfl, rfl, m3.eA, small1000 (by rw [List.length_map]; omega), ?_⟩
    have m4 := m3.setA (rows.map (fun s => optV s.par) ++ [optV s.par])
    have s4 : Same R (upd H3 A (.lst (rows.map (fun s => optV s.par) ++ [optV s.par]))) := Same.chg s3 (rO A (by simp))
    have n4 : ∀ b, upd H3 A (.lst (rows.map (fun s => optV s.par) ++ [optV s.par])) b = none → H b = none := fun b e => n3 b (upd_none e).2
    have eh4 : upd H3 A (.lst (rows.map (fun s => optV s.par) ++ [optV s.par])) h = some (.tup ys) := by rw [upd_ne (fun z => ho2 (by rw [z]; simp))]; exact eh3
    obtain ⟨H4, e4⟩ : ∃ H4, H4 = upd H3 A (.lst (rows.map (fun s => optV s.par) ++ [optV s.par])) := ⟨_, rfl⟩
    rw [← e4] at m4 s4 n4 eh4 ⊢
    clear e4 m3 s3 n3 eh3
    -- self._parts.append([])
    refine ⟨_, rfl, p, c.cCode, dx, _, _, rfl, m4.eP, T.cl_Code, T.a_Code_parts, cf_B, .inl ⟨rfl, _, SqL.of m4.eB⟩, Nat.zero_le _, fun t ht => ?_⟩
    have tO : t ∉ [p, dx, S, D, A, B, X, L] ++ ts := fun z => m4.there t z ht
    have m5 := (m4.same (Same.put (o := .lst []) ht)).more tO upd_same
    have s5 : Same R (upd H4 t (.lst [])) := Same.new s4 ht
    have n5 : ∀ b, upd H4 t (.lst []) b = none → H b = none := fun b e => n4 b (upd_none e).2
    have th : h ≠ t := ne_of_none eh4 ht
    have eh5 : upd H4 t (.lst []) h = some (.tup ys) := by rw [upd_ne th]; exact eh4
    have tH := n4 t ht
    obtain ⟨H5, e5⟩ : ∃ H5, H5 = upd H4 t (.lst []) := ⟨_, rfl⟩
    rw [← e5] at m5 s5 n5 eh5 ⊢
    clear e5 m4 s4 n4 eh4
    refine ⟨B, _, _, rfl, rfl, m5.eB, small1000 (by rw [List.length_map, cl]; omega), ?_⟩
    have m6 := m5.setB (ts.map V.ref ++ [.ref t])
    have s6 : Same R (upd H5 B (.lst (ts.map V.ref ++ [.ref t]))) := Same.chg s5 (rO B (by simp))
    have n6 : ∀ b, upd H5 B (.lst (ts.map V.ref ++ [.ref t])) b = none → H b = none := fun b e => n5 b (upd_none e).2
    have eh6 : upd H5 B (.lst (ts.map V.ref ++ [.ref t])) h = some (.tup ys) := by rw [upd_ne (fun z => ho2 (by rw [z]; simp))]; exact eh5
    obtain ⟨H6, e6⟩ : ∃ H6, H6 = upd H5 B (.lst (ts.map V.ref ++ [.ref t])) := ⟨_, rfl⟩
    rw [← e6] at m6 s6 n6 eh6 ⊢
    clear e6 m5 s5 n5 eh5
    -- self._siblings.append(None)
    refine ⟨_, rfl, p, c.cCode, dx, _, _, rfl, m6.eP, T.cl_Code, T.a_Code_siblings, cf_X, .inl ⟨rfl, _, SqL.of m6.eX⟩, X, _, _, rfl, rfl, m6.eX, small1000 (by rw [List.length_map]; omega), ?_⟩
    have m7 := m6.setX ((sibs rows).map optV ++ [.non])
    have s7 : Same R (upd H6 X (.lst ((sibs rows).map optV ++ [.non]))) := Same.chg s6 (rO X (by simp))
    have n7 : ∀ b, upd H6 X (.lst ((sibs rows).map optV ++ [.non])) b = none → H b = none := fun b e => n6 b (upd_none e).2
    have eh7 : upd H6 X (.lst ((sibs rows).map optV ++ [.non])) h = some (.tup ys) := by rw [upd_ne (fun z => ho2 (by rw [z]; simp))]; exact eh6
    obtain ⟨H7, e7⟩ : ∃ H7, H7 = upd H6 X (.lst ((sibs rows).map optV ++ [.non])) := ⟨_, rfl⟩
    rw [← e7] at m7 s7 n7 eh7 ⊢
    clear e7 m6 s6 n6 eh6
    -- self._layers.append(layers)
    refine ⟨_, rfl, p, c.cCode, dx, _, _, rfl, m7.eP, T.cl_Code, T.a_Code_layers, cf_L, .inl ⟨rfl, _, SqL.of m7.eL⟩, _, rfl, L, _, _, rfl, rfl, m7.eL, small1000 (by rw [List.length_map]; omega), ?_⟩
    have m8 := m7.setL (ls.map V.ref ++ [.ref la])
    have s8 : Same R (upd H7 L (.lst (ls.map V.ref ++ [.ref la]))) := Same.chg s7 (rO L (by simp))
    have n8 : ∀ b, upd H7 L (.lst (ls.map V.ref ++ [.ref la])) b = none → H b = none := fun b e => n7 b (upd_none e).2
    have eh8 : upd H7 L (.lst (ls.map V.ref ++ [.ref la])) h = some (.tup ys) := by rw [upd_ne (fun z => ho2 (by rw [z]; simp))]; exact eh7
    obtain ⟨H8, e8⟩ : ∃ H8, H8 = upd H7 L (.lst (ls.map V.ref ++ [.ref la])) := ⟨_, rfl⟩
    rw [← e8] at m8 s8 n8 eh8 ⊢
    clear e8 m7 s7 n7 eh7
    -- the end, from what stands then
    have hF : F h = none := Same.free sFH hH
    have tF : F t = none := Same.free sFH tH
    have sF1 : Same F (upd F h (.tup ys)) := Same.put hF
    have finish : ∀ H', Same R H' → H' h = some (.tup ys) → CM c.cCode H' p dx S D A B X L (ts ++ [t]) (vs ++ [v]) (ds.map V.ref ++ [.ref h]) (rows.map (fun s => optV s.par) ++ [optV s.par]) (ts.map V.ref ++ [.ref t]) ((sibs (rows ++ [s])).map optV) (ls.map V.ref ++ [.ref la]) (kids (rows ++ [s])) → Q .non H' := by
      intro H' r1 r2 m'
      have sFH' : Same F H' := sFR.trans r1
      refine k (upd F h (.tup ys)) H' t sF1 (Same.plus sFH' r2) r1 (fun b f n => by rw [upd_ne (fun z => n (by rw [z]; exact hH))]; exact f) tH ?_ ⟨⟨vs ++ [v], ds ++ [h], ls ++ [la], ?_, ?_, ?_, ?_⟩, ?_⟩
      · intro b hb
        have hb2 : b ≠ h ∧ F b = none := by
          rcases own_snoc hb with z | z
          · exact ⟨fun y => ho2 (y ▸ z), Same.free sFR (off b z)⟩
          · rw [z]
            exact ⟨th.symm, tF⟩
        rw [upd_ne hb2.1]
        exact hb2.2
      · simp only [List.map_append, List.map_cons, List.map_nil] at m' ⊢
        exact m'
      · rw [List.map_append]
        exact Obs.snoc (oS.mono sF1) (ho.mono sF1)
      · exact Paired.snoc ⟨ys, upd_same, hys.mono sF1⟩ (Paired.map2 (fun _ _ ⟨ys, e, o⟩ => ⟨ys, sF1 _ _ e, o.mono sF1⟩) qD)
      · exact Fc.Paired.snoc (R := fun l (s : Spot) => upd F h (.tup ys) l = some (.lst (intsV s.lay))) (sF1 _ _ hla) (Paired.map2 (fun _ _ e => sF1 _ _ e) qL)
      · rw [List.length_append, List.length_append, cl]
        rfl
    have kid : ∀ i, kids (rows ++ [s]) i = kids rows i ++ (if s.par = some i then [rows.length] else []) := fun i => kids_snoc rows s i
    cases ep : s.par with
    | none =>
      refine ⟨_, rfl, rfl, _, rfl, iteF (finish _ s8 eh8 ?_)⟩
      have esib : sibs (rows ++ [s]) = sibs rows ++ [none] := by
        rw [sibs_snoc]
        have : lastKid rows s = none := by
          unfold lastKid
          rw [ep]
        rw [this]
      rw [esib, List.map_append]
      refine m8.congr fun i hi => ?_
      rw [kid i, ep, if_neg (show ¬ (none : Option Nat) = some i by intro z; cases z), List.append_nil]
      by_cases e : i = ts.length
      · rw [if_pos e, e, cl, k0]
      · rw [if_neg e]
    | some j =>
      have hj := hpar j ep
      obtain ⟨x, hx⟩ : ∃ x, ts[j]? = some x := ⟨_, List.getElem?_eq_getElem (by rw [cl]; exact hj)⟩
      have hx' : (ts ++ [t])[j]? = some x := by
        rw [List.getElem?_append_left (by rw [cl]; exact hj)]
        exact hx
      have nj : ¬ j = ts.length := by omega
      have ex : H8 x = some (.lst (intsV (kids rows j))) := by
        have := m8.k j x hx'
        rw [if_neg nj] at this
        exact this
      have hxB : (ts.map V.ref ++ [V.ref t])[j]? = some (V.ref x) := by
        rw [List.getElem?_append_left (by rw [List.length_map, cl]; exact hj), List.getElem?_map, hx]
        rfl
      have rx : R x = none := rO x (List.mem_append_right _ (List.mem_of_getElem? hx))
      have xh : h ≠ x := fun z => ho2 (by rw [z]; exact List.mem_append_right _ (List.mem_of_getElem? hx))
      refine ⟨_, rfl, rfl, _, rfl, iteT ?_⟩
      -- if self._parts[parent]
      refine ⟨fun σ' H' => σ' = [some (.ref p), some (.ref q), some (.int (rows.length : Nat)), some v, some (.int (j : Nat)), some (.int (s.wh : Nat)), some (.ref la)] ∧ Same R H' ∧ H' h = some (.tup ys) ∧ H' x = some (.lst (intsV (kids rows j))) ∧
        CM c.cCode H' p dx S D A B X L (ts ++ [t]) (vs ++ [v]) (ds.map V.ref ++ [.ref h]) (rows.map (fun s => optV s.par) ++ [optV (some j)]) (ts.map V.ref ++ [.ref t]) ((sibs (rows ++ [s])).map optV) (ls.map V.ref ++ [.ref la]) (fun i => if i = ts.length then [] else kids rows i), ?_, ?_⟩
      · refine ⟨_, rfl, p, c.cCode, dx, _, _, rfl, m8.eP, T.cl_Code, T.a_Code_parts, cf_B, _, rfl, B, _, _, _, rfl, rfl, SqL.of m8.eB, at_of rfl hxB, ?_⟩
        cases ek : (kids rows j).getLast? with
        | none =>
          have e0 : kids rows j = [] := List.getLast?_eq_none_iff.mp ek
          rw [e0] at ex
          refine ⟨false, .inl ⟨_, SqL.of ex, by rfl⟩, iteF ⟨rfl, s8, eh8, by rw [e0]; exact ex, ?_⟩⟩
          have esib : sibs (rows ++ [s]) = sibs rows ++ [none] := by
            rw [sibs_snoc]
            have : lastKid rows s = none := by
              unfold lastKid
              rw [ep]
              exact ek
            rw [this]
          rw [esib, List.map_append]
          rw [ep] at m8
          exact m8
        | some l =>
          obtain ⟨l', el⟩ := lt_of_getLast ek
          have hl : l < rows.length := by
            have : l ∈ kids rows j := by
              rw [el]
              simp
            unfold kids at this
            obtain ⟨y, hy, hy2⟩ := List.mem_filterMap.mp this
            obtain ⟨s', i'⟩ := y
            have hi' := List.mem_zipIdx hy
            split at hy2
            · cases hy2
              have := hi'.2.1
              omega
            · cases hy2
          have exl : intsV (kids rows j) = intsV l' ++ [V.int (l : Nat)] := by
            unfold intsV
            rw [el, List.map_append]
            rfl
          refine ⟨true, .inl ⟨_, SqL.of ex, by rw [exl]; simp⟩, iteT ?_⟩
          refine ⟨_, rfl, _, rfl, p, c.cCode, dx, _, _, rfl, m8.eP, T.cl_Code, T.a_Code_siblings, cf_X, _, rfl, p, c.cCode, dx, _, _, rfl, m8.eP, T.cl_Code, T.a_Code_parts, cf_B, _, rfl, B, _, _, _, rfl, rfl, SqL.of m8.eB, at_of rfl hxB, 1, rfl, x, _, _, V.int (l : Nat), rfl, rfl, SqL.of ex, by rw [exl]; exact atI_last _ _, ?_⟩
          have lx : ((sibs rows).map optV ++ [V.non]).length = rows.length + 1 := by
            rw [List.length_append, List.length_map, lenX]
            rfl
          refine ⟨X, _, _, l, rfl, rfl, m8.eX, ?_, ?_⟩
          · unfold ixN
            rw [lx, if_pos (by omega), if_pos (by omega)]
            rfl
          have m9 := m8.setX (((sibs rows).map optV ++ [V.non]).set l (V.int (rows.length : Nat)))
          have xX : x ≠ X := fun z => m.far x (List.mem_of_getElem? hx) (by rw [z]; simp)
          refine ⟨rfl, Same.chg s8 (rO X (by simp)), by rw [upd_ne (fun z => ho2 (by rw [z]; simp))]; exact eh8, by rw [upd_ne xX]; exact ex, ?_⟩
          have esib : (sibs (rows ++ [s])).map optV = ((sibs rows).map optV ++ [V.non]).set l (V.int (rows.length : Nat)) := by
            rw [sibs_snoc]
            have : lastKid rows s = some l := by
              unfold lastKid
              rw [ep]
              exact ek
            rw [this]
            show ((sibs rows).set l (some rows.length) ++ [none]).map optV = _
            rw [List.map_append, List.set_append_left _ _ (by rw [List.length_map, lenX]; exact hl)]
            congr 1
            exact List.map_set
          rw [esib]
          rw [ep] at m9
          exact m9
      · rintro σ' H9 ⟨rfl, s9, eh9, ex9, m9⟩
        refine ⟨_, rfl, p, c.cCode, dx, _, _, rfl, m9.eP, T.cl_Code, T.a_Code_parts, cf_B, _, rfl, B, _, _, _, rfl, rfl, SqL.of m9.eB, at_of rfl hxB, .inl ⟨rfl, _, SqL.of ex9⟩, _, rfl, x, _, _, rfl, rfl, ex9, ?_, ?_⟩
        · unfold intsV
          rw [List.length_map]
          exact small1000 (Nat.le_trans (kids_len _ _) hlen)
        · have m10 := m9.kid hx' (kids rows j ++ [rows.length])
          have e10 : intsV (kids rows j) ++ [V.int (rows.length : Nat)] = intsV (kids rows j ++ [rows.length]) := by
            unfold intsV
            rw [List.map_append]
            rfl
          rw [e10]
          refine finish _ (Same.chg s9 rx) (by rw [upd_ne xh]; exact eh9) ?_
          rw [ep]
          refine m10.congr fun i hi => ?_
          rw [kid i, ep]
          by_cases e : i = j
          · rw [if_pos e, e, if_pos rfl]
          · rw [if_neg e, if_neg (show ¬ (some j : Option Nat) = some i by intro z; cases z; exact e rfl), List.append_nil]
            by_cases e2 : i = ts.length
            · rw [if_pos e2, e2, cl, k0]
            · rw [if_neg e2]
end
end N3
end L2
set_option Elab.async false
set_option linter.all false
set_option maxRecDepth 100000
set_option maxHeartbeats 8000000
namespace L2
namespace N3
open PySem PySem.Spec PyProof.Rows Fc C8
section
variable {P : Program} {w : World} {K : PySem.W.Frag} {mg : Str → Option Value} {base : Heap} {c : Cs}

/-! ### Code.__init__ -/
def spInit (K : PySem.W.Frag) (c : Cs) : Sp := fun vs H Q E => ∃ (p dx : Addr) (v : V) (o : O) (F R : Hp) (res : Except Err (List Spot)),
  vs = [.ref p, v] ∧ Same F R ∧ Same R H ∧ R p = none ∧ R dx = none ∧ H p = some (.ins c.cCode dx []) ∧ H dx = some (.own p) ∧ Ob K F v o ∧ Codes o res ∧
  (∀ rows, res = .ok rows → ∀ (F' H' : Hp) (S D A B X L : Addr) (ts : List Addr), Same F F' → Same F' H' → Same R H' → (∀ b, F b = none → R b ≠ none → F' b = none) → Off R (own p dx S D A B X L ts) → Off F' (own p dx S D A B X L ts) →
    CodeSt K c.cCode F' H' p dx S D A B X L ts rows → Q .non H') ∧
  (∀ e, res = .error e → ErrE c.cInvalidCode c.cLimitExceeded R E e)
abbrev s_init : Stmt := inClass (top 25) 0
theorem sc_init : FnScope ["self", "statement", "waiting", "spot", "number", "inner"] ["self", "statement"] (defScope s_init) := ⟨rfl, rfl, rfl, by decide +kernel, rfl, by decide +kernel, by decide +kernel⟩
/-- what stands before each turn -/
structure Loop (K : PySem.W.Frag) (c : Cs) (F R H : Hp) (p dx S D A B X L W : Addr) (rows ss : List Spot) (res : Except Err (List Spot)) : Prop where
  ex : ∃ (F1 : Hp) (ts qs : List Addr), Same F F1 ∧ Same F1 H ∧ (∀ b, F b = none → R b ≠ none → F1 b = none) ∧ CodeSt K c.cCode F1 H p dx S D A B X L ts rows ∧ Off R (own p dx S D A B X L ts) ∧ Off F1 (own p dx S D A B X L ts) ∧
    W ∉ own p dx S D A B X L ts ∧ H W = some (.lst (qs.reverse.map V.ref)) ∧ F1 W = none ∧ Paired (SpotAt K F1) qs ss
  rh : Same R H
  rw_ : R W = none
  runs : Runs ss rows res
  le : rows.length ≤ 400
  sl : ss.length ≤ 20000 * rows.length + 1
  pr : ∀ r ∈ rows, ∀ m, r.par = some m → m < rows.length
  ps : ∀ r ∈ ss, ∀ m, r.par = some m → m < rows.length
theorem inside_par {n : Nat} {s x : Spot} (h : x ∈ inside n s) : x.par = some n := by
  unfold inside at h
  split at h
  · split at h
    · simp only [List.mem_cons, List.mem_nil_iff, or_false] at h
      rcases h with rfl | rfl <;> rfl
    · cases h
  · obtain ⟨o, _, rfl⟩ := List.mem_map.mp h
    rfl
theorem inside_len {n : Nat} {s : Spot} (h : s.o.parts.length < 20000) : (inside n s).length < 20000 := by
  unfold inside
  split
  · split
    · exact (by decide : 2 < 20000)
    · exact (by decide : 0 < 20000)
  · rw [List.length_map]
    exact h
theorem judge_none {n : Nat} {s : Spot} (h : judge n s = none) : n < 400 ∧ s.lay.length ≤ 25 ∧ s.o.isStmt s.wh = true := by
  unfold judge at h
  split at h
  · cases h
  · split at h
    · cases h
    · split at h
      · cases h
      · split at h
        · rename_i h1 _ h3 h4
          exact ⟨by omega, by omega, h4⟩
        · cases h
theorem ok_init {f : Addr} {fd : FuncData} (Fn : Fun K "__init__" "Code.__init__" s_init f fd) (T : Txt K mg w c) (c_judge : CalX P w K mg base 3 "judge" (spJudge K c)) (c_keep : Met P w K mg base 2 c.cCode "_keep" (spKeep K c) [])
    (c_spots_inside : Cal P w K mg base 2 "spots_inside" (spInside K) []) :
    FnOk P w K mg base (L2.CX P w) 4 f fd ["self", "statement"] (spInit K c) := by
  refine Fn.okX sc_init (fun vs H Q E h => ?_) (fun cdv A0 outer s0 H vs Q E hr h => ?_)
  · obtain ⟨p, dx, v, o, F, R, res, rfl, _⟩ := h
    rfl
  · obtain ⟨p, dx, v, o, F, R, res, rfl, sFR, sRH, rp, rdx, hp, hdx, ho, hres, kN, kE⟩ := h
    refine ⟨_, (pss_cons (ps_fld (pv 0) (pe_lst pa_nil) rfl)
(pss_cons (ps_fld (pv 0) (pe_lst pa_nil) rfl)
(pss_cons (ps_fld (pv 0) (pe_lst pa_nil) rfl)
(pss_cons (ps_fld (pv 0) (pe_lst pa_nil) rfl)
(pss_cons (ps_fld (pv 0) (pe_lst pa_nil) rfl)
(pss_cons (ps_fld (pv 0) (pe_lst pa_nil) rfl)
(pss_cons (ps_set (i := 2) sc_init.nd rfl (Or.inl rfl) (pe_lst (pa_cons (pe_tup (pa_cons (pv 1) (pa_cons pe_non (pa_cons pe_int (pa_cons pe_int (pa_cons (pe_lst pa_nil) pa_nil)))))) pa_nil)))
(pss_one (ps_while (passes_of rfl) (pt_truth (pv 2) (by intro _; rfl))
(pss_cons (ps_set (i := 3) sc_init.nd rfl (Or.inl rfl) (pe_bm0 PySem.F.plainAttrs_list PySem.F.slot_list_pop PySem.F.type_list_pop mt_pop (pv 2)))
(pss_cons (ps_set (i := 4) sc_init.nd rfl (Or.inl rfl) (pe_callB call_len (by rfl) T.n_len (by decide +kernel) (pa_cons (pe_fld (pv 0) rfl) pa_nil)))
(pss_cons (ps_expr (pe_cx c_judge hr (by decide) (takes_of rfl rfl rfl rfl) (fun _ _ _ _ h => h) rfl (pa_cons (pv 3) (pa_cons (pv 4) pa_nil))))
(pss_cons (ps_expr (pe_mt c_keep hr (by decide) (pv 0) (pa_cons (pv 3) (pa_cons (pv 4) pa_nil))))
(pss_one (ps_for (passes_of rfl) rfl (pi_reversed rfl T.n_reversed (pa_cons (pe_callTy call_list_of (by rfl) T.n_list (by decide +kernel) (pa_cons (pe_c c_spots_inside hr (by decide) rfl (pa_cons (pv 3) (pa_cons (pv 4) pa_nil))) pa_nil)) pa_nil)) (pg_name (i := 5) sc_init.nd rfl (Or.inl rfl))
(pss_one (ps_expr (pe_bm PySem.F.plainAttrs_list PySem.F.slot_list_append PySem.F.type_list_append mt_append (pv 2) (pa_cons (pv 5) pa_nil))))))))))))))))))), ?_⟩
    -- the five lists
    have len : ∀ {fs : List (Str × V)} {f : Str} {x : V} {n : Nat}, fs.length ≤ n → (putF f x fs).length ≤ n + 1 := fun h => Nat.le_trans (length_putF _ _ _) (Nat.succ_le_succ h)
    refine ⟨Nat.zero_le _, fun S nS => ?_⟩
    have pS : p ≠ S := ne_of_none hp nS
    refine ⟨_, rfl, p, c.cCode, dx, [], rfl, by rw [upd_ne pS]; exact hp, T.cl_Code, T.a_Code_statements, by decide, ?_⟩
    refine ⟨Nat.zero_le _, fun D nD => ?_⟩
    obtain ⟨Dp, nD1⟩ := upd_none nD
    obtain ⟨DS, nDH⟩ := upd_none nD1
    have len1 : (putF "_statements" (V.ref S) []).length ≤ 1 := len (n := 0) (Nat.zero_le _)
    refine ⟨_, rfl, p, c.cCode, dx, _, rfl, by rw [upd_ne Dp.symm, upd_same], T.cl_Code, T.a_Code_heads, Nat.lt_of_le_of_lt len1 (by decide), ?_⟩
    refine ⟨Nat.zero_le _, fun A nA => ?_⟩
    obtain ⟨Ap, nA1⟩ := upd_none nA
    obtain ⟨AD, nA2⟩ := upd_none nA1
    obtain ⟨_, nA3⟩ := upd_none nA2
    obtain ⟨AS, nAH⟩ := upd_none nA3
    have len2 := len (f := "_heads") (x := V.ref D) len1
    refine ⟨_, rfl, p, c.cCode, dx, _, rfl, by rw [upd_ne Ap.symm, upd_same], T.cl_Code, T.a_Code_parents, Nat.lt_of_le_of_lt len2 (by decide), ?_⟩
    refine ⟨Nat.zero_le _, fun B nB => ?_⟩
    obtain ⟨Bp, nB1⟩ := upd_none nB
    obtain ⟨BA, nB2⟩ := upd_none nB1
    obtain ⟨_, nB3⟩ := upd_none nB2
    obtain ⟨BD, nB4⟩ := upd_none nB3
    obtain ⟨_, nB5⟩ := upd_none nB4
    obtain ⟨BS, nBH⟩ := upd_none nB5
    have len3 := len (f := "_parents") (x := V.ref A) len2
    refine ⟨_, rfl, p, c.cCode, dx, _, rfl, by rw [upd_ne Bp.symm, upd_same], T.cl_Code, T.a_Code_parts, Nat.lt_of_le_of_lt len3 (by decide), ?_⟩
    refine ⟨Nat.zero_le _, fun X nX => ?_⟩
    obtain ⟨Xp, nX1⟩ := upd_none nX
    obtain ⟨XB, nX2⟩ := upd_none nX1
    obtain ⟨_, nX3⟩ := upd_none nX2
    obtain ⟨XA, nX4⟩ := upd_none nX3
    obtain ⟨_, nX5⟩ := upd_none nX4
    obtain ⟨XD, nX6⟩ := upd_none nX5
    obtain ⟨_, nX7⟩ := upd_none nX6
    obtain ⟨XS, nXH⟩ := upd_none nX7
    have len4x := len (f := "_parts") (x := V.ref B) len3
    refine ⟨_, rfl, p, c.cCode, dx, _, rfl, by rw [upd_ne Xp.symm, upd_same], T.cl_Code, T.a_Code_siblings, Nat.lt_of_le_of_lt len4x (by decide), ?_⟩
    refine ⟨Nat.zero_le _, fun L nL => ?_⟩
    obtain ⟨Lp, nL0⟩ := upd_none nL
    obtain ⟨LX, nL00⟩ := upd_none nL0
    obtain ⟨_, nL1⟩ := upd_none nL00
    obtain ⟨LB, nL2⟩ := upd_none nL1
    obtain ⟨_, nL3⟩ := upd_none nL2
    obtain ⟨LA, nL4⟩ := upd_none nL3
    obtain ⟨_, nL5⟩ := upd_none nL4
    obtain ⟨LD, nL6⟩ := upd_none nL5
    obtain ⟨_, nL7⟩ := upd_none nL6
    obtain ⟨LS, nLH⟩ := upd_none nL7
    have len4 := len (f := "_siblings") (x := V.ref X) len4x
    refine ⟨_, rfl, p, c.cCode, dx, _, rfl, by rw [upd_ne Lp.symm, upd_same], T.cl_Code, T.a_Code_layers, Nat.lt_of_le_of_lt len4 (by decide), ?_⟩
    -- the heap with them
    have dX : ∀ {x : Addr}, H x = none → dx ≠ x := fun e => ne_of_none hdx e
    have pX : ∀ {x : Addr}, H x = none → p ≠ x := fun e => ne_of_none hp e
    have dp : dx ≠ p := ne_of hdx hp (by intro z; cases z)
    obtain ⟨Hf, eHf⟩ : ∃ Hf, Hf = upd (upd (upd (upd (upd (upd (upd (upd (upd (upd (upd (upd H S (.lst [])) p (.ins c.cCode dx (putF "_statements" (V.ref S) []))) D (.lst [])) p (.ins c.cCode dx (putF "_heads" (V.ref D) (putF "_statements" (V.ref S) [])))) A (.lst [])) p (.ins c.cCode dx (putF "_parents" (V.ref A) (putF "_heads" (V.ref D) (putF "_statements" (V.ref S) []))))) B (.lst [])) p (.ins c.cCode dx (putF "_parts" (V.ref B) (putF "_parents" (V.ref A) (putF "_heads" (V.ref D) (putF "_statements" (V.ref S) [])))))) X (.lst [])) p (.ins c.cCode dx (putF "_siblings" (V.ref X) (putF "_parts" (V.ref B) (putF "_parents" (V.ref A) (putF "_heads" (V.ref D) (putF "_statements" (V.ref S) []))))))) L (.lst [])) p (.ins c.cCode dx (putF "_layers" (V.ref L) (putF "_siblings" (V.ref X) (putF "_parts" (V.ref B) (putF "_parents" (V.ref A) (putF "_heads" (V.ref D) (putF "_statements" (V.ref S) []))))))) := ⟨_, rfl⟩
    have fo : ∀ b, b ≠ p → b ≠ S → b ≠ D → b ≠ A → b ≠ B → b ≠ X → b ≠ L → Hf b = H b := by
      intro b h1 h2 h3 h4 h5 h6 h7
      rw [eHf]
      simp only [upd, h1, h2, h3, h4, h5, h6, h7, if_false]
    have fp : Hf p = some (.ins c.cCode dx (cf S D A B X L)) := by rw [eHf]; exact upd_same
    have fL : Hf L = some (.lst []) := by rw [eHf]; simp only [upd, Lp, if_false, if_true]
    have fX : Hf X = some (.lst []) := by rw [eHf]; simp only [upd, Xp, LX.symm, if_false, if_true]
    have fB : Hf B = some (.lst []) := by rw [eHf]; simp only [upd, Bp, LB.symm, XB.symm, if_false, if_true]
    have fA : Hf A = some (.lst []) := by rw [eHf]; simp only [upd, Ap, LA.symm, XA.symm, BA.symm, if_false, if_true]
    have fD : Hf D = some (.lst []) := by rw [eHf]; simp only [upd, Dp, LD.symm, XD.symm, BD.symm, AD.symm, if_false, if_true]
    have fS : Hf S = some (.lst []) := by rw [eHf]; simp only [upd, pS.symm, LS.symm, XS.symm, BS.symm, AS.symm, DS.symm, if_false, if_true]
    have fdx : Hf dx = some (.own p) := by rw [fo dx dp (dX nS) (dX nDH) (dX nAH) (dX nBH) (dX nXH) (dX nLH)]; exact hdx
    have rX : ∀ {x : Addr}, H x = none → R x = none := fun e => Same.free sRH e
    have sRf : Same R Hf := fun b u q => by
      have nb : ∀ {x : Addr}, R x = none → b ≠ x := fun e => ne_of_none q e
      rw [fo b (nb rp) (nb (rX nS)) (nb (rX nDH)) (nb (rX nAH)) (nb (rX nBH)) (nb (rX nXH)) (nb (rX nLH))]
      exact sRH b u q
    rw [← eHf]
    clear eHf
    -- waiting
    refine ⟨_, rfl, Nat.zero_le _, fun l0 n0 => ?_⟩
    refine ⟨by show 5 ≤ sizeLine; decide, fun q0 nq => ?_⟩
    obtain ⟨ql, nq0⟩ := upd_none nq
    refine ⟨by show 1 ≤ sizeLine; decide, fun W nW => ?_⟩
    obtain ⟨Wq, nW1⟩ := upd_none nW
    obtain ⟨Wl, nW0⟩ := upd_none nW1
    have rl : R l0 = none := Same.free sRf n0
    have rq : R q0 = none := Same.free sRf nq0
    have rW : R W = none := Same.free sRf nW0
    have sFf : Same F Hf := sFR.trans sRf
    have fl : F l0 = none := Same.free sFf n0
    have fq : F q0 = none := Same.free sFf nq0
    have fW : F W = none := Same.free sFf nW0
    have tr : ∀ {b : Addr} {u : HO}, Hf b = some u → upd (upd (upd Hf l0 (.lst [])) q0 (.tup [v, .non, .int 1, .int 0, .ref l0])) W (.lst [.ref q0]) b = some u := by
      intro b u e
      rw [upd_ne (ne_of_none e nW0), upd_ne (ne_of_none e nq0), upd_ne (ne_of_none e n0)]
      exact e
    have ownP : ∀ b ∈ own p dx S D A B X L [], Hf b ≠ none := by
      have go : ∀ {b : Addr} {o : HO}, Hf b = some o → Hf b ≠ none := fun e z => by
        rw [z] at e
        cases e
      intro b m
      unfold own at m
      rw [List.append_nil] at m
      simp only [List.mem_cons, List.mem_nil_iff, or_false] at m
      rcases m with rfl | rfl | rfl | rfl | rfl | rfl | rfl | rfl
      · exact go fp
      · exact go fdx
      · exact go fS
      · exact go fD
      · exact go fA
      · exact go fB
      · exact go fX
      · exact go fL
    have offR : Off R (own p dx S D A B X L []) := by
      intro b m
      unfold own at m
      rw [List.append_nil] at m
      simp only [List.mem_cons, List.mem_nil_iff, or_false] at m
      rcases m with rfl | rfl | rfl | rfl | rfl | rfl | rfl | rfl
      · exact rp
      · exact rdx
      · exact rX nS
      · exact rX nDH
      · exact rX nAH
      · exact rX nBH
      · exact rX nXH
      · exact rX nLH
    have sF1 : Same F (upd (upd F l0 (.lst [])) q0 (.tup [v, .non, .int 1, .int 0, .ref l0])) := Same.new (Same.put fl) (by rw [upd_ne ql]; exact fq)
    refine ⟨fun m σ H' => ∃ (rows ss : List Spot) (x3 x4 x5 : Option V), m = 401 - rows.length ∧ σ = [some (.ref p), some v, some (.ref W), x3, x4, x5] ∧ Loop K c F R H' p dx S D A B X L W rows ss res, ⟨401, [], [root o], none, none, none, rfl, rfl, ?_⟩, ?_⟩
    · refine ⟨⟨upd (upd F l0 (.lst [])) q0 (.tup [v, .non, .int 1, .int 0, .ref l0]), [], [q0], sF1, ?_, ?_, ?_, offR, ?_, ?_, ?_, ?_, ?_⟩, ?_, rW, hres, Nat.zero_le _, (by decide : 1 ≤ 20000 * 0 + 1), (fun _ m => nomatch m), ?_⟩
      · refine Same.chg ?_ (by rw [upd_ne Wq, upd_ne Wl]; exact fW)
        exact (Grow.add (Grow.add sFf n0).fh (by rw [upd_ne ql]; exact nq0)).fh
      · intro b h1 h2
        rw [upd_ne (fun z => h2 (by rw [z]; exact rq)), upd_ne (fun z => h2 (by rw [z]; exact rl))]
        exact h1
      · refine ⟨⟨[], [], [], ⟨⟨?_, ?_⟩, (fun i t e => nomatch e), List.nodup_nil, (fun t m => nomatch m)⟩, .nil, .nil, .nil⟩, rfl⟩
        · show [p, dx, S, D, A, B, X, L].Nodup
          simp only [List.nodup_cons, List.mem_cons, not_or, List.mem_nil_iff, not_false_eq_true, List.nodup_nil, and_true]
          exact ⟨⟨dp.symm, pS, Dp.symm, Ap.symm, Bp.symm, Xp.symm, Lp.symm⟩, ⟨dX nS, dX nDH, dX nAH, dX nBH, dX nXH, dX nLH⟩, ⟨DS.symm, AS.symm, BS.symm, XS.symm, LS.symm⟩, ⟨AD.symm, BD.symm, XD.symm, LD.symm⟩, ⟨BA.symm, XA.symm, LA.symm⟩, ⟨XB.symm, LB.symm⟩, LX.symm⟩
        · unfold heads8
          simp only [List.mem_cons, List.mem_nil_iff, or_false]
          rintro x (rfl | rfl | rfl | rfl | rfl | rfl | rfl | rfl)
          · exact tr fp
          · exact tr fdx
          · exact tr fS
          · exact tr fD
          · exact tr fA
          · exact tr fB
          · exact tr fX
          · exact tr fL
      · intro b m
        rw [upd_ne (fun z => ownP b m (by rw [z]; exact nq0)), upd_ne (fun z => ownP b m (by rw [z]; exact n0))]
        exact Same.free sFR (offR b m)
      · exact fun m => ownP W m nW0
      · exact upd_same
      · rw [upd_ne Wq, upd_ne Wl]
        exact fW
      · refine .cons ⟨v, l0, SqT.of upd_same, ho.mono sF1, ?_⟩ .nil
        rw [upd_ne ql.symm]
        exact upd_same
      · exact Same.chg (Same.chg (Same.chg sRf rl) rq) rW
      · intro r m n hn
        simp only [List.mem_cons, List.mem_nil_iff, or_false] at m
        subst m
        cases hn
    clear tr ownP offR sF1 fo
    rintro m σ H' ⟨rows, ss, x3, x4, x5, rfl, rfl, ⟨F1, ts, qs, sF1, sH1, out1, cs, offR, off1, nWo, eW, fW1, pq⟩, sR, _, runs, le4, sl, pr, ps⟩
    cases pq with
    | nil =>
      refine ⟨_, rfl, false, .inl ⟨_, SqL.of eW, rfl⟩, iteF ?_⟩
      cases runs
      exact kN rows rfl F1 H' S D A B X L ts sF1 sH1 sR out1 offR off1 cs
    | @cons q s qs' ss' pq1 pq =>
      have eW2 : H' W = some (.lst (qs'.reverse.map V.ref ++ [V.ref q])) := by
        rw [eW, List.reverse_cons, List.map_append]
        rfl
      refine ⟨_, rfl, true, .inl ⟨_, SqL.of eW2, by simp⟩, iteT ⟨fun σ' H'' => ∃ m', m' < 401 - rows.length ∧ ∃ (rows ss : List Spot) (x3 x4 x5 : Option V), m' = 401 - rows.length ∧ σ' = [some (.ref p), some v, some (.ref W), x3, x4, x5] ∧ Loop K c F R H'' p dx S D A B X L W rows ss res, fun _ _ z => z, ?_⟩⟩
      refine ⟨_, rfl, .inl ⟨rfl, _, SqL.of eW2⟩, W, _, V.ref q, rfl, rfl, eW2, by simp, ?_⟩
      rw [List.dropLast_concat]
      -- number = len(self._statements)
      have wo : ∀ b ∈ own p dx S D A B X L ts, b ≠ W := fun b m z => nWo (z ▸ m)
      have cs2 : CodeSt K c.cCode F1 (upd H' W (.lst (qs'.reverse.map V.ref))) p dx S D A B X L ts rows := cs.loc fun b m => upd_ne (wo b m)
      have sR2 : Same R (upd H' W (.lst (qs'.reverse.map V.ref))) := Same.chg sR rW
      have sF2 : Same F1 (upd H' W (.lst (qs'.reverse.map V.ref))) := Same.chg sH1 fW1
      have eW3 : upd H' W (.lst (qs'.reverse.map V.ref)) W = some (.lst (qs'.reverse.map V.ref)) := upd_same
      obtain ⟨H2, eH2⟩ : ∃ H2, H2 = upd H' W (.lst (qs'.reverse.map V.ref)) := ⟨_, rfl⟩
      rw [← eH2] at cs2 sR2 sF2 eW3
      rw [← eH2]
      clear eH2 eW eW2 cs sH1 sR
      obtain ⟨⟨vs, _, _, mS, oS, _, _⟩, _⟩ := id cs2
      have eS := mS.eS
      have lenS : vs.length = rows.length := by rw [oS.len, List.length_map]
      refine ⟨_, rfl, p, c.cCode, dx, _, _, rfl, mS.eP, T.cl_Code, T.a_Code_statements, cf_S, _, rows.length, rfl, .inl ⟨vs, SqL.of eS, lenS.symm⟩, ?_⟩
      -- judge
      refine ⟨_, rfl, _, rfl, q, s, rows.length, rfl, SpotAt.mono sF2 pq1, fun hj => ?_, fun e he => ?_⟩
      rotate_left
      · cases runs with
        | bad hb =>
          rw [hb] at he
          cases he
          exact ErrE.mono sR2 (kE _ rfl)
        | step hb _ =>
          rw [hb] at he
          cases he
      have runs2 : Runs (inside rows.length s ++ ss') (rows ++ [s]) res := by
        cases runs with
        | bad hb =>
          rw [hb] at hj
          cases hj
        | step _ hr => exact hr
      obtain ⟨j1, j2, j3⟩ := judge_none hj
      have li : (inside rows.length s).length < 20000 := by
        obtain ⟨v1, la1, _, ho1, _⟩ := pq1
        exact inside_len ho1.parts_lt
      intro H3 s23
      have cs3 := cs2.keep (Same.refl F1) s23
      have sR3 := sR2.trans s23
      have sF3 := sF2.trans s23
      have eW4 := s23 _ _ eW3
      -- self._keep(spot, number)
      obtain ⟨⟨_, _, _, m3, _⟩, _⟩ := id cs3
      refine ⟨_, rfl, p, dx, _, rfl, m3.eP, cf_no (by decide +kernel) (by decide +kernel) (by decide +kernel) (by decide +kernel) (by decide +kernel) (by decide +kernel), _, rfl, _, rfl, ?_⟩
      refine ⟨p, q, rows, s, F1, hide (own p dx S D A B X L ts) H3, dx, S, D, A, B, X, L, ts, rfl, Same.hide sF3 off1, hide_same _ _, cs3, off_hide _ _, pq1, j3, by omega, ?_, pr, ?_⟩
      · exact fun m hm => ps s List.mem_cons_self m hm
      intro F2 H4 t sF12 sF24 sRk out2 ht3 off2 cs4
      have sR4 : Same R H4 := (Same.hide sR3 offR).trans sRk
      have eW5 : H4 W = some (.lst (qs'.reverse.map V.ref)) := sRk _ _ (by rw [hide_out nWo]; exact eW4)
      have nz : ∀ {H : Hp} {b : Addr} {o : HO}, H b = some o → H b ≠ none := fun e z => by
        rw [z] at e
        cases e
      have fW2 : F2 W = none := out2 W fW1 (nz eW4)
      -- reversed(list(spots_inside(spot, number)))
      refine ⟨_, rfl, _, rfl, q, s, rows.length, F2, rfl, sF24, SpotAt.mono sF12 pq1, j3, by omega, fun F3 H5 l qs2 g nl fl3 el pq2 => ?_⟩
      refine ⟨l, _, rfl, .inl (SqL.of el), fun l2 nl2 => ?_⟩
      have eW6 : upd H5 l2 (.lst (qs2.map V.ref)) W = some (.lst (qs'.reverse.map V.ref)) := by
        rw [upd_ne (ne_of_none (g.hh _ _ eW5) nl2)]
        exact g.hh _ _ eW5
      have fl2 : F3 l2 = none := Same.free g.fh nl2
      have nWl2 : W ≠ l2 := ne_of_none (g.hh _ _ eW5) nl2
      have fW3 : F3 W = none := g.out W fW2 (nz eW5)
      have sF36 : Same F3 (upd H5 l2 (.lst (qs2.map V.ref))) := Same.chg g.fh fl2
      have sR6 : Same R (upd H5 l2 (.lst (qs2.map V.ref))) := Same.new (sR4.trans g.hh) nl2
      have el2 : upd H5 l2 (.lst (qs2.map V.ref)) l2 = some (.lst (qs2.map V.ref)) := upd_same
      have cs6 : CodeSt K c.cCode F3 (upd H5 l2 (.lst (qs2.map V.ref))) p dx S D A B X L (ts ++ [t]) (rows ++ [s]) := cs4.keep g.ff (Same.new g.hh nl2)
      obtain ⟨H6, eH6⟩ : ∃ H6, H6 = upd H5 l2 (.lst (qs2.map V.ref)) := ⟨_, rfl⟩
      rw [← eH6] at eW6 sF36 sR6 el2 cs6
      rw [← eH6]
      refine ⟨l2, _, rfl, SqL.of el2, ?_⟩
      have hq2 : (qs2.map V.ref).length = qs2.length := List.length_map _
      rw [hq2]
      refine for_it (n := qs2.length) (fun i σ H => (∃ x5, σ = [some (.ref p), some v, some (.ref W), some (.ref q), some (.int (rows.length : Nat)), x5]) ∧ H = upd H6 W (.lst ((qs'.reverse ++ qs2.reverse.take i).map V.ref)))
        ⟨⟨x5, rfl⟩, ?_⟩ ?_ ?_ ?_ ?_
      · rw [List.take_zero, List.append_nil, upd_id eW6]
      · rintro i σ H hi ⟨_, rfl⟩
        refine ⟨hi, qs2.map V.ref, ?_⟩
        obtain ⟨y, hy⟩ : ∃ y, (qs2.map V.ref)[qs2.length - 1 - i]? = some y := ⟨_, List.getElem?_eq_getElem (by rw [hq2]; omega)⟩
        exact ⟨y, SqL.of (by rw [upd_ne nWl2.symm]; exact el2), hy⟩
      · rintro σ H _
        exact Nat.le_refl _
      · rintro i x σ H H'' hi ⟨⟨y5, rfl⟩, rfl⟩ ⟨rfl, hx⟩
        have hx2 := hx _ (SqL.of (K := K) (by rw [upd_ne nWl2.symm]; exact el2))
        obtain ⟨a, ha, rfl⟩ : ∃ a, qs2.reverse[i]? = some a ∧ x = V.ref a := by
          rw [List.getElem?_map] at hx2
          rw [List.getElem?_reverse hi]
          cases e : qs2[qs2.length - 1 - i]? with
          | none =>
            rw [e] at hx2
            cases hx2
          | some a =>
            rw [e] at hx2
            exact ⟨a, rfl, (Option.some.inj hx2).symm⟩
        refine ⟨_, rfl, .inl ⟨rfl, _, SqL.of upd_same⟩, _, rfl, W, _, _, rfl, rfl, upd_same, ?_, ⟨_, rfl⟩, ?_⟩
        · rw [List.length_map, List.length_append, List.length_reverse, List.length_take, List.length_reverse]
          have z1 : ss'.length + 1 ≤ 20000 * rows.length + 1 := sl
          have z2 := Paired.length pq
          have z3 := Paired.length pq2
          rw [sizeLine_eq]
          omega
        · rw [upd_upd, List.take_add_one, ha]
          simp
      · rintro σ H ⟨⟨y5, rfl⟩, rfl⟩
        refine ⟨401 - (rows ++ [s]).length, by rw [List.length_append, List.length_singleton]; omega, rows ++ [s], inside rows.length s ++ ss', _, _, _, rfl, rfl, ?_⟩
        have csW : CodeSt K c.cCode F3 (upd H6 W (.lst ((qs'.reverse ++ qs2.reverse.take qs2.length).map V.ref))) p dx S D A B X L (ts ++ [t]) (rows ++ [s]) := by
          refine cs6.loc fun b m => upd_ne fun z => ?_
          rcases own_snoc m with m | m
          · exact wo b m z
          · rw [z] at m
            rw [← m] at ht3
            rw [eW4] at ht3
            cases ht3
        refine ⟨⟨F3, ts ++ [t], qs2 ++ qs', (sF1.trans sF12).trans g.ff, Same.chg sF36 fW3, ?_, csW, ?_, ?_, ?_, ?_, fW3, ?_⟩, Same.chg sR6 rW, rW, runs2, ?_, ?_, ?_, ?_⟩
        · intro b h1 h2
          have z3 : H3 b ≠ none := fun z => h2 (Same.free sR3 z)
          have z4 : H4 b ≠ none := fun z => h2 (Same.free sR4 z)
          exact g.out b (out2 b (out1 b h1 h2) z3) z4
        · intro b m
          rcases own_snoc m with m | m
          · exact offR b m
          · rw [m]
            exact Same.free sR3 ht3
        · intro b m
          exact g.out b (off2 b m) (cs4.there b m)
        · intro m
          rcases own_snoc m with m | m
          · exact nWo m
          · rw [← m] at ht3
            rw [eW4] at ht3
            cases ht3
        · rw [upd_same, List.reverse_append, List.take_of_length_le (by rw [List.length_reverse]; exact Nat.le_refl _)]
        · exact Fc.Paired.app pq2 (Fc.Paired.map2 (fun _ _ h => SpotAt.mono (sF12.trans g.ff) h) pq)
        · rw [List.length_append, List.length_singleton]
          omega
        · rw [List.length_append, List.length_append, List.length_singleton]
          have z1 : ss'.length + 1 ≤ 20000 * rows.length + 1 := sl
          omega
        · intro r m k hk
          rw [List.length_append, List.length_singleton]
          rcases List.mem_append.mp m with m | m
          · exact Nat.lt_succ_of_lt (pr r m k hk)
          · rw [List.mem_singleton] at m
            subst m
            exact Nat.lt_succ_of_lt (ps r List.mem_cons_self k hk)
        · intro r m k hk
          rw [List.length_append, List.length_singleton]
          rcases List.mem_append.mp m with m | m
          · rw [inside_par m] at hk
            cases hk
            exact Nat.lt_succ_self _
          · exact Nat.lt_succ_of_lt (ps r (List.mem_cons_of_mem _ m) k hk)
end
end N3
end L2
set_option Elab.async false
set_option linter.all false
set_option maxRecDepth 100000
set_option maxHeartbeats 8000000
namespace L2
namespace N3
open PySem PySem.Spec PyProof.Rows Fc C8
section
variable {P : Program} {w : World} {K : PySem.W.Frag} {mg : Str → Option Value} {base : Heap} {c : Cs}

/-! ### the errors' __init__ -/
abbrev s_bad : Stmt := inClass (top 3) 0
theorem sc_bad : FnScope ["self", "number"] ["self", "number"] (defScope s_bad) := ⟨rfl, rfl, rfl, by decide +kernel, rfl, by decide +kernel, by decide +kernel⟩
theorem ok_bad {f : Addr} {fd : FuncData} (Fn : Fun K "__init__" "InvalidCode.__init__" s_bad f fd) (T : Txt K mg w c) : FnOk P w K mg base CX0 1 f fd ["self", "number"] (spExc c.cInvalidCode "number") := by
  refine Fn.ok sc_bad (fun vs H Q E h => ?_) (fun cdv A0 outer s0 H vs Q E hr h => ?_)
  · obtain ⟨a, y, rfl, _⟩ := h
    rfl
  · obtain ⟨a, y, rfl, ha, k⟩ := h
    exact ⟨_, pss_one (ps_arset (pv 0) (pv 1)), _, rfl, _, rfl, a, c.cInvalidCode, c.iInvalidCode, rfl, T.ar_InvalidCode, ha, k⟩
abbrev s_num : Stmt := inClass (top 4) 0
theorem sc_num : FnScope ["self", "number"] ["self", "number"] (defScope s_num) := ⟨rfl, rfl, rfl, by decide +kernel, rfl, by decide +kernel, by decide +kernel⟩
theorem ok_num {f : Addr} {fd : FuncData} (Fn : Fun K "__init__" "InvalidNumber.__init__" s_num f fd) (T : Txt K mg w c) : FnOk P w K mg base CX0 1 f fd ["self", "number"] (spExc c.cInvalidNumber "number") := by
  refine Fn.ok sc_num (fun vs H Q E h => ?_) (fun cdv A0 outer s0 H vs Q E hr h => ?_)
  · obtain ⟨a, y, rfl, _⟩ := h
    rfl
  · obtain ⟨a, y, rfl, ha, k⟩ := h
    exact ⟨_, pss_one (ps_arset (pv 0) (pv 1)), _, rfl, _, rfl, a, c.cInvalidNumber, c.iInvalidNumber, rfl, T.ar_InvalidNumber, ha, k⟩
abbrev s_lim : Stmt := inClass (top 5) 0
theorem sc_lim : FnScope ["self", "limit"] ["self", "limit"] (defScope s_lim) := ⟨rfl, rfl, rfl, by decide +kernel, rfl, by decide +kernel, by decide +kernel⟩
theorem ok_lim {f : Addr} {fd : FuncData} (Fn : Fun K "__init__" "LimitExceeded.__init__" s_lim f fd) (T : Txt K mg w c) : FnOk P w K mg base CX0 1 f fd ["self", "limit"] (spExc c.cLimitExceeded "limit") := by
  refine Fn.ok sc_lim (fun vs H Q E h => ?_) (fun cdv A0 outer s0 H vs Q E hr h => ?_)
  · obtain ⟨a, y, rfl, _⟩ := h
    rfl
  · obtain ⟨a, y, rfl, ha, k⟩ := h
    exact ⟨_, pss_one (ps_arset (pv 0) (pv 1)), _, rfl, _, rfl, a, c.cLimitExceeded, c.iLimitExceeded, rfl, T.ar_LimitExceeded, ha, k⟩

theorem runs_le : ∀ {ss rows : List Spot} {res : Except Err (List Spot)}, Runs ss rows res → rows.length ≤ 400 → ∀ out, res = .ok out → out.length ≤ 400 := by
  intro ss rows res h
  induction h with
  | nil =>
    intro hl out e
    cases e
    exact hl
  | bad _ =>
    intro _ out e
    cases e
  | step hj _ ih =>
    intro hl out e
    refine ih ?_ out e
    have := (judge_none hj).1
    rw [List.length_append, List.length_singleton]
    omega
/-! ### a Code that is no more changed -/
/-- the Code at p, of the rows -/
def CodeAt (K : PySem.W.Frag) (C : Addr) (F : Hp) (p : Addr) (rows : List Spot) : Prop := ∃ (dx S D A B X L : Addr) (ts ds ls : List Addr) (vs : List V), F p = some (.ins C dx (cf S D A B X L)) ∧ F S = some (.lst vs) ∧ Obs K F vs (rows.map (·.o)) ∧
  F D = some (.lst (ds.map V.ref)) ∧ Paired (fun h (s : Spot) => ∃ ys, F h = some (.tup ys) ∧ Obs K F ys s.o.head) ds rows ∧ F A = some (.lst (rows.map fun s => optV s.par)) ∧ F B = some (.lst (ts.map V.ref)) ∧ ts.length = rows.length ∧
  (∀ i t, ts[i]? = some t → F t = some (.lst (intsV (kids rows i)))) ∧ F X = some (.lst ((sibs rows).map optV)) ∧ F L = some (.lst (ls.map V.ref)) ∧ Paired (fun l (s : Spot) => F l = some (.lst (intsV s.lay))) ls rows
theorem CodeAt.mono {C : Addr} {F F' : Hp} {p : Addr} {rows : List Spot} (e : Same F F') (h : CodeAt K C F p rows) : CodeAt K C F' p rows := by
  obtain ⟨dx, S, D, A, B, X, L, ts, ds, ls, vs, h1, h2, h3, h4, h5, h6, h7, h8, h9, h10, h11, h12⟩ := h
  exact ⟨dx, S, D, A, B, X, L, ts, ds, ls, vs, e _ _ h1, e _ _ h2, h3.mono e, e _ _ h4, Paired.map2 (fun _ _ ⟨ys, a, b⟩ => ⟨ys, e _ _ a, b.mono e⟩) h5, e _ _ h6, e _ _ h7, h8, fun i t q => e _ _ (h9 i t q), e _ _ h10, e _ _ h11, Paired.map2 (fun _ _ q => e _ _ q) h12⟩
/-- what Code(..) leaves is one -/
theorem CodeSt.fixed {C : Addr} {F H G : Hp} {p dx S D A B X L : Addr} {ts : List Addr} {rows : List Spot} (c : CodeSt K C F H p dx S D A B X L ts rows) (f : Same F G) (h : ∀ b ∈ own p dx S D A B X L ts, G b = H b) : CodeAt K C G p rows := by
  obtain ⟨⟨vs, ds, ls, m, o, d, l⟩, cl⟩ := c.loc h
  exact ⟨dx, S, D, A, B, X, L, ts, ds, ls, vs, m.eP, m.eS, o.mono f, m.eD, Paired.map2 (fun _ _ ⟨ys, a, b⟩ => ⟨ys, f _ _ a, b.mono f⟩) d, m.eA, m.eB, cl, m.k, m.eX, m.eL, Paired.map2 (fun _ _ q => f _ _ q) l⟩

/-! ### len(code) -/
def spLen (K : PySem.W.Frag) (c : Cs) : Sp := fun vs H Q _ => ∃ (F : Hp) (p : Addr) (rows : List Spot), vs = [.ref p] ∧ Same F H ∧ CodeAt K c.cCode F p rows ∧ Q (.int (rows.length : Nat)) H
abbrev s_len : Stmt := inClass (top 25) 2
theorem sc_len : FnScope ["self"] ["self"] (defScope s_len) := ⟨rfl, rfl, rfl, by decide +kernel, rfl, by decide +kernel, by decide +kernel⟩
theorem ok_len {f : Addr} {fd : FuncData} (Fn : Fun K "__len__" "Code.__len__" s_len f fd) (T : Txt K mg w c) : FnOk P w K mg base CX0 1 f fd ["self"] (spLen K c) := by
  refine Fn.ok sc_len (fun vs H Q E h => ?_) (fun cdv A0 outer s0 H vs Q E hr h => ?_)
  · obtain ⟨F, p, rows, rfl, _⟩ := h
    rfl
  · obtain ⟨F, p, rows, rfl, sF, ⟨dx, S, D, A, B, X, L, ts, ds, ls, xs, h1, h2, h3, _⟩, k⟩ := h
    have lx : xs.length = rows.length := by rw [h3.len, List.length_map]
    rw [← lx] at k
    exact ⟨_, (pss_one (ps_ret (pe_callB call_len (by rfl) T.n_len (by decide +kernel) (pa_cons (pe_fld (pv 0) rfl) pa_nil)))), _, rfl, p, c.cCode, dx, _, _, rfl, sF _ _ h1, T.cl_Code, T.a_Code_statements, cf_S, _, _, rfl, .inl ⟨xs, SqL.of (sF _ _ h2), rfl⟩, k⟩

end
end N3
end L2
set_option Elab.async false
set_option linter.all false
set_option maxRecDepth 100000
set_option maxHeartbeats 8000000
namespace L2
namespace N3
open PySem PySem.Spec PyProof.Rows Fc C8
section
variable {P : Program} {w : World} {K : PySem.W.Frag} {mg : Str → Option Value} {base : Heap} {c : Cs}

/-! ### _law_one -/
def spOne (K : PySem.W.Frag) : Sp := fun vs H Q _ => ∃ (a l : Addr) (xs : List V), vs = [.ref a, .ref l] ∧ Src H a ∧ l ≠ a ∧ H l = some (.lst xs) ∧ xs ≠ [] ∧ xs.length ≤ 1000 ∧
  ∀ (i : Nat) (v : V) (H' : Hp), xs[i]? = some v → Adv a H H' → Q v H'
abbrev s_one : Stmt := top 30
theorem sc_one : FnScope ["_law_source", "_law_some"] ["_law_source", "_law_some"] (defScope s_one) := ⟨rfl, rfl, rfl, by decide +kernel, rfl, by decide +kernel, by decide +kernel⟩
theorem ok_one {f : Addr} {fd : FuncData} (Fn : Fun K "_law_one" "_law_one" s_one f fd) (T : Txt K mg w c) (c_draw : Cal P w K mg base 1 "_law_draw" spDraw []) : FnOk P w K mg base CX0 2 f fd ["_law_source", "_law_some"] (spOne K) := by
  refine Fn.ok sc_one (fun vs H Q E h => ?_) (fun cdv A0 outer s0 H vs Q E hr h => ?_)
  · obtain ⟨a, l, xs, rfl, _⟩ := h
    rfl
  · obtain ⟨a, l, xs, rfl, hs, la, hl, hne, hlen, k⟩ := h
    refine ⟨_, (pss_one (ps_ret (pe_ix ix_list (pv 1) (pe_c c_draw hr (by decide) rfl (pa_cons (pv 0) (pa_cons (pe_callB call_len (by rfl) T.n_len (by decide +kernel) (pa_cons (pv 1) pa_nil)) pa_nil))) (fun _ _ => rfl)))), ?_⟩
    have h0 : 0 < xs.length := List.length_pos_iff.mpr hne
    refine ⟨_, rfl, _, rfl, _, rfl, _, xs.length, rfl, .inl ⟨xs, SqL.of hl, rfl⟩, a, xs.length, rfl, hs, by omega, by omega, fun r x y z r0 r1 => ?_⟩
    obtain ⟨n, rfl⟩ : ∃ n : Nat, r = n := ⟨r.toNat, by omega⟩
    obtain ⟨v, hv⟩ : ∃ v, xs[n]? = some v := ⟨_, List.getElem?_eq_getElem (by omega)⟩
    exact ⟨l, xs, n, v, rfl, rfl, SqL.of (by rw [upd_ne la]; exact hl), at_of rfl hv, k n v _ hv Adv.draw⟩

end
end N3
end L2
set_option Elab.async false
set_option linter.all false
set_option maxRecDepth 100000
set_option maxHeartbeats 8000000
namespace L2
namespace N3
open PySem PySem.Spec PyProof.Rows Fc C8
section
variable {P : Program} {w : World} {K : PySem.W.Frag} {mg : Str → Option Value} {base : Heap} {c : Cs}

/-! ### _law_cell_at, _law_source_of -/
def spCellAt (K : PySem.W.Frag) : Sp := fun vs H Q _ => ∃ (l : Addr) (ns : List Int), vs = [.ref l, .int 0] ∧ SqL K H l (ns.map V.int) ∧ ∀ i, Q (.int i) H
abbrev s_cell_at : Stmt := top 27
theorem sc_cell_at : FnScope ["_law_script", "_law_k"] ["_law_script", "_law_k"] (defScope s_cell_at) := ⟨rfl, rfl, rfl, by decide +kernel, rfl, by decide +kernel, by decide +kernel⟩
theorem ok_cell_at {f : Addr} {fd : FuncData} (Fn : Fun K "_law_cell_at" "_law_cell_at" s_cell_at f fd) (T : Txt K mg w c) : FnOk P w K mg base CX0 1 f fd ["_law_script", "_law_k"] (spCellAt K) := by
  refine Fn.ok sc_cell_at (fun vs H Q E h => ?_) (fun cdv A0 outer s0 H vs Q E hr h => ?_)
  · obtain ⟨l, ns, rfl, _⟩ := h
    rfl
  · obtain ⟨l, ns, rfl, hl, k⟩ := h
    refine ⟨_, (pss_one (ps_ret (pe_ifExp (pt_cmpR op_lt (pv 1) (pe_callB call_len_seq (by rfl) T.n_len (by decide +kernel) (pa_cons (pv 0) pa_nil)) (nomark _)) (pe_ix ix_list (pv 0) (pv 1) (fun _ _ => rfl)) pe_int))), ?_⟩
    refine ⟨_, rfl, _, rfl, l, _, rfl, .inl hl, _, _, rfl, rfl, _, rfl, ?_⟩
    cases ns with
    | nil => exact iteF (k 0)
    | cons n ns =>
      refine (if_pos (decide_eq_true (by rw [List.length_map, List.length_cons]; omega))).mpr ?_
      exact ⟨_, rfl, _, rfl, l, _, 0, _, rfl, rfl, hl, at_of rfl rfl, k n⟩
def spSourceOf : Sp := fun vs H Q _ => ∃ i : Int, vs = [.int i] ∧ ∀ (p : Addr) (x y z : Int), H p = none → Q (.ref p) (upd H p (.lst [.int x, .int y, .int z]))
abbrev s_source_of : Stmt := top 28
theorem sc_source_of : FnScope ["_law_cell"] ["_law_cell"] (defScope s_source_of) := ⟨rfl, rfl, rfl, by decide +kernel, rfl, by decide +kernel, by decide +kernel⟩
theorem ok_source_of {f : Addr} {fd : FuncData} (Fn : Fun K "_law_source_of" "_law_source_of" s_source_of f fd) (T : Txt K mg w c) : FnOk P w K mg base CX0 1 f fd ["_law_cell"] spSourceOf := by
  refine Fn.ok sc_source_of (fun vs H Q E h => ?_) (fun cdv A0 outer s0 H vs Q E hr h => ?_)
  · obtain ⟨i, rfl, _⟩ := h
    rfl
  · obtain ⟨i, rfl, k⟩ := h
    refine ⟨_, (pss_one (ps_ret (pe_lst (pa_cons (pe_op op_mul (pv 0) (pe_callTy call_int1 (by rfl) T.n_int (by decide +kernel) (pa_cons (pe_cmpR op_ge (pv 0) (pe_op op_pow pe_int pe_int) (nomark _)) pa_nil))) (pa_cons (pe_op op_add (pe_op op_mod (pe_callTy call_int1 (by rfl) T.n_int (by decide +kernel) (pa_cons (pv 0) pa_nil)) pe_int) pe_int) (pa_cons pe_int pa_nil)))))), ?_⟩
    refine ⟨_, rfl, _, rfl, 10, 18, rfl, rfl, ⟨by decide, by decide, by decide⟩, _, _, rfl, rfl, .inr ⟨_, rfl, ?_⟩⟩
    refine ⟨_, _, rfl, rfl, .inr ?_, ?_⟩
    · cases decide ((10 : Int) ^ (18 : Int).toNat ≤ i) <;> exact ⟨by decide, by decide⟩
    refine ⟨_, rfl, .inl ⟨_, rfl, _, _, rfl, rfl, (by show (0 : Int) < 2147483629; decide), _, _, rfl, rfl, ?_⟩⟩
    refine ⟨by show 3 ≤ sizeLine; decide, fun p np => ?_⟩
    exact k p _ _ _ np

/-! ### _law_leaf -/
def spLeaf (K : PySem.W.Frag) : Sp := fun vs H Q _ => ∃ (a : Addr) (n : Nat), vs = [.ref a, .int n] ∧ Src H a ∧ n < 1000 ∧ ∀ v o H', Adv a H H' → Ob K (Fz a H') v o → Lf n o → Q v H'
abbrev s_leaf : Stmt := top 31
theorem sc_leaf : FnScope ["_law_source", "_law_loops_here", "_law_kind"] ["_law_source", "_law_loops_here"] (defScope s_leaf) := ⟨rfl, rfl, rfl, by decide +kernel, rfl, by decide +kernel, by decide +kernel⟩
def leafKinds : List Str := ["do", "do", "call", "call", "return", "raise", "break", "continue", "break"]
theorem ok_leaf {f : Addr} {fd : FuncData} (Fn : Fun K "_law_leaf" "_law_leaf" s_leaf f fd) (T : Txt K mg w c) (c_draw : Cal P w K mg base 1 "_law_draw" spDraw []) (c_one : Cal P w K mg base 2 "_law_one" (spOne K) []) :
    FnOk P w K mg base CX0 3 f fd ["_law_source", "_law_loops_here"] (spLeaf K) := by
  refine Fn.ok sc_leaf (fun vs H Q E h => ?_) (fun cdv A0 outer s0 H vs Q E hr h => ?_)
  · obtain ⟨a, n, rfl, _⟩ := h
    rfl
  · obtain ⟨a, n, rfl, hs, hn, k⟩ := h
    refine ⟨_, (pss_cons (ps_set (i := 2) sc_leaf.nd rfl (Or.inl rfl) (pe_c c_one hr (by decide) rfl (pa_cons (pv 0) (pa_cons (pe_lst (pa_cons pe_str (pa_cons pe_str (pa_cons pe_str (pa_cons pe_str (pa_cons pe_str (pa_cons pe_str (pa_cons pe_str (pa_cons pe_str (pa_cons pe_str pa_nil)))))))))) pa_nil))))
(pss_cons (ps_if (pt_cmpR op_in_seq (pv 2) (pe_tup (pa_cons pe_str (pa_cons pe_str pa_nil))) (by with_unfolding_all rfl))
(pss_one (ps_ret (pe_ifExp (pt_cmpR op_gt (pv 1) pe_int (nomark _)) (pe_tup (pa_cons (pv 2) (pa_cons (pe_op op_add pe_int (pe_c c_draw hr (by decide) rfl (pa_cons (pv 0) (pa_cons (pv 1) pa_nil)))) pa_nil))) (pe_tup (pa_cons pe_str (pa_cons pe_str pa_nil))))))
pss_nil)
(pss_cons (ps_if (pt_cmpR op_in_seq (pv 2) (pe_tup (pa_cons pe_str (pa_cons pe_str pa_nil))) (by with_unfolding_all rfl))
(pss_one (ps_ret (pe_tup (pa_cons (pv 2) pa_nil))))
pss_nil)
(pss_one (ps_ret (pe_tup (pa_cons (pv 2) (pa_cons (pe_c c_one hr (by decide) rfl (pa_cons (pv 0) (pa_cons (pe_lst (pa_cons pe_str (pa_cons pe_str (pa_cons pe_str (pa_cons pe_str pa_nil))))) pa_nil))) pa_nil)))))))), ?_⟩
    refine ⟨_, rfl, by show 9 ≤ sizeLine; decide, fun l1 n1 => ?_⟩
    have a1 := Adv.new (o := .lst [.str "do", .str "do", .str "call", .str "call", .str "return", .str "raise", .str "break", .str "continue", .str "break"]) (Adv.refl hs) n1
    have la : l1 ≠ a := fun z => hs.some (by rw [← z]; exact n1)
    refine ⟨a, l1, _, rfl, a1.src, la, upd_same, by simp, by show 9 ≤ 1000; decide, fun j v H1 hv ad1 => ?_⟩
    have a2 := a1.trans ad1
    have q1 : (1 : Nat) ≤ sizeLine := by decide
    have q2 : (2 : Nat) ≤ sizeLine := by decide
    have q4 : (4 : Nat) ≤ sizeLine := by decide
    obtain ⟨z, rfl, hz⟩ : ∃ z : Str, v = .str z ∧ ((z = "do" ∨ z = "call") ∧ jumps z = false ∧ ends z = false ∨ (z = "return" ∨ z = "raise") ∧ jumps z = false ∧ ends z = true ∨ (z = "break" ∨ z = "continue") ∧ jumps z = true) := by
      have hj : j < 9 := (List.getElem?_eq_some_iff.mp hv).1
      match j, hj, hv with
      | 0, _, hv => cases hv; exact ⟨_, rfl, .inl ⟨.inl rfl, by decide, by decide⟩⟩
      | 1, _, hv => cases hv; exact ⟨_, rfl, .inl ⟨.inl rfl, by decide, by decide⟩⟩
      | 2, _, hv => cases hv; exact ⟨_, rfl, .inl ⟨.inr rfl, by decide, by decide⟩⟩
      | 3, _, hv => cases hv; exact ⟨_, rfl, .inl ⟨.inr rfl, by decide, by decide⟩⟩
      | 4, _, hv => cases hv; exact ⟨_, rfl, .inr (.inl ⟨.inl rfl, by decide, by decide⟩)⟩
      | 5, _, hv => cases hv; exact ⟨_, rfl, .inr (.inl ⟨.inr rfl, by decide, by decide⟩)⟩
      | 6, _, hv => cases hv; exact ⟨_, rfl, .inr (.inr ⟨.inl rfl, by decide⟩)⟩
      | 7, _, hv => cases hv; exact ⟨_, rfl, .inr (.inr ⟨.inr rfl, by decide⟩)⟩
      | 8, _, hv => cases hv; exact ⟨_, rfl, .inr (.inr ⟨.inl rfl, by decide⟩)⟩
    have zl : z.length ≤ 100 := by
      rcases hz with ⟨rfl | rfl, _⟩ | ⟨rfl | rfl, _⟩ | ⟨rfl | rfl, _⟩ <;> decide
    refine ⟨_, rfl, q2, fun t nt => ⟨t, _, rfl, .inr (SqT.of upd_same), rfl, rfl, _, rfl, ?_⟩⟩
    rw [inV_jumps]
    have a3 := a2.new (o := .tup [.str "break", .str "continue"]) nt
    rcases hz with ⟨hz, ej, ee⟩ | ⟨hz, ej, ee⟩ | ⟨hz, ej⟩
    · rw [ej]
      refine iteF ?_
      refine ⟨_, rfl, q2, fun t2 nt2 => ⟨t2, _, rfl, .inr (SqT.of upd_same), rfl, rfl, _, rfl, ?_⟩⟩
      rw [inV_ends, ee]
      refine iteF ?_
      have a4 := a3.new (o := .tup [.str "return", .str "raise"]) nt2
      refine ⟨_, rfl, _, rfl, q4, fun l2 n2 => ?_⟩
      have a5 := a4.new (o := .lst [.str "a", .str "b", .str "abcdefgh", .str "z"]) n2
      have la2 : l2 ≠ a := fun u => a4.src.some (by rw [← u]; exact n2)
      refine ⟨a, l2, _, rfl, a5.src, la2, upd_same, by simp, by show 4 ≤ 1000; decide, fun j2 v2 H2 hv2 ad2 => ?_⟩
      obtain ⟨x, rfl, nx⟩ : ∃ x : Str, v2 = .str x ∧ nameOk x = true ∧ x.length ≤ 100 := by
        have hj : j2 < 4 := (List.getElem?_eq_some_iff.mp hv2).1
        match j2, hj, hv2 with
        | 0, _, hv => cases hv; exact ⟨_, rfl, by decide, by decide⟩
        | 1, _, hv => cases hv; exact ⟨_, rfl, by decide, by decide⟩
        | 2, _, hv => cases hv; exact ⟨_, rfl, by decide, by decide⟩
        | 3, _, hv => cases hv; exact ⟨_, rfl, by decide, by decide⟩
      have a6 := a5.trans ad2
      refine ⟨q2, fun t3 n3 => ?_⟩
      exact k _ _ _ (a6.new n3) (tup_new a6.src n3 (.cons (str_ob z zl) (.cons (str_ob x nx.2) .nil)) (by simp)) (.name _ _ _ hz nx.1)
    · rw [ej]
      refine iteF ?_
      refine ⟨_, rfl, q2, fun t2 nt2 => ⟨t2, _, rfl, .inr (SqT.of upd_same), rfl, rfl, _, rfl, ?_⟩⟩
      rw [inV_ends, ee]
      refine iteT ?_
      have a4 := a3.new (o := .tup [.str "return", .str "raise"]) nt2
      refine ⟨_, rfl, q1, fun t3 n3 => ?_⟩
      exact k _ _ _ (a4.new n3) (tup_new a4.src n3 (.cons (str_ob z zl) .nil) (by simp)) (.end_ _ _ hz)
    · rw [ej]
      refine iteT ?_
      refine ⟨_, rfl, _, _, rfl, rfl, _, rfl, ?_⟩
      refine ite2 (fun g => ?_) (fun g => ?_)
      · have g0 : 0 < n := by
          have z := of_decide_eq_true g
          omega
        refine ⟨_, rfl, _, rfl, _, rfl, a, n, rfl, a3.src, by omega, by omega, fun r xb yb zb r0 r1 => ?_⟩
        refine ⟨_, _, rfl, rfl, q2, fun t3 n3 => ?_⟩
        have a4 := a3.trans (Adv.draw (x := xb) (y := yb) (z := zb))
        exact k _ _ _ (a4.new n3) (tup_new a4.src n3 (.cons (str_ob z zl) (.cons (.int _) .nil)) (by simp)) (.jump _ _ _ hz (by omega) (by omega))
      · refine ⟨q2, fun t3 n3 => ?_⟩
        exact k _ _ _ (a3.new n3) (tup_new a3.src n3 (.cons (str_ob "do") (.cons (str_ob "x") .nil)) (by simp)) (.name _ _ _ (.inl rfl) (by decide))
end
end N3
end L2
set_option Elab.async false
set_option linter.all false
set_option maxRecDepth 100000
set_option maxHeartbeats 8000000
namespace L2
namespace N3
open PySem PySem.Spec PyProof.Rows Fc C8
section
variable {P : Program} {w : World} {K : PySem.W.Frag} {mg : Str → Option Value} {base : Heap} {c : Cs}
/-! ### _law_statement -/
def spSt (K : PySem.W.Frag) (d : Nat) : Sp := fun vs H Q _ => ∃ (a : Addr) (n : Nat), vs = [.ref a, .int ((d + 1 : Nat) : Int), .int n] ∧ Src H a ∧ n + d < 100 ∧ ∀ v o H', Adv a H H' → Ob K (Fz a H') v o → Tr (d + 1) n o → Q v H'
/-- one less, where there is one -/
def spBelow (K : PySem.W.Frag) (d : Nat) : Sp := fun vs H Q E => ∃ d', d = d' + 1 ∧ spSt K d' vs H Q E
abbrev s_statement : Stmt := top 32
theorem sc_statement : FnScope ["_law_source", "_law_deep", "_law_loops_here", "_law_kind", "_law_one_here", "_law_other", "_law_k"] ["_law_source", "_law_deep", "_law_loops_here"] (defScope s_statement) := ⟨rfl, rfl, rfl, by decide +kernel, rfl, by decide +kernel, by decide +kernel⟩
theorem ok_st {f : Addr} {fd : FuncData} (d : Nat) (Fn : Fun K "_law_statement" "_law_statement" s_statement f fd) (T : Txt K mg w c) (c_draw : Cal P w K mg base 1 "_law_draw" spDraw []) (c_one : Cal P w K mg base 2 "_law_one" (spOne K) []) (c_leaf : Cal P w K mg base 3 "_law_leaf" (spLeaf K) [])
    (c_rec : Cal P w K mg base (d + 4) "_law_statement" (spBelow K d) []) : FnOk P w K mg base CX0 (d + 5) f fd ["_law_source", "_law_deep", "_law_loops_here"] (spSt K d) := by
  refine Fn.ok (k := d + 4) sc_statement (fun vs H Q E h => ?_) (fun cdv A0 outer s0 H vs Q E hr h => ?_)
  · obtain ⟨a, n, rfl, _⟩ := h
    rfl
  · obtain ⟨a, n, rfl, hs, hn, k⟩ := h
    refine ⟨_, (pss_cons (ps_if (PW.pt (pw_or (pt_cmpR op_lt (pv 1) pe_int (nomark _)) (pw_or1 (pt_cmpR op_eq (pe_c c_draw hr (by omega) rfl (pa_cons (pv 0) (pa_cons pe_int pa_nil))) pe_int (nomark _)))))
(pss_one (ps_ret (pe_c c_leaf hr (by omega) rfl (pa_cons (pv 0) (pa_cons (pv 2) pa_nil)))))
pss_nil)
(pss_cons (ps_set (i := 3) sc_statement.nd rfl (Or.inl rfl) (pe_c c_one hr (by omega) rfl (pa_cons (pv 0) (pa_cons (pe_lst (pa_cons pe_str (pa_cons pe_str (pa_cons pe_str (pa_cons pe_str (pa_cons pe_str (pa_cons pe_str (pa_cons pe_str (pa_cons pe_str pa_nil))))))))) pa_nil))))
(pss_cons (ps_if (pt_cmpR op_eq (pv 3) pe_str (nomark _))
(pss_one (ps_ret (pe_tup (pa_cons (pv 3) (pa_cons (pe_callTy call_tuple_of (by rfl) T.n_tuple (by decide +kernel) (pa_cons (pe_lc (own := [("_law_k", 6)]) rfl sc_statement.nd (pi_range1 rfl T.n_range (pa_cons (pe_op op_add pe_int (pe_c c_draw hr (by omega) rfl (pa_cons (pv 0) (pa_cons pe_int pa_nil)))) pa_nil)) (blkOk_by (N := ["_law_source", "_law_deep", "_law_loops_here", "_law_kind", "_law_one_here", "_law_other", "_law_k"]) (sc := defScope s_statement) (by decide +kernel)) (fun _ _ _ _ _ => pg_name (i := 6) sc_statement.nd rfl (Or.inl rfl)) (fun _ _ _ _ _ => pts_nil) (fun _ _ _ _ _ => (pe_c c_rec hr (by omega) rfl (pa_cons (pv 0) (pa_cons (pe_op op_sub (pv 1) pe_int) (pa_cons (pv 2) pa_nil)))))) pa_nil)) pa_nil)))))
pss_nil)
(pss_cons (ps_if (pt_cmpR op_eq (pv 3) pe_str (nomark _))
(pss_one (ps_ret (pe_tup (pa_cons (pv 3) (pa_cons (pe_c c_one hr (by omega) rfl (pa_cons (pv 0) (pa_cons (pe_lst (pa_cons pe_str (pa_cons pe_str pa_nil))) pa_nil))) (pa_cons (pe_c c_rec hr (by omega) rfl (pa_cons (pv 0) (pa_cons (pe_op op_sub (pv 1) pe_int) (pa_cons (pe_op op_add (pv 2) pe_int) pa_nil)))) pa_nil))))))
pss_nil)
(pss_cons (ps_par rfl sc_statement.nd (i := 4) (j := 5) rfl rfl (by decide) rfl rfl (pa_cons (pe_c c_rec hr (by omega) rfl (pa_cons (pv 0) (pa_cons (pe_op op_sub (pv 1) pe_int) (pa_cons (pv 2) pa_nil)))) (pa_cons (pe_c c_rec hr (by omega) rfl (pa_cons (pv 0) (pa_cons (pe_op op_sub (pv 1) pe_int) (pa_cons (pv 2) pa_nil)))) pa_nil)) rfl)
(pss_one (ps_ret (pe_ifExp (pt_cmpR op_eq (pv 3) pe_str (nomark _)) (pe_tup (pa_cons (pv 3) (pa_cons pe_str (pa_cons (pv 4) (pa_cons (pv 5) pa_nil))))) (pe_tup (pa_cons (pv 3) (pa_cons (pv 4) (pa_cons (pv 5) pa_nil)))))))))))), ?_⟩
    refine ⟨_, rfl, _, _, rfl, rfl, _, rfl, ?_⟩
    refine ite2 (fun g => ?_) (fun g => ?_)
    · refine iteT ?_
      refine ⟨_, rfl, _, rfl, a, n, rfl, hs, by omega, fun v o H' ad ob lf => ?_⟩
      exact k v o H' ad ob (.leaf _ _ _ lf)
    have dpos : ∃ d', d = d' + 1 := by
      cases d with
      | zero => exact absurd (decide_eq_true (by decide)) g
      | succ d' => exact ⟨d', rfl⟩
    obtain ⟨d', rfl⟩ := dpos
    refine ⟨_, rfl, a, 7, rfl, hs, by decide, by decide, fun r xb yb zb r0 r1 => ?_⟩
    refine ⟨rfl, _, rfl, ?_⟩
    have ad1 : Adv a H (upd H a (.lst [.int xb, .int yb, .int zb])) := Adv.draw
    refine ite2 (fun g2 => ?_) (fun g2 => ?_)
    · refine ⟨_, rfl, _, rfl, a, n, rfl, ad1.src, by omega, fun v o H' ad ob lf => ?_⟩
      exact k v o H' (ad1.trans ad) ob (.leaf _ _ _ lf)
    have q2 : (2 : Nat) ≤ sizeLine := by decide
    have q3 : (3 : Nat) ≤ sizeLine := by decide
    have q4 : (4 : Nat) ≤ sizeLine := by decide
    have q8 : (8 : Nat) ≤ sizeLine := by decide
    refine ⟨_, rfl, q8, fun l1 n1 => ?_⟩
    have a1 := ad1.new (o := .lst [.str "if", .str "while", .str "seq", .str "seq", .str "try", .str "final", .str "final", .str "final"]) n1
    have la : l1 ≠ a := fun z => by
      rw [z, upd_same] at n1
      cases n1
    refine ⟨a, l1, _, rfl, a1.src, la, upd_same, by simp, by show 8 ≤ 1000; decide, fun j v H1 hv ad2 => ?_⟩
    have a2 := a1.trans ad2
    obtain ⟨z, rfl, hz⟩ : ∃ z : Str, v = .str z ∧ (z = "seq" ∨ z = "while" ∨ z = "if" ∨ (z = "try" ∨ z = "final")) := by
      have hj : j < 8 := (List.getElem?_eq_some_iff.mp hv).1
      match j, hj, hv with
      | 0, _, hv => cases hv; exact ⟨_, rfl, .inr (.inr (.inl rfl))⟩
      | 1, _, hv => cases hv; exact ⟨_, rfl, .inr (.inl rfl)⟩
      | 2, _, hv => cases hv; exact ⟨_, rfl, .inl rfl⟩
      | 3, _, hv => cases hv; exact ⟨_, rfl, .inl rfl⟩
      | 4, _, hv => cases hv; exact ⟨_, rfl, .inr (.inr (.inr (.inl rfl)))⟩
      | 5, _, hv => cases hv; exact ⟨_, rfl, .inr (.inr (.inr (.inr rfl)))⟩
      | 6, _, hv => cases hv; exact ⟨_, rfl, .inr (.inr (.inr (.inr rfl)))⟩
      | 7, _, hv => cases hv; exact ⟨_, rfl, .inr (.inr (.inr (.inr rfl)))⟩
    have less : (((d' + 1 + 1 : Nat) : Int) - 1) = ((d' + 1 : Nat) : Int) := by omega
    have more : ((n : Int) + 1) = ((n + 1 : Nat) : Int) := by omega
    have eqv : ([V.ref a, V.int (((d' + 1 + 1 : Nat) : Int) - 1), V.int (n : Nat)] : List V) = [V.ref a, V.int ((d' + 1 : Nat) : Int), V.int (n : Nat)] := by rw [less]
    have eqw : ([V.ref a, V.int (((d' + 1 + 1 : Nat) : Int) - 1), V.int ((n : Int) + 1)] : List V) = [V.ref a, V.int ((d' + 1 : Nat) : Int), V.int ((n + 1 : Nat) : Int)] := by rw [less, more]
    refine ⟨_, rfl, rfl, _, rfl, ?_⟩
    rcases hz with rfl | rfl | rfl | hz
    · -- seq
      refine (if_pos (decide_eq_true rfl)).mpr ?_
      refine ⟨_, rfl, _, rfl, a, 3, rfl, a2.src, by decide, by decide, fun r2 x2 y2 z2 s0 s1 => ?_⟩
      obtain ⟨m, rfl⟩ : ∃ m : Nat, r2 = m := ⟨r2.toNat, by omega⟩
      have ad3 : Adv a H (upd H1 a (.lst [.int x2, .int y2, .int z2])) := a2.trans Adv.draw
      obtain ⟨B0, eB⟩ : ∃ B0, B0 = upd H1 a (.lst [.int x2, .int y2, .int z2]) := ⟨_, rfl⟩
      rw [← eB] at ad3 ⊢
      have lm : (1 + (m : Int)).toNat = m + 1 := by omega
      refine ⟨_, _, rfl, rfl, _, rfl, by omega, by omega, fun D nD => ?_⟩
      have da : D ≠ a := fun z => ad3.src.some (by rw [← z]; exact nD)
      refine lc_it (n := (1 + (m : Int)).toNat) (fun i H' => Adv a B0 H' ∧ ∃ xs os, H' D = some (.lst xs) ∧ Obs K (Fz a H') xs os ∧ os.length = i ∧ ∀ o ∈ os, Tr (d' + 1) n o) ⟨Adv.new (Adv.refl ad3.src) nD, [], [], upd_same, .nil, rfl, fun _ h => nomatch h⟩ (fun i H' hi _ => hi) (fun H' _ => Nat.le_refl _) ?_ ?_
      · rintro i x H4 H4' hi ⟨ad4, xs, os, hD, obs, lo, tr⟩ ⟨rfl, rfl⟩
        refine ⟨rfl, ?_⟩
        refine ⟨_, rfl, _, rfl, _, _, rfl, rfl, _, rfl, d', rfl, a, n, eqv, ad4.src, by omega, fun v o H5 ad5 ob to => ?_⟩
        have hD5 := ad5.get da hD
        have zD5 : Fz a H5 D = some (.lst xs) := by
          rw [fz_ne da]
          exact hD5
        have lx : xs.length = i := by rw [obs.len, lo]
        refine ⟨xs, hD5, by rw [lx]; exact small1000 (by omega), (ad4.trans ad5).chg nD da, xs ++ [v], os ++ [o], upd_same, ?_, by rw [List.length_append, List.length_singleton, lo], ?_⟩
        · rw [fz_upd da]
          exact Obs.snoc (Obs.upd zD5 (obs.mono ad5.fz) (noLs_of fun u hu => (tr u hu).noL)) (Ob.upd zD5 ob to.noL)
        · intro u hu
          rcases List.mem_append.mp hu with hu | hu
          · exact tr u hu
          · rw [List.mem_singleton] at hu
            subst hu
            exact to
      · rintro H4 ⟨ad4, xs, os, hD, obs, lo, tr⟩
        have a5 := ad3.trans ad4
        refine ⟨D, xs, rfl, .inl ⟨SqL.of hD, fun l nl => ⟨q2, fun t nt => ?_⟩⟩⟩
        have e1 := tup_new (K := K) a5.src nl obs (by omega)
        have a6 := a5.new (o := .tup xs) nl
        refine k _ _ _ (a6.new nt) (tup_new a6.src nt (.cons (str_ob "seq") (.cons e1 .nil)) (by simp)) (.seq _ _ _ ?_ (by omega) tr)
        intro z
        rw [z] at lo
        simp at lo
        omega
    · -- while
      refine (if_neg (by decide)).mpr ?_
      refine ⟨_, rfl, rfl, _, rfl, ?_⟩
      refine (if_pos (decide_eq_true rfl)).mpr ?_
      refine ⟨_, rfl, _, rfl, q2, fun l2 n2 => ?_⟩
      have a3 := a2.new (o := .lst [.str "a", .str "w"]) n2
      have la2 : l2 ≠ a := fun u => a2.src.some (by rw [← u]; exact n2)
      refine ⟨a, l2, _, rfl, a3.src, la2, upd_same, by simp, by show 2 ≤ 1000; decide, fun j2 v2 H2 hv2 ad3 => ?_⟩
      obtain ⟨x, rfl, nx⟩ : ∃ x : Str, v2 = .str x ∧ nameOk x = true ∧ x.length ≤ 100 := by
        have hj : j2 < 2 := (List.getElem?_eq_some_iff.mp hv2).1
        match j2, hj, hv2 with
        | 0, _, hv => cases hv; exact ⟨_, rfl, by decide, by decide⟩
        | 1, _, hv => cases hv; exact ⟨_, rfl, by decide, by decide⟩
      have a4 := a3.trans ad3
      refine ⟨_, rfl, _, rfl, _, _, rfl, rfl, _, rfl, _, _, rfl, rfl, d', rfl, a, n + 1, eqw, a4.src, by omega, fun v3 o H3 ad4 ob tr => ⟨q3, fun t nt => ?_⟩⟩
      have a5 := a4.trans ad4
      exact k _ _ _ (a5.new nt) (tup_new a5.src nt (.cons (str_ob "while") (.cons (str_ob x nx.2) (.cons ob .nil))) (by simp)) (.whi _ _ _ _ nx.1 tr)
    · -- if
      refine (if_neg (by decide)).mpr ?_
      refine ⟨_, rfl, rfl, _, rfl, ?_⟩
      refine (if_neg (by decide)).mpr ?_
      refine ⟨_, rfl, _, rfl, _, _, rfl, rfl, _, rfl, d', rfl, a, n, eqv, a2.src, by omega, fun v3 o3 H3 ad3 ob3 tr3 => ?_⟩
      have a3 := a2.trans ad3
      refine ⟨_, rfl, _, rfl, _, _, rfl, rfl, _, rfl, d', rfl, a, n, eqv, a3.src, by omega, fun v4 o4 H4 ad4 ob4 tr4 => ?_⟩
      have a4 := a3.trans ad4
      refine ⟨_, _, rfl, _, rfl, rfl, _, rfl, ?_⟩
      refine (if_pos (decide_eq_true rfl)).mpr ?_
      refine ⟨_, rfl, _, rfl, _, rfl, q4, fun t nt => ?_⟩
      exact k _ _ _ (a4.new nt) (tup_new a4.src nt (.cons (str_ob "if") (.cons (str_ob "i") (.cons (ob3.mono ad4.fz) (.cons ob4 .nil)))) (by simp)) (.if_ _ _ _ _ tr3 tr4)
    · -- try, final
      have no1 : ¬ decide (V.str z = V.str "seq") = true := by rcases hz with rfl | rfl <;> decide
      have no2 : ¬ decide (V.str z = V.str "while") = true := by rcases hz with rfl | rfl <;> decide
      have no3 : ¬ decide (V.str z = V.str "if") = true := by rcases hz with rfl | rfl <;> decide
      have zl : z.length ≤ 100 := by rcases hz with rfl | rfl <;> decide
      refine (if_neg no1).mpr ?_
      refine ⟨_, rfl, rfl, _, rfl, ?_⟩
      refine (if_neg no2).mpr ?_
      refine ⟨_, rfl, _, rfl, _, _, rfl, rfl, _, rfl, d', rfl, a, n, eqv, a2.src, by omega, fun v3 o3 H3 ad3 ob3 tr3 => ?_⟩
      have a3 := a2.trans ad3
      refine ⟨_, rfl, _, rfl, _, _, rfl, rfl, _, rfl, d', rfl, a, n, eqv, a3.src, by omega, fun v4 o4 H4 ad4 ob4 tr4 => ?_⟩
      have a4 := a3.trans ad4
      refine ⟨_, _, rfl, _, rfl, rfl, _, rfl, ?_⟩
      refine (if_neg no3).mpr ?_
      refine ⟨_, rfl, _, rfl, _, rfl, q3, fun t nt => ?_⟩
      exact k _ _ _ (a4.new nt) (tup_new a4.src nt (.cons (str_ob z zl) (.cons (ob3.mono ad4.fz) (.cons ob4 .nil))) (by simp)) (.two _ _ _ _ _ hz tr3 tr4)
theorem below_0 {f : Addr} {fd : FuncData} {ps : List Str} {k : Nat} : FnOk P w K mg base CX0 k f fd ps (spBelow K 0) :=
  ⟨fun _ _ _ _ h => by
    obtain ⟨d', e, _⟩ := h
    omega, fun _ _ _ _ _ _ _ _ _ _ _ _ _ h => by
    obtain ⟨d', e, _⟩ := h
    omega⟩
theorem below_s {f : Addr} {fd : FuncData} {ps : List Str} {k d : Nat} (F : FnOk P w K mg base CX0 k f fd ps (spSt K d)) : FnOk P w K mg base CX0 k f fd ps (spBelow K (d + 1)) :=
  F.imp fun vs H Q E h => by
    obtain ⟨d', e, q⟩ := h
    have e2 : d' = d := by omega
    subst e2
    exact q
/-- the def that calls itself, at every depth -/
theorem ok_sts {f : Addr} {fd : FuncData} (Fn : Fun K "_law_statement" "_law_statement" s_statement f fd) (hm : mg "_law_statement" = some (.ref f)) (b : Binds K fd ["_law_source", "_law_deep", "_law_loops_here"] []) (T : Txt K mg w c) (c_draw : Cal P w K mg base 1 "_law_draw" spDraw [])
    (c_one : Cal P w K mg base 2 "_law_one" (spOne K) []) (c_leaf : Cal P w K mg base 3 "_law_leaf" (spLeaf K) []) : ∀ d, FnOk P w K mg base CX0 (d + 5) f fd ["_law_source", "_law_deep", "_law_loops_here"] (spSt K d)
  | 0 => ok_st 0 Fn T c_draw c_one c_leaf ⟨f, fd, _, _, below_0, hm, Fn.kp, b, .nil⟩
  | d + 1 => ok_st (d + 1) Fn T c_draw c_one c_leaf ⟨f, fd, _, _, (below_s (ok_sts Fn hm b T c_draw c_one c_leaf d)).mono (by omega), hm, Fn.kp, b, .nil⟩
end
end N3
end L2
set_option Elab.async false
set_option linter.all false
set_option maxRecDepth 100000
set_option maxHeartbeats 8000000
namespace L2
namespace N3
open PySem PySem.Spec PyProof.Rows Fc C8
section
variable {P : Program} {w : World} {K : PySem.W.Frag} {mg : Str → Option Value} {base : Heap} {c : Cs}
/-! ### _law_parts -/
def ifw (k : Str) : Bool := decide (k = "if") || decide (k = "while")
theorem inV_ifw (z : Str) : (if false = true then !inV (.str z) [.str "if", .str "while"] else inV (.str z) [.str "if", .str "while"]) = ifw z := by
  rw [if_neg Bool.false_ne_true]
  show ((("if" : Str) == z) || ((("while" : Str) == z) || false)) = ifw z
  rw [beq_dec, beq_dec, Bool.or_false]
  rfl
theorem short_of {z : Str} {m : Nat} (h : szOf z = some (m + 1)) (n1 : z ≠ "seq") (n2 : ifw z = false) (n3 : pairs z = false) : m ≤ 1 := by
  unfold ifw at n2
  unfold pairs at n3
  obtain ⟨i1, i2⟩ := Bool.or_eq_false_iff.mp n2
  obtain ⟨i3, i4⟩ := Bool.or_eq_false_iff.mp n3
  have j1 := of_decide_eq_false i1
  have j2 := of_decide_eq_false i2
  have j3 := of_decide_eq_false i3
  have j4 := of_decide_eq_false i4
  unfold szOf at h
  rw [if_neg j1, if_neg j2, if_neg n1, if_neg j3, if_neg j4] at h
  repeat' split at h
  all_goals first | (cases h; done) | (have := Option.some.inj h; omega)
def spPartsL (K : PySem.W.Frag) : Sp := fun vs H Q _ => ∃ (F : Hp) (v : V) (o : O) (wh : Nat), vs = [v] ∧ Same F H ∧ Ob K F v o ∧ o.isStmt wh = true ∧ ∀ H' p xs, Same H H' → H p = none → H' p = some (.lst xs) → Obs K F xs o.parts → Q (.ref p) H'
abbrev s_parts : Stmt := top 33
theorem sc_parts : FnScope ["_law_value"] ["_law_value"] (defScope s_parts) := ⟨rfl, rfl, rfl, by decide +kernel, rfl, by decide +kernel, by decide +kernel⟩
theorem ok_parts {f : Addr} {fd : FuncData} (Fn : Fun K "_law_parts" "_law_parts" s_parts f fd) (T : Txt K mg w c) : FnOk P w K mg base CX0 1 f fd ["_law_value"] (spPartsL K) := by
  refine Fn.ok sc_parts (fun vs H Q E h => ?_) (fun cdv A0 outer s0 H vs Q E hr h => ?_)
  · obtain ⟨F, v, o, wh, rfl, _⟩ := h
    rfl
  · obtain ⟨F, v, o, wh, rfl, sF, ho, hst, k⟩ := h
    refine ⟨_, (pss_cons (ps_if (pt_cmpR op_eq (pe_ix ix_tup (pv 0) pe_int (fun _ _ => rfl)) pe_str (nomark _))
(pss_one (ps_ret (pe_callTy call_list_of (by rfl) T.n_list (by decide +kernel) (pa_cons (pe_ix ix_tup (pv 0) pe_int (fun _ _ => rfl)) pa_nil))))
pss_nil)
(pss_cons (ps_if (pt_cmpR op_in_seq (pe_ix ix_tup (pv 0) pe_int (fun _ _ => rfl)) (pe_tup (pa_cons pe_str (pa_cons pe_str pa_nil))) (by with_unfolding_all rfl))
(pss_one (ps_ret (pe_callTy call_list_of (by rfl) T.n_list (by decide +kernel) (pa_cons (pe_slice sl_tup (pv 0) (po_some pe_int) po_none) pa_nil))))
pss_nil)
(pss_one (ps_ret (pe_ifExp (pt_cmpR op_in_seq (pe_ix ix_tup (pv 0) pe_int (fun _ _ => rfl)) (pe_tup (pa_cons pe_str (pa_cons pe_str pa_nil))) (by with_unfolding_all rfl)) (pe_callTy call_list_of (by rfl) T.n_list (by decide +kernel) (pa_cons (pe_slice sl_tup (pv 0) (po_some pe_int) po_none) pa_nil)) (pe_lst pa_nil)))))), ?_⟩
    have hk : o.hasKind = true := by
      unfold O.isStmt at hst
      exact (Bool.and_eq_true_iff.mp hst).1
    obtain ⟨z, r, rfl, hsz⟩ := hasKind_of hk
    obtain ⟨a, xs, rfl, htF, hos⟩ := ho.tup_eq
    have ht := Fc.Same.sqt sF htF
    obtain ⟨y, hy, hyo⟩ := hos.get (i := 0) (o := .str z) rfl
    obtain rfl := hyo.str_eq
    have q2 : (2 : Nat) ≤ sizeLine := by decide
    have hx : 0 < xs.length := (List.getElem?_eq_some_iff.mp hy).1
    have tail : O.isStmt (.tup (.str z :: r)) wh = tailOk wh z r := by
      unfold O.isStmt
      rw [hk]
      rfl
    rw [tail] at hst
    refine ⟨_, rfl, a, xs, 0, _, rfl, rfl, ht, at_of rfl hy, rfl, _, rfl, ?_⟩
    by_cases e3 : z = "seq"
    · rw [decide_eq_true (by rw [e3])]
      refine iteT ?_
      obtain ⟨o1, r1, rfl⟩ : ∃ o1 r1, r = o1 :: r1 := by
        cases r with
        | nil => exact absurd hsz (by rw [e3]; decide)
        | cons o1 r1 => exact ⟨o1, r1, rfl⟩
      obtain ⟨os, rfl⟩ : ∃ os, o1 = .tup os := by
        have q : o1.seqOk = true := by
          subst e3
          exact hst
        cases o1 with
        | tup os => exact ⟨os, rfl⟩
        | _ => cases q
      obtain ⟨y1, hy1, hyo1⟩ := hos.get (i := 1) (o := .tup os) rfl
      obtain ⟨b, ys, rfl, hbF, hbs⟩ := hyo1.tup_eq
      have hb := Fc.Same.sqt sF hbF
      have ep : O.parts (.tup (.str z :: .tup os :: r1)) = os := by
        subst e3
        rfl
      rw [ep] at k
      refine ⟨_, rfl, a, xs, 1, _, rfl, rfl, ht, at_of rfl hy1, b, ys, rfl, .inr hb, fun l hl => ?_⟩
      exact k _ l ys (Fc.Same.put hl) hl upd_same hbs
    · rw [decide_eq_false (fun q => e3 (V.str.inj q))]
      refine iteF ?_
      refine ⟨_, rfl, a, xs, 0, _, rfl, rfl, ht, at_of rfl hy, q2, fun t1 n1 => ⟨t1, _, rfl, .inr (SqT.of upd_same), rfl, rfl, _, rfl, ?_⟩⟩
      rw [inV_ifw]
      have s1 : Same H (upd H t1 (.tup [.str "if", .str "while"])) := Fc.Same.put n1
      cases e4 : ifw z with
      | true =>
        refine iteT ?_
        have e5 : pairs z = false := by
          unfold ifw at e4
          rcases Bool.or_eq_true_iff.mp e4 with u | u <;> (have := of_decide_eq_true u; subst this; decide)
        refine ⟨_, rfl, 2, rfl, a, xs, rfl, Fc.Same.sqt s1 ht, cut_part (n := 2) (by decide) hx, fun q hq => ⟨q, _, rfl, .inr (SqT.of upd_same), fun l hl => ?_⟩⟩
        have s2 := Fc.Same.new (o := .lst (cutV xs (some ((2 : Nat) : Int)) none)) (Fc.Same.new (o := .tup (cutV xs (some ((2 : Nat) : Int)) none)) s1 hq) hl
        refine k _ l _ s2 ((Fc.Same.new s1 hq).free hl) upd_same ?_
        have ep : O.parts (.tup (.str z :: r)) = (O.str z :: r).drop 2 := by
          show (if z = "seq" then _ else if pairs z = true then r else r.drop 1) = r.drop 1
          rw [if_neg e3, if_neg (by rw [e5]; exact Bool.false_ne_true)]
        have ec : cutV xs (some (2 : Int)) none = xs.drop 2 := cut1 xs 2
        have ob := hos.drop 2
        rw [← ec] at ob
        rw [ep]
        exact ob
      | false =>
        refine iteF ?_
        refine ⟨_, rfl, a, xs, 0, _, rfl, rfl, Fc.Same.sqt s1 ht, at_of rfl hy, q2, fun t2 n2 => ⟨t2, _, rfl, .inr (SqT.of upd_same), rfl, rfl, _, rfl, ?_⟩⟩
        rw [inV_pairs]
        have s2 := Fc.Same.new (o := .tup [.str "try", .str "final"]) s1 n2
        cases e5 : pairs z with
        | true =>
          refine iteT ?_
          refine ⟨_, rfl, 1, rfl, a, xs, rfl, Fc.Same.sqt s2 ht, cut_part (n := 1) (by decide) hx, fun q hq => ⟨q, _, rfl, .inr (SqT.of upd_same), fun l hl => ?_⟩⟩
          have s3 := Fc.Same.new (o := .lst (cutV xs (some ((1 : Nat) : Int)) none)) (Fc.Same.new (o := .tup (cutV xs (some ((1 : Nat) : Int)) none)) s2 hq) hl
          refine k _ l _ s3 ((Fc.Same.new s2 hq).free hl) upd_same ?_
          have ep : O.parts (.tup (.str z :: r)) = (O.str z :: r).drop 1 := by
            show (if z = "seq" then _ else if pairs z = true then r else r.drop 1) = r
            rw [if_neg e3, if_pos e5]
          have ec : cutV xs (some (1 : Int)) none = xs.drop 1 := cut1 xs 1
          have ob := hos.drop 1
          rw [← ec] at ob
          rw [ep]
          exact ob
        | false =>
          refine iteF ?_
          refine ⟨Nat.zero_le _, fun l hl => ?_⟩
          have ep : O.parts (.tup (.str z :: r)) = [] := by
            show (if z = "seq" then _ else if pairs z = true then r else r.drop 1) = []
            rw [if_neg e3, if_neg (by rw [e5]; exact Bool.false_ne_true)]
            exact List.drop_eq_nil_of_le (short_of hsz e3 e4 e5)
          refine k _ l [] (Fc.Same.new s2 hl) (s2.free hl) upd_same ?_
          rw [ep]
          exact .nil
end
end N3
end L2
set_option Elab.async false
set_option linter.all false
set_option maxRecDepth 100000
set_option maxHeartbeats 8000000
namespace L2
namespace N3
open PySem PySem.Spec PyProof.Rows Fc C8
section
variable {P : Program} {w : World} {K : PySem.W.Frag} {mg : Str → Option Value} {base : Heap} {c : Cs}
/-! ### _law_flat -/
def spFlat (K : PySem.W.Frag) : Sp := fun vs H Q _ => ∃ (a : Addr) (v : V) (o : O) (R : List Spot), vs = [v] ∧ Src H a ∧ Ob K (Fz a H) v o ∧ o.noL = true ∧ Codes o (.ok R) ∧ ∀ H' l, Same H H' → RowsAt K (Fz a H') l R → Q (.ref l) H'
abbrev s_flat : Stmt := top 34
theorem sc_flat : FnScope ["_law_statement_here", "_law_rows", "_law_waiting", "_law_value", "_law_above", "_law_part"] ["_law_statement_here"] (defScope s_flat) := ⟨rfl, rfl, rfl, by decide +kernel, rfl, by decide +kernel, by decide +kernel⟩
theorem noL_item {os : List O} (h : (O.tup os).noL = true) {o : O} (m : o ∈ os) : o.noL = true := by
  rw [O.noL] at h
  exact noLs_mem h o m
theorem noL_part {o p : O} (h : o.noL = true) (m : p ∈ o.parts) : p.noL = true := by
  obtain ⟨os, rfl, m | ⟨us, m1, m2⟩⟩ := mem_parts m
  · exact noL_item h m
  · exact noL_item (noL_item h m1) m2
theorem mem_tail {α : Type} {l : List α} {x : α} (h : x ∈ l.dropLast) : x ∈ l := List.dropLast_subset _ h
theorem ok_flat {f : Addr} {fd : FuncData} (Fn : Fun K "_law_flat" "_law_flat" s_flat f fd) (T : Txt K mg w c) (c_parts : Cal P w K mg base 1 "_law_parts" (spPartsL K) []) : FnOk P w K mg base CX0 2 f fd ["_law_statement_here"] (spFlat K) := by
  refine Fn.ok sc_flat (fun vs H Q E h => ?_) (fun cdv A0 outer s0 H vs Q E hr h => ?_)
  · obtain ⟨a, v, o, R, rfl, _⟩ := h
    rfl
  · obtain ⟨a, v, o, R, rfl, hs, ho, hpl, hcd, k⟩ := h
    refine ⟨_, (pss_cons (ps_asg (pe_tup (pa_cons (pe_lst pa_nil) (pa_cons (pe_lst (pa_cons (pe_tup (pa_cons (pv 0) (pa_cons pe_non pa_nil))) pa_nil)) pa_nil))) (pg_tup rfl (pgs_cons (pg_name (i := 1) sc_flat.nd rfl (Or.inr rfl)) (pgs_cons (pg_name (i := 2) sc_flat.nd rfl (Or.inl rfl)) pgs_nil))))
(pss_cons (ps_while PassesOwn.never (pt_cmpR (op_neE hr.units) (pv 2) (pe_lst pa_nil) (nomark _))
(pss_cons (ps_asg (pe_bm0 PySem.F.plainAttrs_list PySem.F.slot_list_pop PySem.F.type_list_pop mt_pop (pv 2)) (pg_tup rfl (pgs_cons (pg_name (i := 3) sc_flat.nd rfl (Or.inl rfl)) (pgs_cons (pg_name (i := 4) sc_flat.nd rfl (Or.inl rfl)) pgs_nil))))
(pss_cons (ps_expr (pe_bm PySem.F.plainAttrs_list PySem.F.slot_list_append PySem.F.type_list_append mt_append (pv 1) (pa_cons (pe_lst (pa_cons (pv 3) (pa_cons (pv 4) (pa_cons (pe_lst pa_nil) pa_nil)))) pa_nil)))
(pss_cut (ps_if (pt_cmpR op_notN (pv 4) pe_non (nomark _))
(pss_one (ps_expr (pe_bm PySem.F.plainAttrs_list PySem.F.slot_list_append PySem.F.type_list_append mt_append (pe_ix ix_list (pe_ix ix_list (pv 1) (pv 4) (fun _ _ => rfl)) pe_int (fun _ _ => rfl)) (pa_cons (pe_op op_sub (pe_callB (id := "len") (r := rLenS K) call_len_seq (by rfl) T.n_len (by decide +kernel) (pa_cons (pv 1) pa_nil)) pe_int) pa_nil))))
pss_nil)
(pss_one (ps_expr (pe_bm PySem.F.plainAttrs_list PySem.F.slot_list_extend PySem.F.type_list_extend mt_extend (pv 2) (pa_cons (pe_revL (pe_lc (own := [("_law_part", 5)]) rfl sc_flat.nd (pi_list (pe_c c_parts hr (by decide) rfl (pa_cons (pv 3) pa_nil))) (blkOk_by (N := ["_law_statement_here", "_law_rows", "_law_waiting", "_law_value", "_law_above", "_law_part"]) (sc := defScope s_flat) (by decide +kernel)) (fun _ _ _ _ _ => pg_name (i := 5) sc_flat.nd rfl (Or.inl rfl)) (fun _ _ _ _ _ => pts_nil) (fun _ _ _ _ _ => (pe_tup (pa_cons (pv 5) (pa_cons (pe_op op_sub (pe_callB (id := "len") (r := rLenS K) call_len_seq (by rfl) T.n_len (by decide +kernel) (pa_cons (pv 1) pa_nil)) pe_int) pa_nil)))))) pa_nil))))))))
(pss_one (ps_ret (pv 1))))), ?_⟩
    have q1 : (1 : Nat) ≤ sizeLine := by decide
    have q2 : (2 : Nat) ≤ sizeLine := by decide
    have q3 : (3 : Nat) ≤ sizeLine := by decide
    refine ⟨Nat.zero_le _, fun l nl => ⟨_, rfl, q2, fun t nt => ⟨q1, fun W nW => ⟨q2, fun u nu => ⟨u, _, rfl, SqT.of upd_same, rfl, _, _, rfl, _, _, rfl, rfl, ?_⟩⟩⟩⟩⟩
    obtain ⟨tl, nt0⟩ := upd_none nt
    obtain ⟨Wt, nW1⟩ := upd_none nW
    obtain ⟨Wl, nW0⟩ := upd_none nW1
    obtain ⟨uW, nu1⟩ := upd_none nu
    obtain ⟨ut, nu2⟩ := upd_none nu1
    obtain ⟨ul, nu3⟩ := upd_none nu2
    have la : l ≠ a := fun z => hs.some (by rw [← z]; exact nl)
    have Wa : W ≠ a := fun z => hs.some (by rw [← z]; exact nW0)
    have sb : Same H (upd (upd (upd (upd H l (.lst [])) t (.tup [v, .non])) W (.lst [.ref t])) u (.tup [.ref l, .ref W])) := Fc.Same.new (Fc.Same.new (Fc.Same.new (Fc.Same.put nl) nt) nW) nu
    have adb := Adv.of_same hs sb
    obtain ⟨H1, eH1⟩ : ∃ H1, H1 = upd (upd (upd (upd H l (.lst [])) t (.tup [v, .non])) W (.lst [.ref t])) u (.tup [.ref l, .ref W]) := ⟨_, rfl⟩
    have fl : H1 l = some (.lst []) := by rw [eH1, upd_ne ul.symm, upd_ne Wl.symm, upd_ne tl.symm]; exact upd_same
    have ft : H1 t = some (.tup [v, .non]) := by rw [eH1, upd_ne ut.symm, upd_ne Wt.symm]; exact upd_same
    have fW : H1 W = some (.lst [.ref t]) := by rw [eH1, upd_ne uW.symm]; exact upd_same
    rw [← eH1] at sb adb
    rw [← eH1]
    clear eH1
    have ta : t ≠ a := fun z => hs.some (by rw [← z]; exact nt0)
    refine ⟨fun m σ H' => ∃ (rows ss : List Spot) (rs kls ps : List Addr) (x3 x4 : Option V), m = 401 - rows.length ∧ σ = [some v, some (.ref l), some (.ref W), x3, x4, none] ∧ FS K a l W H H' rows rs kls (kids rows) ∧ H' W = some (.lst (ps.reverse.map V.ref)) ∧ Stk K a H' ps ss ∧
      Runs ss rows (.ok R) ∧ rows.length ≤ 400 ∧ ss.length ≤ 20000 * rows.length + 1 ∧ (∀ s ∈ ss, s.o.noL = true) ∧ (∀ r ∈ rows, ∀ m, r.par = some m → m < rows.length) ∧ (∀ s ∈ ss, ∀ m, s.par = some m → m < rows.length), ⟨401, [], [root o], [], [], [t], none, none, rfl, rfl, ?_, fW, ?_, hcd, Nat.zero_le _, Nat.le_refl _, ?_, (fun _ h => nomatch h), ?_⟩, ?_⟩
    · exact ⟨adb.src, sb, fl, ⟨_, fW⟩, rfl, rfl, (fun i q r kl h => nomatch h), la, Wa, Wl.symm, (fun _ h => nomatch h), List.nodup_nil, (fun _ h => nomatch h), nl, nW0, (fun _ h => nomatch h)⟩
    · refine .cons ⟨v, SqT.of (by rw [fz_ne ta]; exact ft), ho.mono adb.fz, hpl⟩ .nil
    · intro s hs
      rw [List.mem_singleton] at hs
      rw [hs]
      exact hpl
    · intro s hs m hm
      rw [List.mem_singleton] at hs
      rw [hs] at hm
      cases hm
    rintro m σ H2 ⟨rows, ss, rs, kls, ps, x3, x4, rfl, rfl, fs, eW, stk, runs, le4, sl, pls, pr, psp⟩
    -- waiting != []
    refine ⟨_, rfl, Nat.zero_le _, fun e ne => ?_⟩
    have fs1 := fs.new (o := .lst []) ne
    have s12 : Same H2 (upd H2 e (.lst [])) := Fc.Same.put ne
    have stk1 := Stk.adv stk fs.src s12
    have eW1 := s12 _ _ eW
    refine ⟨W, e, _, rfl, rfl, .inl ⟨SqL.of eW1, SqL.of upd_same⟩, _, rfl, ?_⟩
    obtain ⟨H3, eH3⟩ : ∃ H3, H3 = upd H2 e (.lst []) := ⟨_, rfl⟩
    rw [← eH3] at fs1 stk1 eW1 ⊢
    clear eH3 s12 ne fs stk eW
    cases stk1 with
    | nil =>
      refine iteF ?_
      cases runs
      exact ⟨_, rfl, k _ _ fs1.base fs1.told⟩
    | @cons p s ps' ss' pq stk1 =>
      rw [show (!(List.map V.ref (p :: ps').reverse).isEmpty) = true by rw [List.isEmpty_eq_false_iff.mpr (by simp)]; rfl]
      refine iteT ⟨fun σ' H'' => ∃ m', m' < 401 - rows.length ∧ ∃ (rows ss : List Spot) (rs kls ps : List Addr) (x3 x4 : Option V), m' = 401 - rows.length ∧ σ' = [some v, some (.ref l), some (.ref W), x3, x4, none] ∧ FS K a l W H H'' rows rs kls (kids rows) ∧ H'' W = some (.lst (ps.reverse.map V.ref)) ∧ Stk K a H'' ps ss ∧
        Runs ss rows (.ok R) ∧ rows.length ≤ 400 ∧ ss.length ≤ 20000 * rows.length + 1 ∧ (∀ s ∈ ss, s.o.noL = true) ∧ (∀ r ∈ rows, ∀ m, r.par = some m → m < rows.length) ∧ (∀ s ∈ ss, ∀ m, s.par = some m → m < rows.length), fun _ _ z => z, ?_⟩
      have eW2 : H3 W = some (.lst (ps'.reverse.map V.ref ++ [V.ref p])) := by
        rw [eW1, List.reverse_cons, List.map_append]
        rfl
      have ej : judge rows.length s = none := by
        cases runs with
        | step hj _ => exact hj
      have runs2 : Runs (inside rows.length s ++ ss') (rows ++ [s]) (.ok R) := by
        cases runs with
        | step _ hr => exact hr
      obtain ⟨j1, j2, j3⟩ := judge_none ej
      have ps1 := pls s List.mem_cons_self
      -- waiting.pop()
      refine ⟨_, rfl, .inl ⟨rfl, _, SqL.of eW2⟩, W, _, V.ref p, rfl, rfl, eW2, by simp, ?_⟩
      rw [List.dropLast_concat]
      have fs2 := fs1.setW (ps'.reverse.map V.ref)
      have stkA : Stk K a (upd H3 W (.lst (ps'.reverse.map V.ref))) (p :: ps') (s :: ss') := Stk.chg (.cons pq stk1) eW2 Wa
      have eW3 : upd H3 W (.lst (ps'.reverse.map V.ref)) W = some (.lst (ps'.reverse.map V.ref)) := upd_same
      obtain ⟨H4, eH4⟩ : ∃ H4, H4 = upd H3 W (.lst (ps'.reverse.map V.ref)) := ⟨_, rfl⟩
      rw [← eH4] at fs2 stkA eW3 ⊢
      clear eH4 fs1 stk1 eW1 eW2 pq
      cases stkA with
      | cons pq stk2 =>
      obtain ⟨v1, t1, ob1, nl1⟩ := pq
      refine ⟨p, _, rfl, Fc.Same.sqt fz_same t1, rfl, _, _, rfl, _, _, rfl, rfl, ?_⟩
      -- rows.append([value, above, []])
      refine ⟨_, rfl, .inl ⟨rfl, _, SqL.of fs2.hl⟩, _, rfl, _, rfl, Nat.zero_le _, fun kl nkl => ⟨q3, fun r nr => ?_⟩⟩
      have fs3 := (fs2.new (o := .lst []) nkl).new (o := .lst [v1, optV s.par, .ref kl]) nr
      have s46 : Same H4 (upd (upd H4 kl (.lst [])) r (.lst [v1, optV s.par, .ref kl])) := Fc.Same.new (Fc.Same.put nkl) nr
      have stk3 := Stk.adv stk2 fs2.src s46
      have eW4 := s46 _ _ eW3
      have ob3 := (Adv.of_same fs2.src s46).ob ob1
      obtain ⟨rk, nr4⟩ := upd_none nr
      have e_r : upd (upd H4 kl (.lst [])) r (.lst [v1, optV s.par, .ref kl]) r = some (.lst [v1, optV s.par, .ref kl]) := upd_same
      have e_k : upd (upd H4 kl (.lst [])) r (.lst [v1, optV s.par, .ref kl]) kl = some (.lst []) := by rw [upd_ne rk.symm]; exact upd_same
      have there : ∀ x ∈ rs ++ kls, H4 x ≠ none := by
        intro x hx z
        have h0 : ∀ (i : Nat) (r' kl' : Addr), rs[i]? = some r' → kls[i]? = some kl' → (∃ o, H4 r' = some o) ∧ ∃ o, H4 kl' = some o := fun i r' kl' h1 h2 => by
          have li : i < rows.length := by
            rw [← fs2.lr]
            exact (List.getElem?_eq_some_iff.mp h1).1
          obtain ⟨v', r1, _, r3⟩ := fs2.row i _ r' kl' (List.getElem?_eq_getElem li) h1 h2
          exact ⟨⟨_, r1⟩, ⟨_, r3⟩⟩
        rcases List.mem_append.mp hx with hx | hx
        · obtain ⟨i, hi, e⟩ := List.mem_iff_getElem.mp hx
          obtain ⟨⟨o, h⟩, _⟩ := h0 i x (kls[i]'(by rw [fs2.lk, ← fs2.lr]; exact hi)) (by rw [List.getElem?_eq_getElem hi, e]) (List.getElem?_eq_getElem _)
          rw [z] at h
          cases h
        · obtain ⟨i, hi, e⟩ := List.mem_iff_getElem.mp hx
          obtain ⟨_, o, h⟩ := h0 i (rs[i]'(by rw [fs2.lr, ← fs2.lk]; exact hi)) x (List.getElem?_eq_getElem _) (by rw [List.getElem?_eq_getElem hi, e])
          rw [z] at h
          cases h
      have other : ∀ x, H4 x = none → x ≠ a ∧ x ≠ l ∧ x ≠ W := by
        intro x hx
        refine ⟨fun z => fs2.src.some (by rw [← z]; exact hx), (ne_of_none fs2.hl hx).symm, (ne_of_none eW3 hx).symm⟩
      obtain ⟨H6, eH6⟩ : ∃ H6, H6 = upd (upd H4 kl (.lst [])) r (.lst [v1, optV s.par, .ref kl]) := ⟨_, rfl⟩
      rw [← eH6] at fs3 stk3 eW4 ob3 e_r e_k ⊢
      refine ⟨l, _, _, rfl, rfl, fs3.hl, by rw [List.length_map, fs3.lr, sizeLine_eq]; omega, ?_⟩
      have fs4 := fs3.push e_r e_k ob3 nl1 (fun m => there r m nr4) (fun m => there kl m nkl) rk (other r nr4) (other kl nkl) (fs2.base.free nkl)
      have em : rs.map V.ref ++ [V.ref r] = (rs ++ [r]).map V.ref := by
        rw [List.map_append]
        rfl
      rw [em]
      have stk4 : Stk K a (upd H6 l (.lst ((rs ++ [r]).map V.ref))) ps' ss' := Stk.chg stk3 fs3.hl fs3.la
      have ob4 : Ob K (Fz a (upd H6 l (.lst ((rs ++ [r]).map V.ref)))) v1 s.o := by
        rw [fz_upd fs3.la]
        exact Ob.upd (by rw [fz_ne fs3.la]; exact fs3.hl) ob3 nl1
      have eW5 : upd H6 l (.lst ((rs ++ [r]).map V.ref)) W = some (.lst (ps'.reverse.map V.ref)) := by
        rw [upd_ne fs3.lW.symm]
        exact eW4
      obtain ⟨H7, eH7⟩ : ∃ H7, H7 = upd H6 l (.lst ((rs ++ [r]).map V.ref)) := ⟨_, rfl⟩
      rw [← eH7] at fs4 stk4 ob4 eW5 ⊢
      clear eH7 eH6 fs3 stk3 eW4 ob3 e_r e_k em there other nr nkl nr4 s46 stk2 fs2 eW3 ob1 t1
      -- rows[above][2].append(len(rows) - 1)
      refine ⟨fun σ' H' => σ' = [some v, some (.ref l), some (.ref W), some v1, some (optV s.par), none] ∧ FS K a l W H H' (rows ++ [s]) (rs ++ [r]) (kls ++ [kl]) (kids (rows ++ [s])) ∧ Stk K a H' ps' ss' ∧ Ob K (Fz a H') v1 s.o ∧ H' W = some (.lst (ps'.reverse.map V.ref)), ?_, ?_⟩
      · refine ⟨_, rfl, rfl, _, rfl, ?_⟩
        have k0 : kids rows rows.length = [] := kids_none pr
        cases ep : s.par with
        | none =>
          refine iteF ⟨rfl, fs4.congr fun i hi => ?_, stk4, ob4, eW5⟩
          rw [kids_snoc, ep, if_neg (show ¬ (none : Option Nat) = some i by intro z; cases z), List.append_nil]
          by_cases e : i = rows.length
          · rw [if_pos e, e, k0]
          · rw [if_neg e]
        | some m =>
          have lm := psp s List.mem_cons_self m ep
          obtain ⟨klm, hklm⟩ : ∃ x, (kls ++ [kl])[m]? = some x := ⟨_, List.getElem?_eq_getElem (by rw [fs4.lk, List.length_append]; omega)⟩
          obtain ⟨rm, hrm⟩ : ∃ x, (rs ++ [r])[m]? = some x := ⟨_, List.getElem?_eq_getElem (by rw [fs4.lr, List.length_append]; omega)⟩
          obtain ⟨qm, hqm⟩ : ∃ x, (rows ++ [s])[m]? = some x := ⟨_, List.getElem?_eq_getElem (by rw [List.length_append]; omega)⟩
          obtain ⟨vm, b1, b2, b3⟩ := fs4.row m qm rm klm hqm hrm hklm
          have nm : ¬ m = rows.length := by omega
          rw [if_neg nm] at b3
          have lrow : ((rs ++ [r]).map V.ref).length = rows.length + 1 := by
            rw [List.length_map, fs4.lr, List.length_append, List.length_singleton]
          have ar : ((rs ++ [r]).map V.ref)[m]? = some (V.ref rm) := by
            rw [List.getElem?_map, hrm]
            rfl
          refine iteT ⟨_, rfl, _, rfl, l, _, _, _, rfl, rfl, SqL.of fs4.hl, at_of rfl ar, rm, _, 2, _, rfl, rfl, SqL.of b1, at_of rfl rfl, .inl ⟨rfl, _, SqL.of b3⟩, _, rfl, l, _, rfl, .inl (SqL.of fs4.hl), _, _, rfl, rfl, klm, _, _, rfl, rfl, b3, ?_, ?_⟩
          · have := kids_len rows m
            unfold intsV
            rw [List.length_map, sizeLine_eq]
            omega
          rw [lrow]
          have fs5 := fs4.kid hklm rows.length
          have ek : intsV (kids rows m) ++ [V.int (((rows.length + 1 : Nat) : Int) - 1)] = intsV (kids rows m ++ [rows.length]) := by
            unfold intsV
            rw [List.map_append, show (((rows.length + 1 : Nat) : Int) - 1) = ((rows.length : Nat) : Int) by omega]
            rfl
          rw [if_neg nm] at fs5
          rw [ek]
          have f := fs4.far klm (List.mem_append_right _ (List.mem_of_getElem? hklm))
          refine ⟨rfl, fs5.congr fun i hi => ?_, Stk.chg stk4 b3 f.1, ?_, by rw [upd_ne f.2.2.symm]; exact eW5⟩
          · rw [kids_snoc, ep]
            by_cases e : i = m
            · subst e
              rw [if_pos rfl, if_pos rfl]
            · rw [if_neg e, if_neg (show ¬ (some m : Option Nat) = some i by intro z; cases z; exact e rfl), List.append_nil]
              by_cases e2 : i = rows.length
              · rw [if_pos e2, e2, k0]
              · rw [if_neg e2]
          · rw [fz_upd f.1]
            exact Ob.upd (by rw [fz_ne f.1]; exact b3) ob4 nl1
      · clear fs4 stk4 ob4 eW5 H7
        rintro σ' H7 ⟨rfl, fs5, stk5, ob5, eW5⟩
        -- waiting.extend(..)
        refine ⟨_, rfl, .inl ⟨rfl, _, SqL.of eW5⟩, _, rfl, Fz a H7, v1, s.o, s.wh, rfl, fz_same, ob5, j3, fun H8 b xs s8 nb eb obs => ?_⟩
        have fs6 := fs5.adv s8
        have stk6 := Stk.adv stk5 fs5.src s8
        have eW6 := s8 _ _ eW5
        have obs6 := obs.mono (Adv.of_same fs5.src s8).fz
        have pl2 := ob5.parts_lt
        have ios : (inside rows.length s).map (·.o) = s.o.parts := inside_os j3
        clear obs ob5 fs5 stk5 eW5
        refine ⟨b, rfl, ⟨_, SqL.of eb⟩, fun D nD => ?_⟩
        have hxs : xs.length = s.o.parts.length := obs6.len
        have lis : (inside rows.length s).length = xs.length := by
          rw [hxs, ← ios, List.length_map]
        have lrow : ((rs ++ [r]).map V.ref).length = rows.length + 1 := by
          rw [List.length_map, fs6.lr, List.length_append, List.length_singleton]
        have Da : D ≠ a := fun z => fs6.src.some (by rw [← z]; exact nD)
        refine lc_list (xs := xs) (fun i H' => ∃ ts : List Addr, Same H8 H' ∧ H' D = some (.lst (ts.map V.ref)) ∧ Stk K a H' ts ((inside rows.length s).take i)) ⟨[], Fc.Same.put nD, upd_same, .nil⟩ (fun i H' _ ⟨_, e, _⟩ => SqL.of (e _ _ eb)) ?_ ?_
        · rintro i x H9 hx ⟨ts, s89, eD, st9⟩
          have sr9 := (Adv.of_same fs6.src s89).src
          refine ⟨rfl, ?_⟩
          refine ⟨_, rfl, _, rfl, l, _, rfl, .inl (SqL.of (s89 _ _ fs6.hl)), _, _, rfl, rfl, q2, fun q nq => ?_⟩
          rw [lrow]
          have Dq : D ≠ q := ne_of_none eD nq
          have li : i < xs.length := (List.getElem?_eq_some_iff.mp hx).1
          have lts : ts.length = i := by
            rw [Fc.paired_len st9, List.length_take]
            omega
          obtain ⟨y, hy⟩ : ∃ y, (inside rows.length s)[i]? = some y := ⟨_, List.getElem?_eq_getElem (by omega)⟩
          have hyo : s.o.parts[i]? = some y.o := by
            rw [← ios, List.getElem?_map, hy]
            rfl
          obtain ⟨x', hx', ox⟩ := obs6.get hyo
          rw [hx] at hx'
          cases hx'
          have ym := List.mem_of_getElem? hy
          have s9 : Same H9 (upd H9 q (.tup [x, .int (((rows.length + 1 : Nat) : Int) - 1)])) := Fc.Same.put nq
          have qa : q ≠ a := fun z => sr9.some (by rw [← z]; exact nq)
          refine ⟨ts.map V.ref, by rw [upd_ne Dq]; exact eD, by rw [List.length_map, lts, sizeLine_eq]; omega, ts ++ [q], Fc.Same.chg (Fc.Same.new s89 nq) nD, by rw [upd_same, List.map_append]; rfl, ?_⟩
          refine Stk.chg (ys := ts.map V.ref) ?_ (by rw [upd_ne Dq]; exact eD) Da
          rw [List.take_add_one, hy]
          refine Fc.Paired.snoc ?_ (Stk.adv st9 sr9 s9)
          refine ⟨x, SqT.of ?_, ?_, noL_part ps1 (List.mem_of_getElem? hyo)⟩
          · rw [fz_ne qa, upd_same, inside_par ym]
            show some (HO.tup [x, V.int (((rows.length + 1 : Nat) : Int) - 1)]) = some (HO.tup [x, V.int ((rows.length : Nat) : Int)])
            rw [show (((rows.length + 1 : Nat) : Int) - 1) = ((rows.length : Nat) : Int) by omega]
          · exact ox.mono (Adv.of_same fs6.src (s89.trans s9)).fz
        · rintro H9 ⟨ts, s89, eD, st9⟩
          rw [← lis, List.take_of_length_le (Nat.le_refl _)] at st9
          have fs7 := fs6.adv s89
          have stk7 := Stk.adv stk6 fs6.src s89
          refine ⟨D, _, rfl, SqL.of eD, fun rv nrv => ?_⟩
          have fs8 := fs7.new (o := .lst (ts.map V.ref).reverse) nrv
          have s910 : Same H9 (upd H9 rv (.lst (ts.map V.ref).reverse)) := Fc.Same.put nrv
          have stk8 := Stk.adv stk7 fs7.src s910
          have st10 := Stk.adv st9 fs7.src s910
          have eW8 := s910 _ _ (s89 _ _ eW6)
          have lts : ts.length = s.o.parts.length := by
            rw [Fc.paired_len st9, lis, hxs]
          have l6 := Fc.paired_len stk6
          have sl2 : ss'.length + 1 ≤ 20000 * rows.length + 1 := sl
          refine ⟨W, rv, _, _, rfl, rfl, eW8, upd_same, ?_, ?_⟩
          · rw [List.length_map, List.length_reverse, List.length_reverse, List.length_map, sizeLine_eq]
            omega
          have ee : ps'.reverse.map V.ref ++ (ts.map V.ref).reverse = (ts ++ ps').reverse.map V.ref := by
            rw [List.reverse_append, List.map_append, List.map_reverse, List.map_reverse]
          rw [ee]
          refine ⟨401 - (rows ++ [s]).length, by rw [List.length_append, List.length_singleton]; omega, rows ++ [s], inside rows.length s ++ ss', rs ++ [r], kls ++ [kl], ts ++ ps', _, _, rfl, rfl, fs8.setW _, upd_same, ?_, runs2, ?_, ?_, ?_, ?_, ?_⟩
          · exact Fc.Paired.app (Stk.chg st10 eW8 Wa) (Stk.chg stk8 eW8 Wa)
          · rw [List.length_append, List.length_singleton]
            omega
          · rw [List.length_append, List.length_append, List.length_singleton, lis, hxs]
            omega
          · intro q hq
            rcases List.mem_append.mp hq with hq | hq
            · have : q.o ∈ s.o.parts := by
                rw [← ios]
                exact List.mem_map_of_mem hq
              exact noL_part ps1 this
            · exact pls q (List.mem_cons_of_mem _ hq)
          · intro q hq m hm
            rw [List.length_append, List.length_singleton]
            rcases List.mem_append.mp hq with hq | hq
            · exact Nat.lt_succ_of_lt (pr q hq m hm)
            · rw [List.mem_singleton] at hq
              subst hq
              exact Nat.lt_succ_of_lt (psp q List.mem_cons_self m hm)
          · intro q hq m hm
            rw [List.length_append, List.length_singleton]
            rcases List.mem_append.mp hq with hq | hq
            · rw [inside_par hq] at hm
              cases hm
              exact Nat.lt_succ_self _
            · exact Nat.lt_succ_of_lt (psp q (List.mem_cons_of_mem _ hq) m hm)
end
end N3
end L2
set_option Elab.async false
set_option linter.all false
set_option maxRecDepth 100000
set_option maxHeartbeats 8000000
namespace L2
namespace N3
open PySem PySem.Spec PyProof.Rows Fc C8
section
variable {P : Program} {w : World} {K : PySem.W.Frag} {mg : Str → Option Value} {base : Heap} {c : Cs}
/-! ### _law_loops -/
theorem row_at {F H : Hp} {l : Addr} {R : List Spot} {i : Nat} {q : Spot} (h : RowsAt K F l R) (e : Same F H) (hq : R[i]? = some q) : ∃ (rs : List V) (r : Addr) (v : V) (kl : Addr), SqL K H l rs ∧ rs[i]? = some (.ref r) ∧ SqL K H r [v, optV q.par, .ref kl] ∧ Ob K F v q.o ∧ SqL K H kl (intsV (kids R i)) ∧ rs.length = R.length := by
  obtain ⟨rs, h1, h2, h3⟩ := h
  obtain ⟨r, v, kl, r1, r2, r3, r4⟩ := h3 i q hq
  exact ⟨rs.map V.ref, r, v, kl, SqL.of (e _ _ h1), by rw [List.getElem?_map, r1]; rfl, SqL.of (e _ _ r2), r3, SqL.of (e _ _ r4), by rw [List.length_map, h2]⟩
def spLoops (K : PySem.W.Frag) : Sp := fun vs H Q _ => ∃ (F : Hp) (l : Addr) (i : Nat) (s : S) (q : Spot), vs = [.ref l, .int i] ∧ Same F H ∧ RowsAt K F l s.all ∧ Fit s (root s.toO) ∧ s.all[i]? = some q ∧ Q (.int (q.wh : Nat)) H
abbrev s_loops : Stmt := top 36
theorem sc_loops : FnScope ["_law_rows", "_law_number", "_law_found", "_law_above"] ["_law_rows", "_law_number"] (defScope s_loops) := ⟨rfl, rfl, rfl, by decide +kernel, rfl, by decide +kernel, by decide +kernel⟩
theorem kind_get {v : V} {o : O} {F H : Hp} (e : Same F H) (h : Ob K F v o) {s : S} (eo : o = s.toO) {wh : Nat} (g : s.good wh) : ∃ (p : Addr) (xs : List V), v = .ref p ∧ SqT K H p xs ∧ xs[0]? = some (.str o.kind) := by
  match s, g, eo with
  | .odd _, g, _ =>
    unfold S.good at g
    exact g.elim
  | .nd k a cs, g, eo =>
    have ek : o.kind = k := by rw [eo, S.kind]
    rw [ek]
    obtain ⟨os, e2⟩ : ∃ os, o = .tup (.str k :: os) := by
      rw [eo, S.toO]
      split
      · exact ⟨_, rfl⟩
      · exact ⟨_, rfl⟩
    subst e2
    obtain ⟨p, xs, rfl, ht, hos⟩ := h.tup_eq
    obtain ⟨y, hy, hyo⟩ := hos.get (i := 0) (o := .str k) rfl
    obtain rfl := hyo.str_eq
    exact ⟨p, xs, rfl, Fc.Same.sqt e ht, hy⟩
theorem ok_loops {f : Addr} {fd : FuncData} (Fn : Fun K "_law_loops" "_law_loops" s_loops f fd) (T : Txt K mg w c) : FnOk P w K mg base CX0 1 f fd ["_law_rows", "_law_number"] (spLoops K) := by
  refine Fn.ok sc_loops (fun vs H Q E h => ?_) (fun cdv A0 outer s0 H vs Q E hr h => ?_)
  · obtain ⟨F, l, i, s, q, rfl, _⟩ := h
    rfl
  · obtain ⟨F, l, i, s, q, rfl, sF, hR, ft, hq, k⟩ := h
    refine ⟨_, (pss_cons (ps_par rfl sc_loops.nd (i := 2) (j := 3) rfl rfl (by decide) rfl rfl (pa_cons pe_int (pa_cons (pe_ix ix_list (pe_ix ix_list (pv 0) (pv 1) (fun _ _ => rfl)) pe_int (fun _ _ => rfl)) pa_nil)) rfl)
(pss_cons (ps_while PassesOwn.never (pt_cmpR op_notN (pv 3) pe_non (nomark _))
(pss_one (ps_par rfl sc_loops.nd (i := 2) (j := 3) rfl rfl (by decide) rfl rfl (pa_cons (pe_op op_add (pv 2) (pe_callTy call_int1 (by rfl) T.n_int (by decide +kernel) (pa_cons (pe_cmpR op_eq (pe_ix ix_tup (pe_ix ix_list (pe_ix ix_list (pv 0) (pv 3) (fun _ _ => rfl)) pe_int (fun _ _ => rfl)) pe_int (fun _ _ => rfl)) pe_str (nomark _)) pa_nil))) (pa_cons (pe_ix ix_list (pe_ix ix_list (pv 0) (pv 3) (fun _ _ => rfl)) pe_int (fun _ _ => rfl)) pa_nil)) rfl)))
(pss_one (ps_ret (pv 2))))), ?_⟩
    obtain ⟨rs, r, v, kl, h1, h2, h3, h4, h5, _⟩ := row_at hR sF hq
    refine ⟨_, rfl, _, rfl, l, rs, i, _, rfl, rfl, h1, at_of rfl h2, r, _, 1, _, rfl, rfl, h3, at_of rfl rfl, _, _, rfl, ?_⟩
    refine ⟨fun m σ H' => H' = H ∧ ∃ (j : Nat) (p : Spot) (fo : Nat), m = j ∧ σ = [some (.ref l), some (.int i), some (.int fo), some (optV p.par)] ∧ s.all[j]? = some p ∧ fo + p.wh = q.wh, ⟨i, rfl, i, q, 0, rfl, rfl, hq, Nat.zero_add _⟩, ?_⟩
    rintro j σ H' ⟨rfl, _, p, fo, rfl, rfl, hp, hw⟩
    refine ⟨_, rfl, rfl, _, rfl, ?_⟩
    obtain ⟨u, at1, _, hpar⟩ := all_at ft hp
    rcases hpar with ⟨_, rfl⟩ | ⟨m, p', hp', lm, kid, _⟩
    · refine iteF ⟨_, rfl, ?_⟩
      have : (root s.toO).wh = 0 := rfl
      rw [show fo = q.wh by omega]
      exact k
    · rw [kid.par]
      refine iteT ⟨fun σ' H'' => ∃ m', m' < j ∧ H'' = H' ∧ ∃ (j : Nat) (p : Spot) (fo : Nat), m' = j ∧ σ' = [some (.ref l), some (.int i), some (.int fo), some (optV p.par)] ∧ s.all[j]? = some p ∧ fo + p.wh = q.wh, fun _ _ z => z, ?_⟩
      obtain ⟨rs', r', v', kl', g1, g2, g3, g4, g5, _⟩ := row_at hR sF hp'
      obtain ⟨u', at2, _, _⟩ := all_at ft hp'
      obtain ⟨a', xs', rfl, t1, t2⟩ := kind_get sF g4 at2.fit.o at2.fit.good
      refine ⟨_, rfl, _, rfl, _, rfl, l, rs', m, _, rfl, rfl, g1, at_of rfl g2, r', _, 0, _, rfl, rfl, g3, at_of rfl rfl, a', xs', 0, _, rfl, rfl, t1, at_of rfl t2, rfl, .inr ⟨_, rfl, ?_⟩⟩
      refine ⟨_, _, rfl, rfl, _, rfl, _, rfl, l, rs', m, _, rfl, rfl, g1, at_of rfl g2, r', _, 1, _, rfl, rfl, g3, at_of rfl rfl, _, _, rfl, ?_⟩
      have kw := kid.wh
      refine ⟨m, lm, rfl, m, p', if p'.o.kind = "while" then fo + 1 else fo, rfl, ?_, hp', ?_⟩
      · by_cases e : p'.o.kind = "while"
        · rw [if_pos e, e]
          rfl
        · rw [if_neg e]
          have e2 : ¬ V.str p'.o.kind = V.str "while" := fun z => e (V.str.inj z)
          show [_, _, some (V.int ((fo : Int) + _)), _] = _
          rw [decide_eq_false e2]
          rfl
      · by_cases e : p'.o.kind = "while"
        · rw [if_pos e]
          rw [if_pos e] at kw
          omega
        · rw [if_neg e]
          rw [if_neg e] at kw
          omega
/-! ### _law_built -/
/-- what stands in the dict at b -/
def BadAt (K : PySem.W.Frag) (F : Hp) (b : Addr) (bad : Nat → Option S) : Prop := ∃ kvs : List (Key × V), F b = some (.dK kvs) ∧ ∀ n : Nat, (bad n = none ∧ valV kvs (Sum.inl (n : Int)) = none) ∨ ∃ u v, bad n = some u ∧ valV kvs (Sum.inl (n : Int)) = some v ∧ Ob K F v u.toO
theorem BadAt.mono {F F' : Hp} {b : Addr} {bad : Nat → Option S} (e : Same F F') (h : BadAt K F b bad) : BadAt K F' b bad := by
  obtain ⟨kvs, h1, h2⟩ := h
  refine ⟨kvs, e _ _ h1, fun n => ?_⟩
  rcases h2 n with h | ⟨u, v, a1, a2, a3⟩
  · exact .inl h
  · exact .inr ⟨u, v, a1, a2, a3.mono e⟩
def spBuilt (K : PySem.W.Frag) (d : Nat) : Sp := fun vs H Q _ => ∃ (F : Hp) (l : Addr) (i : Nat) (b : Addr) (R : List Spot) (q : Spot) (t : S) (bad : Nat → Option S), vs = [.ref l, .int i, .ref b] ∧ Same F H ∧ RowsAt K F l R ∧ BadAt K F b bad ∧ At R i q t ∧ t.depth ≤ d ∧
  t.size ≤ 400 ∧ ∀ F' H' v, Grow F H F' H' → Ob K F' v (S.sub bad i t).toO → Q v H'
theorem subs_get (bad : Nat → Option S) : ∀ (cs : List S) (n j : Nat) (c : S) (m : Nat), cs[j]? = some c → (S.starts n cs)[j]? = some m → (S.subs bad n cs)[j]? = some (S.sub bad m c)
  | c0 :: cs, n, 0, c, m, h1, h2 => by
    cases h1
    rw [S.starts] at h2
    cases h2
    rw [S.subs]
    rfl
  | c0 :: cs, n, j + 1, c, m, h1, h2 => by
    rw [S.starts] at h2
    rw [S.subs]
    exact subs_get bad cs _ j c m h1 h2
theorem hd_sorts {wh : Nat} {k : Str} {a : List O} {m : Nat} (h : Hd wh k a m) : (k = "seq" ∧ a = []) ∨ (k ≠ "seq" ∧ ifw k = true ∧ (∃ x, a = [x]) ∧ m ≠ 0) ∨ (k ≠ "seq" ∧ ifw k = false ∧ (m = 0 ∨ m ≠ 0 ∧ a = [])) := by
  cases h with
  | seq m => exact .inl ⟨rfl, rfl⟩
  | if_ x _ => exact .inr (.inl ⟨by decide, by decide, ⟨_, rfl⟩, by decide⟩)
  | whi x _ => exact .inr (.inl ⟨by decide, by decide, ⟨_, rfl⟩, by decide⟩)
  | do_ x _ => exact .inr (.inr ⟨by decide, by decide, .inl rfl⟩)
  | call x _ => exact .inr (.inr ⟨by decide, by decide, .inl rfl⟩)
  | brk i _ _ => exact .inr (.inr ⟨by decide, by decide, .inl rfl⟩)
  | con i _ _ => exact .inr (.inr ⟨by decide, by decide, .inl rfl⟩)
  | ret => exact .inr (.inr ⟨by decide, by decide, .inl rfl⟩)
  | rse => exact .inr (.inr ⟨by decide, by decide, .inl rfl⟩)
  | try_ => exact .inr (.inr ⟨by decide, by decide, .inr ⟨by decide, rfl⟩⟩)
  | fin => exact .inr (.inr ⟨by decide, by decide, .inr ⟨by decide, rfl⟩⟩)
theorem sizes_len : ∀ cs : List S, cs.length ≤ S.sizes cs
  | [] => Nat.le_refl _
  | c :: cs => by
    have := S.size_pos c
    have := sizes_len cs
    rw [S.sizes, List.length_cons]
    omega
theorem cut_top {xs : List V} {n : Nat} (h : n < xs.length) : ¬ (HT.sIx xs.length 0 none = 0 ∧ HT.sIx xs.length xs.length (some (n : Int)) = xs.length) := by
  rintro ⟨_, q⟩
  rw [HT.sIx_nat] at q
  omega
abbrev s_built : Stmt := top 35
theorem sc_built : FnScope ["_law_rows", "_law_number", "_law_bad", "_law_value", "_law_parts_here", "_law_part"] ["_law_rows", "_law_number", "_law_bad"] (defScope s_built) := ⟨rfl, rfl, rfl, by decide +kernel, rfl, by decide +kernel, by decide +kernel⟩
theorem ok_bu {f : Addr} {fd : FuncData} (d : Nat) (Fn : Fun K "_law_built" "_law_built" s_built f fd) (T : Txt K mg w c) (c_rec : Cal P w K mg base (d + 1) "_law_built" (spBuilt K d) []) : FnOk P w K mg base CX0 (d + 2) f fd ["_law_rows", "_law_number", "_law_bad"] (spBuilt K (d + 1)) := by
  refine Fn.ok (k := d + 1) sc_built (fun vs H Q E h => ?_) (fun cdv A0 outer s0 H vs Q E hr h => ?_)
  · obtain ⟨F, l, i, b, R, q, t, bad, rfl, _⟩ := h
    rfl
  · obtain ⟨F, l, i, b, R, q, t, bad, rfl, sF, hR, hB, hat, hd, hsz, k⟩ := h
    refine ⟨_, (pss_cons (ps_if (pt_cmp (pc_din (hu_of hr) (pv 1) (pv 2)))
(pss_one (ps_ret (pe_dget (hu_of hr) (pv 2) (pv 1) (fun _ _ => rfl))))
pss_nil)
(pss_cons (ps_set (i := 3) sc_built.nd rfl (Or.inl rfl) (pe_ix ix_list (pe_ix ix_list (pv 0) (pv 1) (fun _ _ => rfl)) pe_int (fun _ _ => rfl)))
(pss_cons (ps_set (i := 4) sc_built.nd rfl (Or.inl rfl) (pe_callTy call_tuple_of (by rfl) T.n_tuple (by decide +kernel) (pa_cons (pe_lc (own := [("_law_part", 5)]) rfl sc_built.nd (pi_list (pe_ix ix_list (pe_ix ix_list (pv 0) (pv 1) (fun _ _ => rfl)) pe_int (fun _ _ => rfl))) (blkOk_by (N := ["_law_rows", "_law_number", "_law_bad", "_law_value", "_law_parts_here", "_law_part"]) (sc := defScope s_built) (by decide +kernel)) (fun _ _ _ _ _ => pg_name (i := 5) sc_built.nd rfl (Or.inl rfl)) (fun _ _ _ _ _ => pts_nil) (fun _ _ _ _ _ => (pe_c c_rec hr (by omega) rfl (pa_cons (pv 0) (pa_cons (pv 5) (pa_cons (pv 2) pa_nil)))))) pa_nil)))
(pss_cons (ps_if (pt_cmpR op_eq (pe_ix ix_tup (pv 3) pe_int (fun _ _ => rfl)) pe_str (nomark _))
(pss_one (ps_ret (pe_tup (pa_cons (pe_ix ix_tup (pv 3) pe_int (fun _ _ => rfl)) (pa_cons (pv 4) pa_nil)))))
pss_nil)
(pss_one (ps_ret (pe_ifExp (pt_cmpR op_in_seq (pe_ix ix_tup (pv 3) pe_int (fun _ _ => rfl)) (pe_tup (pa_cons pe_str (pa_cons pe_str pa_nil))) (by with_unfolding_all rfl)) (pe_op op_catT (pe_slice sl_tup (pv 3) po_none (po_some pe_int)) (pv 4)) (pe_ifExp (pt_cmpR (op_neE hr.units) (pv 4) (pe_tup pa_nil) (nomark _)) (pe_op op_catT (pe_slice sl_tup (pv 3) po_none (po_some pe_int)) (pv 4)) (pv 3))))))))), ?_⟩
    have q1 : (1 : Nat) ≤ sizeLine := by decide
    have q2 : (2 : Nat) ≤ sizeLine := by decide
    obtain ⟨kvs, b1, b2⟩ := id hB
    match t, hat, hd, hsz, k with
    | .odd _, hat, _, _, _ =>
      have g := hat.fit.good
      unfold S.good at g
      exact g.elim
    | .nd z ar cs, hat, hd, hsz, k =>
      refine ⟨_, rfl, _, rfl, b, _, rfl, DGet.k (k := Sum.inl (i : Int)) (sF _ _ b1), _, rfl, ?_⟩
      rcases b2 i with ⟨n1, n2⟩ | ⟨u, v, n1, n2, n3⟩
      rotate_left
      · rw [n2]
        refine iteT ⟨_, rfl, _, rfl, b, v, rfl, ?_, ?_⟩
        · have := DGet.k (k := Sum.inl (i : Int)) (sF _ _ b1)
          rw [n2] at this
          exact this
        · refine k F H v (Grow.refl sF) ?_
          rw [S.sub, n1]
          exact n3
      rw [n2]
      refine iteF ?_
      have esub : S.sub bad i (.nd z ar cs) = .nd z ar (S.subs bad (i + 1) cs) := by rw [S.sub, n1]
      rw [esub] at k
      obtain ⟨rs, r, v, kl, h1, h2, h3, h4, h5, _⟩ := row_at hR sF hat.get
      have g := hat.fit.good
      unfold S.good at g
      obtain ⟨p, xs, rfl, t1, t2⟩ := kind_get sF h4 hat.fit.o hat.fit.good
      have ek : q.o.kind = z := by rw [hat.fit.o, S.kind]
      rw [ek] at t2
      refine ⟨_, rfl, _, rfl, l, rs, i, _, rfl, rfl, h1, at_of rfl h2, r, _, 0, _, rfl, rfl, h3, at_of rfl rfl, ?_⟩
      rw [hat.kids_eq] at h5
      have lcs := sizes_len cs
      rw [S.size] at hsz
      rw [S.depth] at hd
      refine ⟨_, rfl, _, rfl, l, rs, i, _, rfl, rfl, h1, at_of rfl h2, r, _, 2, _, rfl, rfl, h3, at_of rfl rfl, kl, rfl, ⟨_, h5⟩, fun D nD => ?_⟩
      refine lc_list (xs := intsV (S.starts (i + 1) cs)) (fun j H' => ∃ (vs : List V) (F' : Hp), Grow F H F' H' ∧ F' D = none ∧ H' D = some (.lst vs) ∧ Obs K F' vs (((S.subs bad (i + 1) cs).take j).map S.toO)) ⟨[], F, Grow.mut sF nD, sF.free nD, upd_same, .nil⟩ (fun j H' _ ⟨_, _, gr, _, _, _⟩ => L2.Same.seq gr.hh h5) ?_ ?_
      · rintro j x H' hx ⟨vs, F', gr, fD, eD, obs⟩
        refine ⟨rfl, ?_⟩
        obtain ⟨n', hn', rfl⟩ : ∃ n' : Nat, (S.starts (i + 1) cs)[j]? = some n' ∧ x = .int n' := by
          unfold intsV at hx
          rw [List.getElem?_map] at hx
          cases e : (S.starts (i + 1) cs)[j]? with
          | none =>
            rw [e] at hx
            cases hx
          | some n' =>
            rw [e] at hx
            exact ⟨n', rfl, (Option.some.inj hx).symm⟩
        have lj := (List.getElem?_eq_some_iff.mp hn').1
        rw [starts_len] at lj
        obtain ⟨cc, hcc⟩ : ∃ cc, cs[j]? = some cc := ⟨_, List.getElem?_eq_getElem lj⟩
        obtain ⟨n'', x', m1, _, at2, _, _⟩ := hat.kids hcc
        rw [hn'] at m1
        cases m1
        have dc := depths_of cc (List.mem_of_getElem? hcc)
        have sc : cc.size ≤ 400 := by
          have := at2.lt
          have l2 := hat.lt
          rw [S.size] at l2
          have : ∀ (cs : List S), ∀ c ∈ cs, c.size ≤ S.sizes cs := by
            intro cs
            induction cs with
            | nil => intro c h; cases h
            | cons c0 cs ih =>
              intro c h
              rw [S.sizes]
              rcases List.mem_cons.mp h with rfl | h
              · omega
              · have := ih c h
                omega
          have := this cs cc (List.mem_of_getElem? hcc)
          omega
        refine ⟨_, rfl, _, rfl, _, rfl, F', l, n', b, R, x', cc, bad, rfl, gr.fh, hR.mono gr.ff, hB.mono gr.ff, at2, by omega, sc, fun F2 H2 v2 gr2 ob2 => ?_⟩
        have f2D := gr2.out D fD (by rw [eD]; exact fun z => nomatch z)
        have lv : vs.length = j := by
          have lt : (S.subs bad (i + 1) cs).length = cs.length := subs_len _ _ _
          rw [obs.len, List.length_map, List.length_take, lt]
          omega
        refine ⟨vs, gr2.hh _ _ eD, by rw [lv, sizeLine_eq]; omega, vs ++ [v2], F2, (gr.trans gr2).chg nD f2D, f2D, upd_same, ?_⟩
        have sg := subs_get bad cs _ j cc n' hcc hn'
        rw [List.take_add_one, sg, List.map_append]
        exact Obs.snoc (obs.mono gr2.ff) ob2
      · rintro H1 ⟨vs, F1, gr, fD, eD, obs⟩
        have lsub : (S.subs bad (i + 1) cs).length = cs.length := subs_len _ _ _
        have lst : (intsV (S.starts (i + 1) cs)).length = cs.length := by
          unfold intsV
          rw [List.length_map, starts_len]
        rw [lst, ← lsub, List.take_of_length_le (Nat.le_refl _), ← S.toOs_map] at obs
        have lv : vs.length = cs.length := by rw [obs.len, S.toOs_map, List.length_map, lsub]
        obtain ⟨cs', ecs⟩ : ∃ cs', cs' = S.subs bad (i + 1) cs := ⟨_, rfl⟩
        rw [← ecs] at obs k lsub
        have lts : (S.toOs cs').length < 20000 := by
          rw [S.toOs_map, List.length_map]
          omega
        refine ⟨D, vs, rfl, .inl ⟨SqL.of eD, fun tp ntp => ?_⟩⟩
        have gr2 := gr.trans (Grow.add (o := .tup vs) gr.fh ntp)
        have obs2 := obs.mono (Same.put (gr.fh.free ntp) : Same F1 (upd F1 tp (.tup vs)))
        have etp : upd F1 tp (.tup vs) tp = some (.tup vs) := upd_same
        obtain ⟨F2, eF2⟩ : ∃ F2, F2 = upd F1 tp (.tup vs) := ⟨_, rfl⟩
        obtain ⟨H2, eH2⟩ : ∃ H2, H2 = upd H1 tp (.tup vs) := ⟨_, rfl⟩
        rw [← eF2] at gr2 obs2 etp
        rw [← eH2] at gr2 ⊢
        clear eF2 eH2 gr obs ntp fD eD
        have t3 := Fc.Same.sqt gr2.hh t1
        have etH := gr2.fh _ _ etp
        have obp : Ob K F2 (.ref tp) (.tup (S.toOs cs')) := .tup (SqT.of etp) obs2 lts
        have sz : z.length ≤ 100 := by
          generalize cs.length = m at g
          cases g.1 <;> decide
        -- value[0] == 'seq'
        refine ⟨_, rfl, p, xs, 0, _, rfl, rfl, t3, at_of rfl t2, rfl, _, rfl, ?_⟩
        rcases hd_sorts g.1 with ⟨rfl, rfl⟩ | ⟨n1, n2, ⟨x, rfl⟩, n3⟩ | ⟨n1, n2, n3⟩
        · refine iteT ⟨_, rfl, p, xs, 0, _, rfl, rfl, t3, at_of rfl t2, _, rfl, q2, fun u nu => ?_⟩
          have gr3 := gr2.trans (Grow.add (o := .tup [.str "seq", .ref tp]) gr2.fh nu)
          have s3 : Same F2 (upd F2 u (.tup [.str "seq", .ref tp])) := Same.put (gr2.fh.free nu)
          refine k _ _ _ gr3 ?_
          rw [S.toO, if_pos rfl]
          exact .tup (SqT.of upd_same) (.cons (str_ob "seq") (.cons (obp.mono s3) .nil)) (by simp)
        · rw [decide_eq_false (fun e => n1 (V.str.inj e))]
          refine iteF ?_
          refine ⟨_, rfl, p, xs, 0, _, rfl, rfl, t3, at_of rfl t2, q2, fun u nu => ⟨u, _, rfl, .inr (SqT.of upd_same), rfl, rfl, _, rfl, ?_⟩⟩
          rw [inV_ifw, n2]
          refine iteT ?_
          have e1 : (S.nd z [x] cs).toO = .tup (.str z :: ([x] ++ S.toOs cs)) := by rw [S.toO, if_neg n1]
          rw [hat.fit.o, e1] at h4
          obtain ⟨p', xs', e2, t4, obv⟩ := h4.tup_eq
          cases e2
          have t5 := Fc.Same.sqt (gr2.hh) (Fc.Same.sqt sF t4)
          have lx : xs'.length = 2 + cs.length := by
            rw [obv.len, List.length_cons, List.length_append, S.toOs_map, List.length_map]
            show 1 + cs.length + 1 = _
            omega
          obtain ⟨H3, eH3⟩ : ∃ H3, H3 = upd H2 u (.tup [.str "if", .str "while"]) := ⟨_, rfl⟩
          have gr3 : Grow F H F2 H3 := eH3 ▸ gr2.trans (Grow.mut gr2.fh nu)
          rw [← eH3]
          clear eH3 nu
          have t6 := Fc.Same.sqt (gr3.hh) (Fc.Same.sqt sF t4)
          have etH3 := gr3.fh _ _ etp
          refine ⟨_, rfl, 2, rfl, p, xs', rfl, t6, cut_top (n := 2) (by omega), fun s1 ns1 => ?_⟩
          rw [show cutV xs' none (some (2 : Int)) = xs'.take 2 from cut_take (xs := xs') (n := 2) (by omega)]
          refine ⟨_, rfl, s1, tp, _, _, rfl, rfl, SqT.of upd_same, SqT.of (by rw [upd_ne (ne_of_none etH3 ns1)]; exact etH3), ?_, ?_, fun e => ?_, fun _ r nr => ?_⟩
          · intro e
            have := congrArg List.length e
            rw [List.length_take, lx, List.length_nil] at this
            omega
          · rw [List.length_take, lv, sizeLine_eq]
            omega
          · rw [e] at lv
            exact absurd lv.symm n3
          · have gr4 := gr3.trans (Grow.mut (o := .tup (xs'.take 2)) gr3.fh ns1)
            have gr5 := gr4.trans (Grow.add (o := .tup (xs'.take 2 ++ vs)) gr4.fh nr)
            refine k _ _ _ gr5 ?_
            have s5 : Same F2 (upd F2 r (.tup (xs'.take 2 ++ vs))) := Same.put (gr4.fh.free nr)
            rw [S.toO, if_neg n1]
            refine .tup (SqT.of upd_same) ?_ ?_
            · exact Fc.Obs.app ((Fc.Obs.take 2 obv).mono (gr2.ff.trans s5)) (obs2.mono s5)
            · rw [List.length_cons, List.length_append, S.toOs_map, List.length_map, lsub]
              show 1 + cs.length + 1 < 20000
              omega
        · rw [decide_eq_false (fun e => n1 (V.str.inj e))]
          refine iteF ?_
          refine ⟨_, rfl, p, xs, 0, _, rfl, rfl, t3, at_of rfl t2, q2, fun u nu => ⟨u, _, rfl, .inr (SqT.of upd_same), rfl, rfl, _, rfl, ?_⟩⟩
          rw [inV_ifw, n2]
          refine iteF ?_
          obtain ⟨H3, eH3⟩ : ∃ H3, H3 = upd H2 u (.tup [.str "if", .str "while"]) := ⟨_, rfl⟩
          have gr3 : Grow F H F2 H3 := eH3 ▸ gr2.trans (Grow.mut gr2.fh nu)
          rw [← eH3]
          clear eH3 nu
          have etH3 := gr3.fh _ _ etp
          refine ⟨_, rfl, Nat.zero_le _, fun e ne => ?_⟩
          have etH4 : upd H3 e (.tup []) tp = some (.tup vs) := by rw [upd_ne (ne_of_none etH3 ne)]; exact etH3
          refine ⟨tp, e, vs, rfl, rfl, .inr ⟨SqT.of etH4, SqT.of upd_same⟩, _, rfl, ?_⟩
          have gr4 := gr3.trans (Grow.mut (o := .tup []) gr3.fh ne)
          rcases n3 with n3 | ⟨n3, rfl⟩
          · have ecs0 : cs = [] := List.length_eq_zero_iff.mp n3
            have ev : vs = [] := List.length_eq_zero_iff.mp (by rw [lv, n3])
            rw [ev]
            refine iteF ⟨_, rfl, k _ _ _ gr4 ?_⟩
            have ecs1 : cs' = [] := List.length_eq_zero_iff.mp (by rw [lsub, n3])
            rw [ecs1, ← ecs0, ← hat.fit.o]
            exact h4.mono gr4.ff
          · have hne : (!vs.isEmpty) = true := by
              cases vs with
              | nil => exact absurd lv.symm n3
              | cons _ _ => rfl
            rw [hne]
            refine iteT ?_
            have e1 : (S.nd z [] cs).toO = .tup (.str z :: ([] ++ S.toOs cs)) := by rw [S.toO, if_neg n1]
            rw [hat.fit.o, e1] at h4
            obtain ⟨p', xs', e2, t4, obv⟩ := h4.tup_eq
            cases e2
            have lx : xs'.length = 1 + cs.length := by
              rw [obv.len, List.length_cons, List.length_append, S.toOs_map, List.length_map]
              show 0 + cs.length + 1 = _
              omega
            have n3' : 0 < cs.length := Nat.pos_of_ne_zero n3
            have t6 := Fc.Same.sqt (gr4.hh) (Fc.Same.sqt sF t4)
            refine ⟨_, rfl, 1, rfl, p, xs', rfl, t6, cut_top (n := 1) (by omega), fun s1 ns1 => ?_⟩
            rw [show cutV xs' none (some (1 : Int)) = xs'.take 1 from cut_take (xs := xs') (n := 1) (by omega)]
            refine ⟨_, rfl, s1, tp, _, _, rfl, rfl, SqT.of upd_same, SqT.of (by rw [upd_ne (ne_of_none etH4 ns1)]; exact etH4), ?_, ?_, fun e => ?_, fun _ r nr => ?_⟩
            · intro e
              have := congrArg List.length e
              rw [List.length_take, lx, List.length_nil] at this
              omega
            · rw [List.length_take, lv, sizeLine_eq]
              omega
            · rw [e] at lv
              exact absurd lv.symm n3
            · have gr5 := gr4.trans (Grow.mut (o := .tup (xs'.take 1)) gr4.fh ns1)
              have gr6 := gr5.trans (Grow.add (o := .tup (xs'.take 1 ++ vs)) gr5.fh nr)
              refine k _ _ _ gr6 ?_
              have s5 : Same F2 (upd F2 r (.tup (xs'.take 1 ++ vs))) := Same.put (gr5.fh.free nr)
              rw [S.toO, if_neg n1]
              refine .tup (SqT.of upd_same) ?_ ?_
              · exact Fc.Obs.app ((Fc.Obs.take 1 obv).mono (gr2.ff.trans s5)) (obs2.mono s5)
              · rw [List.length_cons, List.length_append, S.toOs_map, List.length_map, lsub]
                show 0 + cs.length + 1 < 20000
                omega
theorem bu_0 {f : Addr} {fd : FuncData} {ps : List Str} {k : Nat} : FnOk P w K mg base CX0 k f fd ps (spBuilt K 0) :=
  ⟨fun _ _ _ _ h => by
    obtain ⟨_, _, _, _, _, _, t, _, _, _, _, _, _, e, _⟩ := h
    have := S.depth_pos t
    omega, fun _ _ _ _ _ _ _ _ _ _ _ _ _ h => by
    obtain ⟨_, _, _, _, _, _, t, _, _, _, _, _, _, e, _⟩ := h
    have := S.depth_pos t
    omega⟩
/-- the def that calls itself, at every depth -/
theorem ok_bus {f : Addr} {fd : FuncData} (Fn : Fun K "_law_built" "_law_built" s_built f fd) (hm : mg "_law_built" = some (.ref f)) (b : Binds K fd ["_law_rows", "_law_number", "_law_bad"] []) (T : Txt K mg w c) : ∀ d, FnOk P w K mg base CX0 (d + 1) f fd ["_law_rows", "_law_number", "_law_bad"] (spBuilt K d)
  | 0 => bu_0
  | d + 1 => ok_bu d Fn T ⟨f, fd, _, _, ok_bus Fn hm b T d, hm, Fn.kp, b, .nil⟩
end
end N3
end L2
set_option Elab.async false
set_option linter.all false
set_option maxRecDepth 100000
set_option maxHeartbeats 8000000
namespace L2
namespace N3
open PySem PySem.Spec PyProof.Rows Fc C8
local macro_rules | `(tactic| walk_at "lits") => `(tactic| repeat' (first | exact lit_nil | exact lit_str | exact lit_int | exact lit_bl | exact lit_non | exact lit_dct | exact lit_lst0 | refine lit_cons ?_ ?_ | refine lit_tup ?_ (by decide) | apply lit_lst1 | apply lit_lst2))
section
variable {P : Program} {w : World} {K : PySem.W.Frag} {mg : Str → Option Value} {base : Heap} {c : Cs}
/-! ### _law_said -/
def TellS (H : Hp) (Q : VK) : Except Err (List Spot) → Prop
  | .ok _ => ∀ H', Same H H' → Q (.str "made") H'
  | .error (.bad n) => ∀ H', Same H H' → Q (.int (n : Nat)) H'
  | .error (.lim _) => ∀ H', Same H H' → Q (.str "other") H'
def spSaid (K : PySem.W.Frag) : Sp := fun vs H Q _ => ∃ (v : V) (o : O) (res : Except Err (List Spot)), vs = [v] ∧ Ob K H v o ∧ Codes o res ∧ TellS H Q res
abbrev s_said : Stmt := top 39
theorem sc_said : FnScope ["_law_statement_here", "_law_found", "e"] ["_law_statement_here"] (defScope s_said) := ⟨rfl, rfl, rfl, by decide +kernel, rfl, by decide +kernel, by decide +kernel⟩
theorem ok_said {f : Addr} {fd : FuncData} (Fn : Fun K "_law_said" "_law_said" s_said f fd) (T : Txt K mg w c) (c_Code : MakX P w K mg base 4 "Code" c.cCode (spInit K c)) :
    FnOk P w K mg base CX0 6 f fd ["_law_statement_here"] (spSaid K) := by
  refine Fn.ok sc_said (fun vs H Q E h => ?_) (fun cdv A0 outer s0 H vs Q E hr h => ?_)
  · obtain ⟨v, o, res, rfl, _⟩ := h
    rfl
  · obtain ⟨v, o, res, rfl, ho, hres, k⟩ := h
    refine ⟨_, pss_cons (ps_set (i := 1) sc_said.nd rfl (Or.inl rfl) pe_str) (pss_cons
      (ps_try2 rfl rfl sc_said.nd takes0
        (fun W pn xe tk _ => pss_one (ps_expr (by exact pe_mkx c_Code hr (by decide) tk rfl (pa_cons (pv 0) pa_nil))))
        (.named (i := 2) ⟨rfl, by decide, .inl T.g_InvalidCode⟩ rfl rfl (fun a oe cls d pn hz hf => pss_one (ps_set (i := 1) sc_said.nd rfl (Or.inl rfl) (by exact pe_xf T.ar_InvalidCode.xf T.ar_InvalidCode.nf hz hf (pv 2))))
        (.bare ⟨rfl, by decide, .inl T.g_CopyError⟩ (fun a oe cls d pn hz hf => pss_one (ps_set (i := 1) sc_said.nd rfl (Or.inl rfl) pe_str)) .nil)))
      (pss_one (ps_ret (pv 1)))), ?_⟩
    refine ⟨_, rfl, fun x dx nx ndx ne => ?_⟩
    have s0 : Same H (upd (upd H dx (.own x)) x (.ins c.cCode dx [])) := Same.new (Same.put ndx) (by rw [upd_ne ne.symm]; exact nx)
    refine ⟨x, dx, v, o, H, H, res, rfl, Same.refl H, s0, nx, ndx, upd_same, by rw [upd_ne ne]; exact upd_same, ho, hres, ?_, ?_⟩
    · intro rows er F' H' S D A B X L ts s1 s2 s3 _ off _ cs
      subst er
      exact ⟨rfl, _, rfl, k _ s3⟩
    · intro e er
      subst er
      cases e with
      | bad n =>
        intro H' d s1 nd1 ed
        refine ⟨true, T.x_InvalidCode_InvalidCode, fun _ a na => ?_, fun q => nomatch q⟩
        refine ⟨_, rfl, rfl, rfl, d, _, _, rfl, ed, rfl, ?_⟩
        exact ⟨_, rfl, k _ s1⟩
      | lim n =>
        intro H' d s1 nd1 ed
        refine ⟨false, T.x_LimitExceeded_InvalidCode, (fun q => nomatch q), fun _ => ⟨true, T.x_LimitExceeded_CopyError, fun _ a na => ?_, fun q => nomatch q⟩⟩
        exact ⟨_, rfl, k _ s1⟩
end
end N3
end L2
set_option Elab.async false
set_option linter.all false
set_option maxRecDepth 100000
set_option maxHeartbeats 8000000
namespace L2
namespace N3
open PySem PySem.Spec PyProof.Rows Fc C8
local macro_rules | `(tactic| walk_at "lits") => `(tactic| repeat' (first | exact lit_nil | exact lit_str | exact lit_int | exact lit_bl | exact lit_non | exact lit_dct | exact lit_lst0 | refine lit_cons ?_ ?_ | refine lit_tup ?_ (by decide) | apply lit_lst1 | apply lit_lst2))
section
variable {P : Program} {w : World} {K : PySem.W.Frag} {mg : Str → Option Value} {base : Heap} {c : Cs}
/-! ### _law_odd_named -/
def goodO : O := .tup [.str "do", .str "x"]
def spOddN (K : PySem.W.Frag) : Sp := fun vs H Q _ => ∃ (a : Addr), vs = [.ref a] ∧ Src H a ∧ ∀ v o H', Adv a H H' → Ob K (Fz a H') v o → (∀ wh, o.isStmt wh = false) → Q v H'
theorem kind_bad {z : Str} {os : List O} (h : szOf z ≠ some (os.length + 1)) (wh : Nat) : O.isStmt (.tup (.str z :: os)) wh = false := by
  unfold O.isStmt
  have : (O.tup (.str z :: os)).hasKind = false := by
    show (szOf z == some (os.length + 1)) = false
    exact beq_eq_false_iff_ne.mpr h
  rw [this]
  rfl
theorem name_bad {z : Str} {o : O} {os : List O} (hz : named z = true) (h : o.isName = false) (wh : Nat) : O.isStmt (.tup (.str z :: o :: os)) wh = false := by
  unfold O.isStmt
  show (_ && tailOk wh z (o :: os)) = false
  unfold tailOk
  rw [if_pos hz]
  show (_ && o.isName) = false
  rw [h, Bool.and_false]
theorem src_get {a : Addr} {H : Hp} (s : Src H a) : ∃ o, H a = some o := by
  obtain ⟨x, y, z, e⟩ := s
  exact ⟨_, e⟩
def dNames : List (Key × V) := [(Sum.inr ("do" : Str), .int 0), (Sum.inr ("call" : Str), .int 0), (Sum.inr ("while" : Str), .int 1), (Sum.inr ("if" : Str), .int 2)]
def namesO : List O := [.str "", .str "abcdefghi", .str "A", .str "isDone", .str "a1", .str "1", .str "a b", .str "a-b", .str "_", .str " a", .str "a ", .int 5, .non, .bl true, .lst, .tup [.str "x"]]
abbrev s_odd_named : Stmt := top 37
theorem sc_odd_named : FnScope ["_law_source", "_law_good", "_law_parts_here", "_law_kind", "_law_fine", "_law_names", "_law_bad", "_law_odd_here"] ["_law_source"] (defScope s_odd_named) := ⟨rfl, rfl, rfl, by decide +kernel, rfl, by decide +kernel, by decide +kernel⟩
theorem ok_odd_named {f : Addr} {fd : FuncData} (Fn : Fun K "_law_odd_named" "_law_odd_named" s_odd_named f fd) (T : Txt K mg w c) (c_one : Cal P w K mg base 2 "_law_one" (spOne K) []) : FnOk P w K mg base CX0 3 f fd ["_law_source"] (spOddN K) := by
  refine Fn.ok sc_odd_named (fun vs H Q E h => ?_) (fun cdv A0 outer s0 H vs Q E hr h => ?_)
  · obtain ⟨a, rfl, _⟩ := h
    rfl
  · obtain ⟨a, rfl, hs, k⟩ := h
    refine ⟨_, (pss_cons (ps_par rfl sc_odd_named.nd (i := 1) (j := 2) rfl rfl (by decide) rfl rfl (pa_cons (pe_tup (pa_cons pe_str (pa_cons pe_str pa_nil))) (pa_cons (pe_disp (pps_cons pe_str pe_int (pps_cons pe_str pe_int (pps_cons pe_str pe_int (pps_cons pe_str pe_int pps_nil)))) rfl rfl (by simp) (by decide)) pa_nil)) rfl)
(pss_cons (ps_set (i := 3) sc_odd_named.nd rfl (Or.inl rfl) (pe_c c_one hr (by decide) rfl (pa_cons (pv 0) (pa_cons (pe_lst (pa_cons pe_str (pa_cons pe_str (pa_cons pe_str (pa_cons pe_str (pa_cons pe_str pa_nil)))))) pa_nil))))
(pss_cut (ps_set (i := 4) sc_odd_named.nd rfl (Or.inl rfl) (pe_op op_catT (pe_tup (pa_cons (pv 3) (pa_cons (pe_c c_one hr (by decide) rfl (pa_cons (pv 0) (pa_cons (pe_lst (pa_cons pe_str (pa_cons pe_str pa_nil))) pa_nil))) pa_nil))) (pe_op (OpR.or op_repT01 op_repT) (pe_tup (pa_cons (pv 1) pa_nil)) (pe_dget (hu_of hr) (pv 2) (pv 3) (fun _ _ => rfl)))))
(pss_cons (ps_set (i := 5) sc_odd_named.nd rfl (Or.inl rfl) (pe_lst (pa_cons pe_str (pa_cons pe_str (pa_cons pe_str (pa_cons pe_str (pa_cons pe_str (pa_cons pe_str (pa_cons pe_str (pa_cons pe_str (pa_cons pe_str (pa_cons pe_str (pa_cons pe_str (pa_cons pe_int (pa_cons pe_non (pa_cons pe_bl (pa_cons (pe_lst (pa_cons pe_str pa_nil)) (pa_cons (pe_tup (pa_cons pe_str pa_nil)) pa_nil))))))))))))))))))
(pss_cons (ps_set (i := 6) sc_odd_named.nd rfl (Or.inl rfl) (pe_c c_one hr (by decide) rfl (pa_cons (pv 0) (pa_cons (pe_op op_cat (pv 5) (pe_lst (pa_cons (pv 1) (pa_cons pe_dnewK (pa_cons pe_str pa_nil))))) pa_nil))))
(pss_cons (ps_set (i := 7) sc_odd_named.nd rfl (Or.inl rfl) (pe_lst (pa_cons (pe_slice sl_tup (pv 4) po_none (po_some (pe_un un_neg pe_int))) (pa_cons (pe_op op_catT (pv 4) (pe_tup (pa_cons (pv 1) pa_nil))) (pa_cons (pe_op op_catT (pe_slice sl_tup (pv 4) po_none (po_some pe_int)) (pe_slice sl_tup (pv 4) (po_some pe_int) po_none)) (pa_cons (pe_op op_catT (pv 4) (pe_tup (pa_cons pe_str pa_nil))) pa_nil))))))
(pss_one (ps_ret (pe_c c_one hr (by decide) rfl (pa_cons (pv 0) (pa_cons (pe_op op_cat (pe_op op_rep (pe_lst (pa_cons (pe_op op_catT (pe_tup (pa_cons (pv 3) (pa_cons (pv 6) pa_nil))) (pe_slice sl_tup (pv 4) (po_some pe_int) po_none)) pa_nil)) pe_int) (pv 7)) pa_nil))))))))))), ?_⟩
    have q1 : (1 : Nat) ≤ sizeLine := by decide
    have q2 : (2 : Nat) ≤ sizeLine := by decide
    -- good, parts
    refine ⟨q2, fun tg ntg => ?_⟩
    have a1 := Adv.new (o := .tup [.str "do", .str "x"]) (Adv.refl hs) ntg
    have og : Ob K (Fz a (upd H tg (.tup [.str "do", .str "x"]))) (.ref tg) goodO := tup_new (K := K) hs ntg (.cons (str_ob "do") (.cons (str_ob "x") .nil)) (by decide)
    obtain ⟨H1, e1⟩ : ∃ H1, H1 = upd H tg (.tup [.str "do", .str "x"]) := ⟨_, rfl⟩
    rw [← e1] at a1 og ⊢
    intro d nd
    refine ⟨upd_same, dNames, rfl, by decide, _, _, rfl, ?_⟩
    have da : d ≠ a := fun z => a1.src.some (by rw [← z]; exact nd)
    have b2 : Adv a H1 (upd (upd H1 d (.dK [])) d (.dK (mergeK [] dNames))) := by
      rw [upd_upd]
      exact Adv.new (Adv.refl a1.src) nd
    have a2 := a1.trans b2
    have og2 := b2.ob og
    obtain ⟨H2, e2⟩ : ∃ H2, H2 = upd (upd H1 d (.dK [])) d (.dK (mergeK [] dNames)) := ⟨_, rfl⟩
    have ed : H2 d = some (.dK dNames) := by
      rw [e2]
      exact upd_same
    rw [← e2] at a2 og2 b2 ⊢
    clear e2 og a1 e1 nd
    -- kind
    refine ⟨_, rfl, by show 5 ≤ sizeLine; decide, fun l1 n1 => ?_⟩
    have a3 := a2.new (o := .lst [.str "do", .str "call", .str "if", .str "if", .str "while"]) n1
    have l1a : l1 ≠ a := fun z => a2.src.some (by rw [← z]; exact n1)
    refine ⟨a, l1, _, rfl, a3.src, l1a, upd_same, by simp, by show 5 ≤ 1000; decide, fun j v H3 hv ad3 => ?_⟩
    have b3 : Adv a H2 H3 := (Adv.new (Adv.refl a2.src) n1).trans ad3
    have a4 := a2.trans b3
    have og3 := b3.ob og2
    have ed3 := b3.get da ed
    obtain ⟨z, m, rfl, hz, hsz, hm, hg⟩ : ∃ (z : Str) (m : Nat), v = .str z ∧ named z = true ∧ szOf z = some (m + 2) ∧ m ≤ 2 ∧ valV dNames (Sum.inr z : Key) = some (.int m) := by
      have hj : j < 5 := (List.getElem?_eq_some_iff.mp hv).1
      match j, hj, hv with
      | 0, _, hv => cases hv; exact ⟨_, 0, rfl, by decide +kernel, by decide +kernel, by decide, by rfl⟩
      | 1, _, hv => cases hv; exact ⟨_, 0, rfl, by decide +kernel, by decide +kernel, by decide, by rfl⟩
      | 2, _, hv => cases hv; exact ⟨_, 2, rfl, by decide +kernel, by decide +kernel, by decide, by rfl⟩
      | 3, _, hv => cases hv; exact ⟨_, 2, rfl, by decide +kernel, by decide +kernel, by decide, by rfl⟩
      | 4, _, hv => cases hv; exact ⟨_, 1, rfl, by decide +kernel, by decide +kernel, by decide, by rfl⟩
    have zl : z.length ≤ 100 := by
      rcases named_cases hz with rfl | rfl | rfl | rfl <;> decide
    clear hv ad3 n1 a3 b3 a2 og2 ed hs
    -- fine
    refine ⟨fun σ' H' => ∃ (vf : V) (x : Str), σ' = [some (.ref a), some (.ref tg), some (.ref d), some (.str z), some vf, none, none, none] ∧ Adv a H3 H' ∧ x.length ≤ 100 ∧ Ob K (Fz a H') vf (.tup ([.str z, .str x] ++ List.replicate m goodO)), ?_, ?_⟩
    · refine ⟨_, rfl, _, rfl, q2, fun l2 n2 => ?_⟩
      have l2a : l2 ≠ a := fun z => a4.src.some (by rw [← z]; exact n2)
      have c1 := Adv.new (o := .lst [.str "x", .str "abcdefgh"]) (Adv.refl a4.src) n2
      refine ⟨a, l2, _, rfl, c1.src, l2a, upd_same, by simp, by show 2 ≤ 1000; decide, fun j2 v2 H5 hv2 ad5 => ⟨q2, fun t1 nt1 => ?_⟩⟩
      have c2 := c1.trans ad5
      obtain ⟨x, rfl, xl⟩ : ∃ x : Str, v2 = .str x ∧ x.length ≤ 100 := by
        have hj : j2 < 2 := (List.getElem?_eq_some_iff.mp hv2).1
        match j2, hj, hv2 with
        | 0, _, hv => cases hv; exact ⟨_, rfl, by decide⟩
        | 1, _, hv => cases hv; exact ⟨_, rfl, by decide⟩
      have c3 := c2.new (o := .tup [.str z, .str x]) nt1
      have og6 := c3.ob og3
      have ed6 := c3.get da ed3
      have e1 : upd H5 t1 (.tup [.str z, .str x]) t1 = some (.tup [.str z, .str x]) := upd_same
      obtain ⟨H6, eH6⟩ : ∃ H6, H6 = upd H5 t1 (.tup [.str z, .str x]) := ⟨_, rfl⟩
      rw [← eH6] at c3 og6 ed6 e1 ⊢
      clear eH6 nt1 c2 ad5 hv2 c1 n2
      have t1a : t1 ≠ a := fun z => by
        obtain ⟨o, eo⟩ := src_get c3.src
        obtain ⟨u, v, w, es⟩ := c3.src
        rw [← z, e1] at es
        cases es
      refine lit_repT (K := K) (F := Fz a H6) m (lit_tup (lit_cons (lit_var rfl og6) lit_nil) (by show 1 ≤ 100; decide)) (fun F1 H Q f1 f2 q => ⟨_, rfl, _, rfl, d, _, rfl, ?_, q⟩) (by omega) _ H6 _ (Same.refl _) fz_same fun F7 H7 w7 g7 ob7 => ?_
      · obtain ⟨b, ys, rfl, ht, hos⟩ := ob7.tup_eq
        have c4 := c3.trans (Adv.of_same c3.src g7.hh)
        have sF7 := grow_fz c3.src g7
        have e17 := g7.hh _ _ e1
        have lys : ys.length = m := by rw [hos.len, List.length_replicate]
        refine ⟨t1, b, _, ys, rfl, rfl, SqT.of e17, Fc.Same.sqt g7.fh ht, by simp, ?_, fun hz0 => ?_, fun _ p np => ?_⟩
        · rw [lys, sizeLine_eq]
          show 2 + m ≤ _
          omega
        · refine ⟨.ref t1, x, rfl, c4, xl, .tup (SqT.of (by rw [fz_ne t1a]; exact e17)) (.cons (str_ob z zl) (.cons (str_ob x xl) ?_)) (by rw [List.length_append, List.length_replicate]; show 2 + m < 20000; omega)⟩
          rw [hz0] at lys
          rw [← lys]
          exact .nil
        · have c5 := c4.new (o := .tup ([.str z, .str x] ++ ys)) np
          have pa : p ≠ a := fun z => c4.src.some (by rw [← z]; exact np)
          refine ⟨.ref p, x, rfl, c5, xl, .tup (SqT.of (by rw [fz_ne pa]; exact upd_same)) (.cons (str_ob z zl) (.cons (str_ob x xl) (hos.mono (sF7.trans (Adv.new (Adv.refl c4.src) np).fz)))) (by rw [List.length_append, List.length_replicate]; show 2 + m < 20000; omega)⟩
      · have := DGet.k (k := Sum.inr z) (f2 _ _ (f1 _ _ (show Fz a H6 d = some (.dK dNames) by rw [fz_ne da]; exact ed6)))
        rw [hg] at this
        exact this
    rintro σ' H4 ⟨vf, x, rfl, b4, xl, of⟩
    have a5 := a4.trans b4
    have og4 := b4.ob og3
    clear a4 og3 ed3 b4
    -- names
    have F4 : Same (Fz a H4) H4 := fz_same
    refine set_use ?_
    refine litL_lst (K := K) (F := Fz a H4) (os := namesO) ?_ (by decide) _ H4 _ (Same.refl _) F4 fun F5 H5 p5 ns g5 e5 ob5 => ?_
    · unfold namesO
      walk_at "lits"
    have a6 := a5.trans (Adv.of_same a5.src g5.hh)
    have sF5 := grow_fz a5.src g5
    have og5 := og4.mono g5.ff
    have of5 := of.mono g5.ff
    -- bad
    refine ⟨_, rfl, ?_⟩
    refine litL_cat (K := K) (F := F5) (os := namesO) (us := [goodO, .dct, .str "a\n"]) (litL_var rfl e5 ob5) (litL_lst (lit_cons (lit_var rfl og5) (by walk_at "lits")) (by decide)) (by decide) _ H5 _ (Same.refl _) g5.fh fun F6 H6 p6 bs g6 e6 ob6 => ?_
    have a7 := a6.trans (Adv.of_same a6.src g6.hh)
    have fa6 : F6 a = none := g6.out a (g5.out a fz_at a5.src.some) a6.src.some
    have lb : bs.length = 19 := ob6.len
    refine ⟨a, p6, bs, rfl, a7.src, ?_, g6.fh _ _ e6, (fun z => by rw [z] at lb; cases lb), by rw [lb]; decide, fun j v H7 hv ad7 => ?_⟩
    · intro z
      rw [z, fa6] at e6
      cases e6
    have s67 := ad7.keep fa6 g6.fh
    have a8 := a7.trans ad7
    obtain ⟨ob, hob, nb⟩ : ∃ o, Ob K F6 v o ∧ o.isName = false := by
      have hj : j < 19 := by
        rw [← lb]
        exact (List.getElem?_eq_some_iff.mp hv).1
      obtain ⟨o, ho⟩ : ∃ o, (namesO ++ [goodO, .dct, .str "a\n"])[j]? = some o := ⟨_, List.getElem?_eq_getElem (show j < 19 from hj)⟩
      obtain ⟨v', hv', obv⟩ := ob6.get ho
      rw [hv] at hv'
      cases hv'
      refine ⟨o, obv, ?_⟩
      have all : ∀ o ∈ namesO ++ [goodO, .dct, .str "a\n"], o.isName = false := by
        unfold namesO
        simp only [List.cons_append, List.nil_append, List.mem_cons, List.mem_nil_iff, or_false]
        rintro o (rfl | rfl | rfl | rfl | rfl | rfl | rfl | rfl | rfl | rfl | rfl | rfl | rfl | rfl | rfl | rfl | rfl | rfl | rfl) <;> first | rfl | decide +kernel
      exact all o (List.mem_of_getElem? ho)
    have og7 := og5.mono g6.ff
    have of7 := of5.mono g6.ff
    clear ob6 e6 hv ad7 g6 a7 og5 of5 e5 ob5 g5 a6 sF5 og4 of
    -- odd_here
    have fl : ([O.str z, .str x] ++ List.replicate m goodO).length = m + 2 := by
      rw [List.length_append, List.length_replicate]
      exact Nat.add_comm 2 m
    obtain ⟨fine, efine⟩ : ∃ fine, fine = [O.str z, .str x] ++ List.replicate m goodO := ⟨_, rfl⟩
    rw [← efine] at of7 fl
    show tSeq _ _ _ _ _
    refine nx_use ?_
    refine set_use ?_
    refine litL_lst (K := K) (F := F6) (os := [.tup (fine.take (fine.length - 1)), .tup (fine ++ [goodO]), .tup (fine.take 1 ++ fine.drop 2), .tup (fine ++ [.str "x"])]) ?_ (by show 4 ≤ 100; decide) _ H7 _ (Same.refl _) s67 fun F8 H8 p8 os8 g8 e8 ob8 => ?_
    · have lf : Lit K F6 [some (.ref a), some (.ref tg), some (.ref d), some (.str z), some vf, some (.ref p5), some v, none] (tVar 4) (.tup fine) := lit_var rfl of7
      refine lit_cons (lit_slM1 lf (fun H Q q => ⟨1, rfl, -1, rfl, q⟩) (by omega) (by omega)) ?_
      refine lit_cons (lit_catT lf (lit_tup (lit_cons (lit_var rfl og7) lit_nil) (by show 1 ≤ 100; decide)) (fun z => by rw [z] at fl; cases fl) (by rw [List.length_append, fl]; show m + 2 + 1 ≤ 200; omega)) ?_
      refine lit_cons (lit_catT (lit_slTo 1 lf (by omega) (by omega)) (lit_slFrom 2 lf (by decide) (by omega) (by omega) (by omega)) (fun z => ?_) (by rw [List.length_append, List.length_take, List.length_drop]; omega)) ?_
      · have := congrArg List.length z
        rw [List.length_take, fl, List.length_nil] at this
        omega
      exact lit_cons (lit_catT lf (lit_tup (lit_cons lit_str lit_nil) (by show 1 ≤ 100; decide)) (fun z => by rw [z] at fl; cases fl) (by rw [List.length_append, fl]; show m + 2 + 1 ≤ 200; omega)) lit_nil
    have a9 := a8.trans (Adv.of_same a8.src g8.hh)
    have fa8 : F8 a = none := g8.out a fa6 a8.src.some
    refine ret_use ?_
    refine ⟨_, rfl, ?_⟩
    refine litL_cat (K := K) (F := F8) (os := (List.replicate 4 [.tup ([.str z, ob] ++ fine.drop 2)]).flatten) (litL_rep 4 (litL_lst (lit_cons (lit_catT (lit_tup (lit_cons (lit_var rfl (str_ob z zl)) (lit_cons (lit_var rfl (hob.mono g8.ff)) lit_nil)) (by show 2 ≤ 100; decide)) (lit_slFrom 2 (lit_var rfl (of7.mono g8.ff)) (by decide) (by omega) (by omega) (by omega)) (by simp) ?_) lit_nil) (by show 1 ≤ 100; decide)) (by decide) (by show 1 * 4 ≤ 1000; decide)) (litL_var rfl e8 ob8) (by show 8 ≤ 200; decide) _ H8 _ (Same.refl _) g8.fh fun F9 H9 p9 ws g9 e9 ob9 => ?_
    · rw [List.length_append, List.length_drop]
      show 2 + (fine.length - 2) ≤ 200
      omega
    have a10 := a9.trans (Adv.of_same a9.src g9.hh)
    have fa9 : F9 a = none := g9.out a fa8 a9.src.some
    have lw : ws.length = 8 := ob9.len
    refine ⟨a, p9, ws, rfl, a10.src, ?_, g9.fh _ _ e9, (fun z => by rw [z] at lw; cases lw), by rw [lw]; decide, fun j v2 H10 hv2 ad10 => ?_⟩
    · intro z
      rw [z, fa9] at e9
      cases e9
    have hj : j < 8 := by
      rw [← lw]
      exact (List.getElem?_eq_some_iff.mp hv2).1
    obtain ⟨o, ho⟩ : ∃ o, ((List.replicate 4 [O.tup ([.str z, ob] ++ fine.drop 2)]).flatten ++ [.tup (fine.take (fine.length - 1)), .tup (fine ++ [goodO]), .tup (fine.take 1 ++ fine.drop 2), .tup (fine ++ [.str "x"])])[j]? = some o := ⟨_, List.getElem?_eq_getElem (show j < 8 from hj)⟩
    obtain ⟨v', hv', obv⟩ := ob9.get ho
    rw [hv2] at hv'
    cases hv'
    refine k v2 o H10 (a10.trans ad10) (obv.mono (frozen_fz fa9 (ad10.keep fa9 g9.fh))) ?_
    have drop2 : fine.drop 2 = List.replicate m goodO := by rw [efine]; rfl
    have take1 : fine.take 1 = [O.str z] := by rw [efine]; rfl
    have mem := List.mem_of_getElem? ho
    rw [drop2, take1] at mem
    have cons : fine = .str z :: (.str x :: List.replicate m goodO) := efine
    have tl : fine.take (fine.length - 1) = .str z :: (.str x :: List.replicate m goodO).take m := by
      rw [fl, show m + 2 - 1 = m + 1 by omega, cons, List.take_succ_cons]
    rw [tl, cons] at mem
    simp only [List.replicate_succ, List.replicate_zero, List.flatten_cons, List.flatten_nil, List.cons_append, List.nil_append, List.append_nil, List.mem_cons, List.mem_nil_iff, or_false] at mem
    have sz2 : ∀ k, k ≠ m + 2 → szOf z ≠ some k := fun k hk q => by
      rw [hsz] at q
      exact hk (Option.some.inj q).symm
    rcases mem with rfl | rfl | rfl | rfl | rfl | rfl | rfl | rfl
    · exact name_bad hz nb
    · exact name_bad hz nb
    · exact name_bad hz nb
    · exact name_bad hz nb
    · exact kind_bad (sz2 _ (by rw [List.length_take, List.length_cons, List.length_replicate]; omega))
    · exact kind_bad (sz2 _ (by rw [List.length_cons, List.length_append, List.length_replicate, List.length_singleton]; omega))
    · exact kind_bad (sz2 _ (by rw [List.length_replicate]; omega))
    · exact kind_bad (sz2 _ (by rw [List.length_cons, List.length_append, List.length_replicate, List.length_singleton]; omega))
end
end N3
end L2
set_option Elab.async false
set_option linter.all false
set_option maxRecDepth 100000
set_option maxHeartbeats 8000000
namespace L2
namespace N3
open PySem PySem.Spec PyProof.Rows Fc C8
local macro_rules | `(tactic| walk_at "lits") => `(tactic| repeat' (first | exact lit_nil | exact lit_str | exact lit_int | exact lit_bl | exact lit_non | exact lit_dct | exact lit_lst0 | refine lit_cons ?_ ?_ | refine lit_tup ?_ (by simp only [List.length_cons, List.length_nil]; decide) | exact lit_var rfl (by assumption) | exact lit_pure (fun H Q q => ⟨_, rfl, _, _, rfl, rfl, q⟩) (.int _) | exact lit_pure (fun H Q q => ⟨_, rfl, q⟩) (.int _) | exact lit_pure (fun H Q q => ⟨_, _, rfl, rfl, ⟨by decide, by decide, by decide⟩, q⟩) (.int _) | apply lit_lst1 | apply lit_lst2))
section
variable {P : Program} {w : World} {K : PySem.W.Frag} {mg : Str → Option Value} {base : Heap} {c : Cs}
/-! ### _law_odd -/
def oddA : List O := [.non, .int 5, .str "do", .lst, .tup [], .lst, .dct, .tup [.str "do"], .tup [.str "do", .str "x", .str "y"], .tup [.str "go", .str "x"], .tup [.lst, .str "x"], .tup [.str "do", .str ""]]
def oddB : List O := [.tup [.str "do", .str "abcdefghi"], .tup [.str "call", .str "A"], .tup [.str "call", .str "a1"], .tup [.str "do", .int 5], .tup [.str "do", .lst], .tup [.str "if", .str "x", goodO]]
def oddC : List O := [.tup [.str "while", goodO], .tup [.str "while", .str "x y", goodO], .tup [.str "seq", .tup []], .tup [.str "seq", .lst], .tup [.str "seq", goodO, goodO]]
def oddD : List O := [.tup [.str "return", .int 1], .tup [.str "raise", .str "x"], .tup [.str "try", goodO], .tup [.str "final", goodO, goodO, goodO], .tup [.non], .tup [.bl true, .str "x"]]
def oddE (n : Nat) (k : Str) : List O := [.tup [.str k], .tup [.str k, .int 0], .tup [.str k, .int (-1)], .tup [.str k, .int ((n : Int) + 1)], .tup [.str k, .bl true], .tup [.str k, .str "1"], .tup [.str k, .lst]]
def oddG (k : Str) : List O := [.tup [.str k, .non], .tup [.str k, .int 1, .int 1], .tup [.str k, .int ((10 : Int) ^ (30 : Int).toNat)]]
theorem bad_closed : ∀ wh : Nat, ∀ o ∈ oddA ++ oddB ++ oddC ++ [.tup [.str "seq", .str "ab"]] ++ oddD, o.isStmt wh = false := by
  intro wh o ho
  have e : ∀ o ∈ oddA ++ oddB ++ oddC ++ [.tup [.str "seq", .str "ab"]] ++ oddD, ∀ wh, o.isStmt wh = false := by
    unfold oddA oddB oddC oddD goodO
    simp only [List.cons_append, List.nil_append, List.mem_cons, List.mem_nil_iff, or_false]
    rintro o (rfl | rfl | rfl | rfl | rfl | rfl | rfl | rfl | rfl | rfl | rfl | rfl | rfl | rfl | rfl | rfl | rfl | rfl | rfl | rfl | rfl | rfl | rfl | rfl | rfl | rfl | rfl | rfl | rfl | rfl) <;> intro wh <;> rfl
  exact e o ho wh
theorem bad_jumps {n : Nat} (hn : n < 1000) {k : Str} (hk : k = "break" ∨ k = "continue") : ∀ o ∈ oddE n k ++ oddG k, o.isStmt n = false := by
  have big : ¬ (10 : Int) ^ (30 : Int).toNat ≤ (n : Int) := by
    have : (1000 : Int) ≤ (10 : Int) ^ (30 : Int).toNat := by decide
    omega
  intro o ho
  unfold oddE oddG at ho
  simp only [List.cons_append, List.nil_append, List.mem_cons, List.mem_nil_iff, or_false] at ho
  rcases hk with rfl | rfl <;> rcases ho with rfl | rfl | rfl | rfl | rfl | rfl | rfl | rfl | rfl | rfl
  all_goals first
    | rfl
    | (show (decide ((1 : Int) ≤ (n : Int) + 1) && decide ((n : Int) + 1 ≤ (n : Int))) = false
       rw [decide_eq_false (show ¬ ((n : Int) + 1 ≤ (n : Int)) by omega), Bool.and_false])
    | (show (decide ((1 : Int) ≤ (10 : Int) ^ (30 : Int).toNat) && decide ((10 : Int) ^ (30 : Int).toNat ≤ (n : Int))) = false
       rw [decide_eq_false big, Bool.and_false])
def spOdd (K : PySem.W.Frag) : Sp := fun vs H Q _ => ∃ (a : Addr) (n : Nat), vs = [.ref a, .int n] ∧ Src H a ∧ n < 1000 ∧ ∀ v o H', Adv a H H' → Ob K (Fz a H') v o → o.isStmt n = false → Q v H'
/-- the list of odd ones so far -/
structure OS (K : PySem.W.Frag) (a : Addr) (H0 F H : Hp) (p : Addr) (vs : List V) (os : List O) : Prop where
  ad : Adv a H0 H
  fh : Same F H
  fa : F a = none
  fp : F p = none
  hp : H p = some (.lst vs)
  ob : Obs K F vs os
  pa : p ≠ a
  p0 : H0 p = none
theorem OS.go {a : Addr} {H0 F H : Hp} {p : Addr} {vs : List V} {os os' : List O} (h : OS K a H0 F H p vs os) {F' H' : Hp} {q : Addr} {ws : List V} (g : Grow F H F' H') (fq : F' q = none) (hq : H q = none) (eq : H' q = some (.lst ws)) (ob : Obs K F' ws os') : OS K a H0 F' H' q ws os' := by
  obtain ⟨x, y, z, es⟩ := h.ad.src
  have qa : q ≠ a := fun e => by
    rw [e, es] at hq
    cases hq
  have q0 : H0 q = none := by
    cases e : H0 q with
    | none => rfl
    | some o =>
      have := h.ad.get qa e
      rw [hq] at this
      cases this
  exact ⟨h.ad.trans (Adv.of_same h.ad.src g.hh), g.fh, g.out a h.fa h.ad.src.some, fq, eq, ob, qa, q0⟩
abbrev s_odd : Stmt := top 38
theorem sc_odd : FnScope ["_law_source", "_law_loops_here", "_law_good", "_law_odd_here", "_law_kind"] ["_law_source", "_law_loops_here"] (defScope s_odd) := ⟨rfl, rfl, rfl, by decide +kernel, rfl, by decide +kernel, by decide +kernel⟩
theorem ok_odd {f : Addr} {fd : FuncData} (Fn : Fun K "_law_odd" "_law_odd" s_odd f fd) (T : Txt K mg w c) (c_draw : Cal P w K mg base 1 "_law_draw" spDraw []) (c_one : Cal P w K mg base 2 "_law_one" (spOne K) []) (c_odd_named : Cal P w K mg base 3 "_law_odd_named" (spOddN K) []) :
    FnOk P w K mg base CX0 4 f fd ["_law_source", "_law_loops_here"] (spOdd K) := by
  refine Fn.ok sc_odd (fun vs H Q E h => ?_) (fun cdv A0 outer s0 H vs Q E hr h => ?_)
  · obtain ⟨a, n, rfl, _⟩ := h
    rfl
  · obtain ⟨a, n, rfl, hs, hn, k⟩ := h
    refine ⟨_, (pss_cons (ps_if (pt_cmpR op_eq (pe_c c_draw hr (by decide) rfl (pa_cons (pv 0) (pa_cons pe_int pa_nil))) pe_int (nomark _))
(pss_one (ps_ret (pe_c c_odd_named hr (by decide) rfl (pa_cons (pv 0) pa_nil))))
pss_nil)
(pss_cons (ps_set (i := 2) sc_odd.nd rfl (Or.inl rfl) (pe_tup (pa_cons pe_str (pa_cons pe_str pa_nil))))
(pss_cons (ps_set (i := 3) sc_odd.nd rfl (Or.inl rfl) (pe_lst (pa_cons pe_non (pa_cons pe_int (pa_cons pe_str (pa_cons (pe_lst pa_nil) (pa_cons (pe_tup pa_nil) (pa_cons (pe_lst (pa_cons pe_str (pa_cons pe_str pa_nil))) (pa_cons pe_dnewK (pa_cons (pe_tup (pa_cons pe_str pa_nil)) (pa_cons (pe_tup (pa_cons pe_str (pa_cons pe_str (pa_cons pe_str pa_nil)))) (pa_cons (pe_tup (pa_cons pe_str (pa_cons pe_str pa_nil))) (pa_cons (pe_tup (pa_cons (pe_lst (pa_cons pe_str pa_nil)) (pa_cons pe_str pa_nil))) (pa_cons (pe_tup (pa_cons pe_str (pa_cons pe_str pa_nil))) pa_nil))))))))))))))
(pss_cons (ps_set (i := 3) sc_odd.nd rfl (Or.inl rfl) (pe_op op_cat (pv 3) (pe_lst (pa_cons (pe_tup (pa_cons pe_str (pa_cons pe_str pa_nil))) (pa_cons (pe_tup (pa_cons pe_str (pa_cons pe_str pa_nil))) (pa_cons (pe_tup (pa_cons pe_str (pa_cons pe_str pa_nil))) (pa_cons (pe_tup (pa_cons pe_str (pa_cons pe_int pa_nil))) (pa_cons (pe_tup (pa_cons pe_str (pa_cons (pe_lst (pa_cons pe_str pa_nil)) pa_nil))) (pa_cons (pe_tup (pa_cons pe_str (pa_cons pe_str (pa_cons (pv 2) pa_nil)))) pa_nil)))))))))
(pss_cons (ps_set (i := 3) sc_odd.nd rfl (Or.inl rfl) (pe_op op_cat (pv 3) (pe_lst (pa_cons (pe_tup (pa_cons pe_str (pa_cons (pv 2) pa_nil))) (pa_cons (pe_tup (pa_cons pe_str (pa_cons pe_str (pa_cons (pv 2) pa_nil)))) (pa_cons (pe_tup (pa_cons pe_str (pa_cons (pe_tup pa_nil) pa_nil))) (pa_cons (pe_tup (pa_cons pe_str (pa_cons (pe_lst (pa_cons (pv 2) pa_nil)) pa_nil))) (pa_cons (pe_tup (pa_cons pe_str (pa_cons (pv 2) (pa_cons (pv 2) pa_nil)))) pa_nil))))))))
(pss_cons (ps_expr (pe_bm PySem.F.plainAttrs_list PySem.F.slot_list_append PySem.F.type_list_append mt_append (pv 3) (pa_cons (pe_tup (pa_cons pe_str (pa_cons pe_str pa_nil))) pa_nil)))
(pss_cons (ps_set (i := 3) sc_odd.nd rfl (Or.inl rfl) (pe_op op_cat (pv 3) (pe_lst (pa_cons (pe_tup (pa_cons pe_str (pa_cons pe_int pa_nil))) (pa_cons (pe_tup (pa_cons pe_str (pa_cons pe_str pa_nil))) (pa_cons (pe_tup (pa_cons pe_str (pa_cons (pv 2) pa_nil))) (pa_cons (pe_tup (pa_cons pe_str (pa_cons (pv 2) (pa_cons (pv 2) (pa_cons (pv 2) pa_nil))))) (pa_cons (pe_tup (pa_cons pe_non pa_nil)) (pa_cons (pe_tup (pa_cons pe_bl (pa_cons pe_str pa_nil))) pa_nil)))))))))
(pss_cons (ps_for PassesOwn.never rfl (pi_tup (pe_tup (pa_cons pe_str (pa_cons pe_str pa_nil)))) (pg_name (i := 4) sc_odd.nd rfl (Or.inl rfl))
(pss_cons (ps_set (i := 3) sc_odd.nd rfl (Or.inl rfl) (pe_op op_cat (pv 3) (pe_lst (pa_cons (pe_tup (pa_cons (pv 4) pa_nil)) (pa_cons (pe_tup (pa_cons (pv 4) (pa_cons pe_int pa_nil))) (pa_cons (pe_tup (pa_cons (pv 4) (pa_cons (pe_un un_neg pe_int) pa_nil))) (pa_cons (pe_tup (pa_cons (pv 4) (pa_cons (pe_op op_add (pv 1) pe_int) pa_nil))) (pa_cons (pe_tup (pa_cons (pv 4) (pa_cons pe_bl pa_nil))) (pa_cons (pe_tup (pa_cons (pv 4) (pa_cons pe_str pa_nil))) (pa_cons (pe_tup (pa_cons (pv 4) (pa_cons (pe_lst (pa_cons pe_int pa_nil)) pa_nil))) pa_nil))))))))))
(pss_one (ps_set (i := 3) sc_odd.nd rfl (Or.inl rfl) (pe_op op_cat (pv 3) (pe_lst (pa_cons (pe_tup (pa_cons (pv 4) (pa_cons pe_non pa_nil))) (pa_cons (pe_tup (pa_cons (pv 4) (pa_cons pe_int (pa_cons pe_int pa_nil)))) (pa_cons (pe_tup (pa_cons (pv 4) (pa_cons (pe_op op_pow pe_int pe_int) pa_nil))) pa_nil)))))))))
(pss_one (ps_ret (pe_c c_one hr (by decide) rfl (pa_cons (pv 0) (pa_cons (pv 3) pa_nil))))))))))))), ?_⟩
    have q2 : (2 : Nat) ≤ sizeLine := by decide
    refine ⟨_, rfl, a, 2, rfl, hs, by decide, by decide, fun r xb yb zb r0 r1 => ?_⟩
    have ad1 : Adv a H (upd H a (.lst [.int xb, .int yb, .int zb])) := Adv.draw
    obtain ⟨H1, e1⟩ : ∃ H1, H1 = upd H a (.lst [.int xb, .int yb, .int zb]) := ⟨_, rfl⟩
    rw [← e1] at ad1 ⊢
    clear e1
    refine ⟨rfl, _, rfl, ite2 (fun _ => ?_) (fun _ => ?_)⟩
    · exact ⟨_, rfl, a, rfl, ad1.src, fun v o H2 ad2 ob nb => k v o H2 (ad1.trans ad2) ob (nb n)⟩
    refine ⟨q2, fun tg ntg => ?_⟩
    have a2 := ad1.new (o := .tup [.str "do", .str "x"]) ntg
    have og := tup_new (K := K) ad1.src ntg (.cons (str_ob "do") (.cons (str_ob "x") .nil)) (os := [.str "do", .str "x"]) (by decide)
    obtain ⟨H2, e2⟩ : ∃ H2, H2 = upd H1 tg (.tup [.str "do", .str "x"]) := ⟨_, rfl⟩
    rw [← e2] at a2 og ⊢
    clear e2 ntg
    have og : Ob K (Fz a H2) (.ref tg) goodO := og
    show tSeq _ _ _ _ _
    first | refine nx_use (set_use ?_) | refine set_use ?_
    refine litM_lst (K := K) (F := Fz a H2) (os := oddA) (by unfold oddA; walk_at "lits") (by decide) (Same.refl _) fz_same fun F3 H3 p3 v3 g3 f3 n3 e3 ob3 => ?_
    have S3 : OS K a H F3 H3 p3 v3 oddA := by
      obtain ⟨x, y, z, es⟩ := a2.src
      have pa : p3 ≠ a := fun e => by
        rw [e, es] at n3
        cases n3
      refine ⟨a2.trans (Adv.of_same a2.src g3.hh), g3.fh, g3.out a fz_at a2.src.some, f3, e3, ob3, pa, ?_⟩
      cases e : H p3 with
      | none => rfl
      | some o =>
        have := a2.get pa e
        rw [n3] at this
        cases this
    have og3 := og.mono g3.ff
    show tSeq _ _ _ _ _
    first | refine nx_use (set_use ?_) | refine set_use ?_
    refine litM_cat (K := K) (us := oddB) rfl (by unfold oddB goodO; walk_at "lits") (by decide) (by decide) (Same.refl _) S3.fh S3.hp S3.ob fun F4 H4 p4 v4 g4 f4 n4 e4 ob4 => ?_
    have S4 := S3.go g4 f4 n4 e4 ob4
    have og4 := og3.mono g4.ff
    show tSeq _ _ _ _ _
    first | refine nx_use (set_use ?_) | refine set_use ?_
    refine litM_cat (K := K) (us := oddC) rfl (by unfold oddC; walk_at "lits") (by decide) (by decide) (Same.refl _) S4.fh S4.hp S4.ob fun F5 H5 p5 v5 g5 f5 n5 e5 ob5 => ?_
    have S5 := S4.go g5 f5 n5 e5 ob5
    have og5 := og4.mono g5.ff
    -- append
    refine ⟨_, rfl, .inl ⟨rfl, _, SqL.of S5.hp⟩, ?_⟩
    refine (lit_tup (K := K) (F := F5) (os := [.str "seq", .str "ab"]) (by walk_at "lits") (by decide)) F5 H5 _ (Same.refl _) S5.fh fun F6 H6 v6 g6 ob6 => ?_
    have hp6 := g6.hh _ _ S5.hp
    have fp6 := g6.out p5 S5.fp (by rw [S5.hp]; exact fun z => nomatch z)
    have l5 : v5.length = 23 := S5.ob.len
    refine ⟨p5, _, v6, rfl, rfl, hp6, by rw [l5]; decide, ?_⟩
    have S6 : OS K a H F6 (upd H6 p5 (.lst (v5 ++ [v6]))) p5 (v5 ++ [v6]) (oddA ++ oddB ++ oddC ++ [.tup [.str "seq", .str "ab"]]) :=
      ⟨(S5.ad.trans (Adv.of_same S5.ad.src g6.hh)).chg S5.p0 S5.pa, Same.chg g6.fh fp6, g6.out a S5.fa S5.ad.src.some, fp6, upd_same, Obs.snoc (S5.ob.mono g6.ff) ob6, S5.pa, S5.p0⟩
    have og6 := og5.mono g6.ff
    show tSeq _ _ _ _ _
    first | refine nx_use (set_use ?_) | refine set_use ?_
    refine litM_cat (K := K) (us := oddD) rfl (by unfold oddD; walk_at "lits") (by decide) (by decide) (Same.refl _) S6.fh S6.hp S6.ob fun F7 H7 p7 v7 g7 f7 n7 e7 ob7 => ?_
    have S7 := S6.go g7 f7 n7 e7 ob7
    clear S3 S4 S5 S6 ob3 ob4 ob5 ob6 ob7 g3 g4 g5 g6 g7 og og3 og4 og5 og6 hp6 fp6 l5 a2 ad1
    -- for kind in ..
    refine ⟨q2, fun tt ntt => ⟨tt, rfl, ⟨_, SqT.of upd_same⟩, for_tup (K := K) (a := tt) (xs := [V.str "break", .str "continue"]) (fun i σ H' => ∃ (F' : Hp) (p : Addr) (vs : List V) (xk : Option V), σ = [some (.ref a), some (.int n), some (.ref tg), some (.ref p), xk] ∧ SqT K F' tt [V.str "break", .str "continue"] ∧
      OS K a H F' H' p vs (oddA ++ oddB ++ oddC ++ [.tup [.str "seq", .str "ab"]] ++ oddD ++ (([("break" : Str), "continue"].take i).map fun k => oddE n k ++ oddG k).flatten)) ?_ ?_ ?_ ?_⟩⟩
    · have g8 := (Grow.refl S7.fh).trans (Grow.add (o := .tup [V.str "break", .str "continue"]) S7.fh ntt)
      have pt : p7 ≠ tt := fun z => by
        have := S7.hp
        rw [z, ntt] at this
        cases this
      refine ⟨_, p7, v7, none, rfl, SqT.of upd_same, ⟨S7.ad.trans (Adv.of_same S7.ad.src g8.hh), g8.fh, g8.out a S7.fa S7.ad.src.some, by rw [upd_ne pt]; exact S7.fp, g8.hh _ _ S7.hp, ?_, S7.pa, S7.p0⟩⟩
      have := S7.ob.mono g8.ff
      rw [List.take_zero, List.map_nil, List.flatten_nil, List.append_nil]
      exact this
    · rintro i σ H' _ ⟨F', p, vs, xk, _, ht, os⟩
      exact Fc.Same.sqt os.fh ht
    · rintro i x σ H8 hx ⟨F8, p8, v8, xk, rfl, ht, S8⟩
      obtain ⟨z, rfl, hz, hzi⟩ : ∃ z : Str, x = .str z ∧ (z = "break" ∨ z = "continue") ∧ [("break" : Str), "continue"][i]? = some z := by
        have hj : i < 2 := (List.getElem?_eq_some_iff.mp hx).1
        match i, hj, hx with
        | 0, _, hv => cases hv; exact ⟨_, rfl, .inl rfl, rfl⟩
        | 1, _, hv => cases hv; exact ⟨_, rfl, .inr rfl, rfl⟩
      have oz : ∀ F, Ob K F (.str z) (.str z) := fun F => str_ob z (by rcases hz with rfl | rfl <;> decide)
      have li : ∀ (i : Nat) (l : List Str), (((l.take i).map fun k => oddE n k ++ oddG k).flatten).length ≤ l.length * 10 := by
        intro i l
        induction l generalizing i with
        | nil => simp
        | cons k l ih =>
          cases i with
          | zero => simp
          | succ i =>
            rw [List.take_succ_cons, List.map_cons, List.flatten_cons, List.length_append, List.length_cons]
            have := ih i
            have e10 : (oddE n k ++ oddG k).length = 10 := rfl
            omega
      have l8 : (oddA ++ oddB ++ oddC ++ [O.tup [.str "seq", .str "ab"]] ++ oddD ++ (([("break" : Str), "continue"].take i).map fun k => oddE n k ++ oddG k).flatten).length ≤ 60 := by
        rw [List.length_append]
        have := li i ["break", "continue"]
        have e30 : (oddA ++ oddB ++ oddC ++ [O.tup [.str "seq", .str "ab"]] ++ oddD).length = 30 := rfl
        have e2 : (["break", "continue"] : List Str).length = 2 := rfl
        omega
      have o8 := oz F8
      show tSeq _ _ _ _ _
      refine set_use ?_
      refine litM_cat (K := K) (us := oddE n z) rfl (by unfold oddE; walk_at "lits") (by show 7 ≤ 100; decide) (by omega) (Same.refl _) S8.fh S8.hp S8.ob fun F9 H9 p9 v9 g9 f9 n9 e9 ob9 => ?_
      have S9 := S8.go g9 f9 n9 e9 ob9
      have o9 := oz F9
      refine set_last ?_
      refine litM_cat (K := K) (us := oddG z) rfl (by unfold oddG; walk_at "lits") (by show 3 ≤ 100; decide) (by rw [List.length_append]; show _ + 7 ≤ 1000; omega) (Same.refl _) S9.fh S9.hp S9.ob fun F10 H10 p10 v10 g10 f10 n10 e10 ob10 => ?_
      have S10 := S9.go g10 f10 n10 e10 ob10
      refine ⟨F10, p10, v10, _, rfl, Fc.Same.sqt (g9.ff.trans g10.ff) ht, ?_⟩
      rw [List.take_add_one, hzi, List.map_append, List.flatten_append]
      have e : ∀ (A B C D : List O), A ++ B ++ C ++ D = A ++ (B ++ (C ++ D)) := fun A B C D => by rw [List.append_assoc, List.append_assoc]
      show OS K a H F10 H10 p10 v10 (_ ++ (_ ++ ([oddE n z ++ oddG z]).flatten))
      rw [List.flatten_singleton, ← List.append_assoc, ← List.append_assoc]
      exact S10
    · rintro σ H8 ⟨F8, p8, v8, xk, rfl, ht, S8⟩
      have l8 : v8.length = 50 := S8.ob.len
      refine ⟨_, rfl, _, rfl, a, p8, v8, rfl, S8.ad.src, S8.pa, S8.hp, (fun z => by rw [z] at l8; cases l8), by rw [l8]; decide, fun j v H9 hv ad9 => ?_⟩
      have hj : j < 50 := by
        rw [← l8]
        exact (List.getElem?_eq_some_iff.mp hv).1
      obtain ⟨o, ho⟩ : ∃ o, (oddA ++ oddB ++ oddC ++ [O.tup [.str "seq", .str "ab"]] ++ oddD ++ (([("break" : Str), "continue"].take 2).map fun k => oddE n k ++ oddG k).flatten)[j]? = some o := ⟨_, List.getElem?_eq_getElem (show j < 50 from hj)⟩
      obtain ⟨v', hv', obv⟩ := S8.ob.get ho
      rw [hv] at hv'
      cases hv'
      refine k v o H9 (S8.ad.trans ad9) (obv.mono (frozen_fz S8.fa (ad9.keep S8.fa S8.fh))) ?_
      rcases List.mem_append.mp (List.mem_of_getElem? ho) with m | m
      · exact bad_closed n o m
      · show o.isStmt n = false
        rw [show ((([("break" : Str), "continue"].take 2).map fun k => oddE n k ++ oddG k).flatten) = (oddE n "break" ++ oddG "break") ++ (oddE n "continue" ++ oddG "continue") from rfl] at m
        rcases List.mem_append.mp m with m | m
        · exact bad_jumps hn (.inl rfl) o m
        · exact bad_jumps hn (.inr rfl) o m
end
end N3
end L2
set_option Elab.async false
set_option linter.all false
set_option maxRecDepth 100000
set_option maxHeartbeats 8000000
namespace L2
namespace Fc
open PySem PySem.Spec PyProof.Rows
theorem sqt_updD {K : PySem.W.Frag} {H : Hp} {D b : Addr} {ys zs : List (Key × V)} {xs : List V} (hD : H D = some (.dK ys)) (h : SqT K H b xs) : SqT K (upd H D (.dK zs)) b xs := by
  rcases h with (h | ⟨o, h⟩) | h
  · have n : b ≠ D := fun z => by
      rw [z, hD] at h
      cases h
    exact .inl (.inl (by rw [upd_ne n]; exact h))
  · have n : b ≠ D := fun z => by
      rw [z, hD] at h
      cases h
    exact .inl (.inr ⟨o, by rw [upd_ne n]; exact h⟩)
  · exact .inr h
mutual
/-- a change of a dict leaves an object what it is -/
theorem Ob.updD {K : PySem.W.Frag} {H : Hp} {D : Addr} {ys zs : List (Key × V)} (hD : H D = some (.dK ys)) : ∀ {v : V} {o : O}, Ob K H v o → Ob K (upd H D (.dK zs)) v o
  | _, _, .non => .non
  | _, _, .bl b => .bl b
  | _, _, .int i => .int i
  | _, _, .str x h => .str x h
  | _, _, .tup h r b => .tup (sqt_updD hD h) (Obs.updD hD r) b
  | _, _, .lst (a := a) (xs := xs) h => by
    have n : a ≠ D := fun z => by
      rw [z, hD] at h
      cases h
    exact .lst (xs := xs) (by rw [upd_ne n]; exact h)
  | _, _, .dct (a := a) (kvs := kvs) h => by
    by_cases e : a = D
    · subst e
      exact .dct upd_same
    · exact .dct (kvs := kvs) (by rw [upd_ne e]; exact h)
theorem Obs.updD {K : PySem.W.Frag} {H : Hp} {D : Addr} {ys zs : List (Key × V)} (hD : H D = some (.dK ys)) : ∀ {vs : List V} {os : List O}, Obs K H vs os → Obs K (upd H D (.dK zs)) vs os
  | _, _, .nil => .nil
  | _, _, .cons h r => .cons (Ob.updD hD h) (Obs.updD hD r)
end
theorem RowsAt.updD {K : PySem.W.Frag} {F : Hp} {l D : Addr} {R : List Spot} {ys zs : List (Key × V)} (hD : F D = some (.dK ys)) (h : RowsAt K F l R) : RowsAt K (upd F D (.dK zs)) l R := by
  have ne : ∀ {b : Addr} {xs : List V}, F b = some (.lst xs) → upd F D (.dK zs) b = some (.lst xs) := fun {b xs} e => by
    have n : b ≠ D := fun z => by
      rw [z, hD] at e
      cases e
    rw [upd_ne n]
    exact e
  obtain ⟨rs, h1, h2, h3⟩ := h
  refine ⟨rs, ne h1, h2, fun i q hq => ?_⟩
  obtain ⟨r, v, kl, r1, r2, r3, r4⟩ := h3 i q hq
  exact ⟨r, v, kl, r1, ne r2, r3.updD hD, ne r4⟩
end Fc
namespace N3
open PySem PySem.Spec PyProof.Rows Fc C8
local macro_rules | `(tactic| walk_at "lits") => `(tactic| repeat' (first | exact lit_nil | exact lit_str | exact lit_int | exact lit_bl | exact lit_non | exact lit_dct | exact lit_lst0 | refine lit_cons ?_ ?_ | refine lit_tup ?_ (by simp only [List.length_cons, List.length_nil]; decide) | exact lit_var rfl (by assumption) | apply lit_lst1 | apply lit_lst2))
section
variable {P : Program} {w : World} {K : PySem.W.Frag} {mg : Str → Option Value} {base : Heap} {c : Cs}
/-! ### law -/
/-- drawn statements, at most four levels more than one -/
def spSt4 (K : PySem.W.Frag) : Sp := fun vs H Q E => ∃ d, d ≤ 4 ∧ spSt K d vs H Q E
theorem ok_st4 {f : Addr} {fd : FuncData} {ps : List Str} (F : ∀ d, FnOk P w K mg base CX0 (d + 5) f fd ps (spSt K d)) : FnOk P w K mg base CX0 9 f fd ps (spSt4 K) := by
  have go : ∀ d, d ≤ 4 → FnOk P w K mg base CX0 9 f fd ps (spSt K d) := fun d hd => (F d).mono (by omega)
  refine ⟨fun vs H Q E h => ?_, fun a1 a2 a3 a4 a5 a6 a7 a8 a9 a10 a11 a12 a13 h => ?_⟩
  · obtain ⟨d, hd, h⟩ := h
    exact (go d hd).1 _ _ _ _ h
  · obtain ⟨d, hd, h⟩ := h
    exact (go d hd).2 a1 a2 a3 a4 a5 a6 a7 a8 a9 a10 a11 a12 a13 h
def spLaw (K : PySem.W.Frag) : Sp := fun vs H Q _ => ∃ (l : Addr) (ns : List Int), vs = [.ref l] ∧ SqL K H l (ns.map V.int) ∧ ∀ H', Q (.bl true) H'
/-- what stands in a turn: the statement, its rows -/
structure LS (K : PySem.W.Frag) (a l : Addr) (v : V) (s : S) (H : Hp) : Prop where
  src : Src H a
  st : Ob K (Fz a H) v s.toO
  rows : RowsAt K (Fz a H) l s.all
theorem LS.go {a l : Addr} {v : V} {s : S} {H H' : Hp} (h : LS K a l v s H) (ad : Adv a H H') : LS K a l v s H' := ⟨ad.src, ad.ob h.st, h.rows.mono ad.fz⟩
theorem bad_one {F : Hp} {b : Addr} {i : Nat} {v : V} {u : S} (hb : F b = some (.dK [(Sum.inl (i : Int), v)])) (ob : Ob K F v u.toO) : BadAt K F b (fun n => if n = i then some u else none) := by
  refine ⟨_, hb, fun n => ?_⟩
  by_cases e : n = i
  · subst e
    exact .inr ⟨u, v, if_pos rfl, valV_pos rfl, ob⟩
  · refine .inl ⟨if_neg e, ?_⟩
    rw [valV_neg (by intro z; exact e (by have := Sum.inl.inj z; omega))]
    rfl
theorem bad_two {F : Hp} {b : Addr} {i j : Nat} {v w' : V} {u t : S} (ne : i ≠ j) (hb : F b = some (.dK (putK [(Sum.inl (i : Int), v)] (Sum.inl (j : Int)) w'))) (ob : Ob K F v u.toO) (ob2 : Ob K F w' t.toO) : BadAt K F b (fun n => if n = i then some u else if n = j then some t else none) := by
  refine ⟨_, hb, fun n => ?_⟩
  have nj : (Sum.inl (i : Int) : Key) ≠ Sum.inl (j : Int) := fun z => ne (by have := Sum.inl.inj z; omega)
  have e2 : putK [((Sum.inl (i : Int) : Key), v)] (Sum.inl (j : Int)) w' = [(Sum.inl (i : Int), v), (Sum.inl (j : Int), w')] := by
    simp [putK, nj]
  rw [e2]
  by_cases e : n = i
  · subst e
    exact .inr ⟨u, v, if_pos rfl, valV_pos rfl, ob⟩
  · have n1 : ¬ ((Sum.inl (i : Int) : Key), v).1 = Sum.inl (n : Int) := fun z => e (by have := Sum.inl.inj z; omega)
    rw [valV_neg n1]
    simp only [if_neg e]
    by_cases e3 : n = j
    · subst e3
      exact .inr ⟨t, w', if_pos rfl, valV_pos rfl, ob2⟩
    · refine .inl ⟨if_neg e3, ?_⟩
      rw [valV_neg (by intro z; exact e3 (by have := Sum.inl.inj z; omega))]
      rfl
abbrev s_law : Stmt := top 40
theorem sc_law : FnScope ["_law_script", "_law_cell", "_law_source", "_law_statement_here", "_law_rows", "_law_turn", "_law_at", "_law_later", "_law_bad", "_law_number", "_law_value", "_law_above", "_law_parts_here", "_law_loops_here", "_law_fine"] ["_law_script"] (defScope s_law) := ⟨rfl, rfl, rfl, by decide +kernel, rfl, by decide +kernel, by decide +kernel⟩
theorem ok_law {f : Addr} {fd : FuncData} (Fn : Fun K "law" "law" s_law f fd) (T : Txt K mg w c) (c_cell_at : Cal P w K mg base 1 "_law_cell_at" (spCellAt K) []) (c_source_of : Cal P w K mg base 1 "_law_source_of" spSourceOf [])
    (c_draw : Cal P w K mg base 1 "_law_draw" spDraw []) (c_one : Cal P w K mg base 2 "_law_one" (spOne K) []) (c_statement : Cal P w K mg base 9 "_law_statement" (spSt4 K) []) (c_flat : Cal P w K mg base 2 "_law_flat" (spFlat K) []) (c_built : Cal P w K mg base 6 "_law_built" (spBuilt K 5) [])
    (c_loops : Cal P w K mg base 1 "_law_loops" (spLoops K) []) (c_odd : Cal P w K mg base 4 "_law_odd" (spOdd K) []) (c_said : Cal P w K mg base 6 "_law_said" (spSaid K) []) : FnOk P w K mg base CX0 10 f fd ["_law_script"] (spLaw K) := by
  refine Fn.ok sc_law (fun vs H Q E h => ?_) (fun cdv A0 outer s0 H vs Q E hr h => ?_)
  · obtain ⟨l, ns, rfl, _⟩ := h
    rfl
  · obtain ⟨l, ns, rfl, hl, k⟩ := h
    refine ⟨_, (pss_cons (ps_for PassesOwn.never rfl (pi_list (pe_op op_cat (pe_lst (pa_cons (pe_c c_cell_at hr (by decide) rfl (pa_cons (pv 0) (pa_cons pe_int pa_nil))) pa_nil)) (pe_slice sl_list (pv 0) (po_some pe_int) (po_some pe_int)))) (pg_name (i := 1) sc_law.nd rfl (Or.inl rfl))
(pss_cons (ps_set (i := 2) sc_law.nd rfl (Or.inl rfl) (pe_c c_source_of hr (by decide) rfl (pa_cons (pv 1) pa_nil)))
(pss_cons (ps_set (i := 3) sc_law.nd rfl (Or.inl rfl) (pe_c c_statement hr (by decide) rfl (pa_cons (pv 2) (pa_cons (pe_op op_add pe_int (pe_c c_draw hr (by decide) rfl (pa_cons (pv 2) (pa_cons pe_int pa_nil)))) (pa_cons pe_int pa_nil)))))
(pss_cons (ps_set (i := 4) sc_law.nd rfl (Or.inl rfl) (pe_c c_flat hr (by decide) rfl (pa_cons (pv 3) pa_nil)))
(pss_cons (ps_if (PW.pt (pw_or (pt_cmpR (op_neD hr.units) (pe_c c_built hr (by decide) rfl (pa_cons (pv 4) (pa_cons pe_int (pa_cons pe_dnewK pa_nil)))) (pv 3) (nomark _)) (pw_or1 (pt_cmpR op_ne (pe_c c_said hr (by decide) rfl (pa_cons (pv 3) pa_nil)) pe_str (nomark _)))))
(pss_one (ps_ret pe_bl))
pss_nil)
(pss_cons (ps_for PassesOwn.never rfl (pi_range1 rfl T.n_range (pa_cons pe_int pa_nil)) (pg_name (i := 5) sc_law.nd rfl (Or.inl rfl))
(pss_cons (ps_par rfl sc_law.nd (i := 6) (j := 7) rfl rfl (by decide) rfl rfl (pa_cons (pe_c c_draw hr (by decide) rfl (pa_cons (pv 2) (pa_cons (pe_callB call_len (by rfl) T.n_len (by decide +kernel) (pa_cons (pv 4) pa_nil)) pa_nil))) (pa_cons (pe_c c_draw hr (by decide) rfl (pa_cons (pv 2) (pa_cons (pe_callB call_len (by rfl) T.n_len (by decide +kernel) (pa_cons (pv 4) pa_nil)) pa_nil))) pa_nil)) rfl)
(pss_cons (ps_set (i := 8) sc_law.nd rfl (Or.inl rfl) (pe_disp (pps_cons (pv 6) (pe_c c_odd hr (by decide) rfl (pa_cons (pv 2) (pa_cons (pe_c c_loops hr (by decide) rfl (pa_cons (pv 4) (pa_cons (pv 6) pa_nil))) pa_nil))) pps_nil) rfl rfl (by simp) (by decide)))
(pss_cut (ps_if (PW.pt (pw_and (pt_cmpR op_gt (pv 7) (pv 6) (nomark _)) (pw_and1 (pt_cmpR op_eq (pe_c c_draw hr (by decide) rfl (pa_cons (pv 2) (pa_cons pe_int pa_nil))) pe_int (nomark _)))))
(pss_one (ps_dput (hu_of hr) (pv 8) (pv 7) (pe_c c_odd hr (by decide) rfl (pa_cons (pv 2) (pa_cons (pe_c c_loops hr (by decide) rfl (pa_cons (pv 4) (pa_cons (pv 7) pa_nil))) pa_nil))) rfl))
pss_nil)
(pss_one (ps_if (pt_cmpR op_ne (pe_c c_said hr (by decide) rfl (pa_cons (pe_c c_built hr (by decide) rfl (pa_cons (pv 4) (pa_cons pe_int (pa_cons (pv 8) pa_nil)))) pa_nil)) (pv 6) (nomark _))
(pss_one (ps_ret pe_bl))
pss_nil))))))
(pss_one (ps_for PassesOwn.never rfl (pi_enum rfl T.n_enumerate (pa_cons (pv 4) pa_nil)) (pg_tup rfl (pgs_cons (pg_name (i := 9) sc_law.nd rfl (Or.inl rfl)) (pgs_cons (pg_lst rfl (pgs_cons (pg_name (i := 10) sc_law.nd rfl (Or.inl rfl)) (pgs_cons (pg_name (i := 11) sc_law.nd rfl (Or.inl rfl)) (pgs_cons (pg_name (i := 12) sc_law.nd rfl (Or.inl rfl)) pgs_nil)))) pgs_nil)))
(pss_cons (ps_set (i := 13) sc_law.nd rfl (Or.inl rfl) (pe_c c_loops hr (by decide) rfl (pa_cons (pv 4) (pa_cons (pv 9) pa_nil))))
(pss_cons (ps_set (i := 14) sc_law.nd rfl (Or.inl rfl) (pe_c c_one hr (by decide) rfl (pa_cons (pv 2) (pa_cons (pe_lst (pa_cons (pe_tup (pa_cons pe_str (pa_cons pe_str pa_nil))) (pa_cons (pe_tup (pa_cons pe_str (pa_cons pe_str pa_nil))) (pa_cons (pe_tup (pa_cons pe_str (pa_cons (pv 13) pa_nil))) (pa_cons (pe_tup (pa_cons pe_str (pa_cons (pv 13) pa_nil))) pa_nil))))) pa_nil))))
(pss_cut (ps_set (i := 14) sc_law.nd rfl (Or.inl rfl) (pe_ifExp (PW.pt (pw_or (pt_cmpR op_gt (pv 13) pe_int (nomark _)) (pw_or1 (pt_cmpR op_in_seq (pe_ix ix_tup (pv 14) pe_int (fun _ _ => rfl)) (pe_tup (pa_cons pe_str (pa_cons pe_str pa_nil))) (by with_unfolding_all rfl))))) (pv 14) (pe_tup (pa_cons pe_str pa_nil))))
(pss_one (ps_if (pt_cmpR op_ne (pe_c c_said hr (by decide) rfl (pa_cons (pe_c c_built hr (by decide) rfl (pa_cons (pv 4) (pa_cons pe_int (pa_cons (pe_disp (pps_cons (pv 9) (pv 14) pps_nil) rfl rfl (by simp) (by decide)) pa_nil)))) pa_nil)) pe_str (nomark _))
(pss_one (ps_ret pe_bl))
pss_nil)))))))))))))
(pss_one (ps_ret pe_bl))), ?_⟩
    refine ⟨_, rfl, l, ns, rfl, hl, fun i => ⟨by show 1 ≤ sizeLine; decide, fun p np => ?_⟩⟩
    have hl2 : SqL K (upd H p (.lst [.int i])) l (ns.map V.int) := L2.Same.seq (Fc.Same.put np) hl
    refine ⟨_, rfl, 1, rfl, 6, rfl, l, _, rfl, hl2, fun q nq => ?_⟩
    obtain ⟨ms, hm, lm⟩ : ∃ ms : List Int, cutV (ns.map V.int) (some 1) (some 6) = ms.map V.int ∧ ms.length ≤ 6 := by
      refine ⟨(ns.drop (HT.sIx (ns.map V.int).length 0 (some 1))).take (HT.sIx (ns.map V.int).length (ns.map V.int).length (some 6) - HT.sIx (ns.map V.int).length 0 (some 1)), ?_, ?_⟩
      · rw [List.map_take, List.map_drop]
        rfl
      · rw [List.length_take]
        have h4 : HT.sIx (ns.map V.int).length (ns.map V.int).length (some 6) ≤ 6 := by
          rw [show (6 : Int) = ((6 : Nat) : Int) from rfl, HT.sIx_nat]
          exact Nat.min_le_left _ _
        omega
    rw [hm]
    have s1 : Same H (upd H p (.lst [.int i])) := Fc.Same.put np
    refine ⟨p, q, [.int i], _, rfl, rfl, by rw [upd_ne (ne_of_none upd_same nq)]; exact upd_same, upd_same, by rw [List.length_map]; exact Nat.le_trans (show 1 + ms.length ≤ 7 by omega) (by decide), fun z nz => ?_⟩
    obtain ⟨Hz, ez⟩ : ∃ Hz, Hz = upd (upd (upd H p (.lst [.int i])) q (.lst (ms.map V.int))) z (.lst ([.int i] ++ ms.map V.int)) := ⟨_, rfl⟩
    have hz : Hz z = some (.lst ((i :: ms).map V.int)) := by
      rw [ez]
      exact upd_same
    rw [← ez]
    clear ez nz nq hm hl2 s1 np
    refine ⟨z, rfl, ⟨_, SqL.of hz⟩, for_list (K := K) (a := z) (xs := (i :: ms).map V.int) (fun j σ H' => ∃ x1 x2 x3 x4 x5 x6 x7 x8 x9 x10 x11 x12 x13 x14, σ = [some (.ref l), x1, x2, x3, x4, x5, x6, x7, x8, x9, x10, x11, x12, x13, x14] ∧ H' z = some (.lst ((i :: ms).map V.int))) ⟨none, none, none, none, none, none, none, none, none, none, none, none, none, none, rfl, hz⟩ (fun j σ H' _ ⟨_, _, _, _, _, _, _, _, _, _, _, _, _, _, _, e⟩ => SqL.of e) ?_ ?_⟩
    · rintro j x σ H1 hj ⟨x1, x2, x3, x4, x5, x6, x7, x8, x9, x10, x11, x12, x13, x14, rfl, hz1⟩
      obtain ⟨m, rfl⟩ : ∃ m, x = V.int m := by
        rw [List.getElem?_map] at hj
        cases e : (i :: ms)[j]? with
        | none =>
          rw [e] at hj
          cases hj
        | some m =>
          rw [e] at hj
          exact ⟨m, (Option.some.inj hj).symm⟩
      refine ⟨_, rfl, m, rfl, fun a x y u na => ?_⟩
      have nza : z ≠ a := ne_of_none hz1 na
      have hz2 : upd H1 a (.lst [.int x, .int y, .int u]) z = some (.lst ((i :: ms).map V.int)) := by
        rw [upd_ne nza]
        exact hz1
      obtain ⟨H2, e2⟩ : ∃ H2, H2 = upd H1 a (.lst [.int x, .int y, .int u]) := ⟨_, rfl⟩
      have src2 : Src H2 a := by
        rw [e2]
        exact Src.upd
      rw [← e2] at hz2 ⊢
      clear e2 na hz1
      -- the statement
      refine ⟨_, rfl, _, rfl, a, 4, rfl, src2, by decide, by decide, fun r xb yb zb r0 r1 => ?_⟩
      have ad3 : Adv a H2 (upd H2 a (.lst [.int xb, .int yb, .int zb])) := Adv.draw
      obtain ⟨H3, e3⟩ : ∃ H3, H3 = upd H2 a (.lst [.int xb, .int yb, .int zb]) := ⟨_, rfl⟩
      rw [← e3] at ad3 ⊢
      clear e3
      obtain ⟨d, rfl⟩ : ∃ d : Nat, r = d := ⟨r.toNat, by omega⟩
      refine ⟨2, d, rfl, rfl, d + 1, by omega, a, 0, ?_, ad3.src, by omega, fun v o H4 ad4 ob tr => ?_⟩
      · show [V.ref a, V.int (2 + (d : Int)), V.int 0] = [V.ref a, V.int ((d + 1 + 1 : Nat) : Int), V.int ((0 : Nat) : Int)]
        rw [show (2 + (d : Int)) = ((d + 1 + 1 : Nat) : Int) by omega]
        rfl
      obtain ⟨s, rfl, gs, ds, zs⟩ := tr.tree
      have ds5 : s.depth ≤ 5 := by omega
      have zs5 : s.size ≤ 364 := by
        have mono : ∀ d, d ≤ 5 → szB d ≤ 364 := by
          intro d hd
          match d, hd with
          | 0, _ => decide
          | 1, _ => decide
          | 2, _ => decide
          | 3, _ => decide
          | 4, _ => decide
          | 5, _ => decide
        have := mono (d + 1 + 1) (by omega)
        omega
      have bds := bd_le s
      have ft : Fit s (root s.toO) := fit_root gs (by omega) (by omega)
      have hcd := S.codes ft (by omega)
      have pl := S.plain s 0 gs
      have a4 := ad3.trans ad4
      -- its rows
      refine ⟨_, rfl, a, v, s.toO, s.all, rfl, ad4.src, ob, pl.noL, hcd, fun H5 lr s5 hR5 => ?_⟩
      have a5 := a4.trans (Adv.of_same ad4.src s5)
      have ls5 : LS K a lr v s H5 := ⟨a5.src, (Adv.of_same ad4.src s5).ob ob, hR5⟩
      have hz5 := a5.get nza hz2
      clear ob hR5 s5 a4 ad4 ad3 a5
      have lall : s.all.length = s.size := all_len ft
      have at0 := At.root ft
      -- built(rows, 0, {}) != statement
      refine ⟨_, rfl, fun e ne => ?_⟩
      have ea : e ≠ a := fun z => ls5.src.some (by rw [← z]; exact ne)
      have ls6 := ls5.go (Adv.new (o := .dK []) (Adv.refl ls5.src) ne)
      have hz6 : upd H5 e (.dK []) z = some (.lst ((i :: ms).map V.int)) := by
        rw [upd_ne (ne_of_none hz5 ne)]
        exact hz5
      have hB6 : BadAt K (Fz a (upd H5 e (.dK []))) e (fun _ => none) := ⟨[], by rw [fz_ne ea]; exact upd_same, fun n => .inl ⟨rfl, rfl⟩⟩
      obtain ⟨H6, e6⟩ : ∃ H6, H6 = upd H5 e (.dK []) := ⟨_, rfl⟩
      rw [← e6] at ls6 hz6 hB6 ⊢
      clear e6 ne ls5 hz5
      refine ⟨Fz a H6, lr, 0, e, s.all, _, s, _, rfl, fz_same, ls6.rows, hB6, at0, by omega, by omega, fun F7 H7 v7 g7 ob7 => ?_⟩
      rw [S.sub_none _ 0 s fun _ _ _ => rfl] at ob7
      have ls7 := ls6.go (Adv.of_same ls6.src g7.hh)
      have hz7 := g7.hh _ _ hz6
      have sh : SeqAt.shaped s.toO.py = true := by
        unfold SeqAt.shaped
        have := pl.dep
        rw [pl.lay, decide_eq_true (by omega)]
        rfl
      refine ⟨_, rfl, s.toO.py, s.toO.py, (ob7.mono g7.fh).dp pl.noL, (ls7.st.mono fz_same).dp pl.noL, sh, sh, _, rfl, ?_⟩
      rw [O.eqv_self]
      refine iteF ?_
      refine ⟨_, rfl, v, s.toO, _, rfl, ls7.st.mono fz_same, hcd, fun H8 s8 => ⟨rfl, _, rfl, iteF ?_⟩⟩
      have ls8 := ls7.go (Adv.of_same ls7.src s8)
      have hz8 := s8 _ _ hz7
      clear ls7 hz7 ob7 g7 ls6 hz6 hB6 s8 sh
      have lrow : ∀ {H : Hp}, LS K a lr v s H → ∃ xs : List V, SqL K H lr xs ∧ xs.length = s.size := fun h => by
        obtain ⟨rs, r1, r2, _⟩ := h.rows
        exact ⟨_, SqL.of (fz_same _ _ r1), by rw [List.length_map, r2, lall]⟩
      have spos := S.size_pos s
      -- twelve turns
      refine ⟨12, rfl, by decide, by decide, for_range (lo := 0) (n := 12) (fun i' σ H' => ∃ x5 x6 x7 x8, σ = [some (.ref l), some (.int m), some (.ref a), some v, some (.ref lr), x5, x6, x7, x8, x9, x10, x11, x12, x13, x14] ∧ LS K a lr v s H' ∧ H' z = some (.lst ((i :: ms).map V.int))) ⟨_, _, _, _, rfl, ls8, hz8⟩ ?_ ?_⟩
      · rintro i' σ H9 hi' ⟨x5, x6, x7, x8, rfl, ls9, hz9⟩
        obtain ⟨xs9, hx9, lx9⟩ := lrow ls9
        refine ⟨_, rfl, _, rfl, _, xs9.length, rfl, .inl ⟨xs9, hx9, rfl⟩, a, xs9.length, rfl, ls9.src, by omega, by omega, fun r xb yb zb r0 r1 => ?_⟩
        obtain ⟨at_, rfl⟩ : ∃ at_ : Nat, r = at_ := ⟨r.toNat, by omega⟩
        have d10 : Adv a H9 (upd H9 a (.lst [.int xb, .int yb, .int zb])) := Adv.draw
        have ls10 := ls9.go d10
        have hz10 := d10.get nza hz9
        obtain ⟨H10, e10⟩ : ∃ H10, H10 = upd H9 a (.lst [.int xb, .int yb, .int zb]) := ⟨_, rfl⟩
        rw [← e10] at ls10 hz10 ⊢
        clear e10 d10
        obtain ⟨xs10, hx10, lx10⟩ := lrow ls10
        refine ⟨_, rfl, _, rfl, _, xs10.length, rfl, .inl ⟨xs10, hx10, rfl⟩, a, xs10.length, rfl, ls10.src, by omega, by omega, fun r2 xb2 yb2 zb2 r20 r21 => ?_⟩
        obtain ⟨later, rfl⟩ : ∃ later : Nat, r2 = later := ⟨r2.toNat, by omega⟩
        have d11 : Adv a H10 (upd H10 a (.lst [.int xb2, .int yb2, .int zb2])) := Adv.draw
        have ls11 := ls10.go d11
        have hz11 := d11.get nza hz10
        obtain ⟨H11, e11⟩ : ∃ H11, H11 = upd H10 a (.lst [.int xb2, .int yb2, .int zb2]) := ⟨_, rfl⟩
        rw [← e11] at ls11 hz11 ⊢
        clear e11 d11 ls10 hz10 ls9 hz9
        refine ⟨_, _, rfl, ?_⟩
        have lat : at_ < s.all.length := by omega
        have llt : later < s.all.length := by omega
        obtain ⟨qa, hqa⟩ : ∃ q, s.all[at_]? = some q := ⟨_, List.getElem?_eq_getElem lat⟩
        obtain ⟨ql, hql⟩ : ∃ q, s.all[later]? = some q := ⟨_, List.getElem?_eq_getElem llt⟩
        have whs : ∀ {n : Nat} {q : Spot}, s.all[n]? = some q → q.wh < 1000 := fun {n q} hq => by
          have hn := (List.getElem?_eq_some_iff.mp hq).1
          have go : ∀ (n : Nat) (q : Spot), s.all[n]? = some q → q.wh ≤ n := by
            intro n
            induction n using Nat.strongRecOn with
            | ind n ih =>
              intro q hq
              obtain ⟨u, _, _, hp⟩ := all_at ft hq
              rcases hp with ⟨_, rfl⟩ | ⟨m, p', hp', lm, kid, _⟩
              · exact Nat.zero_le _
              · have := ih m lm p' hp'
                have kw := kid.wh
                split at kw <;> omega
          have := go n q hq
          omega
        -- bad = {at: odd}
        intro b nb
        have ba : b ≠ a := fun z => ls11.src.some (by rw [← z]; exact nb)
        have d12 := Adv.new (o := .dK []) (Adv.refl ls11.src) nb
        have ls12 := ls11.go d12
        have hz12 := d12.get nza hz11
        have eb12 : upd H11 b (.dK []) b = some (.dK []) := upd_same
        obtain ⟨H12, e12⟩ : ∃ H12, H12 = upd H11 b (.dK []) := ⟨_, rfl⟩
        rw [← e12] at ls12 hz12 eb12 ⊢
        clear e12 nb d12 ls11 hz11
        have bz : z ≠ b := fun w => by
          rw [w, eb12] at hz12
          cases hz12
        refine ⟨_, rfl, _, rfl, _, rfl, _, rfl, Fz a H12, lr, at_, s, qa, rfl, fz_same, ls12.rows, ft, hqa, a, qa.wh, rfl, ls12.src, whs hqa, fun v1 o1 H13 d13 ob1 nb1 => ?_⟩
        have eb13 := d13.get ba eb12
        have ls13 := ls12.go d13
        have hz13 := d13.get nza hz12
        refine ⟨eb13, [(Sum.inl (at_ : Int), v1)], rfl, by show 1 ≤ 15; decide, ?_⟩
        have zb13 : Fz a H13 b = some (.dK []) := by
          rw [fz_ne ba]
          exact eb13
        have fu : Fz a (upd H13 b (.dK (mergeK [] [(Sum.inl (at_ : Int), v1)]))) = upd (Fz a H13) b (.dK (mergeK [] [(Sum.inl (at_ : Int), v1)])) := fz_upd ba
        have ls14 : LS K a lr v s (upd H13 b (.dK (mergeK [] [(Sum.inl (at_ : Int), v1)]))) := by
          refine ⟨ls13.src.chg ba, ?_, ?_⟩
          · rw [fu]
            exact ls13.st.updD zb13
          · rw [fu]
            exact ls13.rows.updD zb13
        have ob14 : Ob K (Fz a (upd H13 b (.dK (mergeK [] [(Sum.inl (at_ : Int), v1)])))) v1 o1 := by
          rw [fu]
          exact ob1.updD zb13
        have hz14 : upd H13 b (.dK (mergeK [] [(Sum.inl (at_ : Int), v1)])) z = some (.lst ((i :: ms).map V.int)) := by
          rw [upd_ne bz]
          exact hz13
        have eb14 : upd H13 b (.dK (mergeK [] [(Sum.inl (at_ : Int), v1)])) b = some (.dK [(Sum.inl (at_ : Int), v1)]) := upd_same
        obtain ⟨H14, e14⟩ : ∃ H14, H14 = upd H13 b (.dK (mergeK [] [(Sum.inl (at_ : Int), v1)])) := ⟨_, rfl⟩
        rw [← e14] at ls14 ob14 hz14 eb14 ⊢
        clear e14 fu zb13 hz13 ls13 eb13 ob1 d13 hz12 ls12 eb12
        -- if later > at ..
        refine ⟨fun σ' H' => σ' = [some (.ref l), some (.int m), some (.ref a), some v, some (.ref lr), x5, some (.int at_), some (.int later), some (.ref b), x9, x10, x11, x12, x13, x14].set 5 (some (.int ((0 : Int) + i'))) ∧ LS K a lr v s H' ∧ H' z = some (.lst ((i :: ms).map V.int)) ∧ ∃ bad : Nat → Option S, BadAt K (Fz a H') b bad ∧ bad at_ = some (.odd o1) ∧ ∀ i, i < at_ → bad i = none, ?_, ?_⟩
        · have one : BadAt K (Fz a H14) b (fun n => if n = at_ then some (.odd o1) else none) := bad_one (by rw [fz_ne ba]; exact eb14) ob14
          have done : ∀ H', LS K a lr v s H' → H' z = some (.lst ((i :: ms).map V.int)) → BadAt K (Fz a H') b (fun n => if n = at_ then some (.odd o1) else none) → LS K a lr v s H' ∧ H' z = some (.lst ((i :: ms).map V.int)) ∧ ∃ bad : Nat → Option S, BadAt K (Fz a H') b bad ∧ bad at_ = some (.odd o1) ∧ ∀ i, i < at_ → bad i = none :=
            fun H' h1 h2 h3 => ⟨h1, h2, _, h3, if_pos rfl, fun i hi => if_neg (by omega)⟩
          refine ⟨_, rfl, _, rfl, _, _, rfl, rfl, _, rfl, ?_⟩
          refine ite2 (fun gt => ?_) (fun _ => ?_)
          · refine ⟨_, rfl, a, 2, rfl, ls14.src, by decide, by decide, fun r3 xb3 yb3 zb3 r30 r31 => ?_⟩
            have d15 : Adv a H14 (upd H14 a (.lst [.int xb3, .int yb3, .int zb3])) := Adv.draw
            have ls15 := ls14.go d15
            have hz15 := d15.get nza hz14
            have one15 := one.mono d15.fz
            have ob15 := d15.ob ob14
            have eb15 := d15.get ba eb14
            obtain ⟨H15, e15⟩ : ∃ H15, H15 = upd H14 a (.lst [.int xb3, .int yb3, .int zb3]) := ⟨_, rfl⟩
            rw [← e15] at ls15 hz15 one15 ob15 eb15 ⊢
            clear e15 d15
            refine ⟨rfl, _, rfl, ite2 (fun _ => ?_) (fun _ => ?_)⟩
            · have gt' : at_ < later := by
                have := of_decide_eq_true gt
                omega
              refine ⟨_, rfl, _, rfl, _, rfl, Fz a H15, lr, later, s, ql, rfl, fz_same, ls15.rows, ft, hql, a, ql.wh, rfl, ls15.src, whs hql, fun v2 o2 H16 d16 ob2 nb2 => ?_⟩
              have eb16 := d16.get ba eb15
              have ls16 := ls15.go d16
              have hz16 := d16.get nza hz15
              have ob16 := d16.ob ob15
              refine ⟨_, rfl, _, rfl, b, _, rfl, DPut.k (k := Sum.inl (later : Int)) eb16 (by show 1 < sizeLine; decide), ?_⟩
              have zb16 : Fz a H16 b = some (.dK [(Sum.inl (at_ : Int), v1)]) := by
                rw [fz_ne ba]
                exact eb16
              have fu : ∀ zs, Fz a (upd H16 b (.dK zs)) = upd (Fz a H16) b (.dK zs) := fun zs => fz_upd ba
              refine ⟨rfl, ⟨ls16.src.chg ba, ?_, ?_⟩, ?_, fun n => if n = at_ then some (.odd o1) else if n = later then some (.odd o2) else none, ?_, if_pos rfl, fun i hi => ?_⟩
              · rw [fu]
                exact ls16.st.updD zb16
              · rw [fu]
                exact ls16.rows.updD zb16
              · rw [upd_ne bz]
                exact hz16
              · refine bad_two (by omega) (by rw [fz_ne ba]; exact upd_same) ?_ ?_
                · rw [fu]
                  exact ob16.updD zb16
                · rw [fu]
                  exact ob2.updD zb16
              · show (if i = at_ then _ else if i = later then _ else none) = none
                rw [if_neg (by omega), if_neg (by omega)]
            · exact ⟨rfl, done _ ls15 hz15 one15⟩
          · exact ⟨rfl, done _ ls14 hz14 one⟩
        · rintro σ' H15 ⟨rfl, ls15, hz15, bad, hB, b1, b0⟩
          refine ⟨_, rfl, _, rfl, Fz a H15, lr, 0, b, s.all, _, s, bad, rfl, fz_same, ls15.rows, hB, at0, by omega, by omega, fun F16 H16 v16 g16 ob16 => ?_⟩
          have ls16 := ls15.go (Adv.of_same ls15.src g16.hh)
          have hz16 := g16.hh _ _ hz15
          refine ⟨v16, _, _, rfl, ob16.mono g16.fh, bad_codes ft (by omega) hqa b1 b0 nb1, fun H17 s17 => ?_⟩
          refine ⟨_, rfl, rfl, _, rfl, ?_⟩
          rw [decide_eq_true rfl]
          exact iteF ⟨_, _, _, _, rfl, ls16.go (Adv.of_same ls16.src s17), s17 _ _ hz16⟩
      · rintro σ H9 ⟨x5, x6, x7, x8, rfl, ls9, hz9⟩
        obtain ⟨rs9, e9, lr9, row9⟩ := id ls9.rows
        have lra : lr ≠ a := fun w => by
          rw [w, fz_at] at e9
          cases e9
        refine ⟨_, rfl, lr, _, rfl, SqL.of (fz_same _ _ e9), ?_⟩
        refine for_it (n := s.all.length) (fun i' σ H' => ∃ x9 x10 x11 x12 x13 x14, σ = [some (.ref l), some (.int m), some (.ref a), some v, some (.ref lr), x5, x6, x7, x8, x9, x10, x11, x12, x13, x14] ∧ Adv a H9 H' ∧ LS K a lr v s H' ∧ H' z = some (.lst ((i :: ms).map V.int))) ⟨_, _, _, _, _, _, rfl, Adv.refl ls9.src, ls9, hz9⟩ ?_ ?_ ?_ ?_
        · rintro i' σ H' hi' ⟨_, _, _, _, _, _, _, ad, _, _⟩
          obtain ⟨q, hq⟩ : ∃ q, s.all[i']? = some q := ⟨_, List.getElem?_eq_getElem hi'⟩
          obtain ⟨r, vr, kl, r1, _⟩ := row9 i' q hq
          exact ⟨_, .ref r, SqL.of (ad.get lra (fz_same _ _ e9)), by rw [List.getElem?_map, r1]; rfl⟩
        · rintro σ H' ⟨_, _, _, _, _, _, _, ad, _, _⟩
          exact ⟨_, SqL.of (ad.get lra (fz_same _ _ e9)), by rw [List.length_map, lr9]; exact Nat.le_refl _⟩
        · rintro i' x σ H10 H10' hi' ⟨y9, y10, y11, y12, y13, y14, rfl, ad, ls10, hz10⟩ ⟨tt, xi, rfl, ntt, rfl, hxi⟩
          obtain ⟨q, hq⟩ : ∃ q, s.all[i']? = some q := ⟨_, List.getElem?_eq_getElem hi'⟩
          obtain ⟨rs, r, vr, kl, g1, g2, g3, g4, g5, _⟩ := row_at ls10.rows fz_same hq
          have hxi' := hxi _ g1
          rw [g2] at hxi'
          cases hxi'
          have d11 := Adv.new (o := .tup [.int i', .ref r]) (Adv.refl ls10.src) ntt
          have ls11 := ls10.go d11
          have hz11 := d11.get nza hz10
          have ad11 := ad.trans d11
          have g3' : SqL K (upd H10 tt (.tup [.int i', .ref r])) r [vr, optV q.par, .ref kl] := L2.Same.seq (Fc.Same.put ntt) g3
          have et : upd H10 tt (.tup [.int i', .ref r]) tt = some (.tup [.int i', .ref r]) := upd_same
          obtain ⟨H11, e11⟩ : ∃ H11, H11 = upd H10 tt (.tup [.int i', .ref r]) := ⟨_, rfl⟩
          rw [← e11] at ls11 hz11 ad11 g3' et ⊢
          clear e11 d11 ntt
          refine ⟨tt, _, rfl, SqT.of et, rfl, _, _, rfl, _, _, rfl, r, _, rfl, g3', rfl, _, _, rfl, _, _, rfl, _, _, rfl, rfl, rfl, ?_⟩
          -- loops_here
          refine ⟨_, rfl, _, rfl, Fz a H11, lr, i', s, q, rfl, fz_same, ls11.rows, ft, hq, ?_⟩
          -- fine
          refine ⟨_, rfl, ?_⟩
          have on : Ob K (Fz a H11) (.int (q.wh : Nat)) (.int (q.wh : Nat)) := .int _
          refine litL_lst (K := K) (F := Fz a H11) (os := [.tup [.str "do", .str "a"], .tup [.str "call", .str "zzzzzzzz"], .tup [.str "break", .int (q.wh : Nat)], .tup [.str "continue", .int (q.wh : Nat)]]) (by walk_at "lits") (by show 4 ≤ 100; decide) _ H11 _ (Same.refl _) fz_same fun F12 H12 p12 v12 g12 e12 ob12 => ?_
          have ls12 := ls11.go (Adv.of_same ls11.src g12.hh)
          have hz12 := g12.hh _ _ hz11
          have ad12 := ad11.trans (Adv.of_same ls11.src g12.hh)
          have fa12 : F12 a = none := g12.out a fz_at ls11.src.some
          have l12 : v12.length = 4 := ob12.len
          refine ⟨a, p12, v12, rfl, ls12.src, ?_, g12.fh _ _ e12, (fun w => by rw [w] at l12; cases l12), by rw [l12]; decide, fun j' vf H13 hv ad13 => ?_⟩
          · intro w
            rw [w, fa12] at e12
            cases e12
          have ls13 := ls12.go ad13
          have hz13 := ad13.get nza hz12
          have ad13' := ad12.trans ad13
          obtain ⟨of, hof, obf⟩ : ∃ o, (o = O.tup [.str "do", .str "a"] ∨ o = .tup [.str "call", .str "zzzzzzzz"] ∨ o = .tup [.str "break", .int (q.wh : Nat)] ∨ o = .tup [.str "continue", .int (q.wh : Nat)]) ∧ Ob K (Fz a H13) vf o := by
            have hj : j' < 4 := by
              rw [← l12]
              exact (List.getElem?_eq_some_iff.mp hv).1
            obtain ⟨o, ho⟩ : ∃ o, ([.tup [.str "do", .str "a"], .tup [.str "call", .str "zzzzzzzz"], .tup [.str "break", .int (q.wh : Nat)], .tup [.str "continue", .int (q.wh : Nat)]] : List O)[j']? = some o := ⟨_, List.getElem?_eq_getElem (show j' < 4 from hj)⟩
            obtain ⟨v', hv', obv⟩ := ob12.get ho
            rw [hv] at hv'
            cases hv'
            refine ⟨o, ?_, obv.mono (frozen_fz fa12 (ad13.keep fa12 g12.fh))⟩
            have := List.mem_of_getElem? ho
            simpa using this
          clear ob12 e12 hv ad13 ls12 hz12 ad12 g12 ls11 hz11 ad11 g3' et on g1 g2 g3 g4 g5
          refine ⟨fun σ' H' => ∃ (vu : V) (u : S) (w13 : Option V), σ' = [some (.ref l), some (.int m), some (.ref a), some v, some (.ref lr), x5, x6, x7, x8, some (.int i'), some vr, some (optV q.par), some (.ref kl), w13, some vu] ∧ Adv a H9 H' ∧ LS K a lr v s H' ∧ H' z = some (.lst ((i :: ms).map V.int)) ∧ Ob K (Fz a H') vu u.toO ∧ u.size = 1 ∧ u.depth = 1 ∧ u.bd = 0 ∧ u.good q.wh, ?_, ?_⟩
          · have nd : ∀ (k : Str) (ar : List O), Hd q.wh k ar 0 → (S.nd k ar []).size = 1 ∧ (S.nd k ar []).depth = 1 ∧ (S.nd k ar []).bd = 0 ∧ (S.nd k ar []).good q.wh := fun k ar h => by
              refine ⟨rfl, rfl, ?_, ?_⟩
              · rw [S.bd]
                split <;> rfl
              · unfold S.good S.goods
                exact ⟨h, trivial⟩
            refine ⟨_, rfl, _, _, rfl, rfl, _, rfl, ?_⟩
            refine ite2 (fun gt => ?_) (fun gt => ?_)
            · have gt' : 0 < q.wh := by
                have := of_decide_eq_true gt
                omega
              refine ⟨_, rfl, ?_⟩
              rcases hof with rfl | rfl | rfl | rfl
              · exact ⟨vf, .nd "do" [.str "a"] [], _, rfl, ad13', ls13, hz13, obf, nd _ _ (.do_ _ (by decide))⟩
              · exact ⟨vf, .nd "call" [.str "zzzzzzzz"] [], _, rfl, ad13', ls13, hz13, obf, nd _ _ (.call _ (by decide))⟩
              · exact ⟨vf, .nd "break" [.int (q.wh : Nat)] [], _, rfl, ad13', ls13, hz13, obf, nd _ _ (.brk _ gt' (Nat.le_refl _))⟩
              · exact ⟨vf, .nd "continue" [.int (q.wh : Nat)] [], _, rfl, ad13', ls13, hz13, obf, nd _ _ (.con _ gt' (Nat.le_refl _))⟩
            · obtain ⟨kd, rest, ekd⟩ : ∃ kd rest, of = .tup (.str kd :: rest) := by
                rcases hof with rfl | rfl | rfl | rfl <;> exact ⟨_, _, rfl⟩
              obtain ⟨pf, xs, rfl, tf, hos⟩ := (show Ob K (Fz a H13) vf (.tup (.str kd :: rest)) from ekd ▸ obf).tup_eq
              obtain ⟨y, hy, hyo⟩ := hos.get (i := 0) (o := .str kd) rfl
              obtain rfl := hyo.str_eq
              refine ⟨_, rfl, pf, xs, 0, _, rfl, rfl, Fc.Same.sqt fz_same tf, at_of rfl hy, by show 2 ≤ sizeLine; decide, fun t nt => ⟨t, _, rfl, .inr (SqT.of upd_same), rfl, rfl, _, rfl, ?_⟩⟩
              have d14 := Adv.new (o := .tup [.str "do", .str "call"]) (Adv.refl ls13.src) nt
              have ls14 := ls13.go d14
              have hz14 := d14.get nza hz13
              have ad14 := ad13'.trans d14
              have ob14 := d14.ob obf
              obtain ⟨H14, e14⟩ : ∃ H14, H14 = upd H13 t (.tup [.str "do", .str "call"]) := ⟨_, rfl⟩
              rw [← e14] at ls14 hz14 ad14 ob14 ⊢
              clear e14 nt d14
              rcases hof with rfl | rfl | rfl | rfl
              · cases ekd
                exact iteT ⟨_, rfl, .ref pf, .nd "do" [.str "a"] [], _, rfl, ad14, ls14, hz14, ob14, nd _ _ (.do_ _ (by decide))⟩
              · cases ekd
                exact iteT ⟨_, rfl, .ref pf, .nd "call" [.str "zzzzzzzz"] [], _, rfl, ad14, ls14, hz14, ob14, nd _ _ (.call _ (by decide))⟩
              · cases ekd
                refine iteF ⟨by show 1 ≤ sizeLine; decide, fun t2 nt2 => ?_⟩
                have d15 := Adv.new (o := .tup [.str "raise"]) (Adv.refl ls14.src) nt2
                exact ⟨.ref t2, .nd "raise" [] [], _, rfl, ad14.trans d15, ls14.go d15, d15.get nza hz14, tup_new (K := K) ls14.src nt2 (.cons (str_ob "raise") .nil) (by show 1 < 20000; decide), nd _ _ .rse⟩
              · cases ekd
                refine iteF ⟨by show 1 ≤ sizeLine; decide, fun t2 nt2 => ?_⟩
                have d15 := Adv.new (o := .tup [.str "raise"]) (Adv.refl ls14.src) nt2
                exact ⟨.ref t2, .nd "raise" [] [], _, rfl, ad14.trans d15, ls14.go d15, d15.get nza hz14, tup_new (K := K) ls14.src nt2 (.cons (str_ob "raise") .nil) (by show 1 < 20000; decide), nd _ _ .rse⟩
          · rintro σ' H14 ⟨vu, u, w13, rfl, ad14, ls14, hz14, obu, us, ud, ub, ug⟩
            refine ⟨_, rfl, fun b nb => ⟨_, rfl, _, rfl, upd_same, [(Sum.inl (i' : Int), vu)], rfl, by show 1 ≤ 15; decide, ?_⟩⟩
            have ba : b ≠ a := fun w => ls14.src.some (by rw [← w]; exact nb)
            have d15 : Adv a H14 (upd (upd H14 b (.dK [])) b (.dK (mergeK [] [(Sum.inl (i' : Int), vu)]))) := by
              rw [upd_upd]
              exact Adv.new (Adv.refl ls14.src) nb
            have ls15 := ls14.go d15
            have hz15 := d15.get nza hz14
            have ad15 := ad14.trans d15
            have ob15 := d15.ob obu
            have eb15 : upd (upd H14 b (.dK [])) b (.dK (mergeK [] [(Sum.inl (i' : Int), vu)])) b = some (.dK [(Sum.inl (i' : Int), vu)]) := upd_same
            obtain ⟨H15, e15⟩ : ∃ H15, H15 = upd (upd H14 b (.dK [])) b (.dK (mergeK [] [(Sum.inl (i' : Int), vu)])) := ⟨_, rfl⟩
            rw [← e15] at ls15 hz15 ad15 ob15 eb15 ⊢
            clear e15 nb d15
            have hB : BadAt K (Fz a H15) b (fun n => if n = i' then some u else none) := bad_one (by rw [fz_ne ba]; exact eb15) ob15
            refine ⟨Fz a H15, lr, 0, b, s.all, _, s, _, rfl, fz_same, ls15.rows, hB, at0, by omega, by omega, fun F16 H16 v16 g16 ob16 => ?_⟩
            obtain ⟨rowsG, hG⟩ := good_codes ft (by omega) (bad := fun n => if n = i' then some u else none) (fun n t ht => by
              by_cases e : n = i'
              · rw [if_pos e] at ht
                cases ht
                exact ⟨us, ud, ub⟩
              · rw [if_neg e] at ht
                cases ht) (fun n t x ht hx => by
              by_cases e : n = i'
              · rw [if_pos e] at ht
                cases ht
                rw [e, hq] at hx
                cases hx
                exact ug
              · rw [if_neg e] at ht
                cases ht)
            have d16 := Adv.of_same ls15.src g16.hh
            refine ⟨v16, _, _, rfl, ob16.mono g16.fh, hG, fun H17 s17 => ⟨rfl, _, rfl, iteF ?_⟩⟩
            have d17 := d16.trans (Adv.of_same d16.src s17)
            exact ⟨_, _, _, _, _, _, rfl, ad15.trans d17, ls15.go d17, d17.get nza hz15⟩
        · rintro σ H' ⟨_, _, _, _, _, _, rfl, _, _, hz'⟩
          exact ⟨_, _, _, _, _, _, _, _, _, _, _, _, _, _, rfl, hz'⟩
    · rintro σ H1 ⟨x1, x2, x3, x4, x5, x6, x7, x8, x9, x10, x11, x12, x13, x14, rfl, hz1⟩
      exact k H1
end
end N3
end L2
set_option Elab.async false
set_option linter.all false
set_option maxRecDepth 100000
set_option maxHeartbeats 8000000
namespace L2
namespace Fc
open PySem PySem.Spec PyProof.Rows C8

/-! ### what the top has written -/
structure DefF (K : PySem.W.Frag) (x qual : Str) (st : Stmt) (f : Addr) : Prop where
  ex : ∃ fd : FuncData, Fun K x qual st f fd
theorem DefF.of {K : PySem.W.Frag} {x qual : Str} {st : Stmt} {f : Addr} {oc : Value} {od an : Option Addr} {osl : Array (Option Value)} {kV doc pm cdv ct : Value} (l : K.lookup f = some ⟨oc, od, .func (PySem.W.fnOf x qual (defArgs st) (defBody st) (defScope st) .none kV doc pm an cdv ct), osl⟩)
    (c : PySem.W.codeIn K cdv qual = true) (k : PySem.W.keepIn K (.ref f) = true) : DefF K x qual st f := ⟨_, fun_mk l c k⟩
/-- a class over ArithmeticError -/
theorem arc_of {K : PySem.W.Frag} {C fI : Addr} {f nm q : Str} {N : Addr} {bs bm : List Value} {sn : List Str} {sub : List Value} {ab : Bool} {col : Option Bool} {dd : Option Addr} {k0 k1 k2 k3 k5 : Option Value}
    (xL : K.lookup C = some (excClassObj nm q C N bs bm true sn sub ab col dd k0 k1 k2 k3 k5 "ArithmeticError.__new__")) (bm1 : arOver bm = true) (sa : PySem.W.findIn K (.ref C) "__setattr__" = some (some (.builtin "object.__setattr__")))
    (ga : PySem.W.findIn K (.ref C) "__getattribute__" = some (some (.builtin "BaseException.__getattribute__"))) (gg : PySem.W.findIn K (.ref C) "__getattr__" = some none) (hd : PySem.W.hasDictIn K C = true) (nf : PySem.W.findIn K (.ref C) f = some none)
    (exC : PySem.W.subIn K (.ref C) (.type "BaseException") = some true) (tyC : PySem.W.typeIn K (.ref C) = some (.type "type")) (kC : PySem.W.keepIn K (.ref C) = true) (iC : PySem.W.findIn K (.ref C) "__init__" = some (some (.ref fI)))
    (tI : PySem.W.typeIn K (.ref fI) = some (.type "function")) : ArC K C fI f := ⟨⟨nm, q, N, bs, bm, sn, sub, ab, col, dd, k0, k1, k2, k3, k5, xL, bm1⟩, sa, ga, gg, hd, nf, exC, tyC, kC, iC, tI⟩
/-- the texts of a written tuple -/
def txtW : Value → Option Str
  | .str x _ => some x
  | _ => none
def tupW (K : PySem.W.Frag) (a : Addr) : Option (List (Option Str)) := match K.lookup a with
  | some ⟨.type c, _, .seq its _, _⟩ => (match decide (c = "tuple") && decide (its.size ≤ 100) with
    | true => some (its.toList.map txtW)
    | false => none)
  | _ => none
theorem vals_txt : ∀ {vs : List Value} {xs : List Str}, vs.map txtW = xs.map some → Vals (xs.map V.str) vs
  | [], [], _ => .nil
  | [], _ :: _, h => by cases h
  | _ :: _, [], h => by cases h
  | v :: vs, x :: xs, h => by
    rw [List.map_cons, List.map_cons] at h
    injection h with h1 h2
    refine .cons ?_ (vals_txt h2)
    unfold txtW at h1
    split at h1
    · cases h1
      exact ⟨_, rfl⟩
    · cases h1
theorem tup_of {K : PySem.W.Frag} {a : Addr} {xs : List Str} (h : tupW K a = some (xs.map some)) (H : Hp) : SqT K H a (xs.map V.str) := by
  unfold tupW at h
  split at h
  · rename_i cn od its n sl q
    split at h
    · rename_i z
      obtain ⟨z1, z2⟩ := Bool.and_eq_true_iff.mp z
      have e : cn = "tuple" := of_decide_eq_true z1
      subst e
      exact .inr ⟨_, its, n, q, rfl, rfl, Nat.le_trans (of_decide_eq_true z2) (by decide), vals_txt (Option.some.inj h)⟩
    · cases h
  · cases h
/-- the pairs of a written dict with text keys -/
def prOf (e : DictEntry) : Option (Str × Int) := match e.key, e.val with
  | .str x _, .int i _ => some (x, i)
  | _, _ => none
def prW (K : PySem.W.Frag) (a : Addr) : Option (List (Option (Str × Int))) := match K.lookup a with
  | some ⟨_, _, .dict es _, _⟩ => some (es.toList.map prOf)
  | _ => none
theorem prs_find (z : Str) : ∀ {l : List DictEntry} {ps : List (Str × Int)}, l.map prOf = ps.map some →
    ∃ r, (match l.find? (·.key.isStr z) with | some e => some (some e.val) | none => if l.any (·.refKey) then none else some none) = some r ∧ RelO ((ps.find? fun p => p.1 == z).map fun p => V.int p.2) r
  | [], [], _ => ⟨none, rfl, trivial⟩
  | [], _ :: _, h => by cases h
  | _ :: _, [], h => by cases h
  | e :: l, p :: ps, h => by
    rw [List.map_cons, List.map_cons] at h
    injection h with h1 h2
    obtain ⟨hs, ky, vl⟩ := e
    unfold prOf at h1
    split at h1
    · rename_i x t i u q1 q2
      cases h1
      have q1' : ky = .str x t := q1
      have q2' : vl = .int i u := q2
      subst q1' q2'
      have h3 : ∀ b : Bool, b = (x == z) → List.find? (fun en : DictEntry => en.key.isStr z) (⟨hs, .str x t, .int i u⟩ :: l) = if b = true then some ⟨hs, .str x t, .int i u⟩ else List.find? (fun en : DictEntry => en.key.isStr z) l := by
        intro b eb
        rw [List.find?_cons]
        show (match x == z with | true => _ | false => _) = _
        rw [← eb]
        cases b <;> rfl
      have h4 : ∀ b : Bool, b = (x == z) → List.find? (fun pr : Str × Int => pr.1 == z) ((x, i) :: ps) = if b = true then some (x, i) else List.find? (fun pr : Str × Int => pr.1 == z) ps := by
        intro b eb
        rw [List.find?_cons]
        show (match x == z with | true => _ | false => _) = _
        rw [← eb]
        cases b <;> rfl
      have h5 : List.any (⟨hs, .str x t, .int i u⟩ :: l) (·.refKey) = List.any l (·.refKey) := rfl
      rw [h3 _ rfl, h4 _ rfl, h5]
      cases x == z with
      | true => exact ⟨_, rfl, ⟨u, rfl⟩⟩
      | false => exact prs_find z h2
    · cases h1
def sizes : List (Str × Int) := [("do", 2), ("call", 2), ("if", 4), ("while", 3), ("seq", 2), ("break", 2), ("continue", 2), ("return", 1), ("raise", 1), ("try", 3), ("final", 3)]
theorem beqS {x z : Str} : (x == z) = decide (z = x) := by
  by_cases e : z = x
  · rw [decide_eq_true e, e]
    exact beq_self_eq_true x
  · rw [decide_eq_false e]
    exact beq_false_of_ne fun q => e q.symm
theorem sizes_at (z : Str) : (szOf z).map (fun n => V.int (n : Nat)) = (sizes.find? fun p => p.1 == z).map fun p => V.int p.2 := by
  unfold szOf sizes
  simp only [List.find?_cons, List.find?_nil, beqS]
  repeat' split
  all_goals first | rfl | simp_all
theorem szs_of {K : PySem.W.Frag} {a : Addr} (h : prW K a = some (sizes.map some)) (z : Str) : ∃ r, PySem.W.nsIn K a z = some r ∧ RelO ((szOf z).map fun n => V.int (n : Nat)) r := by
  rw [sizes_at]
  unfold prW at h
  unfold PySem.W.nsIn
  split at h
  · rename_i oc od es n sl q
    rw [q]
    exact prs_find z (Option.some.inj h)
  · cases h

end Fc
end L2
set_option Elab.async false
set_option linter.all false
set_option maxRecDepth 100000
set_option maxHeartbeats 8000000
namespace L2
namespace N3
open PySem PySem.Spec PyProof.Rows Fc C8
theorem all_mk {l : PySem.W.OpenLaw} {w : World} {K : PySem.W.Frag} {h : Heap} {mg : Str → Option Value} {fa : Addr} (X : K.In h) (G : h.Ns mainGlobals mg) (hfa : mg "law" = some (.ref fa))
    {f_is_integer f_is_name f_has_kind f_is_statement f_judge f_head_of f_parts_of f_spots_inside f_cell_at f_source_of f_draw f_one f_leaf f_statement f_parts f_flat f_built f_loops f_odd_named f_odd f_said f_law f_bad f_num f_lim f_init f_keep cCopyError cInvalidCode cInvalidNumber cLimitExceeded cCode aNAMED aJUMPS aPAIRS aPLACELESS aSIZES : Addr} {t_MOST_STATEMENTS t_MOST_LEVELS t_MOST_BLOCKS t_LONGEST_NAME : Tok} {nm_bad q_bad : Str} {N_bad : Addr} {bs_bad bm_bad : List Value} {sn_bad : List Str} {sub_bad : List Value} {ab_bad : Bool} {col_bad : Option Bool} {dd_bad : Option Addr} {k0_bad k1_bad k2_bad k3_bad k5_bad : Option Value} {nm_num q_num : Str} {N_num : Addr} {bs_num bm_num : List Value} {sn_num : List Str} {sub_num : List Value} {ab_num : Bool} {col_num : Option Bool} {dd_num : Option Addr} {k0_num k1_num k2_num k3_num k5_num : Option Value} {nm_lim q_lim : Str} {N_lim : Addr} {bs_lim bm_lim : List Value} {sn_lim : List Str} {sub_lim : List Value} {ab_lim : Bool} {col_lim : Option Bool} {dd_lim : Option Addr} {k0_lim k1_lim k2_lim k3_lim k5_lim : Option Value}
    (a_is_integer : PySem.W.nsIn K mainGlobals "is_integer" = some (some (.ref f_is_integer)))
    (a_is_name : PySem.W.nsIn K mainGlobals "is_name" = some (some (.ref f_is_name)))
    (a_has_kind : PySem.W.nsIn K mainGlobals "has_kind" = some (some (.ref f_has_kind)))
    (a_is_statement : PySem.W.nsIn K mainGlobals "is_statement" = some (some (.ref f_is_statement)))
    (a_judge : PySem.W.nsIn K mainGlobals "judge" = some (some (.ref f_judge)))
    (a_head_of : PySem.W.nsIn K mainGlobals "head_of" = some (some (.ref f_head_of)))
    (a_parts_of : PySem.W.nsIn K mainGlobals "parts_of" = some (some (.ref f_parts_of)))
    (a_spots_inside : PySem.W.nsIn K mainGlobals "spots_inside" = some (some (.ref f_spots_inside)))
    (a_cell_at : PySem.W.nsIn K mainGlobals "_law_cell_at" = some (some (.ref f_cell_at)))
    (a_source_of : PySem.W.nsIn K mainGlobals "_law_source_of" = some (some (.ref f_source_of)))
    (a_draw : PySem.W.nsIn K mainGlobals "_law_draw" = some (some (.ref f_draw)))
    (a_one : PySem.W.nsIn K mainGlobals "_law_one" = some (some (.ref f_one)))
    (a_leaf : PySem.W.nsIn K mainGlobals "_law_leaf" = some (some (.ref f_leaf)))
    (a_statement : PySem.W.nsIn K mainGlobals "_law_statement" = some (some (.ref f_statement)))
    (a_parts : PySem.W.nsIn K mainGlobals "_law_parts" = some (some (.ref f_parts)))
    (a_flat : PySem.W.nsIn K mainGlobals "_law_flat" = some (some (.ref f_flat)))
    (a_built : PySem.W.nsIn K mainGlobals "_law_built" = some (some (.ref f_built)))
    (a_loops : PySem.W.nsIn K mainGlobals "_law_loops" = some (some (.ref f_loops)))
    (a_odd_named : PySem.W.nsIn K mainGlobals "_law_odd_named" = some (some (.ref f_odd_named)))
    (a_odd : PySem.W.nsIn K mainGlobals "_law_odd" = some (some (.ref f_odd)))
    (a_said : PySem.W.nsIn K mainGlobals "_law_said" = some (some (.ref f_said)))
    (a_law : PySem.W.nsIn K mainGlobals "law" = some (some (.ref f_law)))
    (x_CopyError : PySem.W.nsIn K mainGlobals "CopyError" = some (some (.ref cCopyError)))
    (x_InvalidCode : PySem.W.nsIn K mainGlobals "InvalidCode" = some (some (.ref cInvalidCode)))
    (x_InvalidNumber : PySem.W.nsIn K mainGlobals "InvalidNumber" = some (some (.ref cInvalidNumber)))
    (x_LimitExceeded : PySem.W.nsIn K mainGlobals "LimitExceeded" = some (some (.ref cLimitExceeded)))
    (x_Code : PySem.W.nsIn K mainGlobals "Code" = some (some (.ref cCode)))
    (x_NAMED : PySem.W.nsIn K mainGlobals "NAMED" = some (some (.ref aNAMED)))
    (x_JUMPS : PySem.W.nsIn K mainGlobals "JUMPS" = some (some (.ref aJUMPS)))
    (x_PAIRS : PySem.W.nsIn K mainGlobals "PAIRS" = some (some (.ref aPAIRS)))
    (x_PLACELESS : PySem.W.nsIn K mainGlobals "PLACELESS" = some (some (.ref aPLACELESS)))
    (x_SIZES : PySem.W.nsIn K mainGlobals "SIZES" = some (some (.ref aSIZES)))
    (x_MOST_STATEMENTS : PySem.W.nsIn K mainGlobals "MOST_STATEMENTS" = some (some (.int 400 t_MOST_STATEMENTS)))
    (x_MOST_LEVELS : PySem.W.nsIn K mainGlobals "MOST_LEVELS" = some (some (.int 100 t_MOST_LEVELS)))
    (x_MOST_BLOCKS : PySem.W.nsIn K mainGlobals "MOST_BLOCKS" = some (some (.int 25 t_MOST_BLOCKS)))
    (x_LONGEST_NAME : PySem.W.nsIn K mainGlobals "LONGEST_NAME" = some (some (.int 8 t_LONGEST_NAME)))
    (z_len : PySem.W.nsIn K mainGlobals "len" = some none)
    (z_int : PySem.W.nsIn K mainGlobals "int" = some none)
    (z_bool : PySem.W.nsIn K mainGlobals "bool" = some none)
    (z_str : PySem.W.nsIn K mainGlobals "str" = some none)
    (z_tuple : PySem.W.nsIn K mainGlobals "tuple" = some none)
    (z_list : PySem.W.nsIn K mainGlobals "list" = some none)
    (z_all : PySem.W.nsIn K mainGlobals "all" = some none)
    (z_range : PySem.W.nsIn K mainGlobals "range" = some none)
    (z_reversed : PySem.W.nsIn K mainGlobals "reversed" = some none)
    (z_isinstance : PySem.W.nsIn K mainGlobals "isinstance" = some none)
    (z_enumerate : PySem.W.nsIn K mainGlobals "enumerate" = some none)
    (z_min : PySem.W.nsIn K mainGlobals "min" = some none)
    (z_max : PySem.W.nsIn K mainGlobals "max" = some none)
    (z_sorted : PySem.W.nsIn K mainGlobals "sorted" = some none)
    (z_sum : PySem.W.nsIn K mainGlobals "sum" = some none)
    (z_dict : PySem.W.nsIn K mainGlobals "dict" = some none)
    (z_zip : PySem.W.nsIn K mainGlobals "zip" = some none)
    (z_any : PySem.W.nsIn K mainGlobals "any" = some none)
    (z_repr : PySem.W.nsIn K mainGlobals "repr" = some none)
    (z_set : PySem.W.nsIn K mainGlobals "set" = some none)
    (m_bad : PySem.W.findIn K (.ref cInvalidCode) "__init__" = some (some (.ref f_bad)))
    (m_num : PySem.W.findIn K (.ref cInvalidNumber) "__init__" = some (some (.ref f_num)))
    (m_lim : PySem.W.findIn K (.ref cLimitExceeded) "__init__" = some (some (.ref f_lim)))
    (m_init : PySem.W.findIn K (.ref cCode) "__init__" = some (some (.ref f_init)))
    (u_init : PySem.W.isFn K (.ref f_init) = true)
    (v_init : PySem.W.keepIn K (.ref f_init) = true)
    (m_keep : PySem.W.findIn K (.ref cCode) "_keep" = some (some (.ref f_keep)))
    (u_keep : PySem.W.isFn K (.ref f_keep) = true)
    (v_keep : PySem.W.keepIn K (.ref f_keep) = true)
    (y_pg_Code : PySem.W.plainGet K cCode Str.empty = true)
    (y_hd_Code : PySem.W.hasDictIn K cCode = true)
    (y_po_Code : PySem.W.plainOver K cCode = true)
    (y_sa_Code : PySem.W.findIn K (.ref cCode) "__setattr__" = some (some (.builtin "object.__setattr__")))
    (y_mk_Code : PySem.W.makesIn K cCode = true)
    (y_kc_Code : PySem.W.keepIn K (.ref cCode) = true)
    (n_Code_statements : PySem.W.findIn K (.ref cCode) "_statements" = some none)
    (n_Code_heads : PySem.W.findIn K (.ref cCode) "_heads" = some none)
    (n_Code_parents : PySem.W.findIn K (.ref cCode) "_parents" = some none)
    (n_Code_parts : PySem.W.findIn K (.ref cCode) "_parts" = some none)
    (n_Code_siblings : PySem.W.findIn K (.ref cCode) "_siblings" = some none)
    (n_Code_layers : PySem.W.findIn K (.ref cCode) "_layers" = some none)
    (e0_bad : K.lookup cInvalidCode = some (excClassObj nm_bad q_bad cInvalidCode N_bad bs_bad bm_bad true sn_bad sub_bad ab_bad col_bad dd_bad k0_bad k1_bad k2_bad k3_bad k5_bad "ArithmeticError.__new__"))
    (e1_bad : arOver bm_bad = true)
    (e2_bad : PySem.W.findIn K (.ref cInvalidCode) "__setattr__" = some (some (.builtin "object.__setattr__")))
    (e3_bad : PySem.W.findIn K (.ref cInvalidCode) "__getattribute__" = some (some (.builtin "BaseException.__getattribute__")))
    (e4_bad : PySem.W.findIn K (.ref cInvalidCode) "__getattr__" = some none)
    (e5_bad : PySem.W.hasDictIn K cInvalidCode = true)
    (e6_bad : PySem.W.findIn K (.ref cInvalidCode) "number" = some none)
    (e7_bad : PySem.W.subIn K (.ref cInvalidCode) (.type "BaseException") = some true)
    (e8_bad : PySem.W.typeIn K (.ref cInvalidCode) = some (.type "type"))
    (e9_bad : PySem.W.keepIn K (.ref cInvalidCode) = true)
    (e10_bad : PySem.W.typeIn K (.ref f_bad) = some (.type "function"))
    (e0_num : K.lookup cInvalidNumber = some (excClassObj nm_num q_num cInvalidNumber N_num bs_num bm_num true sn_num sub_num ab_num col_num dd_num k0_num k1_num k2_num k3_num k5_num "ArithmeticError.__new__"))
    (e1_num : arOver bm_num = true)
    (e2_num : PySem.W.findIn K (.ref cInvalidNumber) "__setattr__" = some (some (.builtin "object.__setattr__")))
    (e3_num : PySem.W.findIn K (.ref cInvalidNumber) "__getattribute__" = some (some (.builtin "BaseException.__getattribute__")))
    (e4_num : PySem.W.findIn K (.ref cInvalidNumber) "__getattr__" = some none)
    (e5_num : PySem.W.hasDictIn K cInvalidNumber = true)
    (e6_num : PySem.W.findIn K (.ref cInvalidNumber) "number" = some none)
    (e7_num : PySem.W.subIn K (.ref cInvalidNumber) (.type "BaseException") = some true)
    (e8_num : PySem.W.typeIn K (.ref cInvalidNumber) = some (.type "type"))
    (e9_num : PySem.W.keepIn K (.ref cInvalidNumber) = true)
    (e10_num : PySem.W.typeIn K (.ref f_num) = some (.type "function"))
    (e0_lim : K.lookup cLimitExceeded = some (excClassObj nm_lim q_lim cLimitExceeded N_lim bs_lim bm_lim true sn_lim sub_lim ab_lim col_lim dd_lim k0_lim k1_lim k2_lim k3_lim k5_lim "ArithmeticError.__new__"))
    (e1_lim : arOver bm_lim = true)
    (e2_lim : PySem.W.findIn K (.ref cLimitExceeded) "__setattr__" = some (some (.builtin "object.__setattr__")))
    (e3_lim : PySem.W.findIn K (.ref cLimitExceeded) "__getattribute__" = some (some (.builtin "BaseException.__getattribute__")))
    (e4_lim : PySem.W.findIn K (.ref cLimitExceeded) "__getattr__" = some none)
    (e5_lim : PySem.W.hasDictIn K cLimitExceeded = true)
    (e6_lim : PySem.W.findIn K (.ref cLimitExceeded) "limit" = some none)
    (e7_lim : PySem.W.subIn K (.ref cLimitExceeded) (.type "BaseException") = some true)
    (e8_lim : PySem.W.typeIn K (.ref cLimitExceeded) = some (.type "type"))
    (e9_lim : PySem.W.keepIn K (.ref cLimitExceeded) = true)
    (e10_lim : PySem.W.typeIn K (.ref f_lim) = some (.type "function"))
    (e5_C : PySem.W.hasDictIn K cCopyError = true)
    (e7_C : PySem.W.subIn K (.ref cCopyError) (.type "BaseException") = some true)
    (e8_C : PySem.W.typeIn K (.ref cCopyError) = some (.type "type"))
    (s_InvalidCode_InvalidCode : PySem.W.subIn K (.ref cInvalidCode) (.ref cInvalidCode) = some true)
    (s_InvalidCode_InvalidNumber : PySem.W.subIn K (.ref cInvalidCode) (.ref cInvalidNumber) = some false)
    (s_InvalidCode_LimitExceeded : PySem.W.subIn K (.ref cInvalidCode) (.ref cLimitExceeded) = some false)
    (s_InvalidCode_CopyError : PySem.W.subIn K (.ref cInvalidCode) (.ref cCopyError) = some true)
    (s_InvalidNumber_InvalidCode : PySem.W.subIn K (.ref cInvalidNumber) (.ref cInvalidCode) = some false)
    (s_InvalidNumber_InvalidNumber : PySem.W.subIn K (.ref cInvalidNumber) (.ref cInvalidNumber) = some true)
    (s_InvalidNumber_LimitExceeded : PySem.W.subIn K (.ref cInvalidNumber) (.ref cLimitExceeded) = some false)
    (s_InvalidNumber_CopyError : PySem.W.subIn K (.ref cInvalidNumber) (.ref cCopyError) = some true)
    (s_LimitExceeded_InvalidCode : PySem.W.subIn K (.ref cLimitExceeded) (.ref cInvalidCode) = some false)
    (s_LimitExceeded_InvalidNumber : PySem.W.subIn K (.ref cLimitExceeded) (.ref cInvalidNumber) = some false)
    (s_LimitExceeded_LimitExceeded : PySem.W.subIn K (.ref cLimitExceeded) (.ref cLimitExceeded) = some true)
    (s_LimitExceeded_CopyError : PySem.W.subIn K (.ref cLimitExceeded) (.ref cCopyError) = some true)
    (w_SIZES : He.dicW K aSIZES = some (He.keysIn w.params (sizes.map (·.1))))
    (p_SIZES : prW K aSIZES = some (sizes.map some))
    (w_NAMED : tupW K aNAMED = some ((["do", "call", "if", "while"] : List Str).map some))
    (w_JUMPS : tupW K aJUMPS = some ((["break", "continue"] : List Str).map some))
    (w_PAIRS : tupW K aPAIRS = some ((["try", "final"] : List Str).map some))
    (w_PLACELESS : tupW K aPLACELESS = some ((["seq", "try"] : List Str).map some))
    (d_is_integer : DefF K "is_integer" "is_integer" s_is_integer f_is_integer)
    (d_is_name : DefF K "is_name" "is_name" s_is_name f_is_name)
    (d_has_kind : DefF K "has_kind" "has_kind" s_has_kind f_has_kind)
    (d_is_statement : DefF K "is_statement" "is_statement" s_is_statement f_is_statement)
    (d_judge : DefF K "judge" "judge" s_judge f_judge)
    (d_head_of : DefF K "head_of" "head_of" s_head_of f_head_of)
    (d_parts_of : DefF K "parts_of" "parts_of" s_parts_of f_parts_of)
    (d_spots_inside : DefF K "spots_inside" "spots_inside" s_spots_inside f_spots_inside)
    (d_cell_at : DefF K "_law_cell_at" "_law_cell_at" s_cell_at f_cell_at)
    (d_source_of : DefF K "_law_source_of" "_law_source_of" s_source_of f_source_of)
    (d_draw : DefF K "_law_draw" "_law_draw" s_draw f_draw)
    (d_one : DefF K "_law_one" "_law_one" s_one f_one)
    (d_leaf : DefF K "_law_leaf" "_law_leaf" s_leaf f_leaf)
    (d_statement : DefF K "_law_statement" "_law_statement" s_statement f_statement)
    (d_parts : DefF K "_law_parts" "_law_parts" s_parts f_parts)
    (d_flat : DefF K "_law_flat" "_law_flat" s_flat f_flat)
    (d_built : DefF K "_law_built" "_law_built" s_built f_built)
    (d_loops : DefF K "_law_loops" "_law_loops" s_loops f_loops)
    (d_odd_named : DefF K "_law_odd_named" "_law_odd_named" s_odd_named f_odd_named)
    (d_odd : DefF K "_law_odd" "_law_odd" s_odd f_odd)
    (d_said : DefF K "_law_said" "_law_said" s_said f_said)
    (d_law : DefF K "law" "law" s_law f_law)
    (d_bad : DefF K "__init__" "InvalidCode.__init__" s_bad f_bad)
    (d_num : DefF K "__init__" "InvalidNumber.__init__" s_num f_num)
    (d_lim : DefF K "__init__" "LimitExceeded.__init__" s_lim f_lim)
    (d_init : DefF K "__init__" "Code.__init__" s_init f_init)
    (d_keep : DefF K "_keep" "Code._keep" s_keep f_keep) :
    ∃ fd : FuncData, (∀ (s : Shared) (v : Value), BindsTo s fd ⟨[v], []⟩ [("_law_script", v)]) ∧ ∀ base : Heap, K.In base → base.Ns mainGlobals mg → FnOk l.prog w K mg base CX0 10 fa fd ["_law_script"] (spLaw K) := by
  have e := hfa.symm.trans (PySem.W.mg_of X G a_law)
  cases e
  obtain ⟨fd_is_integer, F_is_integer⟩ := d_is_integer.ex
  have b_is_integer := F_is_integer.binds (ps := ["value"]) fun _ _ _ _ _ _ us hl => match us, hl with | [_], _ => rfl
  obtain ⟨fd_is_name, F_is_name⟩ := d_is_name.ex
  have b_is_name := F_is_name.binds (ps := ["value"]) fun _ _ _ _ _ _ us hl => match us, hl with | [_], _ => rfl
  obtain ⟨fd_has_kind, F_has_kind⟩ := d_has_kind.ex
  have b_has_kind := F_has_kind.binds (ps := ["value"]) fun _ _ _ _ _ _ us hl => match us, hl with | [_], _ => rfl
  obtain ⟨fd_is_statement, F_is_statement⟩ := d_is_statement.ex
  have b_is_statement := F_is_statement.binds (ps := ["value", "whiles"]) fun _ _ _ _ _ _ us hl => match us, hl with | [_, _], _ => rfl
  obtain ⟨fd_judge, F_judge⟩ := d_judge.ex
  have b_judge := F_judge.binds (ps := ["spot", "number"]) fun _ _ _ _ _ _ us hl => match us, hl with | [_, _], _ => rfl
  obtain ⟨fd_head_of, F_head_of⟩ := d_head_of.ex
  have b_head_of := F_head_of.binds (ps := ["statement"]) fun _ _ _ _ _ _ us hl => match us, hl with | [_], _ => rfl
  obtain ⟨fd_parts_of, F_parts_of⟩ := d_parts_of.ex
  have b_parts_of := F_parts_of.binds (ps := ["statement"]) fun _ _ _ _ _ _ us hl => match us, hl with | [_], _ => rfl
  obtain ⟨fd_spots_inside, F_spots_inside⟩ := d_spots_inside.ex
  have b_spots_inside := F_spots_inside.binds (ps := ["spot", "number"]) fun _ _ _ _ _ _ us hl => match us, hl with | [_, _], _ => rfl
  obtain ⟨fd_cell_at, F_cell_at⟩ := d_cell_at.ex
  have b_cell_at := F_cell_at.binds (ps := ["_law_script", "_law_k"]) fun _ _ _ _ _ _ us hl => match us, hl with | [_, _], _ => rfl
  obtain ⟨fd_source_of, F_source_of⟩ := d_source_of.ex
  have b_source_of := F_source_of.binds (ps := ["_law_cell"]) fun _ _ _ _ _ _ us hl => match us, hl with | [_], _ => rfl
  obtain ⟨fd_draw, F_draw⟩ := d_draw.ex
  have b_draw := F_draw.binds (ps := ["_law_source", "_law_many"]) fun _ _ _ _ _ _ us hl => match us, hl with | [_, _], _ => rfl
  obtain ⟨fd_one, F_one⟩ := d_one.ex
  have b_one := F_one.binds (ps := ["_law_source", "_law_some"]) fun _ _ _ _ _ _ us hl => match us, hl with | [_, _], _ => rfl
  obtain ⟨fd_leaf, F_leaf⟩ := d_leaf.ex
  have b_leaf := F_leaf.binds (ps := ["_law_source", "_law_loops_here"]) fun _ _ _ _ _ _ us hl => match us, hl with | [_, _], _ => rfl
  obtain ⟨fd_statement, F_statement⟩ := d_statement.ex
  have b_statement := F_statement.binds (ps := ["_law_source", "_law_deep", "_law_loops_here"]) fun _ _ _ _ _ _ us hl => match us, hl with | [_, _, _], _ => rfl
  obtain ⟨fd_parts, F_parts⟩ := d_parts.ex
  have b_parts := F_parts.binds (ps := ["_law_value"]) fun _ _ _ _ _ _ us hl => match us, hl with | [_], _ => rfl
  obtain ⟨fd_flat, F_flat⟩ := d_flat.ex
  have b_flat := F_flat.binds (ps := ["_law_statement_here"]) fun _ _ _ _ _ _ us hl => match us, hl with | [_], _ => rfl
  obtain ⟨fd_built, F_built⟩ := d_built.ex
  have b_built := F_built.binds (ps := ["_law_rows", "_law_number", "_law_bad"]) fun _ _ _ _ _ _ us hl => match us, hl with | [_, _, _], _ => rfl
  obtain ⟨fd_loops, F_loops⟩ := d_loops.ex
  have b_loops := F_loops.binds (ps := ["_law_rows", "_law_number"]) fun _ _ _ _ _ _ us hl => match us, hl with | [_, _], _ => rfl
  obtain ⟨fd_odd_named, F_odd_named⟩ := d_odd_named.ex
  have b_odd_named := F_odd_named.binds (ps := ["_law_source"]) fun _ _ _ _ _ _ us hl => match us, hl with | [_], _ => rfl
  obtain ⟨fd_odd, F_odd⟩ := d_odd.ex
  have b_odd := F_odd.binds (ps := ["_law_source", "_law_loops_here"]) fun _ _ _ _ _ _ us hl => match us, hl with | [_, _], _ => rfl
  obtain ⟨fd_said, F_said⟩ := d_said.ex
  have b_said := F_said.binds (ps := ["_law_statement_here"]) fun _ _ _ _ _ _ us hl => match us, hl with | [_], _ => rfl
  obtain ⟨fd_law, F_law⟩ := d_law.ex
  obtain ⟨fd_bad, F_bad⟩ := d_bad.ex
  have b_bad := F_bad.binds (ps := ["self", "number"]) fun _ _ _ _ _ _ us hl => match us, hl with | [_, _], _ => rfl
  obtain ⟨fd_num, F_num⟩ := d_num.ex
  have b_num := F_num.binds (ps := ["self", "number"]) fun _ _ _ _ _ _ us hl => match us, hl with | [_, _], _ => rfl
  obtain ⟨fd_lim, F_lim⟩ := d_lim.ex
  have b_lim := F_lim.binds (ps := ["self", "limit"]) fun _ _ _ _ _ _ us hl => match us, hl with | [_, _], _ => rfl
  obtain ⟨fd_init, F_init⟩ := d_init.ex
  have b_init := F_init.binds (ps := ["self", "statement"]) fun _ _ _ _ _ _ us hl => match us, hl with | [_, _], _ => rfl
  obtain ⟨fd_keep, F_keep⟩ := d_keep.ex
  have b_keep := F_keep.binds (ps := ["self", "spot", "number"]) fun _ _ _ _ _ _ us hl => match us, hl with | [_, _, _], _ => rfl
  have ar_bad := arc_of e0_bad e1_bad e2_bad e3_bad e4_bad e5_bad e6_bad e7_bad e8_bad e9_bad m_bad e10_bad
  have ar_num := arc_of e0_num e1_num e2_num e3_num e4_num e5_num e6_num e7_num e8_num e9_num m_num e10_num
  have ar_lim := arc_of e0_lim e1_lim e2_lim e3_lim e4_lim e5_lim e6_lim e7_lim e8_lim e9_lim m_lim e10_lim
  have T : Txt K mg w ⟨aNAMED, aJUMPS, aPAIRS, aPLACELESS, aSIZES, cCopyError, cInvalidCode, cInvalidNumber, cLimitExceeded, cCode, f_bad, f_num, f_lim⟩ :=
    { n_len := PySem.W.mg_none_of X G z_len,
      n_int := PySem.W.mg_none_of X G z_int,
      n_bool := PySem.W.mg_none_of X G z_bool,
      n_str := PySem.W.mg_none_of X G z_str,
      n_tuple := PySem.W.mg_none_of X G z_tuple,
      n_list := PySem.W.mg_none_of X G z_list,
      n_all := PySem.W.mg_none_of X G z_all,
      n_range := PySem.W.mg_none_of X G z_range,
      n_reversed := PySem.W.mg_none_of X G z_reversed,
      n_isinstance := PySem.W.mg_none_of X G z_isinstance,
      n_enumerate := PySem.W.mg_none_of X G z_enumerate,
      n_min := PySem.W.mg_none_of X G z_min,
      n_max := PySem.W.mg_none_of X G z_max,
      n_sorted := PySem.W.mg_none_of X G z_sorted,
      n_sum := PySem.W.mg_none_of X G z_sum,
      n_dict := PySem.W.mg_none_of X G z_dict,
      n_zip := PySem.W.mg_none_of X G z_zip,
      n_any := PySem.W.mg_none_of X G z_any,
      n_repr := PySem.W.mg_none_of X G z_repr,
      n_set := PySem.W.mg_none_of X G z_set,
      g_MOST_STATEMENTS := ⟨_, PySem.W.mg_of X G x_MOST_STATEMENTS, _, rfl⟩,
      g_MOST_LEVELS := ⟨_, PySem.W.mg_of X G x_MOST_LEVELS, _, rfl⟩,
      g_MOST_BLOCKS := ⟨_, PySem.W.mg_of X G x_MOST_BLOCKS, _, rfl⟩,
      g_LONGEST_NAME := ⟨_, PySem.W.mg_of X G x_LONGEST_NAME, _, rfl⟩,
      g_NAMED := ⟨_, PySem.W.mg_of X G x_NAMED, rfl⟩,
      g_JUMPS := ⟨_, PySem.W.mg_of X G x_JUMPS, rfl⟩,
      g_PAIRS := ⟨_, PySem.W.mg_of X G x_PAIRS, rfl⟩,
      g_PLACELESS := ⟨_, PySem.W.mg_of X G x_PLACELESS, rfl⟩,
      g_SIZES := ⟨_, PySem.W.mg_of X G x_SIZES, rfl⟩,
      g_CopyError := PySem.W.mg_of X G x_CopyError,
      g_InvalidCode := PySem.W.mg_of X G x_InvalidCode,
      g_InvalidNumber := PySem.W.mg_of X G x_InvalidNumber,
      g_LimitExceeded := PySem.W.mg_of X G x_LimitExceeded,
      g_Code := PySem.W.mg_of X G x_Code,
      ar_InvalidCode := ar_bad,
      ar_InvalidNumber := ar_num,
      ar_LimitExceeded := ar_lim,
      x_InvalidCode_InvalidCode := PySem.W.exm_ref e7_bad e5_bad e8_bad s_InvalidCode_InvalidCode,
      x_InvalidCode_InvalidNumber := PySem.W.exm_ref e7_num e5_num e8_num s_InvalidCode_InvalidNumber,
      x_InvalidCode_LimitExceeded := PySem.W.exm_ref e7_lim e5_lim e8_lim s_InvalidCode_LimitExceeded,
      x_InvalidCode_CopyError := PySem.W.exm_ref e7_C e5_C e8_C s_InvalidCode_CopyError,
      x_InvalidNumber_InvalidCode := PySem.W.exm_ref e7_bad e5_bad e8_bad s_InvalidNumber_InvalidCode,
      x_InvalidNumber_InvalidNumber := PySem.W.exm_ref e7_num e5_num e8_num s_InvalidNumber_InvalidNumber,
      x_InvalidNumber_LimitExceeded := PySem.W.exm_ref e7_lim e5_lim e8_lim s_InvalidNumber_LimitExceeded,
      x_InvalidNumber_CopyError := PySem.W.exm_ref e7_C e5_C e8_C s_InvalidNumber_CopyError,
      x_LimitExceeded_InvalidCode := PySem.W.exm_ref e7_bad e5_bad e8_bad s_LimitExceeded_InvalidCode,
      x_LimitExceeded_InvalidNumber := PySem.W.exm_ref e7_num e5_num e8_num s_LimitExceeded_InvalidNumber,
      x_LimitExceeded_LimitExceeded := PySem.W.exm_ref e7_lim e5_lim e8_lim s_LimitExceeded_LimitExceeded,
      x_LimitExceeded_CopyError := PySem.W.exm_ref e7_C e5_C e8_C s_LimitExceeded_CopyError,
      cl_Code := ⟨y_pg_Code, y_hd_Code, y_po_Code, y_sa_Code⟩,
      a_Code_statements := n_Code_statements,
      a_Code_heads := n_Code_heads,
      a_Code_parents := n_Code_parents,
      a_Code_parts := n_Code_parts,
      a_Code_siblings := n_Code_siblings,
      a_Code_layers := n_Code_layers,
      kd := He.dicW_ok w_SIZES,
      szs := szs_of p_SIZES,
      t_NAMED := tup_of w_NAMED,
      t_JUMPS := tup_of w_JUMPS,
      t_PAIRS := tup_of w_PAIRS,
      t_PLACELESS := tup_of w_PLACELESS }
  refine ⟨fd_law, fun s v => ?_, fun base _ _ => ?_⟩
  · obtain ⟨oc, od, kV, doc, pm, an, cdv, ct, osl, rfl, _⟩ := F_law.ex
    exact .of_eq rfl
  have c_is_integer : Cal l.prog w K mg base 1 "is_integer" (spIsInt K) [] := ⟨_, _, _, _, ok_is_integer F_is_integer T, PySem.W.mg_of X G a_is_integer, F_is_integer.kp, b_is_integer, .nil⟩
  have c_is_name : Cal l.prog w K mg base 1 "is_name" (spIsName K) [] := ⟨_, _, _, _, ok_is_name F_is_name T, PySem.W.mg_of X G a_is_name, F_is_name.kp, b_is_name, .nil⟩
  have c_has_kind : Cal l.prog w K mg base 1 "has_kind" (spHasKind K) [] := ⟨_, _, _, _, ok_has_kind F_has_kind T, PySem.W.mg_of X G a_has_kind, F_has_kind.kp, b_has_kind, .nil⟩
  have c_is_statement : Cal l.prog w K mg base 2 "is_statement" (spIsStmt K) [] := ⟨_, _, _, _, ok_is_statement F_is_statement T c_has_kind c_is_name c_is_integer, PySem.W.mg_of X G a_is_statement, F_is_statement.kp, b_is_statement, .nil⟩
  have cB : ExcOk l.prog w K mg base 1 "InvalidCode" cInvalidCode "number" := ⟨_, _, _, T.ar_InvalidCode, ok_bad F_bad T, b_bad, T.g_InvalidCode⟩
  have cL : ExcOk l.prog w K mg base 1 "LimitExceeded" cLimitExceeded "limit" := ⟨_, _, _, T.ar_LimitExceeded, ok_lim F_lim T, b_lim, T.g_LimitExceeded⟩
  have c_judge : CalX l.prog w K mg base 3 "judge" (spJudge K _) := ⟨_, _, _, ok_judge F_judge T c_is_statement cL cB, PySem.W.mg_of X G a_judge, F_judge.kp, b_judge⟩
  have c_parts_of : Cal l.prog w K mg base 1 "parts_of" (spParts K) [] := ⟨_, _, _, _, ok_parts_of F_parts_of T, PySem.W.mg_of X G a_parts_of, F_parts_of.kp, b_parts_of, .nil⟩
  have c_head_of : Cal l.prog w K mg base 1 "head_of" (spHead K) [] := ⟨_, _, _, _, ok_head_of F_head_of T, PySem.W.mg_of X G a_head_of, F_head_of.kp, b_head_of, .nil⟩
  have c_spots_inside : Cal l.prog w K mg base 2 "spots_inside" (spInside K) [] := ⟨_, _, _, _, ok_spots_inside F_spots_inside T c_parts_of, PySem.W.mg_of X G a_spots_inside, F_spots_inside.kp, b_spots_inside, .nil⟩
  have c_keep : Met l.prog w K mg base 2 cCode "_keep" (spKeep K _) [] := ⟨_, _, _, _, T.cl_Code, ⟨m_keep, u_keep, v_keep⟩, ok_keep F_keep T c_head_of, b_keep, .nil⟩
  have c_Code : MakX l.prog w K mg base 4 "Code" cCode (spInit K _) := ⟨_, _, _, ⟨y_mk_Code, m_init, u_init, y_kc_Code⟩, ok_init F_init T c_judge c_keep c_spots_inside, PySem.W.mg_of X G x_Code, b_init⟩
  have c_said : Cal l.prog w K mg base 6 "_law_said" (spSaid K) [] := ⟨_, _, _, _, ok_said F_said T c_Code, PySem.W.mg_of X G a_said, F_said.kp, b_said, .nil⟩
  have c_draw : Cal l.prog w K mg base 1 "_law_draw" spDraw [] := ⟨_, _, _, _, ok_draw F_draw T, PySem.W.mg_of X G a_draw, F_draw.kp, b_draw, .nil⟩
  have c_one : Cal l.prog w K mg base 2 "_law_one" (spOne K) [] := ⟨_, _, _, _, ok_one F_one T c_draw, PySem.W.mg_of X G a_one, F_one.kp, b_one, .nil⟩
  have c_leaf : Cal l.prog w K mg base 3 "_law_leaf" (spLeaf K) [] := ⟨_, _, _, _, ok_leaf F_leaf T c_draw c_one, PySem.W.mg_of X G a_leaf, F_leaf.kp, b_leaf, .nil⟩
  have ok_s := ok_sts F_statement (PySem.W.mg_of X G a_statement) b_statement T c_draw c_one c_leaf
  have c_statement : Cal l.prog w K mg base 9 "_law_statement" (spSt4 K) [] := ⟨_, _, _, _, ok_st4 ok_s, PySem.W.mg_of X G a_statement, F_statement.kp, b_statement, .nil⟩
  have c_parts : Cal l.prog w K mg base 1 "_law_parts" (spPartsL K) [] := ⟨_, _, _, _, ok_parts F_parts T, PySem.W.mg_of X G a_parts, F_parts.kp, b_parts, .nil⟩
  have c_flat : Cal l.prog w K mg base 2 "_law_flat" (spFlat K) [] := ⟨_, _, _, _, ok_flat F_flat T c_parts, PySem.W.mg_of X G a_flat, F_flat.kp, b_flat, .nil⟩
  have c_built : Cal l.prog w K mg base 6 "_law_built" (spBuilt K 5) [] := ⟨_, _, _, _, ok_bus F_built (PySem.W.mg_of X G a_built) b_built T 5, PySem.W.mg_of X G a_built, F_built.kp, b_built, .nil⟩
  have c_loops : Cal l.prog w K mg base 1 "_law_loops" (spLoops K) [] := ⟨_, _, _, _, ok_loops F_loops T, PySem.W.mg_of X G a_loops, F_loops.kp, b_loops, .nil⟩
  have c_odd_named : Cal l.prog w K mg base 3 "_law_odd_named" (spOddN K) [] := ⟨_, _, _, _, ok_odd_named F_odd_named T c_one, PySem.W.mg_of X G a_odd_named, F_odd_named.kp, b_odd_named, .nil⟩
  have c_odd : Cal l.prog w K mg base 4 "_law_odd" (spOdd K) [] := ⟨_, _, _, _, ok_odd F_odd T c_draw c_one c_odd_named, PySem.W.mg_of X G a_odd, F_odd.kp, b_odd, .nil⟩
  have c_cell_at : Cal l.prog w K mg base 1 "_law_cell_at" (spCellAt K) [] := ⟨_, _, _, _, ok_cell_at F_cell_at T, PySem.W.mg_of X G a_cell_at, F_cell_at.kp, b_cell_at, .nil⟩
  have c_source_of : Cal l.prog w K mg base 1 "_law_source_of" spSourceOf [] := ⟨_, _, _, _, ok_source_of F_source_of T, PySem.W.mg_of X G a_source_of, F_source_of.kp, b_source_of, .nil⟩
  exact ok_law F_law T c_cell_at c_source_of c_draw c_one c_statement c_flat c_built c_loops c_odd c_said
theorem walk {l : PySem.W.OpenLaw} {q : Program} {loose : List Str} {XP : (Str → Option Value) → Heap → Prop} {YP : World → Heap → Prop} {d : DefRec} {K : Params → PySem.W.Frag} (hn : l.most = some 63) (hdf : d.params.defaults = [])
    (hY : ∀ (w : World) (h : Heap), YP w h → (K w.params).In h)
    (F : ∀ (w : World) (mg : Str → Option Value) (fa : Addr) (h : Heap), (K w.params).In h → h.Ns mainGlobals mg → mg d.name = some (.ref fa) →
      ∃ fd : FuncData, (∀ (s : Shared) (u : Value), BindsTo s fd ⟨[u], []⟩ [("_law_script", u)]) ∧ ∀ base : Heap, (K w.params).In base → base.Ns mainGlobals mg → FnOk l.prog w (K w.params) mg base CX0 10 fa fd ["_law_script"] (spLaw (K w.params))) :
    PySem.W.WalkO q loose XP YP l.row.toRowW d [] (fun f vs => PySem.call f vs) :=
  L2.walk_of (n := 63) (k := 10) (x := "_law_script") (CX := fun _ => CX0) (sp := fun w => spLaw (K w.params)) hn (by decide) hdf ⟨rfl, by decide, by decide⟩ hY F (fun _ _ a ns hl _ hS => ⟨a, ns, rfl, hS, fun _ => rfl⟩) fun _ _ _ _ _ z => z
end N3
end L2
set_option Elab.async false
set_option linter.all false
open PySem PySem.W PyProof.Rows in
set_option maxRecDepth 100000 in
set_option maxHeartbeats 0 in
theorem PySem.Challenge.cw_finallycopies_k03_invalid_statements_holds : PySem.Challenge.rw_finallycopies_k03_invalid_statements.Holds := by
  w_on; o_law; k_head; (case hw => w_witness2)
  k_fill
  refine L2.N3.walk (l := PySem.Challenge.rw_finallycopies_k03_invalid_statements) rfl rfl (fun w h Y => PySem.W.kIn_of Y) ?F
  case F =>
    intro w mg fa h KX G hmg
    refine' L2.N3.all_mk KX G hmg ?a_is_integer ?a_is_name ?a_has_kind ?a_is_statement ?a_judge ?a_head_of ?a_parts_of ?a_spots_inside ?a_cell_at ?a_source_of ?a_draw ?a_one ?a_leaf ?a_statement ?a_parts ?a_flat ?a_built ?a_loops ?a_odd_named ?a_odd ?a_said ?a_law ?x_CopyError ?x_InvalidCode ?x_InvalidNumber ?x_LimitExceeded ?x_Code ?x_NAMED ?x_JUMPS ?x_PAIRS ?x_PLACELESS ?x_SIZES ?x_MOST_STATEMENTS ?x_MOST_LEVELS ?x_MOST_BLOCKS ?x_LONGEST_NAME ?z_len ?z_int ?z_bool ?z_str ?z_tuple ?z_list ?z_all ?z_range ?z_reversed ?z_isinstance ?z_enumerate ?z_min ?z_max ?z_sorted ?z_sum ?z_dict ?z_zip ?z_any ?z_repr ?z_set ?m_bad ?m_num ?m_lim ?m_init ?u_init ?v_init ?m_keep ?u_keep ?v_keep ?y_pg_Code ?y_hd_Code ?y_po_Code ?y_sa_Code ?y_mk_Code ?y_kc_Code ?n_Code_statements ?n_Code_heads ?n_Code_parents ?n_Code_parts ?n_Code_siblings ?n_Code_layers ?e0_bad ?e1_bad ?e2_bad ?e3_bad ?e4_bad ?e5_bad ?e6_bad ?e7_bad ?e8_bad ?e9_bad ?e10_bad ?e0_num ?e1_num ?e2_num ?e3_num ?e4_num ?e5_num ?e6_num ?e7_num ?e8_num ?e9_num ?e10_num ?e0_lim ?e1_lim ?e2_lim ?e3_lim ?e4_lim ?e5_lim ?e6_lim ?e7_lim ?e8_lim ?e9_lim ?e10_lim ?e5_C ?e7_C ?e8_C ?s_InvalidCode_InvalidCode ?s_InvalidCode_InvalidNumber ?s_InvalidCode_LimitExceeded ?s_InvalidCode_CopyError ?s_InvalidNumber_InvalidCode ?s_InvalidNumber_InvalidNumber ?s_InvalidNumber_LimitExceeded ?s_InvalidNumber_CopyError ?s_LimitExceeded_InvalidCode ?s_LimitExceeded_InvalidNumber ?s_LimitExceeded_LimitExceeded ?s_LimitExceeded_CopyError ?w_SIZES ?p_SIZES ?w_NAMED ?w_JUMPS ?w_PAIRS ?w_PLACELESS ?d_is_integer ?d_is_name ?d_has_kind ?d_is_statement ?d_judge ?d_head_of ?d_parts_of ?d_spots_inside ?d_cell_at ?d_source_of ?d_draw ?d_one ?d_leaf ?d_statement ?d_parts ?d_flat ?d_built ?d_loops ?d_odd_named ?d_odd ?d_said ?d_law ?d_bad ?d_num ?d_lim ?d_init ?d_keep
    (case a_is_integer => k_is)
    (case a_is_name => k_is)
    (case a_has_kind => k_is)
    (case a_is_statement => k_is)
    (case a_judge => k_is)
    (case a_head_of => k_is)
    (case a_parts_of => k_is)
    (case a_spots_inside => k_is)
    (case a_cell_at => k_is)
    (case a_source_of => k_is)
    (case a_draw => k_is)
    (case a_one => k_is)
    (case a_leaf => k_is)
    (case a_statement => k_is)
    (case a_parts => k_is)
    (case a_flat => k_is)
    (case a_built => k_is)
    (case a_loops => k_is)
    (case a_odd_named => k_is)
    (case a_odd => k_is)
    (case a_said => k_is)
    (case a_law => k_is)
    (case x_CopyError => k_is)
    (case x_InvalidCode => k_is)
    (case x_InvalidNumber => k_is)
    (case x_LimitExceeded => k_is)
    (case x_Code => k_is)
    (case x_NAMED => k_is)
    (case x_JUMPS => k_is)
    (case x_PAIRS => k_is)
    (case x_PLACELESS => k_is)
    (case x_SIZES => k_is)
    (case x_MOST_STATEMENTS => k_is)
    (case x_MOST_LEVELS => k_is)
    (case x_MOST_BLOCKS => k_is)
    (case x_LONGEST_NAME => k_is)
    (case z_len => k_is)
    (case z_int => k_is)
    (case z_bool => k_is)
    (case z_str => k_is)
    (case z_tuple => k_is)
    (case z_list => k_is)
    (case z_all => k_is)
    (case z_range => k_is)
    (case z_reversed => k_is)
    (case z_isinstance => k_is)
    (case z_enumerate => k_is)
    (case z_min => k_is)
    (case z_max => k_is)
    (case z_sorted => k_is)
    (case z_sum => k_is)
    (case z_dict => k_is)
    (case z_zip => k_is)
    (case z_any => k_is)
    (case z_repr => k_is)
    (case z_set => k_is)
    (case m_bad => k_is)
    (case m_num => k_is)
    (case m_lim => k_is)
    (case m_init => k_is)
    (case u_init => k_is)
    (case v_init => k_is)
    (case m_keep => k_is)
    (case u_keep => k_is)
    (case v_keep => k_is)
    (case y_pg_Code => k_is)
    (case y_hd_Code => k_is)
    (case y_po_Code => k_is)
    (case y_sa_Code => k_is)
    (case y_mk_Code => k_is)
    (case y_kc_Code => k_is)
    (case n_Code_statements => k_is)
    (case n_Code_heads => k_is)
    (case n_Code_parents => k_is)
    (case n_Code_parts => k_is)
    (case n_Code_siblings => k_is)
    (case n_Code_layers => k_is)
    (case e0_bad => k_is)
    (case e1_bad => decide +kernel)
    (case e2_bad => k_is)
    (case e3_bad => k_is)
    (case e4_bad => k_is)
    (case e5_bad => k_is)
    (case e6_bad => k_is)
    (case e7_bad => k_is)
    (case e8_bad => k_is)
    (case e9_bad => k_is)
    (case e10_bad => k_is)
    (case e0_num => k_is)
    (case e1_num => decide +kernel)
    (case e2_num => k_is)
    (case e3_num => k_is)
    (case e4_num => k_is)
    (case e5_num => k_is)
    (case e6_num => k_is)
    (case e7_num => k_is)
    (case e8_num => k_is)
    (case e9_num => k_is)
    (case e10_num => k_is)
    (case e0_lim => k_is)
    (case e1_lim => decide +kernel)
    (case e2_lim => k_is)
    (case e3_lim => k_is)
    (case e4_lim => k_is)
    (case e5_lim => k_is)
    (case e6_lim => k_is)
    (case e7_lim => k_is)
    (case e8_lim => k_is)
    (case e9_lim => k_is)
    (case e10_lim => k_is)
    (case e5_C => k_is)
    (case e7_C => k_is)
    (case e8_C => k_is)
    (case s_InvalidCode_InvalidCode => k_is)
    (case s_InvalidCode_InvalidNumber => k_is)
    (case s_InvalidCode_LimitExceeded => k_is)
    (case s_InvalidCode_CopyError => k_is)
    (case s_InvalidNumber_InvalidCode => k_is)
    (case s_InvalidNumber_InvalidNumber => k_is)
    (case s_InvalidNumber_LimitExceeded => k_is)
    (case s_InvalidNumber_CopyError => k_is)
    (case s_LimitExceeded_InvalidCode => k_is)
    (case s_LimitExceeded_InvalidNumber => k_is)
    (case s_LimitExceeded_LimitExceeded => k_is)
    (case s_LimitExceeded_CopyError => k_is)
    (case w_SIZES => kernel_rfl)
    (case p_SIZES => kernel_rfl)
    (case w_NAMED => kernel_rfl)
    (case w_JUMPS => kernel_rfl)
    (case w_PAIRS => kernel_rfl)
    (case w_PLACELESS => kernel_rfl)
    (case d_is_integer => refine' L2.Fc.DefF.of ?l ?c ?k; (case l => k_is); (case c => k_is); (case k => k_is))
    (case d_is_name => refine' L2.Fc.DefF.of ?l ?c ?k; (case l => k_is); (case c => k_is); (case k => k_is))
    (case d_has_kind => refine' L2.Fc.DefF.of ?l ?c ?k; (case l => k_is); (case c => k_is); (case k => k_is))
    (case d_is_statement => refine' L2.Fc.DefF.of ?l ?c ?k; (case l => k_is); (case c => k_is); (case k => k_is))
    (case d_judge => refine' L2.Fc.DefF.of ?l ?c ?k; (case l => k_is); (case c => k_is); (case k => k_is))
    (case d_head_of => refine' L2.Fc.DefF.of ?l ?c ?k; (case l => k_is); (case c => k_is); (case k => k_is))
    (case d_parts_of => refine' L2.Fc.DefF.of ?l ?c ?k; (case l => k_is); (case c => k_is); (case k => k_is))
    (case d_spots_inside => refine' L2.Fc.DefF.of ?l ?c ?k; (case l => k_is); (case c => k_is); (case k => k_is))
    (case d_cell_at => refine' L2.Fc.DefF.of ?l ?c ?k; (case l => k_is); (case c => k_is); (case k => k_is))
    (case d_source_of => refine' L2.Fc.DefF.of ?l ?c ?k; (case l => k_is); (case c => k_is); (case k => k_is))
    (case d_draw => refine' L2.Fc.DefF.of ?l ?c ?k; (case l => k_is); (case c => k_is); (case k => k_is))
    (case d_one => refine' L2.Fc.DefF.of ?l ?c ?k; (case l => k_is); (case c => k_is); (case k => k_is))
    (case d_leaf => refine' L2.Fc.DefF.of ?l ?c ?k; (case l => k_is); (case c => k_is); (case k => k_is))
    (case d_statement => refine' L2.Fc.DefF.of ?l ?c ?k; (case l => k_is); (case c => k_is); (case k => k_is))
    (case d_parts => refine' L2.Fc.DefF.of ?l ?c ?k; (case l => k_is); (case c => k_is); (case k => k_is))
    (case d_flat => refine' L2.Fc.DefF.of ?l ?c ?k; (case l => k_is); (case c => k_is); (case k => k_is))
    (case d_built => refine' L2.Fc.DefF.of ?l ?c ?k; (case l => k_is); (case c => k_is); (case k => k_is))
    (case d_loops => refine' L2.Fc.DefF.of ?l ?c ?k; (case l => k_is); (case c => k_is); (case k => k_is))
    (case d_odd_named => refine' L2.Fc.DefF.of ?l ?c ?k; (case l => k_is); (case c => k_is); (case k => k_is))
    (case d_odd => refine' L2.Fc.DefF.of ?l ?c ?k; (case l => k_is); (case c => k_is); (case k => k_is))
    (case d_said => refine' L2.Fc.DefF.of ?l ?c ?k; (case l => k_is); (case c => k_is); (case k => k_is))
    (case d_law => refine' L2.Fc.DefF.of ?l ?c ?k; (case l => k_is); (case c => k_is); (case k => k_is))
    (case d_bad => refine' L2.Fc.DefF.of ?l ?c ?k; (case l => k_is); (case c => k_is); (case k => k_is))
    (case d_num => refine' L2.Fc.DefF.of ?l ?c ?k; (case l => k_is); (case c => k_is); (case k => k_is))
    (case d_lim => refine' L2.Fc.DefF.of ?l ?c ?k; (case l => k_is); (case c => k_is); (case k => k_is))
    (case d_init => refine' L2.Fc.DefF.of ?l ?c ?k; (case l => k_is); (case c => k_is); (case k => k_is))
    (case d_keep => refine' L2.Fc.DefF.of ?l ?c ?k; (case l => k_is); (case c => k_is); (case k => k_is))
#print axioms PySem.Challenge.cw_finallycopies_k03_invalid_statements_holds
