import PyProof.Rows.All
import Wide.All
import OpenK.AllK
import Wide.FinOn
import HandS.ForMost
import HandS.ForExc
import HandS.ExcInit
import HandS.ExcField
import HandS.TryMany
import KE.KExcInit
import HandS.Codes
import HandS.IsInst
import HandS.Style
import HandS.ExcIs
import HandS.More
import HandS.Iter
import HandS.HeadHook3
import PySem.Challenge.RW_finallycopies_k04_limits_of_code
set_option Elab.async false
set_option linter.all false
set_option maxRecDepth 100000
set_option maxHeartbeats 4000000
/-! Exceptions of the program: direct or indirect subclasses of ArithmeticError, with an own __init__ that stores one field. -/
namespace L2
namespace Fc
open PySem PySem.Spec PyProof.Rows Builtin Builtin.ObjectAttr
open PySem.W (Frag findIn subIn typeIn keepIn hasDictIn clsIn)

/-! ### classes over ArithmeticError -/
abbrev arTail : List Value := [.type "ArithmeticError", .type "Exception", .type "BaseException", .type "object"]
def arOver : List Value → Bool
  | .ref _ :: more => arOver more
  | rest => rest == arTail
theorem arOver_split : ∀ l : List Value, arOver l = true → (∃ (c : Addr) (r : List Value), l = Value.ref c :: r ∧ arOver r = true) ∨ l = arTail := by
  intro l e
  match l, e with
  | [], e => exact Or.inr (beq_iff_eq.mp e)
  | x :: r, e =>
    cases x
    case ref c => exact Or.inl ⟨c, r, rfl, e⟩
    all_goals exact Or.inr (beq_iff_eq.mp e)
theorem arOver_pass (v : Value) : ∀ l : List Value, arOver l = true → PySem.refuseLoop v "__setattr__" l = pure () := by
  intro l
  induction l with
  | nil => intro e; exact absurd e (by decide)
  | cons a r ih =>
    intro e
    rcases arOver_split (a :: r) e with ⟨c, r', q, h'⟩ | q
    · obtain ⟨q1, q2⟩ := List.cons.inj q
      rw [q1, refuseLoop_ref]
      exact ih (q2 ▸ h')
    · rw [q]
      exact F.store_ArithmeticError.passes v
theorem arOver_has (T : String) : ∀ l : List Value, arOver l = true → l.contains (.type T) = arTail.contains (.type T) := by
  intro l
  induction l with
  | nil => intro e; exact absurd e (by decide)
  | cons a r ih =>
    intro e
    rcases arOver_split (a :: r) e with ⟨c, r', q, h'⟩ | q
    · obtain ⟨q1, q2⟩ := List.cons.inj q
      rw [q1, List.contains_cons, ih (q2 ▸ h')]
      rfl
    · rw [q]
theorem arOver_some {l : List Value} (e : arOver l = true) : l.isEmpty = false := by
  match l, e with
  | [], e => exact absurd e (by decide)
  | _ :: _, _ => rfl

open PySem.HandSPX in
/-- the first field of an exception that has no dict -/
theorem ar_store {prog : Program} {w : World} {A : Around} {R : Result → Shared → Prop} {hp : Heap} {g : Array GenState} {d : Drawn} {t : Nat} {os : OsState} {K : Frag} {name : Str} {tk : Tok} {v : Value} {x C : Addr} {fv : Array Value} {cd : ClassData}
    (KI : K.In hp) (hx : hp.get? x = some { cls := .ref C, data := .fields fv }) (hcd : clsIn K C = some cd) (hm : arOver cd.mro = true) (hh : cd.hasDict = true) (ha : findIn K (.ref C) name = some none)
    (hq : ∀ (h' : Heap) (tk' : Nat) (dx : Addr), (∀ b o, b ≠ x → hp.get? b = some o → h'.get? b = some o) → hp.objs.size ≤ dx → dx ≠ x → h'.get? x = some { cls := .ref C, dict := some dx, data := .fields fv } →
      h'.Ns1 dx (fun y => if y = name then some v else none) → R (.ok (.ret .none)) ⟨h', g, d, tk', os⟩) :
    codeAny (model prog w) A (.call (.builtin "object.__setattr__") ⟨[.ref x, .str name tk, v], []⟩) R ⟨hp, g, d, t, os⟩ := by
  have inst : W.InstAt hp x { cls := .ref C, data := .fields fv } C none := ⟨hx, rfl, rfl, trivial⟩
  have SF := F.store_object
  have nem := arOver_some hm
  have hasO : cd.mro.contains (.type "object") = true := (arOver_has "object" _ hm).trans (by decide +kernel)
  have far : x ≠ hp.objs.size := Nat.ne_of_lt (Heap.lt_size hx)
  have isO : W.Looks (model prog w) hp (isInstance (.ref x) (.type "object")) true := by
    refine inst.type.andThen (W.looks_mroIn KI ?_)
    unfold W.mroIn
    rw [hcd, Option.bind_some, if_neg (by rw [nem]; decide), hasO]
  refine codeAny_call_builtin SF.slot.plain SF.entry ?_
  refine @W.check_slot (model prog w) _ _ ⟨hp, g, d, t, os⟩ "object.__setattr__" "object" "__setattr__" (.ref x) [.str name tk, v] [] _ SF.kind SF.split isO (SF.args (.ref x) (.str name tk) v) ?_
  have lm : W.Looks (model prog w) hp (mroOf (.ref C)) cd.mro := (W.looks_clsIn KI hcd).andThen .now
  have lt : W.Looks (model prog w) hp (storeTaker? none) none := .now
  have lc : W.Looks (model prog w) hp (classData C) cd := W.looks_clsIn KI hcd
  rw [W.osa_eq, refuse_eq]
  refine wpAny_bind (wpAny_bind (inst.type.at (wpAny_bind (lm.at ?_))))
  rw [arOver_pass _ _ hm]
  refine wpAny_pure (wpAny_bind (inst.type.at (wpAny_bind ((W.looks_findIn KI ha).at (wpAny_bind (lt.at ?_))))))
  show wpAny _ _ (storeInOwnDict (.ref x) (.ref C) (.str name tk) name v false) _ _ _
  obtain ⟨nm, bs, mro, ns, qn, hd, sn, sb, ab, col, del⟩ := cd
  dsimp only at hh
  subst hh
  unfold storeInOwnDict ownDictForStores
  repeat (first | with_reducible refine store_in_new ?_ ?_ | with_reducible refine wpAny_loadPart_at hx ?_ | with_reducible refine lc.at ?_ | wp_step)
  · refine ⟨_, #[], _, (Heap.get?_update_ne _ _ _ _ far.symm).trans (Heap.get?_push_at rfl rfl), rfl, ?_, fun _ => rfl⟩
    intro e he
    exact absurd he (by simp)
  · intro h' tk' hn' hs
    have hx1 : (hp.push { cls := .type "dict", data := .dict #[] }).get? x = some { cls := .ref C, data := .fields fv } := Heap.get?_push_of_some _ hx
    refine hq h' tk' hp.objs.size ?_ (Nat.le_refl _) far.symm ?_ hn'
    · intro b o hb ho
      refine (hs.2 b (Nat.ne_of_lt (Heap.lt_size ho))).trans ?_
      exact (Heap.get?_update_ne _ _ _ _ hb).trans (Heap.get?_push_of_some _ ho)
    · exact (hs.2 x far).trans (Heap.get?_update_self _ hx1 rfl)

/-- what the written part says of an exception class C whose one field is f and whose __init__ is at fI -/
structure ArC (K : Frag) (C fI : Addr) (f : Str) : Prop where
  cls : ∃ nm q N bs bm sn sub ab col dd k0 k1 k2 k3 k5, K.lookup C = some (excClassObj nm q C N bs bm true sn sub ab col dd k0 k1 k2 k3 k5 "ArithmeticError.__new__") ∧ arOver bm = true
  sa : findIn K (.ref C) "__setattr__" = some (some (.builtin "object.__setattr__"))
  ga : findIn K (.ref C) "__getattribute__" = some (some (.builtin "BaseException.__getattribute__"))
  gg : findIn K (.ref C) "__getattr__" = some none
  hd : hasDictIn K C = true
  nf : findIn K (.ref C) f = some none
  exC : subIn K (.ref C) (.type "BaseException") = some true
  tyC : typeIn K (.ref C) = some (.type "type")
  kC : keepIn K (.ref C) = true
  iC : findIn K (.ref C) "__init__" = some (some (.ref fI))
  tI : typeIn K (.ref fI) = some (.type "function")
theorem ArC.xf {K : Frag} {C fI : Addr} {f : Str} (T : ArC K C fI f) : XfC K C := ⟨T.ga, T.gg, T.exC, T.hd⟩

section
variable {X : Cx} {pins : List (Addr × Obj)} {σ : St} {H : Hp} {s : Shared} {a C fI : Addr} {f : Str} {y : V} {u : Value}
theorem ar_put {Q : Unit → Shared → Prop} {E : Value → Shared → Prop} {A : Around} (T : ArC X.K C fI f) (I : Inv X pins σ H s) (e : H a = some (exo a C none)) (ry : RelV y u)
    (h : ∀ dx s', H dx = none → dx ≠ a → Inv X pins σ (upd (upd H dx (exd dx [(f, y)])) a (exo a C (some dx))) s' → Q () s') : wpAny (model X.prog X.w) A (setAttr (.ref a) f u) Q E s := by
  obtain ⟨nm, q, N, bs, bm, sn, sub, ab, col, dd, k0, k1, k2, k3, k5, hC, hbm⟩ := T.cls
  have hcl : clsIn X.K C = some { name := nm, bases := bs, mro := .ref C :: bm, ns := N, qualname := q, hasDict := true, slotNames := sn, subclasses := sub, abstract := ab, collection := col, hasDel := false } := by
    unfold PySem.W.clsIn
    rw [hC] <;> rfl
  obtain ⟨t1, ho⟩ := exo_at I.hok e
  obtain ⟨hp, g, d, t, os⟩ := s
  refine PySem.W.set_plain I.kIn (ox := { cls := .ref C, dict := none, data := .fields #[.ref t1, .none, .none, .none, .bool false, .none] }) (od := none) ⟨ho, rfl, rfl, trivial⟩ T.sa ?_
  refine ar_store I.kIn ho hcl (show arOver (.ref C :: bm) = true from hbm) rfl T.nf ?_
  intro h' tk' dx k dn dne hx hn
  have free : H dx = none := I.hok.fresh dn
  have nd : ∀ {b : Addr} {o : Obj}, hp.get? b = some o → b ≠ dx := fun {b o} q => Nat.ne_of_lt (Nat.lt_of_lt_of_le (Heap.lt_size q) dn)
  have na : ∀ {b : Addr}, H b = none → b ≠ a := fun {b} n z => by
    rw [z, e] at n
    cases n
  have U : Un X.fs [] H (upd (upd H dx (exd dx [(f, y)])) a (exo a C (some dx))) hp h' := by
    constructor
    · intro b o q n _ _
      exact k b o (na n) q
    · intro b o q n _ _
      exact ⟨o.slots, k b o (na n) q⟩
    · intro b o q n _
      rw [upd_ne (na n), upd_ne (nd q)]
      exact n
    · intro b o q _
      by_cases hb : b = a
      · exact ⟨_, by rw [hb]; exact hx⟩
      · exact ⟨o, k b o hb q⟩
    · intro b xs q
      rw [upd_ne (at_ne e q exo_tup), upd_ne (ne_of_none q free)]
      exact q
    · intro b o v q
      rw [upd_ne (at_ne e q exo_frz), upd_ne (ne_of_none q free)]
      exact q
    · intro b ps q
      refine ⟨#[], ?_⟩
      rw [upd_ne (at_ne e q exo_tbl), upd_ne (ne_of_none q free), q]
      simp
  refine h dx _ free dne (I.un (t' := tk') U ?_)
  intro b o q
  by_cases hb : b = a
  · subst hb
    rw [upd_same] at q
    cases q
    exact exo_ok hx
  · rw [upd_ne hb] at q
    by_cases hd : b = dx
    · subst hd
      rw [upd_same] at q
      cases q
      exact exd_ok hn (relO_put (fs := []) ry fun g => True.intro)
    · rw [upd_ne hd] at q
      refine (I.hok b o q).stay ?_ ?_ ?_
      · intro c v hc z
        refine k c v ?_ z
        rcases hc with hc | hc
        · rw [hc]
          exact hb
        · exact at_ne e hc exo_own
      · intro c hc
        rw [upd_ne (at_ne e hc exo_own), upd_ne (ne_of_none hc free)]
        exact hc
      · intro c xs hc
        rw [upd_ne (at_ne e hc exo_tup), upd_ne (ne_of_none hc free)]
        exact hc
end

/-! ### __init__: self.f = v -/
def spExc (C : Addr) (f : Str) : Sp := fun vs H Q _ => ∃ (a : Addr) (y : V), vs = [.ref a, y] ∧ H a = some (exo a C none) ∧
  ∀ dx, H dx = none → dx ≠ a → Q .non (upd (upd H dx (exd dx [(f, y)])) a (exo a C (some dx)))
/-- self.f = e, the first field -/
def tArSet (K : Frag) (f : Str) (to te : TE) : TS := fun D σ H => te σ H fun y H1 => to σ H1 fun x H2 => ∃ a C fI : Addr, x = .ref a ∧ ArC K C fI f ∧
  H2 a = some (exo a C none) ∧ ∀ dx, H2 dx = none → dx ≠ a → D.nx σ (upd (upd H2 dx (exd dx [(f, y)])) a (exo a C (some dx)))
theorem ps_arset {X : Cx} {o e : Expr} {to te : TE} {f : Str} {p' pos : Pos} (ho : PE X o to) (he : PE X e te) (hs : swapsWith e (some (.Attribute o f p')) pos.line X.env = pure false := by rfl) :
    PS X (.Assign [.Attribute o f p'] e pos) (tArSet X.K f to te) := by
  refine ⟨fun pins s σ H D I h => ?_⟩
  refine plainObj_wpAny_Assign_Attribute (thn (he.run pins s σ H _ I h) fun v s1 hv => ?_) hs
  obtain ⟨y, H1, I1, r1, q1⟩ := hv
  refine thn (ho.run pins s1 σ H1 _ I1 q1) fun u s2 hu => ?_
  obtain ⟨x, H2, I2, r2, a, C, fI, ex, T, ea, q⟩ := hu
  subst ex
  obtain rfl : u = Value.ref a := r2
  exact ar_put T I2 ea r1 fun dx s' n ne J => ⟨σ, _, J, q dx n ne⟩

/-! ### C(e), to be raised -/
def tArMk (C : Addr) (f : Str) (ta : TA) : St → Hp → XK → Prop := fun σ H Q => ta σ H fun vs H1 => ∃ y, vs = [y] ∧ ∀ d, H1 d = none → Q (.ref C) (some d) (upd H1 d (.xd [(f, y)]))
theorem ar_end {H1 : Hp} {a d C : Addr} {f : Str} {y : V} (n : H1 a = none) (dn : d ≠ a) :
    upd (del (upd (upd (upd H1 a (exo a C none)) d (exd d [(f, y)])) a (exo a C (some d))) a) d (.xd [(f, y)]) = upd H1 d (.xd [(f, y)]) := by
  funext b
  by_cases hb : b = d
  · rw [hb, upd_same, upd_same]
  · rw [upd_ne hb, upd_ne hb]
    by_cases ha : b = a
    · rw [ha, del_same, n]
    · rw [del_ne ha, upd_ne ha, upd_ne hb, upd_ne ha]
section
variable {X : Cx} {CX : CXT} {C fI : Addr} {f x : Str} {k : Nat} {fd : FuncData} {ta : TA} {e : Expr} {es : List Expr} {p pos : Pos}
theorem pmk_ar {ps : List Str} (T : ArC X.K C fI f) (F1 : FnOk X.prog X.w X.K X.mg X.base CX k fI fd ps (spExc C f)) (hr : Room (k + 1) X.A) (hb : Binds X.K fd ps [])
    (hx : Passes CX X (fun _ _ _ => False)) (hg : Gl X x) (hm : X.mg x = some (.ref C)) (ha : PA X (e :: es) ta)
    (hdb : (x == ("__debug__" : Str)) = false := by decide) (he : starEach (e :: es) X.env = (false, eval e X.env) :: starEach es X.env := by rfl) (hpl : (backTo pos (starEach es X.env)).any (·.1) = false := by rfl) :
    PMk X (.Call (.Name x p) (e :: es) [] pos) (tArMk C f ta) := by
  intro pins s σ H Q I h
  obtain ⟨nm, q, N, bs, bm, sn, sub, ab, col, dd, k0, k1, k2, k3, k5, hC, hbm⟩ := T.cls
  refine wpAny_Call_Name_kw (ld_glob I hg hm ?_ hdb)
  refine PySem.W.callWith_K (h₀ := X.base) I.ok.mod.kin T.kC (thn (ha.run pos pins s σ H _ I h) fun us s1 hh => ?_) he hpl
  obtain ⟨vs, H1, I1, r1, y, ey, q1⟩ := hh
  subst ey
  refine ⟨I1.kIn, ?_⟩
  show wpAny _ _ (call (.ref C) us) _ _ _
  obtain ⟨hp, g, dr, tk, os⟩ := s1
  have hsz : hp.objs.size ≤ hp.objs.size + 1 := Nat.le_succ _
  have hn : H1 (hp.objs.size + 1) = none := I1.hok.fresh hsz
  have keep2 : ∀ b o, hp.get? b = some o → ((hp.push (PySem.W.kdv_tup us)).push (PySem.HandSPX.excO C hp.objs.size)).get? b = some o := fun b o z => Heap.get?_push_of_some _ (Heap.get?_push_of_some _ z)
  have hget : ((hp.push (PySem.W.kdv_tup us)).push (PySem.HandSPX.excO C hp.objs.size)).get? (hp.objs.size + 1) = some (PySem.HandSPX.excO C hp.objs.size) := by heap_get
  have I2 : Inv X pins σ (upd H1 (hp.objs.size + 1) (exo (hp.objs.size + 1) C none)) ⟨(hp.push (PySem.W.kdv_tup us)).push (PySem.HandSPX.excO C hp.objs.size), g, dr, tk, os⟩ :=
    I1.laid (t' := tk) (a := hp.objs.size + 1) (o := exo (hp.objs.size + 1) C none) keep2 hsz (exo_ok hget)
  have r2 : Vals [V.ref (hp.objs.size + 1), y] (Value.ref (hp.objs.size + 1) :: (us ++ [])) := .cons rfl (by rw [List.append_nil]; exact r1)
  have call1 : spExc C f [V.ref (hp.objs.size + 1), y] (upd H1 (hp.objs.size + 1) (exo (hp.objs.size + 1) C none))
      (fun v H2 => v = .non ∧ ∃ d : Addr, H2 (hp.objs.size + 1) = some (exo (hp.objs.size + 1) C (some d)) ∧ H2 d = some (exd d [(f, y)]) ∧ H1 d = none ∧ Q (.ref C) (some d) (upd (del H2 (hp.objs.size + 1)) d (.xd [(f, y)]))) (fun _ _ _ => False) := by
    refine ⟨_, y, rfl, upd_same, fun dx n ne => ⟨rfl, dx, upd_same, by rw [upd_ne ne]; exact upd_same, by rw [upd_ne ne] at n; exact n, ?_⟩⟩
    rw [ar_end hn ne]
    exact q1 dx (by rw [upd_ne ne] at n; exact n)
  have hl : (Value.ref (hp.objs.size + 1) :: us ++ []).length = ps.length := by
    have z := r2.length
    rw [F1.len _ _ _ _ call1] at z
    exact z.symm
  have hus : us.length ≤ sizeLine := by
    rw [← Paired.length r1, sizeLine_eq]
    exact (by decide : 1 ≤ 16777216)
  have hbb := hb _ (Value.ref (hp.objs.size + 1) :: us) I2.kIn hl
  rw [List.cons_append] at hbb
  refine wpAny_call (PySem.HandSPX.call_own F.excBase_ArithmeticError (fun Y => arOver_has Y bm hbm) (I1.kIn _ _ hC) (PySem.W.looks_findIn I1.kIn T.iC) (fun self => PySem.W.bind_fn I1.kIn self T.tI) hus ?_)
  refine codeAny_mono (F1.run _ X.stack _ _ ⟨Value.ref (hp.objs.size + 1) :: us, []⟩ (Value.ref (hp.objs.size + 1) :: (us ++ [])) _ _ (fun _ _ _ => False) (hr.make C us []) (I2.env0.make C us []) hbb r2 call1) fun r s' hq' => ?_
  cases r with
  | error er => exact hx pins σ _ _ er s' I2 hq'
  | ok fl =>
    cases fl with
    | ret u =>
      obtain ⟨v, H2, os2, bare2, un2, hok2, rv, ev, d, ea, ed, hd1, q2⟩ := hq'
      subst ev
      obtain ⟨h2, g2, d2, t2, os'⟩ := s'
      exact ⟨rv, mk_end (raises_own T.exC T.tyC) I1 hsz keep2 un2 hok2 os2 bare2 ea ed hd1 q2⟩
    | next => exact False.elim hq'
    | brk => exact False.elim hq'
    | cont => exact False.elim hq'
end
end Fc
end L2
set_option Elab.async false
set_option linter.all false
set_option maxRecDepth 100000
set_option maxHeartbeats 4000000
/-! Objects as they are passed to Code, and the numbering of statements as a machine over a stack. -/
namespace L2
namespace Fc
open PySem PySem.Spec PyProof.Rows

/-- an object, as far as Code looks at it -/
inductive O where
  | non | bl (b : Bool) | int (i : Int) | str (x : Str) | tup (os : List O) | lst | dct
/-- the name of an object's type -/
def O.ty : O → String
  | .non => "NoneType" | .bl _ => "bool" | .int _ => "int" | .str _ => "str" | .tup _ => "tuple" | .lst => "list" | .dct => "dict"

mutual
/-- the value v is the object o -/
inductive Ob (K : PySem.W.Frag) (H : Hp) : V → O → Prop
  | non : Ob K H .non .non
  | bl (b : Bool) : Ob K H (.bl b) (.bl b)
  | int (i : Int) : Ob K H (.int i) (.int i)
  | str (x : Str) : x.length ≤ sizeLine → Ob K H (.str x) (.str x)
  | tup {a : Addr} {xs : List V} {os : List O} : SqT K H a xs → Obs K H xs os → os.length < 20000 → Ob K H (.ref a) (.tup os)
  | lst {a : Addr} {xs : List V} : H a = some (.lst xs) → Ob K H (.ref a) .lst
  | dct {a : Addr} {kvs : List (Key × V)} : H a = some (.dK kvs) → Ob K H (.ref a) .dct
inductive Obs (K : PySem.W.Frag) (H : Hp) : List V → List O → Prop
  | nil : Obs K H [] []
  | cons {v : V} {vs : List V} {o : O} {os : List O} : Ob K H v o → Obs K H vs os → Obs K H (v :: vs) (o :: os)
end
theorem Same.sqt {K : PySem.W.Frag} {H H' : Hp} {a : Addr} {xs : List V} (e : Same H H') (h : SqT K H a xs) : SqT K H' a xs := by
  rcases h with (h | ⟨o, h⟩) | h
  · exact .inl (.inl (e _ _ h))
  · exact .inl (.inr ⟨o, e _ _ h⟩)
  · exact .inr h
mutual
theorem Ob.mono {K : PySem.W.Frag} {H H' : Hp} (e : Same H H') : ∀ {v : V} {o : O}, Ob K H v o → Ob K H' v o
  | _, _, .non => .non
  | _, _, .bl b => .bl b
  | _, _, .int i => .int i
  | _, _, .str x h => .str x h
  | _, _, .tup h r b => .tup (Same.sqt e h) (Obs.mono e r) b
  | _, _, .lst h => .lst (e _ _ h)
  | _, _, .dct h => .dct (e _ _ h)
theorem Obs.mono {K : PySem.W.Frag} {H H' : Hp} (e : Same H H') : ∀ {vs : List V} {os : List O}, Obs K H vs os → Obs K H' vs os
  | _, _, .nil => .nil
  | _, _, .cons h r => .cons (Ob.mono e h) (Obs.mono e r)
end
theorem Obs.len {K : PySem.W.Frag} {H : Hp} : ∀ {vs : List V} {os : List O}, Obs K H vs os → vs.length = os.length
  | _, _, .nil => rfl
  | _, _, .cons _ r => by rw [List.length_cons, List.length_cons, Obs.len r]
theorem Obs.get {K : PySem.W.Frag} {H : Hp} : ∀ {vs : List V} {os : List O} {i : Nat} {o : O}, Obs K H vs os → os[i]? = some o → ∃ v, vs[i]? = some v ∧ Ob K H v o
  | _, _, 0, _, .cons h _, e => ⟨_, rfl, by cases e; exact h⟩
  | _, _, i + 1, _, .cons _ r, e => by
    obtain ⟨v, h1, h2⟩ := Obs.get (i := i) r e
    exact ⟨v, h1, h2⟩
theorem Obs.snoc {K : PySem.W.Frag} {H : Hp} {v : V} {o : O} : ∀ {vs : List V} {os : List O}, Obs K H vs os → Ob K H v o → Obs K H (vs ++ [v]) (os ++ [o])
  | _, _, .nil, h => .cons h .nil
  | _, _, .cons g r, h => .cons g (Obs.snoc r h)
theorem Obs.drop {K : PySem.W.Frag} {H : Hp} : ∀ {vs : List V} {os : List O} (n : Nat), Obs K H vs os → Obs K H (vs.drop n) (os.drop n)
  | _, _, 0, r => r
  | _, _, _ + 1, .nil => .nil
  | _, _, n + 1, .cons _ r => Obs.drop n r
/-- its type, as isinstance asks -/
theorem Ob.tyx {K : PySem.W.Frag} {H : Hp} {v : V} {o : O} (h : Ob K H v o) : TyX K H v (.type o.ty) := by
  cases h with
  | non => exact .base .non
  | bl b => exact .base (.bl b)
  | int i => exact .base (.int i)
  | str x _ => exact .base (.str x)
  | tup h r _ =>
    rcases h with (h | ⟨ob, h⟩) | ⟨ob, its, n, h1, h2, _⟩
    · exact .base (.tup h)
    · exact .fTuple h
    · exact .kTuple h1 h2
  | lst h => exact .base (.lst h)
  | dct h => exact .base (.dK h)
def O.is (o : O) (n : String) : Bool := (kitB o.ty n).getD false
theorem isi_of {K : PySem.W.Frag} {H : Hp} {v : V} {o : O} {n : String} {Q : VK} (h : Ob K H v o) (hn : (kitB o.ty n).isSome = true) (q : Q (.bl (o.is n)) H) : rIsi K [v, .ty n] H Q := by
  obtain ⟨b, hb⟩ := Option.isSome_iff_exists.mp hn
  have e : o.is n = b := by
    unfold O.is
    rw [hb]
    rfl
  rw [e] at q
  exact ⟨v, .ty n, .type o.ty, .type n, b, rfl, .ty n, h.tyx, kit_ty hb, q⟩
def tyNames : List String := ["NoneType", "bool", "int", "str", "tuple", "list", "dict"]
theorem ty_mem (o : O) : o.ty ∈ tyNames := by cases o <;> simp [O.ty, tyNames]
theorem kit_str (o : O) : (kitB o.ty "str").isSome = true := (show ∀ t ∈ tyNames, (kitB t "str").isSome = true by decide +kernel) _ (ty_mem o)
theorem kit_tuple (o : O) : (kitB o.ty "tuple").isSome = true := (show ∀ t ∈ tyNames, (kitB t "tuple").isSome = true by decide +kernel) _ (ty_mem o)
theorem kit_int (o : O) : (kitB o.ty "int").isSome = true := (show ∀ t ∈ tyNames, (kitB t "int").isSome = true by decide +kernel) _ (ty_mem o)
theorem kit_bool (o : O) : (kitB o.ty "bool").isSome = true := (show ∀ t ∈ tyNames, (kitB t "bool").isSome = true by decide +kernel) _ (ty_mem o)
theorem kb_of {o : O} {n : String} (h : (kitB o.ty n).isSome = true) : kitB o.ty n = some (o.is n) := by
  obtain ⟨b, hb⟩ := Option.isSome_iff_exists.mp h
  unfold O.is
  rw [hb]
  rfl
theorem kb_str (o : O) : kitB o.ty "str" = some (o.is "str") := kb_of (kit_str o)
theorem kb_tuple (o : O) : kitB o.ty "tuple" = some (o.is "tuple") := kb_of (kit_tuple o)
theorem kb_int (o : O) : kitB o.ty "int" = some (o.is "int") := kb_of (kit_int o)
theorem kb_bool (o : O) : kitB o.ty "bool" = some (o.is "bool") := kb_of (kit_bool o)
def O.isStr : O → Bool | .str _ => true | _ => false
def O.isTup : O → Bool | .tup _ => true | _ => false
def O.isInt : O → Bool | .int _ => true | _ => false
theorem is_str (o : O) : o.is "str" = o.isStr := by
  refine ((show ∀ t ∈ tyNames, (kitB t "str").getD false = (t == "str") by decide +kernel) _ (ty_mem o)).trans ?_
  cases o <;> simp [O.ty, O.isStr]
theorem is_tuple (o : O) : o.is "tuple" = o.isTup := by
  refine ((show ∀ t ∈ tyNames, (kitB t "tuple").getD false = (t == "tuple") by decide +kernel) _ (ty_mem o)).trans ?_
  cases o <;> simp [O.ty, O.isTup]
theorem is_int (o : O) : (o.is "int" && !o.is "bool") = o.isInt := by
  refine ((show ∀ t ∈ tyNames, ((kitB t "int").getD false && !(kitB t "bool").getD false) = (t == "int") by decide +kernel) _ (ty_mem o)).trans ?_
  cases o <;> simp [O.ty, O.isInt]

theorem Ob.lenv {K : PySem.W.Frag} {H : Hp} {v : V} {x : Str} (h : Ob K H v (.str x)) : LenV K v H x.length := by
  cases h with
  | str _ h => exact ⟨h, rfl⟩
theorem Ob.str_eq {K : PySem.W.Frag} {H : Hp} {v : V} {x : Str} (h : Ob K H v (.str x)) : v = .str x := by
  cases h with
  | str _ h => rfl
theorem Ob.int_eq {K : PySem.W.Frag} {H : Hp} {v : V} {i : Int} (h : Ob K H v (.int i)) : v = .int i := by
  cases h with
  | int _ => rfl
theorem Ob.tup_eq {K : PySem.W.Frag} {H : Hp} {v : V} {os : List O} (h : Ob K H v (.tup os)) : ∃ (a : Addr) (xs : List V), v = .ref a ∧ SqT K H a xs ∧ Obs K H xs os := by
  cases h with
  | tup h r _ => exact ⟨_, _, rfl, h, r⟩
theorem Ob.tup_lt {K : PySem.W.Frag} {H : Hp} {v : V} {os : List O} (h : Ob K H v (.tup os)) : os.length < 20000 := by
  cases h with
  | tup _ _ b => exact b
theorem Ob.lent {K : PySem.W.Frag} {H : Hp} {v : V} {os : List O} (h : Ob K H v (.tup os)) : LenV K v H os.length := by
  cases h with
  | tup h r _ => exact Or.inr ⟨_, h, (Obs.len r).symm⟩

/-! ### walks by their turns -/
theorem lc_it {J : It} {n : Nat} {g : TG} {tt : TT} {te : TE} {vs : List Nat} {σ : St} {H1 : Hp} {D : Addr} {Qd : Hp → Prop} (Pv : Nat → Hp → Prop) (h0 : Pv 0 (upd H1 D (.lst [])))
    (hgo : ∀ i H, i < n → Pv i H → J.go i H) (hst : ∀ H, Pv n H → J.stop n H)
    (hs : ∀ i x H H', i < n → Pv i H → J.yld i H x H' → g x (wipe σ vs) H' fun σ2 H2 => wipe σ2 vs = wipe σ vs ∧ tt σ2 H2 fun b H3 =>
      if b = true then te σ2 H3 fun y H4 => ∃ acc, H4 D = some (.lst acc) ∧ acc.length < sizeLine ∧ Pv (i + 1) (upd H4 D (.lst (acc ++ [y]))) else Pv (i + 1) H3) (hd : ∀ H, Pv n H → Qd H) :
    ∃ W : Nat → Nat → Hp → Prop, (∃ m, W 0 m (upd H1 D (.lst []))) ∧ ∀ i m H, W i m H →
      (J.stop i H ∧ Qd H) ∨ (J.go i H ∧ ∃ Nx : Hp → Prop, (∀ H', Nx H' → ∃ m', m' < m ∧ W (i + 1) m' H') ∧ ∀ x H', J.yld i H x H' → g x (wipe σ vs) H' fun σ2 H2 => wipe σ2 vs = wipe σ vs ∧ tt σ2 H2 fun b H3 =>
        if b = true then te σ2 H3 fun y H4 => ∃ acc, H4 D = some (.lst acc) ∧ acc.length < sizeLine ∧ Nx (upd H4 D (.lst (acc ++ [y]))) else Nx H3) := by
  refine ⟨fun i m H => m = n - i ∧ i ≤ n ∧ Pv i H, ⟨n, by simp, Nat.zero_le _, h0⟩, ?_⟩
  rintro i m H ⟨rfl, hi, p⟩
  rcases Nat.lt_or_ge i n with hlt | hge
  · exact Or.inr ⟨hgo i H hlt p, Pv (i + 1), fun H' p' => ⟨n - (i + 1), by omega, rfl, hlt, p'⟩, fun x H' y => hs i x H H' hlt p y⟩
  · obtain rfl : i = n := Nat.le_antisymm hi hge
    exact Or.inl ⟨hst H p, hd H p⟩
theorem for_it {J : It} {n : Nat} {g : TG} {tb : TS} {D : Ends} {σ : St} {H : Hp} (Pv : Nat → St → Hp → Prop) (h0 : Pv 0 σ H)
    (hgo : ∀ i σ H, i < n → Pv i σ H → J.go i H) (hst : ∀ σ H, Pv n σ H → J.stop n H)
    (hs : ∀ i x σ H H', i < n → Pv i σ H → J.yld i H x H' → g x σ H' fun σ2 H2 => tb { D with nx := Pv (i + 1), ct := Pv (i + 1), bk := D.nx } σ2 H2) (hd : ∀ σ H, Pv n σ H → D.nx σ H) :
    ∃ W : Nat → Nat → St → Hp → Prop, (∃ m, W 0 m σ H) ∧ ∀ i m σ H, W i m σ H →
      (J.stop i H ∧ D.nx σ H) ∨ (J.go i H ∧ ∃ N : St → Hp → Prop, (∀ σ' H', N σ' H' → ∃ m', m' < m ∧ W (i + 1) m' σ' H') ∧ ∀ x H', J.yld i H x H' → g x σ H' fun σ2 H2 => tb { D with nx := N, ct := N, bk := D.nx } σ2 H2) := by
  refine ⟨fun i m σ H => m = n - i ∧ i ≤ n ∧ Pv i σ H, ⟨n, by simp, Nat.zero_le _, h0⟩, ?_⟩
  rintro i m σ H ⟨rfl, hi, p⟩
  rcases Nat.lt_or_ge i n with hlt | hge
  · exact Or.inr ⟨hgo i σ H hlt p, Pv (i + 1), fun σ' H' p' => ⟨n - (i + 1), by omega, rfl, hlt, p'⟩, fun x H' y => hs i x σ H H' hlt p y⟩
  · obtain rfl : i = n := Nat.le_antisymm hi hge
    exact Or.inl ⟨hst σ H p, hd σ H p⟩
theorem upd_none {H : Hp} {a b : Addr} {o : HO} (h : upd H a o b = none) : b ≠ a ∧ H b = none := by
  by_cases e : b = a
  · rw [e, upd_same] at h
    cases h
  · exact ⟨e, by rw [upd_ne e] at h; exact h⟩
/-- a new object beside what was tracked -/
theorem Same.new {H H' : Hp} {p : Addr} {o : HO} (e : Same H H') (n : H' p = none) : Same H (upd H' p o) := fun b u q => by
  rw [upd_ne (ne_of_none (e b u q) n)]
  exact e b u q
/-- a change of an object that was not tracked then -/
theorem Same.chg {H H' : Hp} {p : Addr} {o : HO} (e : Same H H') (n : H p = none) : Same H (upd H' p o) := fun b u q => by
  rw [upd_ne (ne_of_none q n)]
  exact e b u q
theorem Same.put {H : Hp} {p : Addr} {o : HO} (n : H p = none) : Same H (upd H p o) := Same.chg (Same.refl H) n

/-! ### what a statement is -/
def nameOk (x : Str) : Bool := decide (1 ≤ x.length) && (decide (x.length ≤ 8) && x.cps.toList.all fun ch => decide (97 ≤ ch) && decide (ch ≤ 122))
def O.isName : O → Bool | .str x => nameOk x | _ => false
/-- how many items the tuple of a kind has -/
def szOf (k : Str) : Option Nat :=
  if k = "do" then some 2 else if k = "call" then some 2 else if k = "if" then some 4 else if k = "while" then some 3 else if k = "seq" then some 2 else if k = "break" then some 2 else
  if k = "continue" then some 2 else if k = "return" then some 1 else if k = "raise" then some 1 else if k = "try" then some 3 else if k = "final" then some 3 else none
def O.hasKind : O → Bool
  | .tup (.str k :: r) => szOf k == some (r.length + 1)
  | _ => false
def named (k : Str) : Bool := decide (k = "do") || (decide (k = "call") || (decide (k = "if") || decide (k = "while")))
def jumps (k : Str) : Bool := decide (k = "break") || decide (k = "continue")
def pairs (k : Str) : Bool := decide (k = "try") || decide (k = "final")
def O.jumpOk (wh : Nat) : O → Bool
  | .int i => decide (1 ≤ i) && decide (i ≤ wh)
  | _ => false
def O.seqOk : O → Bool
  | .tup os => !os.isEmpty
  | _ => false
def O.items : O → List O
  | .tup os => os
  | _ => []
def tailOk (wh : Nat) (k : Str) (r : List O) : Bool := if named k then (r.headD .non).isName else if jumps k then (r.headD .non).jumpOk wh else if k = "seq" then (r.headD .non).seqOk else true
def O.isStmt (o : O) (wh : Nat) : Bool := o.hasKind && (match o with
  | .tup (.str k :: r) => tailOk wh k r
  | _ => false)
def O.parts : O → List O
  | .tup (.str k :: r) => if k = "seq" then (r.headD .non).items else if pairs k then r else r.drop 1
  | _ => []
/-- a flat tuple that tells all but what its parts are -/
def O.head : O → List O
  | .tup (.str k :: r) => if k = "seq" then [.str k, .int (r.headD .non).items.length] else if (named k || jumps k) = true then [.str k, r.headD .non] else [.str k]
  | _ => []
def O.kind : O → Str
  | .tup (.str k :: _) => k
  | _ => ""

theorem named_cases {z : Str} (h : named z = true) : z = "do" ∨ z = "call" ∨ z = "if" ∨ z = "while" := by
  unfold named at h
  simp only [Bool.or_eq_true, decide_eq_true_eq] at h
  exact h
theorem jumps_cases {z : Str} (h : jumps z = true) : z = "break" ∨ z = "continue" := by
  unfold jumps at h
  simp only [Bool.or_eq_true, decide_eq_true_eq] at h
  exact h
theorem sz_named {z : Str} (h : named z = true) : szOf z ≠ some 1 := by
  rcases named_cases h with rfl | rfl | rfl | rfl <;> decide +kernel
theorem sz_jumps {z : Str} (h : jumps z = true) : szOf z ≠ some 1 := by
  rcases jumps_cases h with rfl | rfl <;> decide +kernel
theorem beq_dec (a b : Str) : (a == b) = decide (b = a) := by
  by_cases h : a = b
  · subst h
    simp
  · rw [decide_eq_false (fun q => h q.symm)]
    simpa using h
theorem inV_named (z : Str) : (if false = true then !inV (.str z) [.str "do", .str "call", .str "if", .str "while"] else inV (.str z) [.str "do", .str "call", .str "if", .str "while"]) = named z := by
  rw [if_neg Bool.false_ne_true]
  show ((("do" : Str) == z) || ((("call" : Str) == z) || ((("if" : Str) == z) || ((("while" : Str) == z) || false)))) = named z
  rw [beq_dec, beq_dec, beq_dec, beq_dec, Bool.or_false]
  rfl
theorem inV_jumps (z : Str) : (if false = true then !inV (.str z) [.str "break", .str "continue"] else inV (.str z) [.str "break", .str "continue"]) = jumps z := by
  rw [if_neg Bool.false_ne_true]
  show ((("break" : Str) == z) || ((("continue" : Str) == z) || false)) = jumps z
  rw [beq_dec, beq_dec, Bool.or_false]
  rfl
theorem inV_pairs (z : Str) : (if false = true then !inV (.str z) [.str "try", .str "final"] else inV (.str z) [.str "try", .str "final"]) = pairs z := by
  rw [if_neg Bool.false_ne_true]
  show ((("try" : Str) == z) || ((("final" : Str) == z) || false)) = pairs z
  rw [beq_dec, beq_dec, Bool.or_false]
  rfl
theorem hasKind_of {o : O} (h : o.hasKind = true) : ∃ (z : Str) (r : List O), o = .tup (.str z :: r) ∧ szOf z = some (r.length + 1) := by
  match o, h with
  | .tup (.str z :: r), h => exact ⟨z, r, rfl, beq_iff_eq.mp h⟩

/-! ### the numbering -/
inductive Err where
  | bad (n : Nat) | lim (n : Nat)
structure Spot where
  (o : O) (par : Option Nat) (lev wh : Nat) (lay : List Nat)
def judge (n : Nat) (s : Spot) : Option Err :=
  if 400 ≤ n then some (.lim 400) else if 100 < s.lev then some (.lim 100) else if 25 < s.lay.length then some (.lim 25) else if s.o.isStmt s.wh then none else some (.bad n)
def inner (n : Nat) (s : Spot) (o : O) : Spot := { o := o, par := some n, lev := s.lev + 1, wh := if s.o.kind = "while" then s.wh + 1 else s.wh, lay := s.lay }
def inBlock (n : Nat) (s : Spot) (o : O) : Spot := { inner n s o with lay := s.lay ++ [n] }
def inside (n : Nat) (s : Spot) : List Spot := if s.o.kind = "final" then (match s.o.parts with | [o1, o2] => [inner n s o1, inBlock n s o2] | _ => []) else s.o.parts.map (inner n s)
/-- the machine: what stands on the stack (the next one first), what is numbered, how it ends -/
inductive Runs : List Spot → List Spot → Except Err (List Spot) → Prop
  | nil {rows : List Spot} : Runs [] rows (.ok rows)
  | bad {s : Spot} {rest rows : List Spot} {e : Err} : judge rows.length s = some e → Runs (s :: rest) rows (.error e)
  | step {s : Spot} {rest rows : List Spot} {r : Except Err (List Spot)} : judge rows.length s = none → Runs (inside rows.length s ++ rest) (rows ++ [s]) r → Runs (s :: rest) rows r
/-- what is wished of an error -/
def ErrE (cBad cLim : Addr) (H : Hp) (E : XK) : Err → Prop
  | .bad n => ∀ H' d, Same H H' → H d = none → H' d = some (.xd [(("number" : Str), V.int (n : Nat))]) → E (.ref cBad) (some d) H'
  | .lim n => ∀ H' d, Same H H' → H d = none → H' d = some (.xd [(("limit" : Str), V.int (n : Nat))]) → E (.ref cLim) (some d) H'
def optV : Option Nat → V
  | none => .non
  | some n => .int (n : Nat)
def intsV (l : List Nat) : List V := l.map fun n => V.int (n : Nat)
/-- the tuple of a spot stands at p -/
def SpotAt (K : PySem.W.Frag) (H : Hp) (p : Addr) (s : Spot) : Prop := ∃ (v : V) (la : Addr), SqT K H p [v, optV s.par, .int (s.lev : Nat), .int (s.wh : Nat), .ref la] ∧ Ob K H v s.o ∧ H la = some (.lst (intsV s.lay))
theorem SpotAt.mono {K : PySem.W.Frag} {H H' : Hp} {p : Addr} {s : Spot} (e : Same H H') (h : SpotAt K H p s) : SpotAt K H' p s := by
  obtain ⟨v, la, h1, h2, h3⟩ := h
  exact ⟨v, la, Same.sqt e h1, h2.mono e, e _ _ h3⟩
def root (o : O) : Spot := ⟨o, none, 1, 0, []⟩
/-- what Code makes of an object -/
def Codes (o : O) (r : Except Err (List Spot)) : Prop := Runs [root o] [] r

/-! ### a frozen part F of a heap H: what is never changed; both grow -/
structure Grow (F H F' H' : Hp) : Prop where
  hh : Same H H'
  ff : Same F F'
  fh : Same F' H'
  out : ∀ b, F b = none → H b ≠ none → F' b = none
theorem Grow.refl {F H : Hp} (e : Same F H) : Grow F H F H := ⟨Same.refl H, Same.refl F, e, fun _ n _ => n⟩
theorem Grow.trans {F H F1 H1 F2 H2 : Hp} (a : Grow F H F1 H1) (b : Grow F1 H1 F2 H2) : Grow F H F2 H2 :=
  ⟨a.hh.trans b.hh, a.ff.trans b.ff, b.fh, fun x n m => b.out x (a.out x n m) fun z => m (a.hh.free z)⟩
/-- a new object that is never changed -/
theorem Grow.add {F H : Hp} {p : Addr} {o : HO} (e : Same F H) (n : H p = none) : Grow F H (upd F p o) (upd H p o) := by
  refine ⟨Same.put n, Same.put (e.free n), ?_, fun b h m => ?_⟩
  · intro b u q
    by_cases hb : b = p
    · subst hb
      rw [upd_same] at q ⊢
      exact q
    · rw [upd_ne hb] at q ⊢
      exact e b u q
  · rw [upd_ne (fun z => m (by rw [z]; exact n))]
    exact h
/-- a new object that may be changed -/
theorem Grow.mut {F H : Hp} {p : Addr} {o : HO} (e : Same F H) (n : H p = none) : Grow F H F (upd H p o) := ⟨Same.put n, Same.refl F, e.trans (Same.put n), fun _ h _ => h⟩
theorem Grow.chg {F H F' H' : Hp} {p : Addr} {o : HO} (g : Grow F H F' H') (n : H p = none) (m : F' p = none) : Grow F H F' (upd H' p o) := ⟨Same.chg g.hh n, g.ff, Same.chg g.fh m, g.out⟩
theorem Ob.parts_lt {K : PySem.W.Frag} {H : Hp} {v : V} {o : O} (h : Ob K H v o) : o.parts.length < 20000 := by
  match o, h with
  | .tup (.str k :: r), h =>
    have b := h.tup_lt
    show (if k = "seq" then (r.headD .non).items else if pairs k then r else r.drop 1).length < 20000
    by_cases e : k = "seq"
    · rw [if_pos e]
      match r, h with
      | [], _ => exact (by decide : 0 < 20000)
      | .tup os :: r, h =>
        obtain ⟨a, xs, _, _, hs⟩ := h.tup_eq
        obtain ⟨y, _, hy⟩ := hs.get (i := 1) (o := .tup os) rfl
        exact hy.tup_lt
      | .non :: _, _ => exact (by decide : 0 < 20000)
      | .bl _ :: _, _ => exact (by decide : 0 < 20000)
      | .int _ :: _, _ => exact (by decide : 0 < 20000)
      | .str _ :: _, _ => exact (by decide : 0 < 20000)
      | .lst :: _, _ => exact (by decide : 0 < 20000)
      | .dct :: _, _ => exact (by decide : 0 < 20000)
    · rw [if_neg e]
      rw [List.length_cons] at b
      split
      · omega
      · rw [List.length_drop]
        omega
  | .non, _ => exact (by decide : 0 < 20000)
  | .bl _, _ => exact (by decide : 0 < 20000)
  | .int _, _ => exact (by decide : 0 < 20000)
  | .str _, _ => exact (by decide : 0 < 20000)
  | .lst, _ => exact (by decide : 0 < 20000)
  | .dct, _ => exact (by decide : 0 < 20000)
  | .tup [], _ => exact (by decide : 0 < 20000)
  | .tup (.non :: _), _ => exact (by decide : 0 < 20000)
  | .tup (.bl _ :: _), _ => exact (by decide : 0 < 20000)
  | .tup (.int _ :: _), _ => exact (by decide : 0 < 20000)
  | .tup (.tup _ :: _), _ => exact (by decide : 0 < 20000)
  | .tup (.lst :: _), _ => exact (by decide : 0 < 20000)
  | .tup (.dct :: _), _ => exact (by decide : 0 < 20000)
theorem Paired.map2 {α β : Type} {R S : α → β → Prop} (f : ∀ a b, R a b → S a b) : ∀ {l : List α} {m : List β}, Paired R l m → Paired S l m
  | _, _, .nil => .nil
  | _, _, .cons r t => .cons (f _ _ r) (Paired.map2 f t)
theorem Paired.snoc {α β : Type} {R : α → β → Prop} {a : α} {b : β} (r : R a b) : ∀ {l : List α} {m : List β}, Paired R l m → Paired R (l ++ [a]) (m ++ [b])
  | _, _, .nil => .cons r .nil
  | _, _, .cons q t => .cons q (Paired.snoc r t)

/-! ### bundles of defs that may raise, of exception classes -/
structure ExcOk (P : Program) (w : World) (K : PySem.W.Frag) (mg : Str → Option Value) (base : Heap) (k : Nat) (x : Str) (C : Addr) (f : Str) : Prop where
  ex : ∃ (fI : Addr) (fd : FuncData) (ps : List Str), ArC K C fI f ∧ FnOk P w K mg base CX0 k fI fd ps (spExc C f) ∧ Binds K fd ps [] ∧ mg x = some (.ref C)
structure CalX (P : Program) (w : World) (K : PySem.W.Frag) (mg : Str → Option Value) (base : Heap) (k : Nat) (x : Str) (sp : Sp) : Prop where
  ex : ∃ (f : Addr) (fd : FuncData) (ps : List Str), FnOk P w K mg base (L2.CX P w) k f fd ps sp ∧ mg x = some (.ref f) ∧ PySem.W.keepIn K (.ref f) = true ∧ Binds K fd ps []
section
variable {X : Cx} {C : Addr} {f x : Str} {k j : Nat} {ta : TA} {e : Expr} {es : List Expr} {p pos : Pos} {sp : Sp}
theorem pmk_x (c : ExcOk X.prog X.w X.K X.mg X.base k x C f) (hr : Room j X.A) (hk : k + 1 ≤ j) (hg : Gl X x) (ha : PA X (e :: es) ta)
    (hdb : (x == ("__debug__" : Str)) = false := by decide) (he : starEach (e :: es) X.env = (false, eval e X.env) :: starEach es X.env := by rfl) (hpl : (backTo pos (starEach es X.env)).any (·.1) = false := by rfl) :
    PMk X (.Call (.Name x p) (e :: es) [] pos) (tArMk C f ta) := by
  obtain ⟨fI, fd, ps, T, F, b, hm⟩ := c.ex
  exact pmk_ar T F (hr.mono hk) b pass0 hg hm ha hdb he hpl
/-- a def that may raise, called where its errors are let out -/
theorem pe_cx {E : XK} {W : WX} (c : CalX X.prog X.w X.K X.mg X.base k x sp) (hr : Room j X.A) (hk : k ≤ j) (tk : Takes X W) (hW : ∀ cls d σ H, E cls d H → W cls d σ H) (hg : Gl X x) (ha : PA X (e :: es) ta)
    (hdb : (x == ("__debug__" : Str)) = false := by decide) (he : starEach (e :: es) X.env = (false, eval e X.env) :: starEach es X.env := by rfl) (hpl : (backTo pos (starEach es X.env)).any (·.1) = false := by rfl) :
    PE X (.Call (.Name x p) (e :: es) [] pos) (tCall sp [] E ta) := by
  obtain ⟨g, fd, ps, F, hm, kp, b⟩ := c.ex
  exact pe_call F (hr.mono hk) hg hm kp b .nil (passes_call tk hW) ha hdb he hpl
end
end Fc
end L2
set_option Elab.async false
set_option linter.all false
set_option maxRecDepth 100000
set_option maxHeartbeats 4000000
/-! What a Code object is, by what is numbered in it. -/
namespace L2
namespace Fc
open PySem PySem.Spec PyProof.Rows

/-- the fields of a Code -/
def cf (S D A B L : Addr) : List (Str × V) := putF "_layers" (.ref L) (putF "_parts" (.ref B) (putF "_parents" (.ref A) (putF "_heads" (.ref D) (putF "_statements" (.ref S) []))))
section
variable {S D A B L : Addr}
theorem cf_S : (cf S D A B L).lookup ("_statements" : Str) = some (V.ref S) := by
  unfold cf
  rw [lookup_putF, if_neg (by decide +kernel), lookup_putF, if_neg (by decide +kernel), lookup_putF, if_neg (by decide +kernel), lookup_putF, if_neg (by decide +kernel), lookup_putF, if_pos rfl]
theorem cf_D : (cf S D A B L).lookup ("_heads" : Str) = some (V.ref D) := by
  unfold cf
  rw [lookup_putF, if_neg (by decide +kernel), lookup_putF, if_neg (by decide +kernel), lookup_putF, if_neg (by decide +kernel), lookup_putF, if_pos rfl]
theorem cf_A : (cf S D A B L).lookup ("_parents" : Str) = some (V.ref A) := by
  unfold cf
  rw [lookup_putF, if_neg (by decide +kernel), lookup_putF, if_neg (by decide +kernel), lookup_putF, if_pos rfl]
theorem cf_B : (cf S D A B L).lookup ("_parts" : Str) = some (V.ref B) := by
  unfold cf
  rw [lookup_putF, if_neg (by decide +kernel), lookup_putF, if_pos rfl]
theorem cf_L : (cf S D A B L).lookup ("_layers" : Str) = some (V.ref L) := by
  unfold cf
  rw [lookup_putF, if_pos rfl]
theorem cf_no {m : Str} (h1 : ¬ m = "_statements") (h2 : ¬ m = "_heads") (h3 : ¬ m = "_parents") (h4 : ¬ m = "_parts") (h5 : ¬ m = "_layers") : (cf S D A B L).lookup m = none := by
  unfold cf
  rw [lookup_putF, if_neg h5, lookup_putF, if_neg h4, lookup_putF, if_neg h3, lookup_putF, if_neg h2, lookup_putF, if_neg h1]
  rfl
end
/-- the numbers of the parts of the statement i -/
def kids (rows : List Spot) (i : Nat) : List Nat := rows.zipIdx.filterMap fun p => if p.1.par = some i then some p.2 else none
theorem kids_snoc (rows : List Spot) (s : Spot) (i : Nat) : kids (rows ++ [s]) i = kids rows i ++ (if s.par = some i then [rows.length] else []) := by
  unfold kids
  rw [List.zipIdx_append, List.filterMap_append]
  congr 1
  by_cases h : s.par = some i
  · rw [if_pos h]
    simp [List.zipIdx_cons, h]
  · rw [if_neg h]
    simp [List.zipIdx_cons, h]
theorem kids_len (rows : List Spot) (i : Nat) : (kids rows i).length ≤ rows.length := by
  unfold kids
  exact Nat.le_trans (List.length_filterMap_le _ _) (by rw [List.length_zipIdx]; exact Nat.le_refl _)
theorem kids_none {rows : List Spot} {i : Nat} (h : ∀ s ∈ rows, ∀ m, s.par = some m → m < i) : kids rows i = [] := by
  unfold kids
  rw [List.filterMap_eq_nil_iff]
  rintro ⟨s, j⟩ hm
  have hs : s ∈ rows := (List.mem_zipIdx hm).2.2 ▸ List.getElem_mem _
  show (if s.par = some i then some j else none) = none
  rw [if_neg]
  intro q
  exact absurd (h s hs i q) (Nat.lt_irrefl _)
/-- the Code at p -/
structure CodeSt (K : PySem.W.Frag) (C : Addr) (F H : Hp) (p dx S D A B L : Addr) (ts : List Addr) (rows : List Spot) : Prop where
  ins : H p = some (.ins C dx (cf S D A B L))
  ow : H dx = some (.own p)
  st : ∃ vs, H S = some (.lst vs) ∧ Obs K F vs (rows.map (·.o))
  hd : ∃ hs : List Addr, H D = some (.lst (hs.map V.ref)) ∧ Paired (fun h (s : Spot) => ∃ ys, F h = some (.tup ys) ∧ Obs K F ys s.o.head) hs rows
  pa : H A = some (.lst (rows.map fun s => optV s.par))
  pt : H B = some (.lst (ts.map V.ref))
  cl : ts.length = rows.length
  ch : ∀ i t, ts[i]? = some t → H t = some (.lst (intsV (kids rows i)))
  la : ∃ ls : List Addr, H L = some (.lst (ls.map V.ref)) ∧ Paired (fun l (s : Spot) => F l = some (.lst (intsV s.lay))) ls rows
  nd : (S :: D :: A :: B :: L :: ts).Nodup
/-- the addresses of a Code -/
def own (p dx S D A B L : Addr) (ts : List Addr) : List Addr := p :: dx :: S :: D :: A :: B :: L :: ts
/-- nothing of it is tracked in R -/
def Off (R : Hp) (l : List Addr) : Prop := ∀ b ∈ l, R b = none
theorem Off.of {R R' : Hp} {l : List Addr} (h : Off R' l) (e : Same R R') : Off R l := fun b m => Same.free e (h b m)
theorem CodeSt.keep {K : PySem.W.Frag} {C : Addr} {F H F' H' : Hp} {p dx S D A B L : Addr} {ts : List Addr} {rows : List Spot} (c : CodeSt K C F H p dx S D A B L ts rows) (f : Same F F') (h : Same H H') : CodeSt K C F' H' p dx S D A B L ts rows where
  ins := h _ _ c.ins
  ow := h _ _ c.ow
  st := by
    obtain ⟨vs, e, o⟩ := c.st
    exact ⟨vs, h _ _ e, o.mono f⟩
  hd := by
    obtain ⟨hs, e, q⟩ := c.hd
    exact ⟨hs, h _ _ e, Paired.map2 (fun a b ⟨ys, e, o⟩ => ⟨ys, f _ _ e, o.mono f⟩) q⟩
  pa := h _ _ c.pa
  pt := h _ _ c.pt
  cl := c.cl
  ch := fun i t e => h _ _ (c.ch i t e)
  la := by
    obtain ⟨ls, e, q⟩ := c.la
    exact ⟨ls, h _ _ e, Paired.map2 (fun a b e => f _ _ e) q⟩
  nd := c.nd
theorem CodeSt.there {K : PySem.W.Frag} {C : Addr} {F H : Hp} {p dx S D A B L : Addr} {ts : List Addr} {rows : List Spot} (c : CodeSt K C F H p dx S D A B L ts rows) : ∀ b ∈ own p dx S D A B L ts, H b ≠ none := by
  have go : ∀ {b : Addr} {o : HO}, H b = some o → H b ≠ none := fun e z => by
    rw [z] at e
    cases e
  intro b m
  unfold own at m
  simp only [List.mem_cons] at m
  rcases m with rfl | rfl | rfl | rfl | rfl | rfl | rfl | m
  · exact go c.ins
  · exact go c.ow
  · obtain ⟨_, e, _⟩ := c.st
    exact go e
  · obtain ⟨_, e, _⟩ := c.hd
    exact go e
  · exact go c.pa
  · exact go c.pt
  · obtain ⟨_, e, _⟩ := c.la
    exact go e
  · obtain ⟨i, hi, e⟩ := List.mem_iff_getElem.mp m
    exact go (c.ch i b (by rw [List.getElem?_eq_getElem hi, e]))
theorem CodeSt.loc {K : PySem.W.Frag} {C : Addr} {F H H' : Hp} {p dx S D A B L : Addr} {ts : List Addr} {rows : List Spot} (c : CodeSt K C F H p dx S D A B L ts rows) (h : ∀ b ∈ own p dx S D A B L ts, H' b = H b) : CodeSt K C F H' p dx S D A B L ts rows where
  ins := by rw [h p (by simp [own])]; exact c.ins
  ow := by rw [h dx (by simp [own])]; exact c.ow
  st := by rw [h S (by simp [own])]; exact c.st
  hd := by rw [h D (by simp [own])]; exact c.hd
  pa := by rw [h A (by simp [own])]; exact c.pa
  pt := by rw [h B (by simp [own])]; exact c.pt
  cl := c.cl
  ch := fun i t e => by rw [h t (by unfold own; simp [List.mem_of_getElem? e])]; exact c.ch i t e
  la := by rw [h L (by simp [own])]; exact c.la
  nd := c.nd
theorem upd_id {H : Hp} {a : Addr} {o : HO} (e : H a = some o) : upd H a o = H := by
  funext b
  by_cases hb : b = a
  · rw [hb, upd_same, e]
  · rw [upd_ne hb]
theorem ErrE.mono {cB cL : Addr} {R H : Hp} {E : XK} {e : Err} (s : Same R H) (h : ErrE cB cL R E e) : ErrE cB cL H E e := by
  cases e with
  | bad n => exact fun H' d s2 n2 e2 => h H' d (s.trans s2) (Same.free s n2) e2
  | lim n => exact fun H' d s2 n2 e2 => h H' d (s.trans s2) (Same.free s n2) e2
theorem Paired.app {α β : Type} {R : α → β → Prop} : ∀ {l l' : List α} {m m' : List β}, Paired R l m → Paired R l' m' → Paired R (l ++ l') (m ++ m')
  | _, _, _, _, .nil, q => q
  | _, _, _, _, .cons r t, q => .cons r (Paired.app t q)
theorem own_snoc {p dx S D A B L t b : Addr} {ts : List Addr} (h : b ∈ own p dx S D A B L (ts ++ [t])) : b ∈ own p dx S D A B L ts ∨ b = t := by
  unfold own at h ⊢
  simp only [List.mem_cons, List.mem_append, List.mem_nil_iff, or_false] at h ⊢
  rcases h with z | z | z | z | z | z | z | z | z <;> simp [z]
/-- a heap without some addresses -/
def hide (l : List Addr) (H : Hp) : Hp := fun b => if b ∈ l then none else H b
theorem hide_in {l : List Addr} {H : Hp} {b : Addr} (h : b ∈ l) : hide l H b = none := if_pos h
theorem hide_out {l : List Addr} {H : Hp} {b : Addr} (h : b ∉ l) : hide l H b = H b := if_neg h
theorem hide_same (l : List Addr) (H : Hp) : Same (hide l H) H := fun b o e => by
  by_cases h : b ∈ l
  · rw [hide_in h] at e
    cases e
  · rwa [hide_out h] at e
theorem Same.hide {l : List Addr} {R H : Hp} (e : Same R H) (off : Off R l) : Same R (hide l H) := fun b o q => by
  rw [hide_out (fun m => by rw [off b m] at q; cases q)]
  exact e b o q
theorem off_hide (l : List Addr) (H : Hp) : Off (hide l H) l := fun _ m => hide_in m
theorem Same.plus {F H : Hp} {p : Addr} {o : HO} (e : Same F H) (h : H p = some o) : Same (upd F p o) H := by
  intro b u q
  by_cases hb : b = p
  · subst hb
    rw [upd_same] at q
    rw [h]
    exact q
  · rw [upd_ne hb] at q
    exact e b u q
end Fc
end L2
set_option Elab.async false
set_option linter.all false
set_option maxRecDepth 100000
set_option maxHeartbeats 4000000
/-! len of an own object; an own class made where its __init__ may raise; try with clauses with and without names. -/
namespace L2
namespace Fc
open PySem PySem.Spec PyProof.Rows

section
variable {X : Cx} {C f : Addr} {k : Nat} {fd : FuncData} {sp : Sp}
/-- len(x), x an instance of C, by its own __len__ -/
def rLenI (C : Addr) (sp : Sp) : List V → Hp → VK → Prop := fun xs H Q => ∃ (a dx : Addr) (fs : List (Str × V)), xs = [.ref a] ∧ H a = some (.ins C dx fs) ∧
  sp [.ref a] H (fun v H' => ∃ n : Int, v = .int n ∧ (0 ≤ n ∧ n < 2 ^ 63) ∧ Q (.int n) H') E0
theorem call_lenI (hs : PySem.W.findIn X.K (.ref C) "__len__" = some (some (.ref f))) (hf : PySem.W.isFn X.K (.ref f) = true) (F : FnOk X.prog X.w X.K X.mg X.base CX0 k f fd ["self"] sp)
    (hb : Binds X.K fd ["self"] []) (hr : Room (k + 1) X.A) : CallR X (.builtin "len") (rLenI C sp) := by
  intro pins s σ H xs us Q I r h
  obtain ⟨a, dx, fs, rfl, ea, q⟩ := h
  obtain ⟨u, rfl, rx⟩ := vals1 r
  cases rx
  obtain ⟨m, fr⟩ := I.fr
  obtain ⟨mA, O, _⟩ := ins_get I.hok ea
  obtain ⟨od, J, _⟩ := O.look
  refine PySem.W.len_K fr I.ok.mod.kin J hs hf ?_
  have hv : Vals [V.ref a] [Value.ref a] := .cons rfl .nil
  have hbb := hb s [Value.ref a] I.kIn rfl
  rw [List.append_nil] at hbb
  refine wpAny_call (codeAny_mono (F.run X.A.in1 X.stack s H ⟨[Value.ref a], []⟩ [Value.ref a] [V.ref a] _ E0 hr.in1 I.env0.in1 hbb hv q) fun r s' hq => ?_)
  cases r with
  | error e => exact False.elim hq
  | ok fl =>
    cases fl with
    | ret u =>
      obtain ⟨v, H', I', rv, n, rfl, hn, q2⟩ := I.after hq
      obtain ⟨t, rfl⟩ := rv
      exact ⟨hn, ⟨.int n, H', I'.tok _, ⟨_, rfl⟩, q2⟩⟩
    | next => exact False.elim hq
    | brk => exact False.elim hq
    | cont => exact False.elim hq
end

/-! ### C(e, ..), C's own __init__ may raise -/
structure MakX (P : Program) (w : World) (K : PySem.W.Frag) (mg : Str → Option Value) (base : Heap) (k : Nat) (x : Str) (C : Addr) (sp : Sp) : Prop where
  ex : ∃ (f : Addr) (fd : FuncData) (ps : List Str), Mk K C f ∧ FnOk P w K mg base (L2.CX P w) k f fd ps sp ∧ mg x = some (.ref C) ∧ Binds K fd ps []
def tMakeS (C : Addr) (sp : Sp) (W : WX) (t : TA) : TE := fun σ H Q => t σ H fun vs H1 => ∀ x dx, H1 x = none → H1 dx = none → dx ≠ x →
  sp (.ref x :: vs) (upd (upd H1 dx (.own x)) x (.ins C dx [])) (fun v H2 => v = .non ∧ Q (.ref x) H2) (WE W σ)
theorem pe_mkx {X : Cx} {C : Addr} {x : Str} {k j : Nat} {sp : Sp} {W : WX} {t : TA} {e : Expr} {es : List Expr} {p pos : Pos} (c : MakX X.prog X.w X.K X.mg X.base k x C sp) (hr : Room j X.A) (hk : k + 1 ≤ j) (tk : Takes X W) (hg : Gl X x) (ha : PA X (e :: es) t)
    (hdb : (x == ("__debug__" : Str)) = false := by decide) (he : starEach (e :: es) X.env = (false, eval e X.env) :: starEach es X.env := by rfl) (hpl : (backTo pos (starEach es X.env)).any (·.1) = false := by rfl) :
    PE X (.Call (.Name x p) (e :: es) [] pos) (tMakeS C sp W t) := by
  obtain ⟨f, fd, ps, M, F, hm, hb⟩ := c.ex
  have hr2 : Room (k + 1) X.A := hr.mono hk
  refine ⟨fun pins s σ H Q I h => ?_⟩
  refine wpAny_Call_Name_kw (ld_glob I hg hm ?_ hdb)
  refine PySem.W.callWith_K (h₀ := X.base) I.ok.mod.kin M.kp (thn (ha.run pos pins s σ H _ I h) fun us s1 hh => ?_) he hpl
  obtain ⟨vs, H1, I1, r, h1⟩ := hh
  refine ⟨I1.kIn, ?_⟩
  have hq := h1 (s1.heap.objs.size + 1) s1.heap.objs.size (I1.hok.fresh (Nat.le_succ _)) (I1.hok.fresh (Nat.le_refl _)) (Nat.ne_of_lt (Nat.lt_succ_self _))
  have I2 := Inv.made (C := C) I1
  have r2 : Vals (V.ref (s1.heap.objs.size + 1) :: vs) (Value.ref (s1.heap.objs.size + 1) :: us) := .cons rfl r
  have hl : (Value.ref (s1.heap.objs.size + 1) :: us ++ []).length = ps.length := by
    have z := r2.length
    rw [F.len _ _ _ _ hq] at z
    rw [List.append_nil]
    exact z.symm
  have hbb := hb _ (Value.ref (s1.heap.objs.size + 1) :: us) I2.kIn hl
  rw [List.append_nil] at hbb
  refine wpAny_call (make_map (f := f) I1.kIn M.makes M.init (beq_iff_eq.mp M.fn) ?_)
  refine codeAny_mono (F.run _ X.stack _ _ ⟨Value.ref (s1.heap.objs.size + 1) :: us, []⟩ (Value.ref (s1.heap.objs.size + 1) :: us) _ _ (WE W σ) (hr2.make C us []) (I2.env0.make C us []) hbb r2 hq) fun r s' hq' => ?_
  cases r with
  | error e => exact passAt tk σ pins _ _ e s' I2 hq'
  | ok fl =>
    cases fl with
    | ret u =>
      obtain ⟨v, H', I3, rv, ev, q3⟩ := I2.after hq'
      subst ev
      exact ⟨rv, ⟨V.ref (s1.heap.objs.size + 1), H', I3, rfl, q3⟩⟩
    | next => exact False.elim hq'
    | brk => exact False.elim hq'
    | cont => exact False.elim hq'

/-! ### try .. except A as n: .. except B: .. -/
abbrev Clause := Value × Option Nat × (Addr → Value → Option Addr → TS)
def wCl (K : PySem.W.Frag) (Wout : WX) (D : Ends) : List Clause → WX
  | [] => Wout
  | (c, none, ts) :: more => fun cls d σ H => ∃ b, PySem.W.exmOne K cls c = some b ∧ (b = true → ∀ a, H a = none → ts a cls d D σ H) ∧ (b = false → wCl K Wout D more cls d σ H)
  | (c, some i, ts) :: more => fun cls d σ H => ∃ b, PySem.W.exmOne K cls c = some b ∧
      (b = true → ∀ a, H a = none → ts a cls d { nx := fun τ G => D.nx (τ.set i none) G, rt := D.rt, bk := fun τ G => D.bk (τ.set i none) G, ct := fun τ G => D.ct (τ.set i none) G } (σ.set i (some (.ref a))) H) ∧ (b = false → wCl K Wout D more cls d σ H)
inductive Cls2 (X : Cx) : List ExceptHandler → List Clause → Prop
  | nil : Cls2 X [] []
  | bare {x : Str} {c : Value} {ts : Addr → Value → Option Addr → TS} {b0 : Stmt} {su : List Stmt} {p1 p2 : Pos} {hs : List ExceptHandler} {l : List Clause} : Names X x c →
      (∀ (a : Addr) (oe : Obj) (cls : Value) (d : Option Addr) (pn : List (Addr × Obj)), Zc cls d oe → (∃ vs, oe.data = .fields vs) → PSs (X.suite a ((a, oe) :: pn)) (b0 :: su) (ts a cls d)) → Cls2 X hs l →
      Cls2 X (.ExceptHandler (some (.Name x p1)) none (b0 :: su) p2 :: hs) ((c, none, ts) :: l)
  | named {x n : Str} {i : Nat} {c : Value} {ts : Addr → Value → Option Addr → TS} {b0 : Stmt} {su : List Stmt} {p1 p2 : Pos} {hs : List ExceptHandler} {l : List Clause} : Names X x c → X.N[i]? = some n → X.env.kindOf n = some .local →
      (∀ (a : Addr) (oe : Obj) (cls : Value) (d : Option Addr) (pn : List (Addr × Obj)), Zc cls d oe → (∃ vs, oe.data = .fields vs) → PSs (X.suite a ((a, oe) :: pn)) (b0 :: su) (ts a cls d)) → Cls2 X hs l →
      Cls2 X (.ExceptHandler (some (.Name x p1)) (some n) (b0 :: su) p2 :: hs) ((c, some i, ts) :: l)
section
variable {X : Cx} {body : List Stmt} {h1 : ExceptHandler} {hs : List ExceptHandler} {l : List Clause} {pos : Pos} {tb : WX → TS} {Wout : WX}
theorem ps_try2 (hstk : X.stack = X.env :: X.outer) (hfr : X.env.frame = some X.env.locals) (hN : X.N.Nodup) (tk : Takes X Wout)
    (hb : ∀ (W : WX) (pn : List (Addr × Obj)) (xe : Value → Shared → Prop), Takes (X.tr pn xe) W → PassesOwn (model X.prog X.w) X.A X.env xe → PSs (X.tr pn xe) body (tb W))
    (hh : Cls2 X (h1 :: hs) l) : PS X (.Try body (h1 :: hs) [] [] pos) (fun D σ H => tb (wCl X.K Wout D l) D σ H) := by
  refine ⟨fun pins s σ H D I h => ?_⟩
  have ok := I.ok
  have frames : X.A.frames = some (X.env :: X.outer) := by rw [ok.frames, hstk]
  refine wpAny_Try_except ?_
  refine wpAny_mono ((hb (wCl X.K Wout D l) (X.pn ++ pins) (fun e s1 => wpAny (model X.prog X.w) X.A (noteFrame e X.env) (fun _ s2 => wpAny (model X.prog X.w) X.A (setFlight e none) (fun _ s3 =>
    wpAny (model X.prog X.w) X.A (handleBy e X.env (h1 :: hs)) (SP X pins D) X.xe s3) X.xe s2) X.xe s1) (fun u s' xx => ?_) PassesOwn.looking).run [] s σ H D (I.toTry _) h) (fun f s1 hsp => ?_) (fun e s1 he => he)
  · obtain ⟨a, B, sI, pins', σ', H', cls, d, rfl, J0, nb, up, sky, na, os, ag, wish⟩ := xx
    have J : Inv X pins σ' H' sI := J0.ofTry ok
    have sky2 : Sky B (X.env :: X.outer) a (Zc cls d) X.env.locals s'.heap := by rw [← hstk]; exact sky
    show wpAny (model X.prog X.w) X.A (noteFrame (.ref a) X.env) _ _ _
    refine Sky.land Zc.steady frames hfr sky2 fun g3 fl3 up3 => ?_
    have J3 : Inv X pins σ' H' { s' with heap := g3 } := J.landed nb fl3.1 (up.trans up3) os ag
    obtain ⟨oe3, vs3, at3, hz3, hd3⟩ := fl3.there
    have far : a ∉ frs (X.env :: X.outer) := by
      intro hm
      obtain ⟨_, o', e', hnf⟩ := Heap.FunFrames.mem fl3.2.2.1 hm
      rw [at3] at e'
      cases e'
      exact hnf _ hd3
    have nL : a ≠ X.env.locals := fun z => far (List.mem_filterMap.mpr ⟨X.env, List.mem_cons_self, by rw [hfr, z]⟩)
    have nF : a ∉ X.fs := by
      intro hm
      obtain ⟨e, he, q⟩ := List.mem_filterMap.mp hm
      exact far (List.mem_filterMap.mpr ⟨e, List.mem_cons_of_mem _ he, q⟩)
    have S3 := J3.suite at3 hd3 na nL nF
    have LT : PySem.W.Looks (model X.prog X.w) g3 (typeOf (.ref a)) cls := fun A Q E s k q => wpAny_typeOf_ref (k _ _ at3) (by rw [hz3.1]; exact q)
    have look : ∀ {x : Str} {c : Value} {np : Pos}, Names X x c → ∀ {Q : Value → Shared → Prop} {E : Value → Shared → Prop}, Q c { s' with heap := g3 } →
        wpAny (model X.prog X.w) (X.A.mark (some (.ref a))) (eval (.Name x np) X.env) Q E { s' with heap := g3 } := by
      intro x c np hc Q E q
      obtain ⟨hg, hdbg, hm | ⟨hm, hv, hnn⟩⟩ := hc
      · exact ld_glob (X := X.suite a ((a, oe3) :: (X.pn ++ pins))) S3 hg hm q hdbg
      · exact ld_blt (X := X.suite a ((a, oe3) :: (X.pn ++ pins))) S3 hg hm hv q hnn hdbg
    have go : ∀ {hs' : List ExceptHandler} {l' : List Clause}, Cls2 X hs' l' → wCl X.K Wout D l' cls d σ' H' → wpAny (model X.prog X.w) X.A (handleBy (.ref a) X.env hs') (SP X pins D) X.xe { s' with heap := g3 } := by
      intro hs' l' hk
      induction hk with
      | nil =>
        intro wz
        refine wpAny_handleBy_nil ?_
        obtain ⟨k1, k2, k3, oe, vs, T, oT, ts', he, hz, hd, hf1, hrr⟩ := id fl3
        unfold PySem.passOn
        refine wpAny_bind (wpAny_field he hd hf1 ?_)
        rw [if_neg (show ¬ ((Value.ref T == Value.none) = true) from by simp)]
        have out : wpAny (model X.prog X.w) X.A (setFlight (.ref a) X.env.frame) (fun _ s4 => wpAny (model X.prog X.w) X.A (throw (.ref a) : Sem Flow) (SP X pins D) X.xe s4) X.xe { s' with heap := g3 } := by
          rw [hfr]
          refine HandSPX.setFlight_upZ fl3 fun g4 hh4 up4 => wpAny_throw (tk _ _ ?_)
          exact ⟨a, B, sI, pins, σ', H', cls, d, rfl, J, nb, (up.trans up3).trans up4, .inr (.inr (by rw [hstk]; exact hh4)), na, os, ag, wz⟩
        first
          | exact wpAny_bind (wpAny_pure (wpAny_bind out))
          | exact wpAny_bind out
      | @bare x c ts b0 su p1 p2 hs2 l2 hc hsu r ih =>
        intro wz
        obtain ⟨b, hb1, yes, no⟩ := wz
        refine wpAny_handleBy_cons (codeAny_handlers_test ?_) (by intro q; cases q)
        have LM := PySem.W.exm_one (M := model X.prog X.w) (J3.kIn) LT hb1
        refine look hc (LM.here ?_)
        cases b with
        | true =>
          refine codeAny_handlers_suite ?_
          refine HandSPX.lands_againZ fl3 fun g4 fl4 up4 => ?_
          have J4 : Inv X pins σ' H' { s' with heap := g4 } := J.landed nb fl4.1 ((up.trans up3).trans up4) os ag
          obtain ⟨oe4, vs4, at4, hz4, hd4⟩ := fl4.there
          have S4 := J4.suite at4 hd4 na nL nF
          refine wpAny_mono ((hsu a oe4 cls d (X.pn ++ pins) hz4 ⟨_, hd4⟩).run [] _ _ H' _ S4 (yes rfl a na)) (fun f s6 hsp => ?_) (fun _ _ z => False.elim z)
          cases f with
          | ret u =>
            obtain ⟨v6, σ6, H6, S6, r6, q6⟩ := hsp
            exact ⟨_, _, _, S6.unsuite ok, r6, q6⟩
          | next =>
            obtain ⟨σ6, H6, S6, q6⟩ := hsp
            exact ⟨_, _, S6.unsuite ok, q6⟩
          | brk =>
            obtain ⟨σ6, H6, S6, q6⟩ := hsp
            exact ⟨_, _, S6.unsuite ok, q6⟩
          | cont =>
            obtain ⟨σ6, H6, S6, q6⟩ := hsp
            exact ⟨_, _, S6.unsuite ok, q6⟩
        | false =>
          show wpAny _ X.A (handleBy (.ref a) X.env hs2) _ _ _
          exact ih (no rfl)
      | @named x n i c ts b0 su p1 p2 hs2 l2 hc hi hln hsu r ih =>
        intro wz
        obtain ⟨b, hb1, yes, no⟩ := wz
        have hloc : Loc X.env.scope n := .inl hln
        refine wpAny_handleBy_cons (codeAny_handlers_test ?_) (by intro q; cases q)
        have LM := PySem.W.exm_one (M := model X.prog X.w) (J3.kIn) LT hb1
        refine look hc (LM.here ?_)
        cases b with
        | true =>
          refine codeAny_handlers_suite_as ?_
          refine HandSPX.lands_againZ fl3 fun g4 fl4 up4 => ?_
          have J4 : Inv X pins σ' H' { s' with heap := g4 } := J.landed nb fl4.1 ((up.trans up3).trans up4) os ag
          obtain ⟨oe4, vs4, at4, hz4, hd4⟩ := fl4.there
          have S4 := J4.suite at4 hd4 na nL nF
          refine store_ok (X := X.suite a ((a, oe4) :: (X.pn ++ pins))) (v := .ref a) S4 hN hi hloc rfl (fun s5 S5 => ?_) (.inr hln)
          refine wpAny_mono ((hsu a oe4 cls d (X.pn ++ pins) hz4 ⟨_, hd4⟩).run [] s5 _ H' _ S5 (yes rfl a na)) (fun f s6 hsp => ?_) (fun _ _ z => False.elim z)
          have gone : ∀ {σ6 : St} {H6 : Hp} {Q : Shared → Prop}, Inv (X.suite a ((a, oe4) :: (X.pn ++ pins))) [] σ6 H6 s6 → (∀ s7, Inv X pins (σ6.set i none) H6 s7 → Q s7) →
              wpAny (model X.prog X.w) X.A (do bindName X.env n .none; unbindBehindTheSuite X.env n p2) (fun _ s7 => Q s7) X.xe s6 := fun {σ6 H6 Q} S6 hq => gone_ok (S6.unsuite ok) hN hi hln hq
          cases f with
          | ret u =>
            obtain ⟨v6, σ6, H6, S6, r6, q6⟩ := hsp
            exact gone S6 fun s7 J7 => ⟨_, _, _, J7, r6, q6⟩
          | next =>
            obtain ⟨σ6, H6, S6, q6⟩ := hsp
            exact gone S6 fun s7 J7 => ⟨_, _, J7, q6⟩
          | brk =>
            obtain ⟨σ6, H6, S6, q6⟩ := hsp
            exact gone S6 fun s7 J7 => ⟨_, _, J7, q6⟩
          | cont =>
            obtain ⟨σ6, H6, S6, q6⟩ := hsp
            exact gone S6 fun s7 J7 => ⟨_, _, J7, q6⟩
        | false =>
          show wpAny _ X.A (handleBy (.ref a) X.env hs2) _ _ _
          exact ih (no rfl)
    exact go hh wish
  cases f with
  | ret u =>
    obtain ⟨v, σ', H', J', r, q⟩ := hsp
    exact ⟨v, σ', H', J'.ofTry ok, r, q⟩
  | next =>
    obtain ⟨σ', H', J', q⟩ := hsp
    exact wpAny_execs_nil ⟨σ', H', J'.ofTry ok, q⟩
  | brk =>
    obtain ⟨σ', H', J', q⟩ := hsp
    exact ⟨σ', H', J'.ofTry ok, q⟩
  | cont =>
    obtain ⟨σ', H', J', q⟩ := hsp
    exact ⟨σ', H', J'.ofTry ok, q⟩
end
end Fc
end L2
set_option Elab.async false
set_option linter.all false
set_option maxRecDepth 100000
set_option maxHeartbeats 4000000
/-! A source of draws at a: the one thing that a law's helpers change; all else is frozen. -/
namespace L2
namespace Fc
open PySem PySem.Spec PyProof.Rows
def Src (H : Hp) (a : Addr) : Prop := ∃ x y z : Int, H a = some (.lst [.int x, .int y, .int z])
theorem Src.upd {H : Hp} {a : Addr} {x y z : Int} : Src (upd H a (.lst [.int x, .int y, .int z])) a := ⟨x, y, z, upd_same⟩
theorem Src.some {H : Hp} {a : Addr} (s : Src H a) : H a ≠ none := by
  obtain ⟨x, y, z, e⟩ := s
  intro q
  rw [e] at q
  cases q
/-- all but the source -/
abbrev Fz (a : Addr) (H : Hp) : Hp := hide [a] H
theorem fz_ne {a b : Addr} {H : Hp} (h : b ≠ a) : Fz a H b = H b := hide_out (by simpa using h)
theorem fz_at {a : Addr} {H : Hp} : Fz a H a = none := hide_in (by simp)
/-- what a helper does to the heap -/
structure Adv (a : Addr) (H H' : Hp) : Prop where
  fz : Same (Fz a H) (Fz a H')
  src : Src H' a
theorem Adv.refl {a : Addr} {H : Hp} (s : Src H a) : Adv a H H := ⟨Same.refl _, s⟩
theorem Adv.trans {a : Addr} {H H1 H2 : Hp} (p : Adv a H H1) (q : Adv a H1 H2) : Adv a H H2 := ⟨p.fz.trans q.fz, q.src⟩
theorem Adv.get {a b : Addr} {H H' : Hp} {o : HO} (p : Adv a H H') (n : b ≠ a) (e : H b = some o) : H' b = some o := by
  have z := p.fz b o (by rw [fz_ne n]; exact e)
  rw [fz_ne n] at z
  exact z
theorem Adv.of_same {a : Addr} {H H' : Hp} (s : Src H a) (e : Same H H') : Adv a H H' := by
  refine ⟨fun b o q => ?_, ?_⟩
  · by_cases hb : b = a
    · subst hb
      rw [fz_at] at q
      cases q
    · rw [fz_ne hb] at q ⊢
      exact e b o q
  · obtain ⟨x, y, z, es⟩ := s
    exact ⟨x, y, z, e _ _ es⟩
theorem Adv.new {a p : Addr} {H H' : Hp} {o : HO} (q : Adv a H H') (n : H' p = none) : Adv a H (upd H' p o) := q.trans (Adv.of_same q.src (Same.put n))
theorem Adv.draw {a : Addr} {H : Hp} {x y z : Int} : Adv a H (upd H a (.lst [.int x, .int y, .int z])) := by
  refine ⟨fun b o q => ?_, Src.upd⟩
  by_cases hb : b = a
  · subst hb
    rw [fz_at] at q
    cases q
  · rw [fz_ne hb] at q ⊢
    rw [upd_ne hb]
    exact q
theorem Adv.ob {K : PySem.W.Frag} {a : Addr} {H H' : Hp} {v : V} {o : O} (p : Adv a H H') (h : Ob K (Fz a H) v o) : Ob K (Fz a H') v o := h.mono p.fz
theorem fz_same {a : Addr} {H : Hp} : Same (Fz a H) H := hide_same _ _
/-- a new tuple -/
theorem tup_new {K : PySem.W.Frag} {a p : Addr} {H : Hp} {xs : List V} {os : List O} (s : Src H a) (n : H p = none) (h : Obs K (Fz a H) xs os) (l : os.length < 20000) : Ob K (Fz a (upd H p (.tup xs))) (.ref p) (.tup os) := by
  have hp : p ≠ a := fun z => s.some (by rw [← z]; exact n)
  refine .tup (SqT.of ?_) (h.mono (Adv.new (Adv.refl s) n).fz) l
  rw [fz_ne hp]
  exact upd_same
theorem str_ob {K : PySem.W.Frag} {H : Hp} (x : Str) (h : x.length ≤ 100 := by decide) : Ob K H (.str x) (.str x) := .str x (Nat.le_trans h (by decide))

/-! ### what is laid around an object -/
inductive Wr : O → O → Prop
  | seq (o : O) : Wr o (.tup [.str "seq", .tup [o]])
  | whi (o : O) : Wr o (.tup [.str "while", .str "w", o])
  | try_ (o : O) : Wr o (.tup [.str "try", o, .tup [.str "do", .str "h"]])
  | fin (o : O) : Wr o (.tup [.str "final", o, .tup [.str "do", .str "f"]])
  | if_ (o : O) : Wr o (.tup [.str "if", .str "i", o, .tup [.str "raise"]])
inductive Wraps : Nat → O → O → Prop
  | zero (o : O) : Wraps 0 o o
  | succ {n : Nat} {o u t : O} : Wraps n o u → Wr u t → Wraps (n + 1) o t
def block (o : O) : O := .tup [.str "final", .tup [.str "call", .str "x"], o]
def blocks : Nat → O → O
  | 0, o => o
  | n + 1, o => block (blocks n o)
end Fc
end L2
set_option Elab.async false
set_option linter.all false
set_option maxRecDepth 100000
set_option maxHeartbeats 4000000
/-! Runs of the numbering over leaves, chains and what is laid around. -/
namespace L2
namespace Fc
open PySem PySem.Spec PyProof.Rows

theorem judge_ok {n : Nat} {s : Spot} (h1 : n < 400) (h2 : s.lev ≤ 100) (h3 : s.lay.length ≤ 25) (h4 : s.o.isStmt s.wh = true) : judge n s = none := by
  unfold judge
  rw [if_neg (by omega), if_neg (by omega), if_neg (by omega), if_pos h4]
theorem judge_400 {n : Nat} {s : Spot} (h : 400 ≤ n) : judge n s = some (.lim 400) := by
  unfold judge
  rw [if_pos h]
theorem judge_100 {n : Nat} {s : Spot} (h1 : n < 400) (h : 100 < s.lev) : judge n s = some (.lim 100) := by
  unfold judge
  rw [if_neg (by omega), if_pos h]
theorem judge_25 {n : Nat} {s : Spot} (h1 : n < 400) (h2 : s.lev ≤ 100) (h : 25 < s.lay.length) : judge n s = some (.lim 25) := by
  unfold judge
  rw [if_neg (by omega), if_neg (by omega), if_pos h]
theorem judge_bad {n : Nat} {s : Spot} (h1 : n < 400) (h2 : s.lev ≤ 100) (h3 : s.lay.length ≤ 25) (h4 : s.o.isStmt s.wh = false) : judge n s = some (.bad n) := by
  unfold judge
  rw [if_neg (by omega), if_neg (by omega), if_neg (by omega), if_neg (by rw [h4]; exact Bool.false_ne_true)]
theorem inside_of {o : O} {n : Nat} {s : Spot} (e : s.o = o) (k : o.kind ≠ "final") : inside n s = o.parts.map (inner n s) := by
  unfold inside
  rw [e, if_neg k]
/-- a leaf: nothing in it, good anywhere -/
structure Leaf (o : O) : Prop where
  st : ∀ wh, o.isStmt wh = true
  parts : o.parts = []
  kind : o.kind ≠ "final"
theorem Leaf.inside {o : O} (l : Leaf o) {n : Nat} {s : Spot} (e : s.o = o) : inside n s = [] := by
  unfold Fc.inside
  rw [e, if_neg l.kind, l.parts]
  rfl
theorem leaf_do (x : Str) (h : nameOk x = true) : Leaf (.tup [.str "do", .str x]) := ⟨fun _ => h, rfl, show ¬ ("do" : Str) = "final" by decide⟩
theorem leaf_call (x : Str) (h : nameOk x = true) : Leaf (.tup [.str "call", .str x]) := ⟨fun _ => h, rfl, show ¬ ("call" : Str) = "final" by decide⟩
theorem leaf_raise : Leaf (.tup [.str "raise"]) := ⟨fun _ => rfl, rfl, by decide⟩
theorem runs_leaf {o : O} (l : Leaf o) {s : Spot} {rest rows : List Spot} {res : Except Err (List Spot)} (e : s.o = o) (h1 : rows.length < 400) (h2 : s.lev ≤ 100) (h3 : s.lay.length ≤ 25) (h : Runs rest (rows ++ [s]) res) : Runs (s :: rest) rows res := by
  refine .step (judge_ok h1 h2 h3 (by rw [e]; exact l.st _)) ?_
  rw [l.inside e]
  exact h
/-- many leaves -/
theorem runs_leaves {o : O} (l : Leaf o) : ∀ {ss rest rows : List Spot} {res : Except Err (List Spot)}, (∀ s ∈ ss, s.o = o ∧ s.lev ≤ 100 ∧ s.lay.length ≤ 25) → rows.length + ss.length ≤ 400 →
    Runs rest (rows ++ ss) res → Runs (ss ++ rest) rows res
  | [], rest, rows, res, _, _, h => by
    rw [List.append_nil] at h
    exact h
  | s :: ss, rest, rows, res, g, len, h => by
    rw [List.length_cons] at len
    obtain ⟨g1, g2, g3⟩ := g s List.mem_cons_self
    refine runs_leaf l g1 (by omega) g2 g3 (runs_leaves l (fun x hx => g x (List.mem_cons_of_mem _ hx)) ?_ ?_)
    · rw [List.length_append, List.length_singleton]
      omega
    · rw [List.append_assoc]
      exact h
/-- more than fit -/
theorem runs_over {o : O} (l : Leaf o) : ∀ {ss rest rows : List Spot}, (∀ s ∈ ss, s.o = o ∧ s.lev ≤ 100 ∧ s.lay.length ≤ 25) → rows.length ≤ 400 → 400 < rows.length + ss.length → Runs (ss ++ rest) rows (.error (.lim 400))
  | [], rest, rows, _, h1, h2 => by
    simp at h2
    omega
  | s :: ss, rest, rows, g, h1, h2 => by
    by_cases e : rows.length = 400
    · exact .bad (judge_400 (by omega))
    · obtain ⟨g1, g2, g3⟩ := g s List.mem_cons_self
      rw [List.length_cons] at h2
      refine runs_leaf l g1 (by omega) g2 g3 (runs_over l (fun x hx => g x (List.mem_cons_of_mem _ hx)) ?_ ?_)
      · rw [List.length_append, List.length_singleton]
        omega
      · rw [List.length_append, List.length_singleton]
        omega
theorem seq_inside {os : List O} {n : Nat} {s : Spot} (e : s.o = .tup [.str "seq", .tup os]) : inside n s = os.map (inner n s) := by
  rw [inside_of e (show ¬ ("seq" : Str) = "final" by decide)]
  rfl
theorem seq_stmt {os : List O} (h : os ≠ []) (wh : Nat) : O.isStmt (.tup [.str "seq", .tup os]) wh = true := by
  cases os with
  | nil => exact absurd rfl h
  | cons _ _ => rfl
/-- what is laid around u is a statement whose first part is u; a leaf may follow -/
theorem wr_inside {u t : O} (h : Wr u t) : (∀ wh, t.isStmt wh = true) ∧ ∀ (n : Nat) (s : Spot), s.o = t → ∃ (s1 : Spot) (tail : List Spot), inside n s = s1 :: tail ∧ s1.o = u ∧ s1.lev = s.lev + 1 ∧ s1.lay = s.lay ∧ tail.length ≤ 1 ∧
    ∀ x ∈ tail, Leaf x.o ∧ x.lev = s.lev + 1 ∧ x.lay.length ≤ s.lay.length + 1 := by
  cases h with
  | seq =>
    refine ⟨fun wh => rfl, fun n s e => ⟨inner n s u, [], ?_, rfl, rfl, rfl, by simp, fun x hx => nomatch hx⟩⟩
    rw [seq_inside e]
    rfl
  | whi =>
    refine ⟨fun wh => rfl, fun n s e => ⟨inner n s u, [], ?_, rfl, rfl, rfl, by simp, fun x hx => nomatch hx⟩⟩
    rw [inside_of e (show ¬ ("while" : Str) = "final" by decide)]
    rfl
  | try_ =>
    refine ⟨fun wh => rfl, fun n s e => ⟨inner n s u, [inner n s (.tup [.str "do", .str "h"])], ?_, rfl, rfl, rfl, by simp, fun x hx => ?_⟩⟩
    · rw [inside_of e (show ¬ ("try" : Str) = "final" by decide)]
      rfl
    · rw [List.mem_singleton] at hx
      subst hx
      exact ⟨leaf_do "h" (by decide), rfl, Nat.le_succ _⟩
  | fin =>
    refine ⟨fun wh => rfl, fun n s e => ⟨inner n s u, [inBlock n s (.tup [.str "do", .str "f"])], ?_, rfl, rfl, rfl, by simp, fun x hx => ?_⟩⟩
    · unfold inside
      rw [e, if_pos (by rfl)]
      rfl
    · rw [List.mem_singleton] at hx
      subst hx
      refine ⟨leaf_do "f" (by decide), rfl, ?_⟩
      show (s.lay ++ [n]).length ≤ _
      rw [List.length_append]
      exact Nat.le_refl _
  | if_ =>
    refine ⟨fun wh => rfl, fun n s e => ⟨inner n s u, [inner n s (.tup [.str "raise"])], ?_, rfl, rfl, rfl, by simp, fun x hx => ?_⟩⟩
    · rw [inside_of e (show ¬ ("if" : Str) = "final" by decide)]
      rfl
    · rw [List.mem_singleton] at hx
      subst hx
      exact ⟨leaf_raise, rfl, Nat.le_succ _⟩
/-- going down: k levels, then the innermost; others wait -/
theorem runs_down : ∀ {k : Nat} {u t : O}, Wraps k u t → ∀ {s : Spot} {rest rows : List Spot} {res : Except Err (List Spot)}, s.o = t → s.lev + k ≤ 101 → s.lay.length ≤ 25 → rows.length + k ≤ 400 →
    (∀ (s1 : Spot) (rest1 rows1 : List Spot), s1.o = u → s1.lev = s.lev + k → s1.lay = s.lay → rows1.length = rows.length + k → Runs (s1 :: rest1) rows1 res) → Runs (s :: rest) rows res := by
  intro k u t h
  induction h with
  | zero => 
    intro s rest rows res e _ _ _ g
    exact g s rest rows e rfl rfl rfl
  | @succ n o u t hw hr ih =>
    intro s rest rows res e h1 h2 h3 g
    obtain ⟨st, ins⟩ := wr_inside hr
    obtain ⟨s1, tail, ei, e1, e2, e3, _, _⟩ := ins rows.length s e
    refine .step (judge_ok (by omega) (by omega) h2 (by rw [e]; exact st _)) ?_
    rw [ei, List.cons_append]
    refine ih e1 (by omega) (by rw [e3]; exact h2) (by rw [List.length_append, List.length_singleton]; omega) ?_
    intro s2 rest2 rows2 f1 f2 f3 f4
    refine g s2 rest2 rows2 f1 (by omega) (by rw [f3, e3]) ?_
    rw [f4, List.length_append, List.length_singleton]
    omega
/-- the statement of s is numbered whole, from rows to rows2 -/
def Eats (s : Spot) (rows rows2 : List Spot) : Prop := ∀ (rest : List Spot) (res : Except Err (List Spot)), Runs rest rows2 res → Runs (s :: rest) rows res
/-- k levels around what takes m rows -/
theorem runs_whole : ∀ {k : Nat} {u t : O}, Wraps k u t → ∀ (m : Nat) {s : Spot} {rows : List Spot}, s.o = t → s.lev + k ≤ 100 → s.lay.length + 1 ≤ 25 → rows.length + 2 * k + m ≤ 400 →
    (∀ (s1 : Spot) (rows1 : List Spot), s1.o = u → s1.lev = s.lev + k → s1.lay = s.lay → rows1.length + m ≤ 400 → ∃ rows2, rows2.length ≤ rows1.length + m ∧ Eats s1 rows1 rows2) →
    ∃ rows2, rows2.length ≤ rows.length + 2 * k + m ∧ Eats s rows rows2 := by
  intro k u t h
  induction h with
  | zero =>
    intro m s rows e _ _ h3 g
    obtain ⟨rows2, e2, f⟩ := g s rows e rfl rfl (by omega)
    exact ⟨rows2, by omega, f⟩
  | @succ n o u t hw hr ih =>
    intro m s rows e h1 h2 h3 g
    obtain ⟨st, ins⟩ := wr_inside hr
    obtain ⟨s1, tail, ei, e1, e2, e3, tl, tg⟩ := ins rows.length s e
    have r1 : (rows ++ [s]).length = rows.length + 1 := by rw [List.length_append, List.length_singleton]
    obtain ⟨rows2, l2, eat⟩ := ih m (rows := rows ++ [s]) e1 (by omega) (by rw [e3]; exact h2) (by omega) (fun s2 rows2 f1 f2 f3 f4 => g s2 rows2 f1 (by omega) (by rw [f3, e3]) f4)
    have first : ∀ rest res, Runs (tail ++ rest) rows2 res → Runs (s :: rest) rows res := by
      intro rest res hh
      refine .step (judge_ok (by omega) (by omega) (by omega) (by rw [e]; exact st _)) ?_
      rw [ei, List.cons_append]
      exact eat _ _ hh
    match tail, tl, tg, first with
    | [], _, _, first => exact ⟨rows2, by omega, fun rest res hh => first rest res hh⟩
    | [x], _, tg, first =>
      obtain ⟨g1, g2, g3⟩ := tg x List.mem_cons_self
      refine ⟨rows2 ++ [x], by rw [List.length_append, List.length_singleton]; omega, fun rest res hh => first rest res ?_⟩
      exact runs_leaf g1 rfl (by omega) (by omega) (by omega) hh
theorem block_inside {o : O} {n : Nat} {s : Spot} (e : s.o = block o) : inside n s = [inner n s (.tup [.str "call", .str "x"]), inBlock n s o] := by
  unfold inside block at *
  rw [e, if_pos (by rfl)]
  rfl
/-- down through blocks -/
theorem blocks_down (n : Nat) (o : O) : ∀ (j : Nat) {s : Spot} {rest rows : List Spot} {res : Except Err (List Spot)}, s.o = blocks (j + n) o → s.lev + j ≤ 100 → s.lay.length + j ≤ 26 → rows.length + 2 * j ≤ 400 →
    (∀ (s1 : Spot) (rows1 : List Spot), s1.o = blocks n o → s1.lev = s.lev + j → s1.lay.length = s.lay.length + j → rows1.length = rows.length + 2 * j → Runs (s1 :: rest) rows1 res) → Runs (s :: rest) rows res
  | 0, s, rest, rows, res, e, _, _, _, g => g s rows (by rw [e, Nat.zero_add]) rfl rfl rfl
  | j + 1, s, rest, rows, res, e, h1, h2, h3, g => by
    have e' : s.o = block (blocks (j + n) o) := by
      rw [e, show j + 1 + n = (j + n) + 1 by omega]
      rfl
    refine .step (judge_ok (by omega) (by omega) (by omega) (by rw [e']; rfl)) ?_
    rw [block_inside e']
    have r1 : (rows ++ [s]).length = rows.length + 1 := by rw [List.length_append, List.length_singleton]
    refine runs_leaf (leaf_call "x" (by decide)) rfl (by omega) (by show s.lev + 1 ≤ 100; omega) (by show s.lay.length ≤ 25; omega) ?_
    have r2 : (rows ++ [s] ++ [inner rows.length s (.tup [.str "call", .str "x"])]).length = rows.length + 2 := by rw [List.length_append, List.length_singleton, r1]
    have l2 : (inBlock rows.length s (blocks (j + n) o)).lay.length = s.lay.length + 1 := by
      show (s.lay ++ [rows.length]).length = _
      rw [List.length_append, List.length_singleton]
    refine blocks_down n o j rfl (by show s.lev + 1 + j ≤ 100; omega) (by omega) (by omega) fun s1 rows1 f1 f2 f3 f4 => ?_
    refine g s1 rows1 f1 ?_ (by omega) (by omega)
    have z : (inBlock rows.length s (blocks (j + n) o)).lev = s.lev + 1 := rfl
    omega

/-! ### what Code makes of the law's objects -/
def doO (x : Str) : O := .tup [.str "do", .str x]
def seqO (os : List O) : O := .tup [.str "seq", .tup os]
theorem codes_seq {os : List O} {res : Except Err (List Spot)} (h : os ≠ []) (k : Runs (os.map (inner 0 (root (seqO os)))) [root (seqO os)] res) : Codes (seqO os) res := by
  refine .step (judge_ok (by decide) (by show 1 ≤ 100; decide) (by show 0 ≤ 25; decide) (seq_stmt h _)) ?_
  rw [seq_inside (os := os) rfl, List.append_nil]
  exact k
theorem map_leaves {o : O} {n : Nat} {s0 : Spot} (h1 : s0.lev < 100) (h2 : s0.lay.length ≤ 25) (k : Nat) : ∀ s ∈ (List.replicate k o).map (inner n s0), s.o = o ∧ s.lev ≤ 100 ∧ s.lay.length ≤ 25 := by
  intro s hs
  obtain ⟨u, hu, rfl⟩ := List.mem_map.mp hs
  rw [List.mem_replicate] at hu
  rw [hu.2]
  exact ⟨rfl, h1, h2⟩
theorem codes_400 {o : O} (l : Leaf o) : ∃ rows : List Spot, rows.length = 400 ∧ Codes (seqO (List.replicate 399 o)) (.ok rows) := by
  refine ⟨[root (seqO (List.replicate 399 o))] ++ (List.replicate 399 o).map (inner 0 (root (seqO (List.replicate 399 o)))), by rw [List.length_append, List.length_map, List.length_replicate]; rfl, ?_⟩
  refine codes_seq (by rw [List.replicate_succ]; simp) ?_
  have z := runs_leaves l (rest := []) (rows := [root (seqO (List.replicate 399 o))]) (map_leaves (n := 0) (s0 := root (seqO (List.replicate 399 o))) (by decide : 1 < 100) (by decide : 0 ≤ 25) 399) (by rw [List.length_map, List.length_replicate]; show 1 + 399 ≤ 400; decide) .nil
  rw [List.append_nil] at z
  exact z
theorem codes_over {o : O} (l : Leaf o) (x : O) (more : List O) : Codes (seqO (List.replicate 399 o ++ x :: more)) (.error (.lim 400)) := by
  refine codes_seq (by simp) ?_
  rw [List.map_append]
  refine runs_leaves l (map_leaves (n := 0) (s0 := root (seqO (List.replicate 399 o ++ x :: more))) (by show 1 < 100; decide) (by show 0 ≤ 25; decide) 399) (by rw [List.length_map, List.length_replicate]; show 1 + 399 ≤ 400; decide) ?_
  rw [List.map_cons]
  refine .bad (judge_400 ?_)
  rw [List.length_append, List.length_map, List.length_replicate]
  show 400 ≤ 1 + 399
  decide
theorem codes_first {o : O} (l : Leaf o) (k : Nat) (hk : k ≤ 398) (more : List O) : Codes (seqO (List.replicate k o ++ .non :: more)) (.error (.bad (k + 1))) := by
  refine codes_seq (by simp) ?_
  rw [List.map_append]
  refine runs_leaves l (map_leaves (n := 0) (s0 := root (seqO (List.replicate k o ++ .non :: more))) (by show 1 < 100; decide) (by show 0 ≤ 25; decide) k) (by rw [List.length_map, List.length_replicate]; show 1 + k ≤ 400; omega) ?_
  rw [List.map_cons]
  have e : ([root (seqO (List.replicate k o ++ .non :: more))] ++ (List.replicate k o).map (inner 0 (root (seqO (List.replicate k o ++ .non :: more))))).length = k + 1 := by
    rw [List.length_append, List.length_map, List.length_replicate, List.length_singleton]
    omega
  have z := judge_bad (n := k + 1) (s := inner 0 (root (seqO (List.replicate k o ++ .non :: more))) .non) (by omega) (by show 2 ≤ 100; decide) (by show 0 ≤ 25; decide) rfl
  exact .bad (by rw [e]; exact z)
theorem codes_fine {o u : O} (l : Leaf o) (h : Wraps 99 o u) : ∃ rows, Codes u (.ok rows) := by
  obtain ⟨rows2, _, eat⟩ := runs_whole h 1 (s := root u) (rows := []) rfl (by decide : 1 + 99 ≤ 100) (by decide : 0 + 1 ≤ 25) (by decide : 0 + 2 * 99 + 1 ≤ 400) (fun s1 rows1 e1 e2 e3 e4 => ⟨rows1 ++ [s1], by simp, fun rest res hh => runs_leaf l e1 (by omega) (by rw [e2]; show 1 + 99 ≤ 100; decide) (by rw [e3]; show 0 ≤ 25; decide) hh⟩)
  exact ⟨rows2, eat [] _ .nil⟩
theorem codes_deep {o u : O} (h : Wraps 100 o u) : Codes u (.error (.lim 100)) := by
  refine runs_down h (s := root u) (rows := []) rfl (by decide : 1 + 100 ≤ 101) (by decide : 0 ≤ 25) (by decide : 0 + 100 ≤ 400) fun s1 rest1 rows1 f1 f2 f3 f4 => ?_
  refine .bad (judge_100 (by rw [f4]; decide) (by rw [f2]; show 100 < 1 + 100; decide))
theorem codes_deep2 {u x y : O} {o : O} (l : Leaf o) (h : Wraps 99 x u) : Codes (seqO [o, u, y]) (.error (.lim 100)) := by
  refine codes_seq (by simp) ?_
  rw [List.map_cons, List.map_cons]
  refine runs_leaf l rfl (by decide : 1 < 400) (by show 2 ≤ 100; decide) (by show 0 ≤ 25; decide) ?_
  refine runs_down h rfl (by show 2 + 99 ≤ 101; decide) (by show 0 ≤ 25; decide) (by show 2 + 99 ≤ 400; decide) fun s1 rest1 rows1 f1 f2 f3 f4 => ?_
  refine .bad (judge_100 (by rw [f4]; show 2 + 99 < 400; decide) ?_)
  rw [f2]
  show 100 < 2 + 99
  decide
theorem codes_bad1 (i : Int) (more : List O) : Codes (seqO (.int i :: more)) (.error (.bad 1)) := by
  refine codes_seq (by simp) ?_
  rw [List.map_cons]
  exact .bad (judge_bad (n := 1) (by decide) (by show 2 ≤ 100; decide) (by show 0 ≤ 25; decide) rfl)
theorem eats_blocks25 {o : O} (l : Leaf o) {s : Spot} {rows : List Spot} (e : s.o = blocks 25 o) (h1 : s.lev + 25 ≤ 100) (h2 : s.lay.length = 0) (h3 : rows.length + 51 ≤ 400) : ∃ rows2, rows2.length = rows.length + 51 ∧ Eats s rows rows2 := by
  -- the rows that come do not hang on what waits
  have run : ∀ (j : Nat) (t : Spot) (rs : List Spot), t.o = blocks j o → t.lev + j ≤ 100 → t.lay.length + j ≤ 25 → rs.length + 2 * j + 1 ≤ 400 → ∃ rows2, rows2.length = rs.length + 2 * j + 1 ∧ Eats t rs rows2 := by
    intro j
    induction j with
    | zero =>
      intro t rs et g1 g2 g3
      exact ⟨rs ++ [t], by rw [List.length_append, List.length_singleton], fun rest res hh => runs_leaf l et (by omega) (by omega) (by omega) hh⟩
    | succ j ih =>
      intro t rs et g1 g2 g3
      have et' : t.o = block (blocks j o) := et
      have l2 : (inBlock rs.length t (blocks j o)).lay.length = t.lay.length + 1 := by
        show (t.lay ++ [rs.length]).length = _
        rw [List.length_append, List.length_singleton]
      have v2 : (inBlock rs.length t (blocks j o)).lev = t.lev + 1 := rfl
      have r1 : (rs ++ [t]).length = rs.length + 1 := by rw [List.length_append, List.length_singleton]
      have r2 : (rs ++ [t] ++ [inner rs.length t (.tup [.str "call", .str "x"])]).length = rs.length + 2 := by rw [List.length_append, List.length_singleton, r1]
      obtain ⟨rows2, e2, eat⟩ := ih (inBlock rs.length t (blocks j o)) (rs ++ [t] ++ [inner rs.length t (.tup [.str "call", .str "x"])]) rfl (by omega) (by omega) (by omega)
      refine ⟨rows2, by omega, fun rest res hh => ?_⟩
      refine .step (judge_ok (by omega) (by omega) (by omega) (by rw [et']; rfl)) ?_
      rw [block_inside et']
      refine runs_leaf (leaf_call "x" (by decide)) rfl (by omega) (by show t.lev + 1 ≤ 100; omega) (by show t.lay.length ≤ 25; omega) ?_
      exact eat rest res hh
  obtain ⟨rows2, e2, eat⟩ := run 25 s rows e h1 (by omega) (by omega)
  exact ⟨rows2, by omega, eat⟩
theorem codes_blocks25 {o : O} (l : Leaf o) : ∃ rows : List Spot, rows.length = 51 ∧ Codes (blocks 25 o) (.ok rows) := by
  obtain ⟨rows2, e2, eat⟩ := eats_blocks25 l (s := root (blocks 25 o)) (rows := []) rfl (by show 1 + 25 ≤ 100; decide) rfl (by decide)
  exact ⟨rows2, e2, eat [] _ .nil⟩
theorem codes_blocks26 (o : O) : Codes (blocks 26 o) (.error (.lim 25)) := by
  refine blocks_down 0 o 26 (s := root (blocks 26 o)) (rows := []) rfl (by show 1 + 26 ≤ 100; decide) (by show 0 + 26 ≤ 26; decide) (by decide) fun s1 rows1 f1 f2 f3 f4 => ?_
  exact .bad (judge_25 (by rw [f4]; decide) (by rw [f2]; show 1 + 26 ≤ 100; decide) (by rw [f3]; show 25 < 0 + 26; decide))
theorem codes_mixed {o u : O} (l : Leaf o) {n : Nat} (hn : n < 40) (h : Wraps n (blocks 25 o) u) : ∃ rows, Codes u (.ok rows) := by
  have v0 : (root u).lev = 1 := rfl
  have y0 : (root u).lay = [] := rfl
  obtain ⟨rows2, _, eat⟩ := runs_whole h 51 (s := root u) (rows := []) rfl (by omega) (by rw [y0]; decide) (by show 0 + 2 * n + 51 ≤ 400; omega) (fun s1 rows1 e1 e2 e3 e4 => by
    obtain ⟨rows2, q2, eat⟩ := eats_blocks25 l (s := s1) (rows := rows1) e1 (by omega) (by rw [e3]; rfl) (by omega)
    exact ⟨rows2, by omega, eat⟩)
  exact ⟨rows2, eat [] _ .nil⟩
theorem codes_deep3 {o u : O} (h : Wraps 74 (blocks 26 o) u) : Codes u (.error (.lim 100)) := by
  refine runs_down h (s := root u) (rows := []) rfl (by show 1 + 74 ≤ 101; decide) (by show 0 ≤ 25; decide) (by decide) fun s1 rest1 rows1 f1 f2 f3 f4 => ?_
  have v1 : s1.lev = 75 := by rw [f2]; rfl
  have y1 : s1.lay.length = 0 := by rw [f3]; rfl
  have w1 : rows1.length = 74 := by rw [f4]; rfl
  refine blocks_down 1 o 25 (s := s1) (rest := rest1) (rows := rows1) f1 (by omega) (by omega) (by omega) fun s2 rows2 g1 g2 g3 g4 => ?_
  have g1' : s2.o = block o := g1
  refine .step (judge_ok (by omega) (by omega) (by omega) (by rw [g1']; rfl)) ?_
  rw [block_inside g1']
  refine .bad (judge_100 (by rw [List.length_append, List.length_singleton]; omega) ?_)
  show 100 < s2.lev + 1
  omega
theorem codes_last {u : O} (h : Wraps 74 .non u) : Codes (blocks 25 u) (.error (.bad 124)) := by
  refine blocks_down 0 u 25 (s := root (blocks 25 u)) (rows := []) rfl (by show 1 + 25 ≤ 100; decide) (by show 0 + 25 ≤ 26; decide) (by decide) fun s1 rows1 f1 f2 f3 f4 => ?_
  have v1 : s1.lev = 26 := by rw [f2]; rfl
  have y1 : s1.lay.length = 25 := by rw [f3]; rfl
  have w1 : rows1.length = 50 := by rw [f4]; rfl
  refine runs_down h (s := s1) (rows := rows1) f1 (by omega) (by omega) (by omega) fun s2 rest2 rows2 g1 g2 g3 g4 => ?_
  have e : rows2.length = 124 := by omega
  have z := judge_bad (n := 124) (s := s2) (by decide) (by omega) (by rw [g3]; omega) (by rw [g1]; rfl)
  exact .bad (by rw [e]; exact z)
end Fc
end L2
set_option Elab.async false
set_option linter.all false
set_option maxRecDepth 100000
set_option maxHeartbeats 4000000
namespace L2
namespace K4
open PySem PySem.Spec PyProof.Rows Fc
def top (i : Nat) : Stmt := PySem.Challenge.pw_finallycopies_k04_limits_of_code.main.body.getD i (.Pass ⟨0, 0, 0, 0⟩)
/-- addresses of the top's own things -/
structure Cs where
  (aNAMED aJUMPS aPAIRS aSIZES cCode cCopy cBad cLim iBad iLim : Addr)
structure Txt (K : PySem.W.Frag) (mg : Str → Option Value) (w : World) (c : Cs) : Prop where
  n_len : mg "len" = none
  n_int : mg "int" = none
  n_bool : mg "bool" = none
  n_str : mg "str" = none
  n_tuple : mg "tuple" = none
  n_list : mg "list" = none
  n_all : mg "all" = none
  n_range : mg "range" = none
  n_reversed : mg "reversed" = none
  n_isinstance : mg "isinstance" = none
  g_MOST_STATEMENTS : ∃ u, mg "MOST_STATEMENTS" = some u ∧ RelV (.int 400) u
  g_MOST_LEVELS : ∃ u, mg "MOST_LEVELS" = some u ∧ RelV (.int 100) u
  g_MOST_BLOCKS : ∃ u, mg "MOST_BLOCKS" = some u ∧ RelV (.int 25) u
  g_LONGEST_NAME : ∃ u, mg "LONGEST_NAME" = some u ∧ RelV (.int 8) u
  g_SIZES : ∃ u, mg "SIZES" = some u ∧ RelV (.ref c.aSIZES) u
  g_NAMED : ∃ u, mg "NAMED" = some u ∧ RelV (.ref c.aNAMED) u
  g_JUMPS : ∃ u, mg "JUMPS" = some u ∧ RelV (.ref c.aJUMPS) u
  g_PAIRS : ∃ u, mg "PAIRS" = some u ∧ RelV (.ref c.aPAIRS) u
  g_InvalidCode : mg "InvalidCode" = some (.ref c.cBad)
  g_LimitExceeded : mg "LimitExceeded" = some (.ref c.cLim)
  g_CopyError : mg "CopyError" = some (.ref c.cCopy)
  arB : ArC K c.cBad c.iBad "number"
  arL : ArC K c.cLim c.iLim "limit"
  x_bb : PySem.W.exmOne K (.ref c.cBad) (.ref c.cBad) = some true
  x_lb : PySem.W.exmOne K (.ref c.cLim) (.ref c.cBad) = some false
  x_ll : PySem.W.exmOne K (.ref c.cLim) (.ref c.cLim) = some true
  cl : Cls K c.cCode
  a_st : NoAttr K c.cCode "_statements"
  a_hd : NoAttr K c.cCode "_heads"
  a_pa : NoAttr K c.cCode "_parents"
  a_pt : NoAttr K c.cCode "_parts"
  a_la : NoAttr K c.cCode "_layers"
  kd : ∃ es n, KDict K w c.aSIZES es n
  szs : ∀ z, ∃ r, PySem.W.nsIn K c.aSIZES z = some r ∧ RelO ((szOf z).map fun n => V.int (n : Nat)) r
  tN : ∀ H, SqT K H c.aNAMED [.str "do", .str "call", .str "if", .str "while"]
  tJ : ∀ H, SqT K H c.aJUMPS [.str "break", .str "continue"]
  tP : ∀ H, SqT K H c.aPAIRS [.str "try", .str "final"]
section
variable {P : Program} {w : World} {K : PySem.W.Frag} {mg : Str → Option Value} {base : Heap} {c : Cs}

/-! ### the draws -/
def spDraw : Sp := fun vs H Q _ => ∃ (a : Addr) (m : Int), vs = [.ref a, .int m] ∧ Src H a ∧ 0 < m ∧ m < 1073741824 ∧
  ∀ r x y z : Int, 0 ≤ r → r < m → Q (.int r) (upd H a (.lst [.int x, .int y, .int z]))

abbrev s_draw : Stmt := top 29
theorem sc_draw : FnScope ["_law_source", "_law_many", "_law_found", "_law_mixed"] ["_law_source", "_law_many"] (defScope s_draw) := ⟨rfl, rfl, rfl, by decide +kernel, rfl, by decide +kernel, by decide +kernel⟩
theorem fmod_in {x m : Int} (h : 0 < m) : 0 ≤ x.fmod m ∧ x.fmod m < m := ⟨Int.fmod_nonneg_of_pos x h, Int.fmod_lt_of_pos x h⟩
theorem ok_draw {f : Addr} {fd : FuncData} (F : Fun K "_law_draw" "_law_draw" s_draw f fd) (T : Txt K mg w c) : FnOk P w K mg base CX0 1 f fd ["_law_source", "_law_many"] spDraw := by
  refine F.ok sc_draw (fun vs H Q E h => ?_) (fun cdv A outer s H vs Q E hr h => ?_)
  · obtain ⟨a, m, rfl, _⟩ := h
    rfl
  · obtain ⟨a, m, rfl, ⟨x, y, z, hs⟩, m0, m1, k⟩ := h
    refine ⟨_, (pss_cons (ps_if (pt_cmpR op_gt (pe_ix ix_list (pv 0) pe_int (fun _ _ => rfl)) pe_int (nomark _))
(pss_cons (ps_set (i := 2) sc_draw.nd rfl (Or.inl rfl) (pe_op op_modN (pe_callTy call_int1 (by rfl) T.n_int (by decide +kernel) (pa_cons (pe_ix ix_list (pv 0) pe_int (fun _ _ => rfl)) pa_nil)) (pv 1)))
(pss_cons (ps_asg (pe_op op_fdivN (pe_ix ix_list (pv 0) pe_int (fun _ _ => rfl)) (pv 1)) (pg_sub (pv 0) pe_int set_list))
(pss_one (ps_ret (pv 2)))))
pss_nil)
(pss_cons (ps_asg (pe_op op_add (pe_ix ix_list (pv 0) pe_int (fun _ _ => rfl)) pe_int) (pg_sub (pv 0) pe_int set_list))
(pss_cons (ps_set (i := 3) sc_draw.nd rfl (Or.inl rfl) (pe_op op_mod (pe_callTy call_int1 (by rfl) T.n_int (by decide +kernel) (pa_cons (pe_op op_mul (pe_op op_add (pe_ix ix_list (pv 0) pe_int (fun _ _ => rfl)) (pe_op op_mul pe_int (pe_ix ix_list (pv 0) pe_int (fun _ _ => rfl)))) pe_int) pa_nil)) pe_int))
(pss_cons (ps_set (i := 3) sc_draw.nd rfl (Or.inl rfl) (pe_op op_mod (pe_callTy call_int1 (by rfl) T.n_int (by decide +kernel) (pa_cons (pe_op op_mul (pv 3) (pe_op op_add (pe_op op_add (pe_op op_fdiv (pv 3) pe_int) pe_int) (pe_ix ix_list (pv 0) pe_int (fun _ _ => rfl)))) pa_nil)) pe_int))
(pss_one (ps_ret (pe_op op_modN (pe_callTy call_int1 (by rfl) T.n_int (by decide +kernel) (pa_cons (pe_op op_fdiv (pe_op op_mod (pe_callTy call_int1 (by rfl) T.n_int (by decide +kernel) (pa_cons (pe_op op_mul (pv 3) (pe_op op_add (pe_op op_fdiv (pv 3) pe_int) pe_int)) pa_nil)) pe_int) pe_int) pa_nil)) (pv 1)))))))), ?_⟩
    -- if _law_source[0] > 0
    refine ⟨_, rfl, a, _, _, _, rfl, rfl, SqL.of hs, at_of rfl rfl, _, _, rfl, rfl, _, rfl, ?_⟩
    refine ite2 (fun _ => ?_) (fun _ => ?_)
    · refine ⟨_, rfl, a, _, _, _, rfl, rfl, SqL.of hs, at_of rfl rfl, .inl ⟨_, rfl, ?_⟩⟩
      refine ⟨_, rfl, _, _, rfl, rfl, by omega, ?_⟩
      refine ⟨_, rfl, a, _, _, _, rfl, rfl, SqL.of hs, at_of rfl rfl, _, rfl, _, _, rfl, rfl, ⟨by omega, by omega⟩, ?_⟩
      refine ⟨_, rfl, a, _, _, 0, rfl, rfl, hs, rfl, ?_⟩
      refine ⟨_, rfl, ?_⟩
      exact k _ _ _ _ (fmod_in m0).1 (fmod_in m0).2
    · refine ⟨_, rfl, a, _, _, _, rfl, rfl, SqL.of hs, at_of rfl rfl, _, _, rfl, rfl, ?_⟩
      refine ⟨_, rfl, a, _, _, 2, rfl, rfl, hs, rfl, ?_⟩
      have hs1 : upd H a (.lst [.int x, .int y, .int (z + 1)]) a = some (.lst [.int x, .int y, .int (z + 1)]) := upd_same
      refine ⟨_, rfl, a, _, _, _, rfl, rfl, SqL.of hs1, at_of rfl rfl, _, rfl, a, _, _, _, rfl, rfl, SqL.of hs1, at_of rfl rfl, 8191, z + 1, rfl, rfl, .inl ⟨by decide, by decide⟩, ?_⟩
      refine ⟨y, 8191 * (z + 1), rfl, rfl, y + 8191 * (z + 1), 48271, rfl, rfl, .inr ⟨by decide, by decide⟩, .inl ⟨_, rfl, ?_⟩⟩
      refine ⟨_, 2147483647, rfl, rfl, (by show (0 : Int) < 2147483647; decide), ?_⟩
      have b1 : -(2 ^ 64) < (y + 8191 * (z + 1)) * 48271 % 2147483647 ∧ (y + 8191 * (z + 1)) * 48271 % 2147483647 < 2 ^ 64 := by omega
      refine ⟨_, rfl, _, rfl, _, 1021, rfl, rfl, ⟨by decide, by decide⟩, _, 69621, rfl, rfl, _, rfl, a, _, _, _, rfl, rfl, SqL.of hs1, at_of rfl rfl, _, z + 1, rfl, rfl, ?_⟩
      refine ⟨_, _, rfl, rfl, .inl b1, .inl ⟨_, rfl, ?_⟩⟩
      refine ⟨_, 2147483587, rfl, rfl, (by show (0 : Int) < 2147483587; decide), ?_⟩
      refine ⟨_, rfl, _, rfl, _, 2011, rfl, rfl, ⟨by decide, by decide⟩, _, 40692, rfl, rfl, ?_⟩
      refine ⟨_, _, rfl, rfl, .inl ⟨?_, ?_⟩, .inl ⟨_, rfl, ?_⟩⟩
      · have q := fun u : Int => Int.emod_nonneg u (b := 2147483587) (by decide)
        exact Int.lt_of_lt_of_le (by decide) (q _)
      · have q := fun u : Int => Int.emod_lt_of_pos u (b := 2147483587) (by decide)
        exact Int.lt_trans (q _) (by decide)
      refine ⟨_, 2147483549, rfl, rfl, (by show (0 : Int) < 2147483549; decide), ?_⟩
      refine ⟨_, 13, rfl, rfl, ⟨by decide, by decide⟩, .inl ⟨_, rfl, ?_⟩⟩
      refine ⟨_, rfl, _, m, rfl, rfl, by omega, ?_⟩
      exact k _ _ _ _ (fmod_in m0).1 (fmod_in m0).2
end
end K4
end L2
set_option Elab.async false
set_option linter.all false
set_option maxRecDepth 100000
set_option maxHeartbeats 4000000
namespace L2
namespace K4
open PySem PySem.Spec PyProof.Rows Fc C8
section
variable {P : Program} {w : World} {K : PySem.W.Frag} {mg : Str → Option Value} {base : Heap} {c : Cs}

/-! ### is_integer -/
def spIsInt (K : PySem.W.Frag) : Sp := fun vs H Q _ => ∃ (v : V) (o : O), vs = [v] ∧ Ob K H v o ∧ Q (.bl o.isInt) H
abbrev s_is_integer : Stmt := top 7
theorem sc_is_integer : FnScope ["value"] ["value"] (defScope s_is_integer) := ⟨rfl, rfl, rfl, by decide +kernel, rfl, by decide +kernel, by decide +kernel⟩
theorem ok_is_integer {f : Addr} {fd : FuncData} (F : Fun K "is_integer" "is_integer" s_is_integer f fd) (T : Txt K mg w c) : FnOk P w K mg base CX0 1 f fd ["value"] (spIsInt K) := by
  refine F.ok sc_is_integer (fun vs H Q E h => ?_) (fun cdv A outer s H vs Q E hr h => ?_)
  · obtain ⟨v, o, rfl, _⟩ := h
    rfl
  · obtain ⟨v, o, rfl, ho, k⟩ := h
    refine ⟨_, (pss_one (ps_ret (pe_and (pe_callB call_isi (by rfl) T.n_isinstance (by decide +kernel) (pa_cons (pv 0) (pa_cons (pe_bltn (v := .ty "int") rfl T.n_int (by decide +kernel) rfl) pa_nil))) (pe_one (pe_not (pe_callB call_isi (by rfl) T.n_isinstance (by decide +kernel) (pa_cons (pv 0) (pa_cons (pe_bltn (v := .ty "bool") rfl T.n_bool (by decide +kernel) rfl) pa_nil)))))))), ?_⟩
    rw [← is_int] at k
    refine ⟨_, rfl, v, _, _, _, _, rfl, .ty _, ho.tyx, kit_ty (kb_int o), _, rfl, ?_⟩
    cases e : o.is "int" with
    | true =>
      rw [e] at k
      exact iteT ⟨_, rfl, v, _, _, _, _, rfl, .ty _, ho.tyx, kit_ty (kb_bool o), _, rfl, k⟩
    | false =>
      rw [e] at k
      exact iteF k

/-! ### is_name -/
def spIsName (K : PySem.W.Frag) : Sp := fun vs H Q _ => ∃ (v : V) (o : O), vs = [v] ∧ Ob K H v o ∧ ∀ H', Same H H' → Q (.bl o.isName) H'
abbrev s_is_name : Stmt := top 18
theorem sc_is_name : FnScope ["value", "letter"] ["value"] (defScope s_is_name) := ⟨rfl, rfl, rfl, by decide +kernel, rfl, by decide +kernel, by decide +kernel⟩
theorem lt1 (a b : Nat) : decide (([a] : List Nat) < [b]) = decide (a < b) := by
  by_cases h : a < b
  · rw [decide_eq_true h]
    exact decide_eq_true (List.Lex.rel h)
  · rw [decide_eq_false h]
    refine decide_eq_false fun q => ?_
    cases q with
    | rel q => exact h q
    | cons q => cases q
def low (ch : Nat) : Bool := decide (97 ≤ ch) && decide (ch ≤ 122)
theorem ok_is_name {f : Addr} {fd : FuncData} (F : Fun K "is_name" "is_name" s_is_name f fd) (T : Txt K mg w c) : FnOk P w K mg base CX0 1 f fd ["value"] (spIsName K) := by
  refine F.ok sc_is_name (fun vs H Q E h => ?_) (fun cdv A outer s H vs Q E hr h => ?_)
  · obtain ⟨v, o, rfl, _⟩ := h
    rfl
  · obtain ⟨v, o, rfl, ho, k⟩ := h
    refine ⟨_, (pss_cons (ps_if (PW.pt (pw_or (pt_not (pt_val (pe_callB call_isi (by rfl) T.n_isinstance (by decide +kernel) (pa_cons (pv 0) (pa_cons (pe_bltn (v := .ty "str") rfl T.n_str (by decide +kernel) rfl) pa_nil))))) (pw_or1 (pt_not (pt_chain op_le op_le pe_int (pe_callB call_len (by rfl) T.n_len (by decide +kernel) (pa_cons (pv 0) pa_nil)) (pe_gc rfl T.g_LONGEST_NAME))))))
(pss_one (ps_ret pe_bl))
pss_nil)
(pss_one (ps_ret (pe_callB (cr_all rfl) (by rfl) T.n_all (by decide +kernel) (pa_cons (pe_lc (own := [("letter", 1)]) rfl sc_is_name.nd (pi_str (pv 0)) (blkOk_by (N := ["value", "letter"]) (sc := defScope s_is_name) (by decide +kernel)) (fun _ _ _ _ _ => pg_name (i := 1) sc_is_name.nd rfl (Or.inl rfl)) (fun _ _ _ _ _ => pts_nil) (fun _ _ _ _ _ => (pe_chain op_le_str op_le_str pe_str (pv 1) pe_str))) pa_nil))))), ?_⟩
    refine ⟨_, rfl, v, _, _, _, _, rfl, .ty _, ho.tyx, kit_ty (kb_str o), _, rfl, ?_⟩
    rw [is_str]
    cases o with
    | str x =>
      obtain rfl := ho.str_eq
      refine iteF ?_
      refine ⟨_, rfl, _, x.length, rfl, ho.lenv, 1, _, rfl, rfl, _, rfl, ?_⟩
      refine ite2 (fun h1 => ?_) (fun h1 => ?_)
      · have g1 : (1 : Int) ≤ (x.length : Nat) := of_decide_eq_true h1
        refine ⟨_, 8, rfl, rfl, _, rfl, ?_⟩
        by_cases h2 : ((x.length : Nat) : Int) ≤ 8
        · rw [decide_eq_true h2]
          refine iteF ?_
          refine ⟨_, rfl, x, rfl, fun D hD => ?_⟩
          have hz : x.cps.size = x.length := rfl
          refine lc_it (n := x.cps.size) (fun i H' => Same H H' ∧ H' D = some (.lst (((x.cps.toList.take i).map low).map V.bl))) ⟨Same.put hD, upd_same⟩ (fun i H' hi _ => hi) (fun H' _ => Nat.le_refl _) ?_ ?_
          · rintro i v H1 H1' hi ⟨s1, e1⟩ ⟨rfl, ch, hc, rfl⟩
            have hn : (x.cps.toList.take (i + 1)).map low = (x.cps.toList.take i).map low ++ [low ch] := by
              have q : x.cps.toList[i]? = some ch := by rw [Array.getElem?_toList]; exact hc
              rw [List.take_add_one, q, List.map_append]
              rfl
            have fin : ∀ b : Bool, b = low ch → (∃ acc, H1' D = some (.lst acc) ∧ acc.length < sizeLine ∧ (Same H (upd H1' D (.lst (acc ++ [V.bl b]))) ∧ (upd H1' D (.lst (acc ++ [V.bl b]))) D = some (.lst (((x.cps.toList.take (i + 1)).map low).map V.bl)))) := by
              intro b hb
              refine ⟨_, e1, ?_, Same.chg s1 hD, ?_⟩
              · rw [List.length_map, List.length_map, List.length_take]
                exact small1000 (by omega)
              · rw [upd_same, hn, List.map_append, hb]
                rfl
            refine ⟨rfl, ?_⟩
            refine ⟨_, rfl, _, _, rfl, rfl, _, rfl, ?_⟩
            have ea : (!decide ((⟨#[ch]⟩ : Str).cps.toList < ("a" : Str).cps.toList)) = decide (97 ≤ ch) := by
              show (!decide (([ch] : List Nat) < [97])) = _
              rw [lt1]
              by_cases q : ch < 97
              · rw [decide_eq_true q, decide_eq_false (by omega)]; rfl
              · rw [decide_eq_false q, decide_eq_true (by omega)]; rfl
            have ez : (!decide (("z" : Str).cps.toList < (⟨#[ch]⟩ : Str).cps.toList)) = decide (ch ≤ 122) := by
              show (!decide (([122] : List Nat) < [ch])) = _
              rw [lt1]
              by_cases q : 122 < ch
              · rw [decide_eq_true q, decide_eq_false (by omega)]; rfl
              · rw [decide_eq_false q, decide_eq_true (by omega)]; rfl
            rw [ea]
            cases hA : decide (97 ≤ ch) with
            | false => exact iteF (fin false (by unfold low; rw [hA]; rfl))
            | true =>
              refine iteT ⟨_, _, rfl, rfl, ?_⟩
              rw [ez]
              exact fin _ (by unfold low; rw [hA]; rfl)
          · rintro H1 ⟨s1, e1⟩
            have e2 : (x.cps.toList.take x.cps.size).map low = x.cps.toList.map low := by
              rw [List.take_of_length_le (by rw [Array.length_toList]; exact Nat.le_refl _)]
            rw [e2] at e1
            refine ⟨D, _, rfl, SqL.of e1, ?_⟩
            have e3 : (x.cps.toList.map low).all id = O.isName (.str x) := by
              show _ = nameOk x
              unfold nameOk
              rw [decide_eq_true (by omega : 1 ≤ x.length), decide_eq_true (by omega : x.length ≤ 8), List.all_map]
              rfl
            rw [e3]
            exact k _ s1
        · rw [decide_eq_false h2]
          refine iteT ?_
          have e : O.isName (.str x) = false := by
            show nameOk x = false
            unfold nameOk
            rw [decide_eq_false (by omega : ¬ x.length ≤ 8)]
            simp
          rw [e] at k
          exact k _ (Same.refl H)
      · refine ⟨_, rfl, iteT ?_⟩
        have g1 : ¬ (1 : Int) ≤ (x.length : Nat) := fun q => h1 (decide_eq_true q)
        have e : O.isName (.str x) = false := by
          show nameOk x = false
          unfold nameOk
          rw [decide_eq_false (by omega : ¬ 1 ≤ x.length)]
          rfl
        rw [e] at k
        exact k _ (Same.refl H)
    | _ => exact iteT (iteT (k _ (Same.refl H)))
end
end K4
end L2
set_option Elab.async false
set_option linter.all false
set_option maxRecDepth 100000
set_option maxHeartbeats 4000000
namespace L2
namespace K4
open PySem PySem.Spec PyProof.Rows Fc C8
section
variable {P : Program} {w : World} {K : PySem.W.Frag} {mg : Str → Option Value} {base : Heap} {c : Cs}

/-! ### has_kind -/
def spHasKind (K : PySem.W.Frag) : Sp := fun vs H Q _ => ∃ (v : V) (o : O), vs = [v] ∧ Ob K H v o ∧ Q (.bl o.hasKind) H
abbrev s_has_kind : Stmt := top 19
theorem sc_has_kind : FnScope ["value", "kind"] ["value"] (defScope s_has_kind) := ⟨rfl, rfl, rfl, by decide +kernel, rfl, by decide +kernel, by decide +kernel⟩
theorem ok_has_kind {f : Addr} {fd : FuncData} (F : Fun K "has_kind" "has_kind" s_has_kind f fd) (T : Txt K mg w c) : FnOk P w K mg base CX0 1 f fd ["value"] (spHasKind K) := by
  refine F.ok sc_has_kind (fun vs H Q E h => ?_) (fun cdv A outer s H vs Q E hr h => ?_)
  · obtain ⟨v, o, rfl, _⟩ := h
    rfl
  · obtain ⟨v, o, rfl, ho, k⟩ := h
    obtain ⟨es, nS, D⟩ := T.kd
    refine ⟨_, (pss_cons (ps_if (PW.pt (pw_or (pt_not (pt_val (pe_callB call_isi (by rfl) T.n_isinstance (by decide +kernel) (pa_cons (pv 0) (pa_cons (pe_bltn (v := .ty "tuple") rfl T.n_tuple (by decide +kernel) rfl) pa_nil))))) (pw_or1 (pt_cmpR op_eq (pe_callB call_len (by rfl) T.n_len (by decide +kernel) (pa_cons (pv 0) pa_nil)) pe_int (nomark _)))))
(pss_one (ps_ret pe_bl))
pss_nil)
(pss_cons (ps_set (i := 1) sc_has_kind.nd rfl (Or.inl rfl) (pe_ix ix_tup (pv 0) pe_int (fun _ _ => rfl)))
(pss_one (ps_ret (pe_and (pe_callB call_isi (by rfl) T.n_isinstance (by decide +kernel) (pa_cons (pv 1) (pa_cons (pe_bltn (v := .ty "str") rfl T.n_str (by decide +kernel) rfl) pa_nil))) (pe_and (pe_cmpR (op_in_kd D) (pv 1) (pe_gc rfl T.g_SIZES) (by with_unfolding_all rfl)) (pe_one (pe_cmpR op_eq (pe_callB call_len (by rfl) T.n_len (by decide +kernel) (pa_cons (pv 0) pa_nil)) (pe_ix ix_kdict (pe_gc rfl T.g_SIZES) (pv 1) (fun _ _ => rfl)) (nomark _))))))))), ?_⟩
    refine ⟨_, rfl, v, _, _, _, _, rfl, .ty _, ho.tyx, kit_ty (kb_tuple o), _, rfl, ?_⟩
    rw [is_tuple]
    cases o with
    | tup os =>
      refine iteF ?_
      refine ⟨_, rfl, _, os.length, rfl, ho.lent, rfl, _, rfl, ?_⟩
      obtain ⟨a, xs, rfl, ht, hos⟩ := ho.tup_eq
      cases os with
      | nil =>
        rw [decide_eq_true (by rfl)]
        exact iteT k
      | cons o r =>
        rw [decide_eq_false (by intro q; cases q)]
        refine iteF ?_
        obtain ⟨y, hy, hyo⟩ := hos.get (i := 0) (o := o) rfl
        refine ⟨_, rfl, a, xs, 0, y, rfl, rfl, ht, at_of rfl hy, ?_⟩
        refine ⟨_, rfl, y, _, _, _, _, rfl, .ty _, hyo.tyx, kit_ty (kb_str o), _, rfl, ?_⟩
        rw [is_str]
        cases o with
        | str z =>
          obtain rfl := hyo.str_eq
          refine iteT ?_
          obtain ⟨rr, hrr, hz⟩ := T.szs z
          refine ⟨_, rfl, z, rr, rfl, rfl, hrr, _, rfl, ?_⟩
          show (if rr.isSome = true then _ else _)
          have ek : O.hasKind (.tup (.str z :: r)) = (szOf z == some (r.length + 1)) := rfl
          rw [ek] at k
          cases e : szOf z with
          | none =>
            rw [e] at hz k
            cases rr with
            | none => exact iteF k
            | some u => exact hz.elim
          | some n =>
            rw [e] at hz k
            cases rr with
            | none => exact hz.elim
            | some u =>
              refine iteT ?_
              refine ⟨_, rfl, _, r.length + 1, rfl, ho.lent, _, rfl, _, z, V.int (n : Nat), rfl, rfl, ⟨es, nS, u, D.at_, D.lit, hrr, hz⟩, rfl, ?_⟩
              have eq : decide (V.int ((r.length + 1 : Nat) : Int) = V.int ((n : Nat) : Int)) = (some n == some (r.length + 1)) := by
                by_cases q : n = r.length + 1
                · rw [q]
                  simp
                · have q1 : ¬ V.int ((r.length + 1 : Nat) : Int) = V.int ((n : Nat) : Int) := fun z => q (by
                    have z2 := V.int.inj z
                    omega)
                  rw [decide_eq_false q1]
                  simp [q]
              rw [eq]
              exact k
        | _ => exact iteF k
    | _ => exact iteT (iteT k)

/-! ### is_statement -/
def spIsStmt (K : PySem.W.Frag) : Sp := fun vs H Q _ => ∃ (v : V) (o : O) (n : Nat), vs = [v, .int n] ∧ Ob K H v o ∧ ∀ H', Same H H' → Q (.bl (o.isStmt n)) H'
abbrev s_is_statement : Stmt := top 20
theorem sc_is_statement : FnScope ["value", "whiles", "kind"] ["value", "whiles"] (defScope s_is_statement) := ⟨rfl, rfl, rfl, by decide +kernel, rfl, by decide +kernel, by decide +kernel⟩
theorem ok_is_statement {f : Addr} {fd : FuncData} (F : Fun K "is_statement" "is_statement" s_is_statement f fd) (T : Txt K mg w c)
    (c_has_kind : Cal P w K mg base 1 "has_kind" (spHasKind K) []) (c_is_name : Cal P w K mg base 1 "is_name" (spIsName K) []) (c_is_integer : Cal P w K mg base 1 "is_integer" (spIsInt K) []) :
    FnOk P w K mg base CX0 2 f fd ["value", "whiles"] (spIsStmt K) := by
  refine F.ok sc_is_statement (fun vs H Q E h => ?_) (fun cdv A outer s H vs Q E hr h => ?_)
  · obtain ⟨v, o, n, rfl, _⟩ := h
    rfl
  · obtain ⟨v, o, n, rfl, ho, k⟩ := h
    refine ⟨_, (pss_cons (ps_if (pt_not (pt_val (pe_c c_has_kind hr (by decide) rfl (pa_cons (pv 0) pa_nil))))
(pss_one (ps_ret pe_bl))
pss_nil)
(pss_cons (ps_set (i := 2) sc_is_statement.nd rfl (Or.inl rfl) (pe_ix ix_tup (pv 0) pe_int (fun _ _ => rfl)))
(pss_cons (ps_if (pt_cmpR op_in_seq (pv 2) (pe_gc rfl T.g_NAMED) (by with_unfolding_all rfl))
(pss_one (ps_ret (pe_c c_is_name hr (by decide) rfl (pa_cons (pe_ix ix_tup (pv 0) pe_int (fun _ _ => rfl)) pa_nil))))
pss_nil)
(pss_cons (ps_if (pt_cmpR op_in_seq (pv 2) (pe_gc rfl T.g_JUMPS) (by with_unfolding_all rfl))
(pss_one (ps_ret (pe_and (pe_c c_is_integer hr (by decide) rfl (pa_cons (pe_ix ix_tup (pv 0) pe_int (fun _ _ => rfl)) pa_nil)) (pe_one (pe_chain op_le op_le pe_int (pe_ix ix_tup (pv 0) pe_int (fun _ _ => rfl)) (pv 1))))))
pss_nil)
(pss_cons (ps_if (pt_cmpR op_eq (pv 2) pe_str (nomark _))
(pss_one (ps_ret (pe_and (pe_callB call_isi (by rfl) T.n_isinstance (by decide +kernel) (pa_cons (pe_ix ix_tup (pv 0) pe_int (fun _ _ => rfl)) (pa_cons (pe_bltn (v := .ty "tuple") rfl T.n_tuple (by decide +kernel) rfl) pa_nil))) (pe_one (pe_cmpR op_gt (pe_callB call_len (by rfl) T.n_len (by decide +kernel) (pa_cons (pe_ix ix_tup (pv 0) pe_int (fun _ _ => rfl)) pa_nil)) pe_int (nomark _))))))
pss_nil)
(pss_one (ps_ret pe_bl))))))), ?_⟩
    refine ⟨_, rfl, v, o, rfl, ho, _, rfl, ?_⟩
    cases ek : o.hasKind with
    | false =>
      have e : o.isStmt n = false := by
        unfold O.isStmt
        rw [ek]
        rfl
      rw [e] at k
      exact iteT (k _ (Same.refl H))
    | true =>
      refine iteF ?_
      obtain ⟨z, r, rfl, hsz⟩ := hasKind_of ek
      obtain ⟨a, xs, rfl, ht, hos⟩ := ho.tup_eq
      obtain ⟨y, hy, hyo⟩ := hos.get (i := 0) (o := .str z) rfl
      obtain rfl := hyo.str_eq
      have eS : O.isStmt (.tup (.str z :: r)) n = tailOk n z r := by
        unfold O.isStmt
        rw [ek]
        rfl
      rw [eS] at k
      unfold tailOk at k
      refine ⟨_, rfl, a, xs, 0, _, rfl, rfl, ht, at_of rfl hy, ?_⟩
      refine ⟨_, rfl, c.aNAMED, _, rfl, .inr (T.tN H), rfl, rfl, _, rfl, ?_⟩
      rw [inV_named]
      cases e1 : named z with
      | true =>
        rw [if_pos e1] at k
        obtain ⟨o1, r1, rfl⟩ : ∃ o1 r1, r = o1 :: r1 := by
          cases r with
          | nil => exact absurd hsz (sz_named e1)
          | cons o1 r1 => exact ⟨o1, r1, rfl⟩
        obtain ⟨y1, hy1, hyo1⟩ := hos.get (i := 1) (o := o1) rfl
        refine iteT ?_
        exact ⟨_, rfl, a, xs, 1, y1, rfl, rfl, ht, at_of rfl hy1, y1, o1, rfl, hyo1, k⟩
      | false =>
        rw [if_neg (by rw [e1]; exact Bool.false_ne_true)] at k
        refine iteF ?_
        refine ⟨_, rfl, c.aJUMPS, _, rfl, .inr (T.tJ H), rfl, rfl, _, rfl, ?_⟩
        rw [inV_jumps]
        cases e2 : jumps z with
        | true =>
          rw [if_pos e2] at k
          obtain ⟨o1, r1, rfl⟩ : ∃ o1 r1, r = o1 :: r1 := by
            cases r with
            | nil => exact absurd hsz (sz_jumps e2)
            | cons o1 r1 => exact ⟨o1, r1, rfl⟩
          obtain ⟨y1, hy1, hyo1⟩ := hos.get (i := 1) (o := o1) rfl
          refine iteT ?_
          refine ⟨_, rfl, a, xs, 1, y1, rfl, rfl, ht, at_of rfl hy1, y1, o1, rfl, hyo1, _, rfl, ?_⟩
          have k' : ∀ H', Same H H' → Q (.bl (o1.jumpOk n)) H' := k
          cases o1 with
          | int i =>
            obtain rfl := hyo1.int_eq
            refine iteT ?_
            refine ⟨_, rfl, a, xs, 1, _, rfl, rfl, ht, at_of rfl hy1, 1, i, rfl, rfl, _, rfl, ?_⟩
            have k2 : ∀ H', Same H H' → Q (.bl (decide ((1 : Int) ≤ i) && decide (i ≤ (n : Nat)))) H' := k'
            cases e3 : decide ((1 : Int) ≤ i) with
            | true =>
              rw [e3] at k2
              exact iteT ⟨_, rfl, i, n, rfl, rfl, k2 _ (Same.refl H)⟩
            | false =>
              rw [e3] at k2
              exact iteF (k2 _ (Same.refl H))
          | _ => exact iteF (k' _ (Same.refl H))
        | false =>
          rw [if_neg (by rw [e2]; exact Bool.false_ne_true)] at k
          refine iteF ?_
          refine ⟨_, rfl, rfl, _, rfl, ?_⟩
          by_cases e3 : z = "seq"
          · rw [if_pos e3] at k
            rw [decide_eq_true (by rw [e3])]
            obtain ⟨o1, r1, rfl⟩ : ∃ o1 r1, r = o1 :: r1 := by
              cases r with
              | nil => exact absurd hsz (by rw [e3]; decide)
              | cons o1 r1 => exact ⟨o1, r1, rfl⟩
            obtain ⟨y1, hy1, hyo1⟩ := hos.get (i := 1) (o := o1) rfl
            refine iteT ?_
            refine ⟨_, rfl, a, xs, 1, y1, rfl, rfl, ht, at_of rfl hy1, y1, _, _, _, _, rfl, .ty _, hyo1.tyx, kit_ty (kb_tuple o1), _, rfl, ?_⟩
            rw [is_tuple]
            have k' : ∀ H', Same H H' → Q (.bl o1.seqOk) H' := k
            cases o1 with
            | tup os =>
              refine iteT ?_
              refine ⟨_, rfl, a, xs, 1, y1, rfl, rfl, ht, at_of rfl hy1, _, os.length, rfl, hyo1.lent, _, 0, rfl, rfl, ?_⟩
              have e4 : decide ((0 : Int) < ((os.length : Nat) : Int)) = !os.isEmpty := by
                cases os with
                | nil => rfl
                | cons _ _ => exact decide_eq_true (by rw [List.length_cons]; omega)
              show Q (.bl (decide ((0 : Int) < ((os.length : Nat) : Int)))) H
              rw [e4]
              exact k' _ (Same.refl H)
            | _ => exact iteF (k' _ (Same.refl H))
          · rw [if_neg e3] at k
            rw [decide_eq_false (fun q => e3 (V.str.inj q))]
            exact iteF (k _ (Same.refl H))
end
end K4
end L2
set_option Elab.async false
set_option linter.all false
set_option maxRecDepth 100000
set_option maxHeartbeats 4000000
namespace L2
namespace K4
open PySem PySem.Spec PyProof.Rows Fc C8
section
variable {P : Program} {w : World} {K : PySem.W.Frag} {mg : Str → Option Value} {base : Heap} {c : Cs}

/-! ### judge -/
def spJudge (K : PySem.W.Frag) (c : Cs) : Sp := fun vs H Q E => ∃ (p : Addr) (s : Spot) (n : Nat), vs = [.ref p, .int n] ∧ SpotAt K H p s ∧
  (judge n s = none → ∀ H', Same H H' → Q .non H') ∧ ∀ e, judge n s = some e → ErrE c.cBad c.cLim H E e
abbrev s_judge : Stmt := top 21
theorem sc_judge : FnScope ["spot", "number", "value", "_", "level", "whiles", "layers"] ["spot", "number"] (defScope s_judge) := ⟨rfl, rfl, rfl, by decide +kernel, rfl, by decide +kernel, by decide +kernel⟩
theorem ok_judge {f : Addr} {fd : FuncData} (F : Fun K "judge" "judge" s_judge f fd) (T : Txt K mg w c) (c_is_statement : Cal P w K mg base 2 "is_statement" (spIsStmt K) [])
    (c_LimitExceeded : ExcOk P w K mg base 1 "LimitExceeded" c.cLim "limit") (c_InvalidCode : ExcOk P w K mg base 1 "InvalidCode" c.cBad "number") :
    FnOk P w K mg base (L2.CX P w) 3 f fd ["spot", "number"] (spJudge K c) := by
  refine F.okX sc_judge (fun vs H Q E h => ?_) (fun cdv A outer s H vs Q E hr h => ?_)
  · obtain ⟨p, s, n, rfl, _⟩ := h
    rfl
  · obtain ⟨p, s, n, rfl, ⟨v, la, ht, ho, hl⟩, kN, kE⟩ := h
    refine ⟨_, (pss_cons (ps_asg (pv 0) (pg_tup rfl (pgs_cons (pg_name (i := 2) sc_judge.nd rfl (Or.inl rfl)) (pgs_cons (pg_name (i := 3) sc_judge.nd rfl (Or.inl rfl)) (pgs_cons (pg_name (i := 4) sc_judge.nd rfl (Or.inl rfl)) (pgs_cons (pg_name (i := 5) sc_judge.nd rfl (Or.inl rfl)) (pgs_cons (pg_name (i := 6) sc_judge.nd rfl (Or.inl rfl)) pgs_nil)))))))
(pss_cons (ps_if (pt_cmpR op_ge (pv 1) (pe_gc rfl T.g_MOST_STATEMENTS) (nomark _))
(pss_one (ps_raise rfl (takes_of rfl rfl rfl rfl) (pmk_x c_LimitExceeded hr (by decide) rfl (pa_cons (pe_gc rfl T.g_MOST_STATEMENTS) pa_nil))))
pss_nil)
(pss_cons (ps_if (pt_cmpR op_gt (pv 4) (pe_gc rfl T.g_MOST_LEVELS) (nomark _))
(pss_one (ps_raise rfl (takes_of rfl rfl rfl rfl) (pmk_x c_LimitExceeded hr (by decide) rfl (pa_cons (pe_gc rfl T.g_MOST_LEVELS) pa_nil))))
pss_nil)
(pss_cons (ps_if (pt_cmpR op_gt (pe_callB call_len (by rfl) T.n_len (by decide +kernel) (pa_cons (pv 6) pa_nil)) (pe_gc rfl T.g_MOST_BLOCKS) (nomark _))
(pss_one (ps_raise rfl (takes_of rfl rfl rfl rfl) (pmk_x c_LimitExceeded hr (by decide) rfl (pa_cons (pe_gc rfl T.g_MOST_BLOCKS) pa_nil))))
pss_nil)
(pss_one (ps_if (pt_not (pt_val (pe_c c_is_statement hr (by decide) rfl (pa_cons (pv 2) (pa_cons (pv 5) pa_nil)))))
(pss_one (ps_raise rfl (takes_of rfl rfl rfl rfl) (pmk_x c_InvalidCode hr (by decide) rfl (pa_cons (pv 1) pa_nil))))
pss_nil)))))), ?_⟩
    refine ⟨_, rfl, p, _, rfl, ht, rfl, _, _, rfl, _, _, rfl, _, _, rfl, _, _, rfl, _, _, rfl, rfl, ?_⟩
    refine ⟨_, rfl, _, _, rfl, rfl, _, rfl, ?_⟩
    refine ite2 (fun h1 => ?_) (fun h1 => ?_)
    · have g : 400 ≤ n := by
        have := of_decide_eq_true h1
        omega
      have e : judge n s = some (.lim 400) := by unfold judge; rw [if_pos g]
      exact ⟨_, rfl, fun d hd => kE _ e _ d (Same.put hd) hd upd_same⟩
    have g1 : ¬ 400 ≤ n := fun q => h1 (decide_eq_true (by omega))
    refine ⟨_, rfl, _, _, rfl, rfl, _, rfl, ?_⟩
    refine ite2 (fun h2 => ?_) (fun h2 => ?_)
    · have g : 100 < s.lev := by
        have := of_decide_eq_true h2
        omega
      have e : judge n s = some (.lim 100) := by unfold judge; rw [if_neg g1, if_pos g]
      exact ⟨_, rfl, fun d hd => kE _ e _ d (Same.put hd) hd upd_same⟩
    have g2 : ¬ 100 < s.lev := fun q => h2 (decide_eq_true (by omega))
    refine ⟨_, rfl, _, s.lay.length, rfl, .inl ⟨_, SqL.of hl, by unfold intsV; rw [List.length_map]⟩, _, _, rfl, rfl, _, rfl, ?_⟩
    refine ite2 (fun h3 => ?_) (fun h3 => ?_)
    · have g : 25 < s.lay.length := by
        have := of_decide_eq_true h3
        omega
      have e : judge n s = some (.lim 25) := by unfold judge; rw [if_neg g1, if_neg g2, if_pos g]
      exact ⟨_, rfl, fun d hd => kE _ e _ d (Same.put hd) hd upd_same⟩
    have g3 : ¬ 25 < s.lay.length := fun q => h3 (decide_eq_true (by omega))
    refine ⟨_, rfl, _, rfl, v, s.o, s.wh, rfl, ho, fun H' s1 => ⟨_, rfl, ?_⟩⟩
    cases h4 : s.o.isStmt s.wh with
    | true =>
      have e : judge n s = none := by unfold judge; rw [if_neg g1, if_neg g2, if_neg g3, if_pos h4]
      exact iteF (kN e _ s1)
    | false =>
      have e : judge n s = some (.bad n) := by unfold judge; rw [if_neg g1, if_neg g2, if_neg g3, if_neg (by rw [h4]; exact Bool.false_ne_true)]
      refine iteT ⟨_, rfl, _, rfl, fun d hd => ?_⟩
      exact kE _ e _ d (Same.new s1 hd) (s1.free hd) upd_same

/-! ### parts_of -/
def spParts (K : PySem.W.Frag) : Sp := fun vs H Q _ => ∃ (v : V) (o : O) (wh : Nat) (F : Hp), vs = [v] ∧ Same F H ∧ Ob K F v o ∧ o.isStmt wh = true ∧
  ∀ H' p ys, Same H H' → H p = none → H' p = some (.lst ys) → Obs K F ys o.parts → Q (.ref p) H'
abbrev s_parts_of : Stmt := top 23
theorem sc_parts_of : FnScope ["statement", "kind"] ["statement"] (defScope s_parts_of) := ⟨rfl, rfl, rfl, by decide +kernel, rfl, by decide +kernel, by decide +kernel⟩
theorem cut1 (xs : List V) (n : Nat) : cutV xs (some (n : Int)) none = xs.drop n := by
  unfold cutV
  rw [HT.sIx_nat, HT.sIx_none]
  rcases Nat.le_total n xs.length with h | h
  · rw [Nat.min_eq_left h]
    exact List.take_of_length_le (by rw [List.length_drop]; exact Nat.le_refl _)
  · rw [Nat.min_eq_right h, List.drop_eq_nil_of_le h, List.drop_eq_nil_of_le (Nat.le_refl _)]
    simp
theorem cut_part {xs : List V} {n : Nat} (hn : 0 < n) (hx : 0 < xs.length) {Z : Prop} : ¬ (HT.sIx xs.length 0 (some (n : Int)) = 0 ∧ Z) := by
  rintro ⟨q, _⟩
  rw [HT.sIx_nat] at q
  omega
theorem ok_parts_of {f : Addr} {fd : FuncData} (F : Fun K "parts_of" "parts_of" s_parts_of f fd) (T : Txt K mg w c) : FnOk P w K mg base CX0 1 f fd ["statement"] (spParts K) := by
  refine F.ok sc_parts_of (fun vs H Q E h => ?_) (fun cdv A outer s H vs Q E hr h => ?_)
  · obtain ⟨v, o, wh, F, rfl, _⟩ := h
    rfl
  · obtain ⟨v, o, wh, F, rfl, sF, ho, hst, k⟩ := h
    refine ⟨_, (pss_cons (ps_set (i := 1) sc_parts_of.nd rfl (Or.inl rfl) (pe_ix ix_tup (pv 0) pe_int (fun _ _ => rfl)))
(pss_cons (ps_if (pt_cmpR op_eq (pv 1) pe_str (nomark _))
(pss_one (ps_ret (pe_callTy call_list_of (by rfl) T.n_list (by decide +kernel) (pa_cons (pe_ix ix_tup (pv 0) pe_int (fun _ _ => rfl)) pa_nil))))
pss_nil)
(pss_cons (ps_if (pt_cmpR op_in_seq (pv 1) (pe_gc rfl T.g_PAIRS) (by with_unfolding_all rfl))
(pss_one (ps_ret (pe_callTy call_list_of (by rfl) T.n_list (by decide +kernel) (pa_cons (pe_slice sl_tup (pv 0) (po_some pe_int) po_none) pa_nil))))
pss_nil)
(pss_one (ps_ret (pe_callTy call_list_of (by rfl) T.n_list (by decide +kernel) (pa_cons (pe_slice sl_tup (pv 0) (po_some pe_int) po_none) pa_nil))))))), ?_⟩
    have hk : o.hasKind = true := by
      unfold O.isStmt at hst
      exact (Bool.and_eq_true_iff.mp hst).1
    obtain ⟨z, r, rfl, hsz⟩ := hasKind_of hk
    obtain ⟨a, xs, rfl, htF, hos⟩ := ho.tup_eq
    have ht : SqT K H a xs := Same.sqt sF htF
    obtain ⟨y, hy, hyo⟩ := hos.get (i := 0) (o := .str z) rfl
    obtain rfl := hyo.str_eq
    refine ⟨_, rfl, a, xs, 0, _, rfl, rfl, ht, at_of rfl hy, ?_⟩
    refine ⟨_, rfl, rfl, _, rfl, ?_⟩
    have hx : 0 < xs.length := (List.getElem?_eq_some_iff.mp hy).1
    have tail : O.isStmt (.tup (.str z :: r)) wh = tailOk wh z r := by
      unfold O.isStmt
      rw [hk]
      rfl
    rw [tail] at hst
    by_cases e3 : z = "seq"
    · rw [decide_eq_true (by rw [e3])]
      refine iteT ?_
      obtain ⟨o1, r1, rfl⟩ : ∃ o1 r1, r = o1 :: r1 := by
        cases r with
        | nil => exact absurd hsz (by rw [e3]; decide)
        | cons o1 r1 => exact ⟨o1, r1, rfl⟩
      obtain ⟨os, rfl⟩ : ∃ os, o1 = .tup os := by
        have q : o1.seqOk = true := by
          subst e3
          exact hst
        cases o1 with
        | tup os => exact ⟨os, rfl⟩
        | _ => cases q
      obtain ⟨y1, hy1, hyo1⟩ := hos.get (i := 1) (o := .tup os) rfl
      obtain ⟨b, ys, rfl, hb, hbs⟩ := hyo1.tup_eq
      have ep : O.parts (.tup (.str z :: .tup os :: r1)) = os := by
        subst e3
        rfl
      rw [ep] at k
      refine ⟨_, rfl, a, xs, 1, _, rfl, rfl, ht, at_of rfl hy1, b, ys, rfl, .inr (Same.sqt sF hb), fun l hl => ?_⟩
      exact k _ l ys (Same.put hl) hl upd_same hbs
    · rw [decide_eq_false (fun q => e3 (V.str.inj q))]
      refine iteF ?_
      refine ⟨_, rfl, c.aPAIRS, _, rfl, .inr (T.tP H), rfl, rfl, _, rfl, ?_⟩
      rw [inV_pairs]
      have both : ∀ n : Nat, 0 < n → ∀ Q2 : VK, Q2 = Q → O.parts (.tup (.str z :: r)) = (O.str z :: r).drop n →
          ∀ q, H q = none → ∀ l, upd H q (.tup (cutV xs (some (n : Int)) none)) l = none → Q2 (.ref l) (upd (upd H q (.tup (cutV xs (some (n : Int)) none))) l (.lst (cutV xs (some (n : Int)) none))) := by
        intro n hn Q2 e2 ep q hq l hl
        subst e2
        rw [ep] at k
        refine k _ l _ (Same.new (Same.put hq) hl) ((Same.put hq).free hl) upd_same ?_
        rw [cut1]
        exact hos.drop n
      cases e4 : pairs z with
      | true =>
        refine iteT ⟨_, rfl, 1, rfl, a, xs, rfl, ht, cut_part (n := 1) (by decide) hx, fun q hq => ?_⟩
        refine ⟨q, _, rfl, .inr (SqT.of upd_same), fun l hl => both 1 (by decide) Q rfl ?_ q hq l hl⟩
        show (if z = "seq" then _ else if pairs z = true then r else _) = r
        rw [if_neg e3, if_pos e4]
      | false =>
        refine iteF ⟨_, rfl, 2, rfl, a, xs, rfl, ht, cut_part (n := 2) (by decide) hx, fun q hq => ?_⟩
        refine ⟨q, _, rfl, .inr (SqT.of upd_same), fun l hl => both 2 (by decide) Q rfl ?_ q hq l hl⟩
        show (if z = "seq" then _ else if pairs z = true then r else r.drop 1) = r.drop 1
        rw [if_neg e3, if_neg (by rw [e4]; exact Bool.false_ne_true)]

/-! ### head_of -/
def spHead (K : PySem.W.Frag) : Sp := fun vs H Q _ => ∃ (v : V) (o : O) (wh : Nat) (F : Hp), vs = [v] ∧ Same F H ∧ Ob K F v o ∧ o.isStmt wh = true ∧
  ∀ p ys, H p = none → Obs K F ys o.head → Q (.ref p) (upd H p (.tup ys))
abbrev s_head_of : Stmt := top 22
theorem sc_head_of : FnScope ["statement", "kind"] ["statement"] (defScope s_head_of) := ⟨rfl, rfl, rfl, by decide +kernel, rfl, by decide +kernel, by decide +kernel⟩
theorem ok_head_of {f : Addr} {fd : FuncData} (F : Fun K "head_of" "head_of" s_head_of f fd) (T : Txt K mg w c) : FnOk P w K mg base CX0 1 f fd ["statement"] (spHead K) := by
  refine F.ok sc_head_of (fun vs H Q E h => ?_) (fun cdv A outer s H vs Q E hr h => ?_)
  · obtain ⟨v, o, wh, F, rfl, _⟩ := h
    rfl
  · obtain ⟨v, o, wh, F, rfl, sF, ho, hst, k⟩ := h
    refine ⟨_, (pss_cons (ps_set (i := 1) sc_head_of.nd rfl (Or.inl rfl) (pe_ix ix_tup (pv 0) pe_int (fun _ _ => rfl)))
(pss_cons (ps_if (pt_cmpR op_eq (pv 1) pe_str (nomark _))
(pss_one (ps_ret (pe_tup (pa_cons (pv 1) (pa_cons (pe_callB call_len (by rfl) T.n_len (by decide +kernel) (pa_cons (pe_ix ix_tup (pv 0) pe_int (fun _ _ => rfl)) pa_nil)) pa_nil)))))
pss_nil)
(pss_cons (ps_if (PW.pt (pw_or (pt_cmpR op_in_seq (pv 1) (pe_gc rfl T.g_NAMED) (by with_unfolding_all rfl)) (pw_or1 (pt_cmpR op_in_seq (pv 1) (pe_gc rfl T.g_JUMPS) (by with_unfolding_all rfl)))))
(pss_one (ps_ret (pe_tup (pa_cons (pv 1) (pa_cons (pe_ix ix_tup (pv 0) pe_int (fun _ _ => rfl)) pa_nil)))))
pss_nil)
(pss_one (ps_ret (pe_tup (pa_cons (pv 1) pa_nil))))))), ?_⟩
    have hk : o.hasKind = true := by
      unfold O.isStmt at hst
      exact (Bool.and_eq_true_iff.mp hst).1
    obtain ⟨z, r, rfl, hsz⟩ := hasKind_of hk
    obtain ⟨a, xs, rfl, htF, hos⟩ := ho.tup_eq
    have ht : SqT K H a xs := Same.sqt sF htF
    obtain ⟨y, hy, hyo⟩ := hos.get (i := 0) (o := .str z) rfl
    obtain rfl := hyo.str_eq
    refine ⟨_, rfl, a, xs, 0, _, rfl, rfl, ht, at_of rfl hy, ?_⟩
    refine ⟨_, rfl, rfl, _, rfl, ?_⟩
    have tail : O.isStmt (.tup (.str z :: r)) wh = tailOk wh z r := by
      unfold O.isStmt
      rw [hk]
      rfl
    rw [tail] at hst
    by_cases e3 : z = "seq"
    · rw [decide_eq_true (by rw [e3])]
      refine iteT ?_
      obtain ⟨o1, r1, rfl⟩ : ∃ o1 r1, r = o1 :: r1 := by
        cases r with
        | nil => exact absurd hsz (by rw [e3]; decide)
        | cons o1 r1 => exact ⟨o1, r1, rfl⟩
      obtain ⟨os, rfl⟩ : ∃ os, o1 = .tup os := by
        have q : o1.seqOk = true := by
          subst e3
          exact hst
        cases o1 with
        | tup os => exact ⟨os, rfl⟩
        | _ => cases q
      obtain ⟨y1, hy1, hyo1⟩ := hos.get (i := 1) (o := .tup os) rfl
      have ep : O.head (.tup (.str z :: .tup os :: r1)) = [.str z, .int os.length] := by
        subst e3
        rfl
      rw [ep] at k
      refine ⟨_, rfl, _, rfl, a, xs, 1, _, rfl, rfl, ht, at_of rfl hy1, _, os.length, rfl, (hyo1.mono sF).lent, (by show 2 ≤ sizeLine; decide), fun l hl => ?_⟩
      exact k l _ hl (.cons hyo (.cons (.int _) .nil))
    · rw [decide_eq_false (fun q => e3 (V.str.inj q))]
      refine iteF ?_
      refine ⟨_, rfl, c.aNAMED, _, rfl, .inr (T.tN H), rfl, rfl, _, rfl, ?_⟩
      rw [inV_named]
      have two : (named z || jumps z) = true → ∃ (o1 : O) (r1 : List O) (y1 : V), r = o1 :: r1 ∧ xs[1]? = some y1 ∧ Ob K F y1 o1 ∧ O.head (.tup (.str z :: r)) = [.str z, o1] := by
        intro q
        obtain ⟨o1, r1, rfl⟩ : ∃ o1 r1, r = o1 :: r1 := by
          cases r with
          | nil =>
            rcases Bool.or_eq_true_iff.mp q with q | q
            · exact absurd hsz (sz_named q)
            · exact absurd hsz (sz_jumps q)
          | cons o1 r1 => exact ⟨o1, r1, rfl⟩
        obtain ⟨y1, hy1, hyo1⟩ := hos.get (i := 1) (o := o1) rfl
        refine ⟨o1, r1, y1, rfl, hy1, hyo1, ?_⟩
        show (if z = "seq" then _ else if (named z || jumps z) = true then [O.str z, o1] else _) = _
        rw [if_neg e3, if_pos q]
      cases e1 : named z with
      | true =>
        obtain ⟨o1, r1, y1, rfl, hy1, hyo1, ep⟩ := two (by rw [e1]; rfl)
        rw [ep] at k
        refine iteT (iteT ⟨_, rfl, _, rfl, a, xs, 1, _, rfl, rfl, ht, at_of rfl hy1, (by show 2 ≤ sizeLine; decide), fun l hl => ?_⟩)
        exact k l _ hl (.cons hyo (.cons hyo1 .nil))
      | false =>
        refine iteF ?_
        refine ⟨_, rfl, c.aJUMPS, _, rfl, .inr (T.tJ H), rfl, rfl, _, rfl, ?_⟩
        rw [inV_jumps]
        cases e2 : jumps z with
        | true =>
          obtain ⟨o1, r1, y1, rfl, hy1, hyo1, ep⟩ := two (by rw [e2, Bool.or_true])
          rw [ep] at k
          refine iteT ⟨_, rfl, _, rfl, a, xs, 1, _, rfl, rfl, ht, at_of rfl hy1, (by show 2 ≤ sizeLine; decide), fun l hl => ?_⟩
          exact k l _ hl (.cons hyo (.cons hyo1 .nil))
        | false =>
          have ep : O.head (.tup (.str z :: r)) = [.str z] := by
            show (if z = "seq" then _ else if (named z || jumps z) = true then _ else [O.str z]) = _
            rw [if_neg e3, e1, e2]
            rfl
          rw [ep] at k
          refine iteF ⟨_, rfl, (by show 1 ≤ sizeLine; decide), fun l hl => ?_⟩
          exact k l _ hl (.cons hyo .nil)
end
end K4
end L2
set_option Elab.async false
set_option linter.all false
set_option maxRecDepth 100000
set_option maxHeartbeats 4000000
namespace L2
namespace K4
open PySem PySem.Spec PyProof.Rows Fc C8
section
variable {P : Program} {w : World} {K : PySem.W.Frag} {mg : Str → Option Value} {base : Heap} {c : Cs}

/-! ### spots_inside -/
def spInside (K : PySem.W.Frag) : Sp := fun vs H Q _ => ∃ (p : Addr) (s : Spot) (n : Nat) (F : Hp), vs = [.ref p, .int n] ∧ Same F H ∧ SpotAt K F p s ∧ s.o.isStmt s.wh = true ∧ s.lay.length ≤ 900 ∧
  ∀ F' H' (l : Addr) (qs : List Addr), Grow F H F' H' → H l = none → F' l = none → H' l = some (.lst (qs.map V.ref)) → Paired (SpotAt K F') qs (inside n s) → Q (.ref l) H'
abbrev s_spots_inside : Stmt := top 24
theorem sc_spots_inside : FnScope ["spot", "number", "statement", "_", "level", "whiles", "layers", "kind", "spots", "part"] ["spot", "number"] (defScope s_spots_inside) := ⟨rfl, rfl, rfl, by decide +kernel, rfl, by decide +kernel, by decide +kernel⟩
theorem ok_spots_inside {f : Addr} {fd : FuncData} (F : Fun K "spots_inside" "spots_inside" s_spots_inside f fd) (T : Txt K mg w c) (c_parts_of : Cal P w K mg base 1 "parts_of" (spParts K) []) :
    FnOk P w K mg base CX0 2 f fd ["spot", "number"] (spInside K) := by
  refine F.ok sc_spots_inside (fun vs H Q E h => ?_) (fun cdv A outer s H vs Q E hr h => ?_)
  · obtain ⟨p, s, n, F, rfl, _⟩ := h
    rfl
  · obtain ⟨p, s, n, F, rfl, sF, ⟨v, la, ht, ho, hl⟩, hst, hlay, k⟩ := h
    refine ⟨_, (pss_cons (ps_asg (pv 0) (pg_tup rfl (pgs_cons (pg_name (i := 2) sc_spots_inside.nd rfl (Or.inl rfl)) (pgs_cons (pg_name (i := 3) sc_spots_inside.nd rfl (Or.inl rfl)) (pgs_cons (pg_name (i := 4) sc_spots_inside.nd rfl (Or.inr rfl)) (pgs_cons (pg_name (i := 5) sc_spots_inside.nd rfl (Or.inr rfl)) (pgs_cons (pg_name (i := 6) sc_spots_inside.nd rfl (Or.inr rfl)) pgs_nil)))))))
(pss_cons (ps_set (i := 7) sc_spots_inside.nd rfl (Or.inl rfl) (pe_ix ix_tup (pv 2) pe_int (fun _ _ => rfl)))
(pss_cut (ps_if (pt_cmpR op_eq (pv 7) pe_str (nomark _))
(pss_one (ps_set (i := 5) sc_spots_inside.nd rfl (Or.inr rfl) (pe_op op_add (pv 5) pe_int)))
pss_nil)
(pss_cons (ps_setLc (i := 8) (own := [("part", 9)]) rfl sc_spots_inside.nd rfl rfl (sw_true rfl rfl rfl (by decide +kernel)) (pi_list (pe_c c_parts_of hr (by decide) rfl (pa_cons (pv 2) pa_nil))) (blkOk_by (N := ["spot", "number", "statement", "_", "level", "whiles", "layers", "kind", "spots", "part"]) (sc := defScope s_spots_inside) (by decide +kernel)) (fun _ _ _ _ _ => pg_name (i := 9) sc_spots_inside.nd rfl (Or.inl rfl)) (fun _ _ _ _ _ => pts_nil) (fun _ _ _ _ _ => (pe_tup (pa_cons (pv 9) (pa_cons (pv 1) (pa_cons (pe_op op_add (pv 4) pe_int) (pa_cons (pv 5) (pa_cons (pv 6) pa_nil))))))))
(pss_cons (ps_if (pt_cmpR op_eq (pv 7) pe_str (nomark _))
(pss_one (ps_asg (pe_tup (pa_cons (pe_ix ix_tup (pv 2) pe_int (fun _ _ => rfl)) (pa_cons (pv 1) (pa_cons (pe_op op_add (pv 4) pe_int) (pa_cons (pv 5) (pa_cons (pe_op op_cat (pv 6) (pe_lst (pa_cons (pv 1) pa_nil))) pa_nil)))))) (pg_sub (pv 8) pe_int set_list)))
pss_nil)
(pss_one (ps_ret (pv 8)))))))), ?_⟩
    have hk : s.o.hasKind = true := by
      unfold O.isStmt at hst
      exact (Bool.and_eq_true_iff.mp hst).1
    obtain ⟨so, spar, slev, swh, slay⟩ := s
    obtain ⟨z, r, rfl, hsz⟩ := hasKind_of hk
    obtain ⟨a, xs, rfl, hx, hos⟩ := ho.tup_eq
    obtain ⟨y, hy, hyo⟩ := hos.get (i := 0) (o := .str z) rfl
    obtain rfl := hyo.str_eq
    refine ⟨_, rfl, p, _, rfl, Same.sqt sF ht, rfl, _, _, rfl, _, _, rfl, _, _, rfl, _, _, rfl, _, _, rfl, rfl, ?_⟩
    refine ⟨_, rfl, a, xs, 0, _, rfl, rfl, Same.sqt sF hx, at_of rfl hy, ?_⟩
    have ekind : O.kind (.tup (.str z :: r)) = z := rfl
    refine ⟨fun σ' H' => H' = H ∧ σ' = [some (.ref p), some (.int n), some (.ref a), some (optV spar), some (.int slev), some (.int ((if z = "while" then swh + 1 else swh : Nat) : Int)), some (.ref la), some (.str z), none, none], ?_, ?_⟩
    · refine ⟨_, rfl, rfl, _, rfl, ?_⟩
      refine ite2 (fun h1 => ?_) (fun h1 => ?_)
      · have e : z = "while" := V.str.inj (of_decide_eq_true h1)
        refine ⟨_, rfl, _, _, rfl, rfl, rfl, ?_⟩
        rw [if_pos e]
        rfl
      · have e : ¬ z = "while" := fun q => h1 (decide_eq_true (by rw [q]))
        refine ⟨rfl, ?_⟩
        rw [if_neg e]
        rfl
    rintro σ' H' ⟨rfl, rfl⟩
    refine ⟨_, rfl, .ref a, _, swh, F, rfl, sF, ho, hst, fun H1 b ys s1 hb e1 hys => ?_⟩
    refine ⟨b, rfl, ⟨_, SqL.of e1⟩, fun D hD => ?_⟩
    have sF1 : Same F H1 := sF.trans s1
    have grow0 : Grow F H' F H1 := ⟨s1, Same.refl F, sF1, fun _ q _ => q⟩
    have fD : F D = none := sF1.free hD
    -- the loop: what is frozen grows by the tuples
    refine lc_list (xs := ys) (fun i H2 => ∃ (F2 : Hp) (qs : List Addr), Grow F H' F2 H2 ∧ F2 D = none ∧ H2 b = some (.lst ys) ∧ H2 D = some (.lst (qs.map V.ref)) ∧
        Paired (SpotAt K F2) qs (((O.parts (.tup (.str z :: r))).take i).map (inner n ⟨.tup (.str z :: r), spar, slev, swh, slay⟩)))
      ⟨F, [], grow0.trans (Grow.mut sF1 hD), fD, by rw [upd_ne (ne_of_none e1 hD)]; exact e1, upd_same, .nil⟩ (fun i H2 _ ⟨_, _, _, _, e2, _⟩ => SqL.of e2) ?_ ?_
    · rintro i x H2 hx2 ⟨F2, qs, g2, f2, e2, eD, pq⟩
      refine ⟨rfl, ?_⟩
      refine ⟨_, rfl, _, rfl, _, rfl, _, _, rfl, rfl, _, rfl, _, rfl, (by show 5 ≤ sizeLine; decide), fun q hq => ?_⟩
      have nqD : q ≠ D := (ne_of_none eD hq).symm
      have nqb : q ≠ b := (ne_of_none e2 hq).symm
      have hlen : ys.length = (O.parts (.tup (.str z :: r))).length := hys.len
      have hi : i < ys.length := (List.getElem?_eq_some_iff.mp hx2).1
      have plen : (O.parts (.tup (.str z :: r))).length < 20000 := ho.parts_lt
      have qlen : qs.length ≤ i := by
        have e := Paired.length pq
        rw [List.length_map, List.length_take] at e
        omega
      have H0D : H' D = none := s1.free hD
      refine ⟨qs.map V.ref, by rw [upd_ne nqD.symm]; exact eD, ?_, upd F2 q (.tup [x, .int n, .int ((slev : Int) + 1), .int ((if z = "while" then swh + 1 else swh : Nat) : Int), .ref la]), qs ++ [q], ?_, ?_, ?_, ?_, ?_⟩
      · rw [List.length_map]
        exact Nat.lt_of_le_of_lt qlen (Nat.lt_trans (by omega : i < 20000) (by decide))
      · exact (g2.trans (Grow.add g2.fh hq)).chg H0D (by rw [upd_ne nqD.symm]; exact f2)
      · rw [upd_ne nqD.symm]
        exact f2
      · rw [upd_ne (ne_of_none e1 hD), upd_ne nqb.symm]
        exact e2
      · rw [upd_same, List.map_append]
        rfl
      · obtain ⟨o, ho1⟩ : ∃ o, (O.parts (.tup (.str z :: r)))[i]? = some o := ⟨_, List.getElem?_eq_getElem (by omega)⟩
        obtain ⟨x', hx', hxo⟩ := hys.get ho1
        rw [hx2] at hx'
        cases hx'
        have sq : Same F2 (upd F2 q (.tup [x, .int n, .int ((slev : Int) + 1), .int ((if z = "while" then swh + 1 else swh : Nat) : Int), .ref la])) := Same.put (g2.fh.free hq)
        rw [List.take_add_one, ho1, List.map_append]
        refine Paired.snoc ?_ (Paired.map2 (fun _ _ h => SpotAt.mono sq h) pq)
        exact ⟨x, la, SqT.of upd_same, hxo.mono (g2.ff.trans sq), g2.ff.trans sq _ _ hl⟩
    · rintro H2 ⟨F2, qs, g2, f2, e2, eD, pq⟩
      have hlen : ys.length = (O.parts (.tup (.str z :: r))).length := hys.len
      rw [hlen, List.take_of_length_le (Nat.le_refl _)] at pq
      refine ⟨_, rfl, rfl, _, rfl, ?_⟩
      have H0D : H' D = none := s1.free hD
      refine ite2 (fun h1 => ?_) (fun h1 => ?_)
      · have e : z = "final" := V.str.inj (of_decide_eq_true h1)
        obtain ⟨o1, o2, rfl⟩ : ∃ o1 o2, r = [o1, o2] := by
          rw [e] at hsz
          have q : r.length + 1 = 3 := (Option.some.inj hsz).symm
          match r, q with
          | [o1, o2], _ => exact ⟨o1, o2, rfl⟩
        have ep : O.parts (.tup [.str z, o1, o2]) = [o1, o2] := by
          subst e
          rfl
        rw [ep] at pq
        obtain ⟨y2, hy2, hyo2⟩ := hos.get (i := 2) (o := o2) rfl
        cases pq with
        | @cons q1 _ qs' _ p1 pq =>
          cases pq with
          | @cons q2 _ qs'' _ p2 pq =>
            cases pq
            have sH : Same F H2 := g2.ff.trans g2.fh
            refine ⟨_, rfl, a, xs, 2, y2, rfl, rfl, Same.sqt sH hx, at_of rfl hy2, _, rfl, _, rfl, _, _, rfl, rfl, _, rfl, _, rfl, _, rfl, (by show 1 ≤ sizeLine; decide), fun m hm => ?_⟩
            have g3 := g2.trans (Grow.mut (o := .lst [.int n]) g2.fh hm)
            have mD : D ≠ m := ne_of_none eD hm
            have mla : la ≠ m := ne_of_none (sH _ _ hl) hm
            refine ⟨la, m, _, _, rfl, rfl, by rw [upd_ne mla]; exact sH _ _ hl, upd_same, ?_, fun l hl2 => ?_⟩
            · unfold intsV
              rw [List.length_map]
              have q900 : slay.length ≤ 900 := hlay
              exact Nat.le_of_lt (small1000 (by show slay.length + 1 ≤ 1000; omega))
            have g4 := g3.trans (Grow.add (o := .lst (intsV slay ++ [.int n])) g3.fh hl2)
            have lD : D ≠ l := ne_of_none (by rw [upd_ne mD]; exact eD) hl2
            refine ⟨by show 5 ≤ sizeLine; decide, fun t ht2 => ?_⟩
            have tD : D ≠ t := ne_of_none (by rw [upd_ne lD, upd_ne mD]; exact eD) ht2
            have g5 := g4.trans (Grow.add (o := .tup [y2, .int n, .int ((slev : Int) + 1), .int ((if z = "while" then swh + 1 else swh : Nat) : Int), .ref l]) g4.fh ht2)
            have lt : l ≠ t := ne_of_none upd_same ht2
            refine ⟨_, rfl, D, _, _, 1, rfl, rfl, by rw [upd_ne tD, upd_ne lD, upd_ne mD]; exact eD, rfl, ?_⟩
            have fD5 : upd (upd F2 l (.lst (intsV slay ++ [.int n]))) t (.tup [y2, .int n, .int ((slev : Int) + 1), .int ((if z = "while" then swh + 1 else swh : Nat) : Int), .ref l]) D = none := by
              rw [upd_ne tD, upd_ne lD]
              exact f2
            have s25 : Same F2 (upd (upd F2 l (.lst (intsV slay ++ [.int n]))) t (.tup [y2, .int n, .int ((slev : Int) + 1), .int ((if z = "while" then swh + 1 else swh : Nat) : Int), .ref l])) := by
              refine Same.new (Same.put (g3.fh.free hl2)) ?_
              rw [upd_ne lt.symm]
              exact g3.fh.free (by rw [upd_ne lt.symm] at ht2; exact ht2)
            refine ⟨_, rfl, k _ _ D [q1, t] (g5.chg H0D fD5) H0D fD5 upd_same ?_⟩
            unfold inside
            have ef : O.kind (.tup [.str z, o1, o2]) = "final" := e
            show Paired _ _ (if O.kind (.tup [.str z, o1, o2]) = "final" then (match O.parts (.tup [.str z, o1, o2]) with | [u1, u2] => [inner n ⟨.tup [.str z, o1, o2], spar, slev, swh, slay⟩ u1, inBlock n ⟨.tup [.str z, o1, o2], spar, slev, swh, slay⟩ u2] | _ => []) else _)
            rw [if_pos ef, ep]
            refine .cons (SpotAt.mono s25 p1) (.cons ?_ .nil)
            refine ⟨y2, l, SqT.of upd_same, hyo2.mono (g2.ff.trans s25), ?_⟩
            rw [upd_ne lt, upd_same]
            show some (HO.lst (intsV slay ++ [V.int n])) = some (.lst (intsV (slay ++ [n])))
            unfold intsV
            rw [List.map_append]
            rfl
      · have e : ¬ z = "final" := fun q => h1 (decide_eq_true (by rw [q]))
        refine ⟨_, rfl, k F2 _ D qs g2 H0D f2 eD ?_⟩
        show Paired (SpotAt K F2) qs (if z = "final" then _ else _)
        rw [if_neg e]
        exact pq
end
end K4
end L2
set_option Elab.async false
set_option linter.all false
set_option maxRecDepth 100000
set_option maxHeartbeats 8000000
namespace L2
namespace K4
open PySem PySem.Spec PyProof.Rows Fc C8
section
variable {P : Program} {w : World} {K : PySem.W.Frag} {mg : Str → Option Value} {base : Heap} {c : Cs}

/-! ### Code._keep -/
def spKeep (K : PySem.W.Frag) (c : Cs) : Sp := fun vs H Q _ => ∃ (p q : Addr) (rows : List Spot) (s : Spot) (F R : Hp) (dx S D A B L : Addr) (ts : List Addr),
  vs = [.ref p, .ref q, .int (rows.length : Nat)] ∧ Same F R ∧ Same R H ∧ CodeSt K c.cCode F H p dx S D A B L ts rows ∧ Off R (own p dx S D A B L ts) ∧ SpotAt K F q s ∧ s.o.isStmt s.wh = true ∧
  rows.length ≤ 1000 ∧ (∀ m, s.par = some m → m < rows.length) ∧ (∀ r ∈ rows, ∀ m, r.par = some m → m < rows.length) ∧
  ∀ (F' H' : Hp) (t : Addr), Same F F' → Same F' H' → Same R H' → (∀ b, F b = none → H b ≠ none → F' b = none) → H t = none → Off F' (own p dx S D A B L (ts ++ [t])) →
    CodeSt K c.cCode F' H' p dx S D A B L (ts ++ [t]) (rows ++ [s]) → Q .non H'
abbrev s_keep : Stmt := inClass (top 25) 1
theorem sc_keep : FnScope ["self", "spot", "number", "statement", "parent", "_", "layers"] ["self", "spot", "number"] (defScope s_keep) := ⟨rfl, rfl, rfl, by decide +kernel, rfl, by decide +kernel, by decide +kernel⟩
theorem ok_keep {f : Addr} {fd : FuncData} (Fn : Fun K "_keep" "Code._keep" s_keep f fd) (T : Txt K mg w c) (c_head_of : Cal P w K mg base 1 "head_of" (spHead K) []) :
    FnOk P w K mg base CX0 2 f fd ["self", "spot", "number"] (spKeep K c) := by
  refine Fn.ok sc_keep (fun vs H Q E h => ?_) (fun cdv A0 outer s0 H vs Q E hr h => ?_)
  · obtain ⟨p, q, rows, s, F, R, dx, S, D, A, B, L, ts, rfl, _⟩ := h
    rfl
  · obtain ⟨p, q, rows, s, F, R, dx, S, D, A, B, L, ts, rfl, sFR, sRH, cs, off, ⟨v, la, hq, ho, hla⟩, hst, hlen, hpar, hpars, k⟩ := h
    refine ⟨_, (pss_cons (ps_asg (pv 1) (pg_tup rfl (pgs_cons (pg_name (i := 3) sc_keep.nd rfl (Or.inl rfl)) (pgs_cons (pg_name (i := 4) sc_keep.nd rfl (Or.inl rfl)) (pgs_cons (pg_name (i := 5) sc_keep.nd rfl (Or.inl rfl)) (pgs_cons (pg_name (i := 5) sc_keep.nd rfl (Or.inl rfl)) (pgs_cons (pg_name (i := 6) sc_keep.nd rfl (Or.inl rfl)) pgs_nil)))))))
(pss_cons (ps_expr (pe_bm PySem.F.plainAttrs_list PySem.F.slot_list_append PySem.F.type_list_append mt_append (pe_fld (pv 0) rfl) (pa_cons (pv 3) pa_nil)))
(pss_cons (ps_expr (pe_bm PySem.F.plainAttrs_list PySem.F.slot_list_append PySem.F.type_list_append mt_append (pe_fld (pv 0) rfl) (pa_cons (pe_c c_head_of hr (by decide) rfl (pa_cons (pv 3) pa_nil)) pa_nil)))
(pss_cons (ps_expr (pe_bm PySem.F.plainAttrs_list PySem.F.slot_list_append PySem.F.type_list_append mt_append (pe_fld (pv 0) rfl) (pa_cons (pv 4) pa_nil)))
(pss_cons (ps_expr (pe_bm PySem.F.plainAttrs_list PySem.F.slot_list_append PySem.F.type_list_append mt_append (pe_fld (pv 0) rfl) (pa_cons (pe_lst pa_nil) pa_nil)))
(pss_cons (ps_expr (pe_bm PySem.F.plainAttrs_list PySem.F.slot_list_append PySem.F.type_list_append mt_append (pe_fld (pv 0) rfl) (pa_cons (pv 6) pa_nil)))
(pss_one (ps_if (pt_cmpR op_notN (pv 4) pe_non (nomark _))
(pss_one (ps_expr (pe_bm PySem.F.plainAttrs_list PySem.F.slot_list_append PySem.F.type_list_append mt_append (pe_ix ix_list (pe_fld (pv 0) rfl) (pv 4) (fun _ _ => rfl)) (pa_cons (pv 2) pa_nil))))
pss_nil)))))))), ?_⟩
    obtain ⟨vs, eS, oS⟩ := cs.st
    obtain ⟨hs, eD, qD⟩ := cs.hd
    obtain ⟨ls, eL, qL⟩ := cs.la
    have eA := cs.pa
    have eB := cs.pt
    have sFH : Same F H := sFR.trans sRH
    -- who is who
    have nd := cs.nd
    simp only [List.nodup_cons, List.mem_cons, not_or] at nd
    obtain ⟨⟨nSD, nSA, nSB, nSL, nSt⟩, ⟨nDA, nDB, nDL, nDt⟩, ⟨nAB, nAL, nAt⟩, ⟨nBL, nBt⟩, nLt, ndt⟩ := nd
    have il : ∀ {x : Addr} {xs : List V}, H x = some (.lst xs) → p ≠ x := fun e => ne_of cs.ins e (by intro z; cases z)
    have pS := il eS
    have pD := il eD
    have pA := il eA
    have pB := il eB
    have pL := il eL
    have lenS : vs.length = rows.length := by rw [oS.len, List.length_map]
    have lenD : hs.length = rows.length := Paired.length qD
    have lenL : ls.length = rows.length := Paired.length qL
    refine ⟨_, rfl, q, _, rfl, Same.sqt sFH hq, rfl, _, _, rfl, _, _, rfl, _, _, rfl, _, _, rfl, _, _, rfl, rfl, ?_⟩
    -- self._statements.append(statement)
    refine ⟨_, rfl, p, c.cCode, dx, _, _, rfl, cs.ins, T.cl, T.a_st, cf_S, .inl ⟨rfl, _, SqL.of eS⟩, _, rfl, S, _, _, rfl, rfl, eS, small1000 (by omega), ?_⟩
    -- self._heads.append(head_of(statement))
    have fS : F S = none := Same.free sFR (off S (by simp [own]))
    have i1 : upd H S (.lst (vs ++ [v])) p = some (.ins c.cCode dx (cf S D A B L)) := by rw [upd_ne pS]; exact cs.ins
    have d1 : upd H S (.lst (vs ++ [v])) D = some (.lst (hs.map V.ref)) := by rw [upd_ne (Ne.symm nSD)]; exact eD
    refine ⟨_, rfl, p, c.cCode, dx, _, _, rfl, i1, T.cl, T.a_hd, cf_D, .inl ⟨rfl, _, SqL.of d1⟩, _, rfl, v, _, _, F, rfl, Same.chg sFH fS, ho, hst, fun h ys hh hys => ?_⟩
    have both : ∀ {a b : Addr}, a ≠ b → (a = b) = False ∧ (b = a) = False := fun n => ⟨eq_false n, eq_false (Ne.symm n)⟩
    obtain ⟨hS, hH⟩ := upd_none hh
    have th : ∀ {x : Addr} {o : HO}, H x = some o → x ≠ h := fun e => ne_of_none e hH
    obtain ⟨a1, b1⟩ := both nSD
    obtain ⟨a2, b2⟩ := both nSA
    obtain ⟨a3, b3⟩ := both nSB
    obtain ⟨a4, b4⟩ := both nSL
    obtain ⟨a5, b5⟩ := both nDA
    obtain ⟨a6, b6⟩ := both nDB
    obtain ⟨a7, b7⟩ := both nDL
    obtain ⟨a8, b8⟩ := both nAB
    obtain ⟨a9, b9⟩ := both nAL
    obtain ⟨a10, b10⟩ := both nBL
    obtain ⟨a11, b11⟩ := both pS
    obtain ⟨a12, b12⟩ := both pD
    obtain ⟨a13, b13⟩ := both pA
    obtain ⟨a14, b14⟩ := both pB
    obtain ⟨a15, b15⟩ := both pL
    obtain ⟨a16, b16⟩ := both (th eS)
    obtain ⟨a17, b17⟩ := both (th eD)
    obtain ⟨a18, b18⟩ := both (th eA)
    obtain ⟨a19, b19⟩ := both (th eB)
    obtain ⟨a20, b20⟩ := both (th eL)
    obtain ⟨a21, b21⟩ := both (th cs.ins)
    have d2 : upd (upd H S (.lst (vs ++ [v]))) h (.tup ys) D = some (.lst (hs.map V.ref)) := by
      simp only [upd, a17, b1, if_false, eD]
    refine ⟨D, _, _, rfl, rfl, d2, small1000 (by rw [List.length_map]; omega), ?_⟩
    -- self._parents.append(parent)
    refine ⟨_, rfl, p, c.cCode, dx, _, _, rfl, by simp only [upd, a12, a21, a11, if_false]; exact cs.ins, T.cl, T.a_pa, cf_A, .inl ⟨rfl, _, SqL.of (by simp only [upd, b5, a18, b2, if_false]; exact eA)⟩, _, rfl, A, _, _, rfl, rfl, by simp only [upd, b5, a18, b2, if_false]; exact eA, small1000 (by rw [List.length_map]; omega), ?_⟩
    -- self._parts.append([])
    refine ⟨_, rfl, p, c.cCode, dx, _, _, rfl, by simp only [upd, a13, a12, a21, a11, if_false]; exact cs.ins, T.cl, T.a_pt, cf_B, .inl ⟨rfl, _, SqL.of (by simp only [upd, b8, b6, a19, b3, if_false]; exact eB)⟩, ?_⟩
    refine ⟨Nat.zero_le _, fun t ht => ?_⟩
    obtain ⟨tA, ht4⟩ := upd_none ht
    obtain ⟨tD, ht3⟩ := upd_none ht4
    obtain ⟨t_h, ht2⟩ := upd_none ht3
    obtain ⟨tS, tH⟩ := upd_none ht2
    have tt : ∀ {x : Addr} {o : HO}, H x = some o → x ≠ t := fun e => ne_of_none e tH
    obtain ⟨c1, e1⟩ := both (tt eS)
    obtain ⟨c2, e2⟩ := both (tt eD)
    obtain ⟨c3, e3⟩ := both (tt eA)
    obtain ⟨c4, e4⟩ := both (tt eB)
    obtain ⟨c5, e5⟩ := both (tt eL)
    obtain ⟨c6, e6⟩ := both (tt cs.ins)
    obtain ⟨c7, e7⟩ := both t_h
    refine ⟨B, _, _, rfl, rfl, by simp only [upd, c4, b8, b6, a19, b3, if_false]; exact eB, small1000 (by rw [List.length_map, cs.cl]; omega), ?_⟩
    -- self._layers.append(layers)
    refine ⟨_, rfl, p, c.cCode, dx, _, _, rfl, by simp only [upd, a14, c6, a13, a12, a21, a11, if_false]; exact cs.ins, T.cl, T.a_la, cf_L, .inl ⟨rfl, _, SqL.of (by simp only [upd, b10, c5, b9, b7, a20, b4, if_false]; exact eL)⟩, _, rfl, L, _, _, rfl, rfl, by simp only [upd, b10, c5, b9, b7, a20, b4, if_false]; exact eL, small1000 (by rw [List.length_map]; omega), ?_⟩
    -- what is frozen now
    have hF : F h = none := Same.free sFH hH
    have hR : R h = none := Same.free sRH hH
    have tF : F t = none := Same.free sFH tH
    have tR : R t = none := Same.free sRH tH
    have offF : Off F (own p dx S D A B L ts) := off.of sFR
    have sF1 : Same F (upd F h (.tup ys)) := Same.put hF
    have hown : h ∉ own p dx S D A B L ts := fun m => cs.there h m hH
    have town : t ∉ own p dx S D A B L ts := fun m => cs.there t m tH
    have rS : R S = none := off S (by simp [own])
    have rD : R D = none := off D (by simp [own])
    have rA : R A = none := off A (by simp [own])
    have rB : R B = none := off B (by simp [own])
    have rL : R L = none := off L (by simp [own])
    have dxt : ∀ {x : Addr} {xs : List V}, H x = some (.lst xs) → dx ≠ x := fun e => ne_of cs.ow e (by intro z; cases z)
    have oth : ∀ {i : Nat} {x : Addr}, ts[i]? = some x → (x ≠ S ∧ x ≠ D ∧ x ≠ A ∧ x ≠ B ∧ x ≠ L) ∧ x ≠ h ∧ x ≠ t ∧ x ≠ p ∧ x ≠ dx := by
      intro i x e
      have m : x ∈ ts := List.mem_of_getElem? e
      have z := cs.ch i x e
      exact ⟨⟨fun q => nSt (q ▸ m), fun q => nDt (q ▸ m), fun q => nAt (q ▸ m), fun q => nBt (q ▸ m), fun q => nLt (q ▸ m)⟩, th z, tt z, (il z).symm, (dxt z).symm⟩
    have finish : ∀ H', Same R H' → H' h = some (.tup ys) → H' p = some (.ins c.cCode dx (cf S D A B L)) → H' dx = some (.own p) → H' S = some (.lst (vs ++ [v])) → H' D = some (.lst (hs.map V.ref ++ [.ref h])) →
        H' A = some (.lst (rows.map (fun s => optV s.par) ++ [optV s.par])) → H' B = some (.lst (ts.map V.ref ++ [.ref t])) → H' L = some (.lst (ls.map V.ref ++ [.ref la])) →
        (∀ i x, (ts ++ [t])[i]? = some x → H' x = some (.lst (intsV (kids (rows ++ [s]) i)))) → Q .non H' := by
      intro H' r1 r2 r3 r4 r5 r6 r7 r8 r9 r10
      have sFH' : Same F H' := sFR.trans r1
      refine k (upd F h (.tup ys)) H' t sF1 (Same.plus sFH' r2) r1 (fun b f n => by rw [upd_ne (fun z => n (by rw [z]; exact hH))]; exact f) tH ?_ ⟨r3, r4, ⟨vs ++ [v], r5, ?_⟩, ⟨hs ++ [h], ?_, ?_⟩, ?_, ?_, ?_, r10, ⟨ls ++ [la], ?_, ?_⟩, ?_⟩
      · intro b m
        have hb : b ≠ h ∧ F b = none := by
          have m2 : b ∈ own p dx S D A B L ts ∨ b = t := by
            unfold own at m ⊢
            simp only [List.mem_cons, List.mem_append, List.mem_nil_iff, or_false] at m ⊢
            rcases m with z | z | z | z | z | z | z | z | z <;> simp [z]
          rcases m2 with m2 | rfl
          · exact ⟨fun z => hown (z ▸ m2), offF b m2⟩
          · exact ⟨t_h, tF⟩
        rw [upd_ne hb.1]
        exact hb.2
      · rw [List.map_append]
        exact Obs.snoc (oS.mono sF1) (ho.mono sF1)
      · rw [r6, List.map_append]
        rfl
      · exact Paired.snoc ⟨ys, upd_same, hys.mono sF1⟩ (Paired.map2 (fun _ _ ⟨ys, e, o⟩ => ⟨ys, sF1 _ _ e, o.mono sF1⟩) qD)
      · rw [r7, List.map_append]
        rfl
      · rw [r8, List.map_append]
        rfl
      · rw [List.length_append, List.length_append, cs.cl]
        rfl
      · rw [r9, List.map_append]
        rfl
      · exact Fc.Paired.snoc (R := fun l (s : Spot) => upd F h (.tup ys) l = some (.lst (intsV s.lay))) (sF1 _ _ hla) (Paired.map2 (fun _ _ e => sF1 _ _ e) qL)
      · have z := cs.nd
        simp only [List.nodup_cons, List.mem_cons, not_or, List.mem_append, List.mem_nil_iff, or_false, List.nodup_append, List.nodup_nil] at z ⊢
        obtain ⟨⟨_, _, _, _, _⟩, ⟨_, _, _, _⟩, ⟨_, _, _⟩, ⟨_, _⟩, _, _⟩ := z
        refine ⟨⟨nSD, nSA, nSB, nSL, nSt, tt eS⟩, ⟨nDA, nDB, nDL, nDt, tt eD⟩, ⟨nAB, nAL, nAt, tt eA⟩, ⟨nBL, nBt, tt eB⟩, ⟨nLt, tt eL⟩, ndt, ⟨by simp, trivial⟩, ?_⟩
        intro x hx y hy q
        subst hy
        subst q
        exact town (by unfold own; simp [hx])
    obtain ⟨so, spar, slev, swh, slay⟩ := s
    have same7 : Same R (upd (upd (upd (upd (upd (upd (upd H S (.lst (vs ++ [v]))) h (.tup ys)) D (.lst (hs.map V.ref ++ [.ref h]))) A (.lst (rows.map (fun s => optV s.par) ++ [optV spar]))) t (.lst [])) B (.lst (ts.map V.ref ++ [.ref t]))) L (.lst (ls.map V.ref ++ [.ref la]))) :=
      Same.chg (Same.chg (Same.chg (Same.chg (Same.chg (Same.chg (Same.chg sRH rS) hR) rD) rA) tR) rB) rL
    have g1 := eq_false (dxt eS)
    have g2 := eq_false (dxt eD)
    have g3 := eq_false (dxt eA)
    have g4 := eq_false (dxt eB)
    have g5 := eq_false (dxt eL)
    have g6 := eq_false (th cs.ow)
    have g7 := eq_false (tt cs.ow)
    have kid : ∀ i, i < rows.length → slev = slev → kids (rows ++ [(⟨so, spar, slev, swh, slay⟩ : Spot)]) i = kids rows i ++ (if spar = some i then [rows.length] else []) := fun i _ _ => kids_snoc rows _ i
    have kidn : kids (rows ++ [(⟨so, spar, slev, swh, slay⟩ : Spot)]) rows.length = [] := by
      rw [kids_snoc, kids_none hpars, if_neg]
      · rfl
      · intro q
        exact absurd (hpar _ q) (Nat.lt_irrefl _)
    cases spar with
    | none =>
      refine ⟨_, rfl, rfl, _, rfl, iteF ?_⟩
      refine finish _ same7 ?_ ?_ ?_ ?_ ?_ ?_ ?_ ?_ ?_
      case refine_9 =>
        intro i x e
        by_cases hi : i < ts.length
        · rw [List.getElem?_append_left hi] at e
          obtain ⟨⟨n1, n2, n3, n4, n5⟩, n6, n7, _, _⟩ := oth e
          rw [kid i (by rw [← cs.cl]; exact hi) rfl, if_neg (by intro z; cases z), List.append_nil]
          simp only [upd, n1, n2, n3, n4, n5, n6, n7, if_false]
          exact cs.ch i x e
        · have hi2 : i = ts.length := by
            have z := (List.getElem?_eq_some_iff.mp e).1
            rw [List.length_append, List.length_singleton] at z
            omega
          subst hi2
          rw [List.getElem?_append_right (Nat.le_refl _), Nat.sub_self] at e
          cases e
          rw [cs.cl, kidn]
          simp only [upd, a1, b1, a2, b2, a3, b3, a4, b4, a5, b5, a6, b6, a7, b7, a8, b8, a9, b9, a10, b10, a11, b11, a12, b12, a13, b13, a14, b14, a15, b15, a16, b16, a17, b17, a18, b18, a19, b19, a20, b20, a21, b21, c1, e1, c2, e2, c3, e3, c4, e4, c5, e5, c6, e6, c7, e7, g1, g2, g3, g4, g5, g6, g7, if_false, if_true]
          rfl
      all_goals first
        | (simp only [upd, a1, b1, a2, b2, a3, b3, a4, b4, a5, b5, a6, b6, a7, b7, a8, b8, a9, b9, a10, b10, a11, b11, a12, b12, a13, b13, a14, b14, a15, b15, a16, b16, a17, b17, a18, b18, a19, b19, a20, b20, a21, b21, c1, e1, c2, e2, c3, e3, c4, e4, c5, e5, c6, e6, c7, e7, g1, g2, g3, g4, g5, g6, g7, if_false, if_true]; done)
        | (simp only [upd, a1, b1, a2, b2, a3, b3, a4, b4, a5, b5, a6, b6, a7, b7, a8, b8, a9, b9, a10, b10, a11, b11, a12, b12, a13, b13, a14, b14, a15, b15, a16, b16, a17, b17, a18, b18, a19, b19, a20, b20, a21, b21, c1, e1, c2, e2, c3, e3, c4, e4, c5, e5, c6, e6, c7, e7, g1, g2, g3, g4, g5, g6, g7, if_false, if_true]; exact cs.ins)
        | (simp only [upd, a1, b1, a2, b2, a3, b3, a4, b4, a5, b5, a6, b6, a7, b7, a8, b8, a9, b9, a10, b10, a11, b11, a12, b12, a13, b13, a14, b14, a15, b15, a16, b16, a17, b17, a18, b18, a19, b19, a20, b20, a21, b21, c1, e1, c2, e2, c3, e3, c4, e4, c5, e5, c6, e6, c7, e7, g1, g2, g3, g4, g5, g6, g7, if_false, if_true]; exact cs.ow)
    | some m =>
      have hm := hpar m rfl
      obtain ⟨x, hx⟩ : ∃ x, ts[m]? = some x := ⟨_, List.getElem?_eq_getElem (by rw [cs.cl]; exact hm)⟩
      obtain ⟨⟨n1, n2, n3, n4, n5⟩, n6, n7, n8, n9⟩ := oth hx
      have ex := cs.ch m x hx
      have q1 := eq_false n1.symm
      have q2 := eq_false n2.symm
      have q3 := eq_false n3.symm
      have q4 := eq_false n4.symm
      have q5 := eq_false n5.symm
      have q6 := eq_false n6.symm
      have q7 := eq_false n7.symm
      have q8 := eq_false n8.symm
      have q9 := eq_false n9.symm
      refine ⟨_, rfl, rfl, _, rfl, iteT ?_⟩
      refine ⟨_, rfl, p, c.cCode, dx, _, _, rfl, by simp only [upd, a1, b1, a2, b2, a3, b3, a4, b4, a5, b5, a6, b6, a7, b7, a8, b8, a9, b9, a10, b10, a11, b11, a12, b12, a13, b13, a14, b14, a15, b15, a16, b16, a17, b17, a18, b18, a19, b19, a20, b20, a21, b21, c1, e1, c2, e2, c3, e3, c4, e4, c5, e5, c6, e6, c7, e7, g1, g2, g3, g4, g5, g6, g7, q1, q2, q3, q4, q5, q6, q7, q8, q9, if_false, if_true]; exact cs.ins, T.cl, T.a_pt, cf_B, _, rfl, B, _, (m : Nat), V.ref x, rfl, rfl, SqL.of (by simp only [upd, a1, b1, a2, b2, a3, b3, a4, b4, a5, b5, a6, b6, a7, b7, a8, b8, a9, b9, a10, b10, a11, b11, a12, b12, a13, b13, a14, b14, a15, b15, a16, b16, a17, b17, a18, b18, a19, b19, a20, b20, a21, b21, c1, e1, c2, e2, c3, e3, c4, e4, c5, e5, c6, e6, c7, e7, g1, g2, g3, g4, g5, g6, g7, q1, q2, q3, q4, q5, q6, q7, q8, q9, if_false, if_true]; rfl), ?_, .inl ⟨rfl, _, SqL.of (by simp only [upd, n1, n2, n3, n4, n5, n6, n7, if_false]; exact ex)⟩, _, rfl, x, _, _, rfl, rfl, (by simp only [upd, n1, n2, n3, n4, n5, n6, n7, if_false]; exact ex), ?_, ?_⟩
      · refine at_of rfl ?_
        rw [List.getElem?_append_left (by rw [List.length_map, cs.cl]; exact hm), List.getElem?_map, hx]
        rfl
      · unfold intsV
        rw [List.length_map]
        exact small1000 (Nat.le_trans (kids_len _ _) hlen)
      refine finish _ (Same.chg same7 (off x (by unfold own; simp [List.mem_of_getElem? hx]))) ?_ ?_ ?_ ?_ ?_ ?_ ?_ ?_ ?_
      case refine_9 =>
        intro i y e
        by_cases hi : i < ts.length
        · rw [List.getElem?_append_left hi] at e
          obtain ⟨⟨m1, m2, m3, m4, m5⟩, m6, m7, _, _⟩ := oth e
          rw [kid i (by rw [← cs.cl]; exact hi) rfl]
          by_cases hy : y = x
          · subst hy
            obtain rfl : i = m := nd_ix ndt e hx
            rw [if_pos rfl, upd_same]
            unfold intsV
            rw [List.map_append]
            rfl
          · have im : ¬ some m = some i := fun z => hy (by
              cases z
              rw [e] at hx
              exact Option.some.inj hx)
            rw [if_neg im, List.append_nil]
            simp only [upd, hy, m1, m2, m3, m4, m5, m6, m7, if_false]
            exact cs.ch i y e
        · have hi2 : i = ts.length := by
            have z := (List.getElem?_eq_some_iff.mp e).1
            rw [List.length_append, List.length_singleton] at z
            omega
          subst hi2
          rw [List.getElem?_append_right (Nat.le_refl _), Nat.sub_self] at e
          cases e
          rw [cs.cl, kidn]
          simp only [upd, a1, b1, a2, b2, a3, b3, a4, b4, a5, b5, a6, b6, a7, b7, a8, b8, a9, b9, a10, b10, a11, b11, a12, b12, a13, b13, a14, b14, a15, b15, a16, b16, a17, b17, a18, b18, a19, b19, a20, b20, a21, b21, c1, e1, c2, e2, c3, e3, c4, e4, c5, e5, c6, e6, c7, e7, g1, g2, g3, g4, g5, g6, g7, q1, q2, q3, q4, q5, q6, q7, q8, q9, if_false, if_true]
          rfl
      all_goals first
        | (simp only [upd, a1, b1, a2, b2, a3, b3, a4, b4, a5, b5, a6, b6, a7, b7, a8, b8, a9, b9, a10, b10, a11, b11, a12, b12, a13, b13, a14, b14, a15, b15, a16, b16, a17, b17, a18, b18, a19, b19, a20, b20, a21, b21, c1, e1, c2, e2, c3, e3, c4, e4, c5, e5, c6, e6, c7, e7, g1, g2, g3, g4, g5, g6, g7, q1, q2, q3, q4, q5, q6, q7, q8, q9, if_false, if_true]; done)
        | (simp only [upd, a1, b1, a2, b2, a3, b3, a4, b4, a5, b5, a6, b6, a7, b7, a8, b8, a9, b9, a10, b10, a11, b11, a12, b12, a13, b13, a14, b14, a15, b15, a16, b16, a17, b17, a18, b18, a19, b19, a20, b20, a21, b21, c1, e1, c2, e2, c3, e3, c4, e4, c5, e5, c6, e6, c7, e7, g1, g2, g3, g4, g5, g6, g7, q1, q2, q3, q4, q5, q6, q7, q8, q9, if_false, if_true]; exact cs.ins)
        | (simp only [upd, a1, b1, a2, b2, a3, b3, a4, b4, a5, b5, a6, b6, a7, b7, a8, b8, a9, b9, a10, b10, a11, b11, a12, b12, a13, b13, a14, b14, a15, b15, a16, b16, a17, b17, a18, b18, a19, b19, a20, b20, a21, b21, c1, e1, c2, e2, c3, e3, c4, e4, c5, e5, c6, e6, c7, e7, g1, g2, g3, g4, g5, g6, g7, q1, q2, q3, q4, q5, q6, q7, q8, q9, if_false, if_true]; exact cs.ow)
end
end K4
end L2
set_option Elab.async false
set_option linter.all false
set_option maxRecDepth 100000
set_option maxHeartbeats 8000000
namespace L2
namespace K4
open PySem PySem.Spec PyProof.Rows Fc C8
section
variable {P : Program} {w : World} {K : PySem.W.Frag} {mg : Str → Option Value} {base : Heap} {c : Cs}

/-! ### Code.__init__ -/
def spInit (K : PySem.W.Frag) (c : Cs) : Sp := fun vs H Q E => ∃ (p dx : Addr) (v : V) (o : O) (F R : Hp) (res : Except Err (List Spot)),
  vs = [.ref p, v] ∧ Same F R ∧ Same R H ∧ R p = none ∧ R dx = none ∧ H p = some (.ins c.cCode dx []) ∧ H dx = some (.own p) ∧ Ob K F v o ∧ Codes o res ∧
  (∀ rows, res = .ok rows → ∀ (F' H' : Hp) (S D A B L : Addr) (ts : List Addr), Same F F' → Same F' H' → Same R H' → (∀ b, F b = none → R b ≠ none → F' b = none) → Off R (own p dx S D A B L ts) → Off F' (own p dx S D A B L ts) →
    CodeSt K c.cCode F' H' p dx S D A B L ts rows → Q .non H') ∧
  (∀ e, res = .error e → ErrE c.cBad c.cLim R E e)
abbrev s_init : Stmt := inClass (top 25) 0
theorem sc_init : FnScope ["self", "statement", "waiting", "spot", "number", "inner"] ["self", "statement"] (defScope s_init) := ⟨rfl, rfl, rfl, by decide +kernel, rfl, by decide +kernel, by decide +kernel⟩
/-- what stands before each turn -/
structure Loop (K : PySem.W.Frag) (c : Cs) (F R H : Hp) (p dx S D A B L W : Addr) (rows ss : List Spot) (res : Except Err (List Spot)) : Prop where
  ex : ∃ (F1 : Hp) (ts qs : List Addr), Same F F1 ∧ Same F1 H ∧ (∀ b, F b = none → R b ≠ none → F1 b = none) ∧ CodeSt K c.cCode F1 H p dx S D A B L ts rows ∧ Off R (own p dx S D A B L ts) ∧ Off F1 (own p dx S D A B L ts) ∧
    W ∉ own p dx S D A B L ts ∧ H W = some (.lst (qs.reverse.map V.ref)) ∧ F1 W = none ∧ Paired (SpotAt K F1) qs ss
  rh : Same R H
  rw_ : R W = none
  runs : Runs ss rows res
  le : rows.length ≤ 400
  sl : ss.length ≤ 20000 * rows.length + 1
  pr : ∀ r ∈ rows, ∀ m, r.par = some m → m < rows.length
  ps : ∀ r ∈ ss, ∀ m, r.par = some m → m < rows.length
theorem inside_par {n : Nat} {s x : Spot} (h : x ∈ inside n s) : x.par = some n := by
  unfold inside at h
  split at h
  · split at h
    · simp only [List.mem_cons, List.mem_nil_iff, or_false] at h
      rcases h with rfl | rfl <;> rfl
    · cases h
  · obtain ⟨o, _, rfl⟩ := List.mem_map.mp h
    rfl
theorem inside_len {n : Nat} {s : Spot} (h : s.o.parts.length < 20000) : (inside n s).length < 20000 := by
  unfold inside
  split
  · split
    · exact (by decide : 2 < 20000)
    · exact (by decide : 0 < 20000)
  · rw [List.length_map]
    exact h
theorem judge_none {n : Nat} {s : Spot} (h : judge n s = none) : n < 400 ∧ s.lay.length ≤ 25 ∧ s.o.isStmt s.wh = true := by
  unfold judge at h
  split at h
  · cases h
  · split at h
    · cases h
    · split at h
      · cases h
      · split at h
        · rename_i h1 _ h3 h4
          exact ⟨by omega, by omega, h4⟩
        · cases h
theorem ok_init {f : Addr} {fd : FuncData} (Fn : Fun K "__init__" "Code.__init__" s_init f fd) (T : Txt K mg w c) (c_judge : CalX P w K mg base 3 "judge" (spJudge K c)) (c_keep : Met P w K mg base 2 c.cCode "_keep" (spKeep K c) [])
    (c_spots_inside : Cal P w K mg base 2 "spots_inside" (spInside K) []) :
    FnOk P w K mg base (L2.CX P w) 4 f fd ["self", "statement"] (spInit K c) := by
  refine Fn.okX sc_init (fun vs H Q E h => ?_) (fun cdv A0 outer s0 H vs Q E hr h => ?_)
  · obtain ⟨p, dx, v, o, F, R, res, rfl, _⟩ := h
    rfl
  · obtain ⟨p, dx, v, o, F, R, res, rfl, sFR, sRH, rp, rdx, hp, hdx, ho, hres, kN, kE⟩ := h
    refine ⟨_, (pss_cons (ps_fld (pv 0) (pe_lst pa_nil) rfl)
(pss_cons (ps_fld (pv 0) (pe_lst pa_nil) rfl)
(pss_cons (ps_fld (pv 0) (pe_lst pa_nil) rfl)
(pss_cons (ps_fld (pv 0) (pe_lst pa_nil) rfl)
(pss_cons (ps_fld (pv 0) (pe_lst pa_nil) rfl)
(pss_cons (ps_set (i := 2) sc_init.nd rfl (Or.inl rfl) (pe_lst (pa_cons (pe_tup (pa_cons (pv 1) (pa_cons pe_non (pa_cons pe_int (pa_cons pe_int (pa_cons (pe_lst pa_nil) pa_nil)))))) pa_nil)))
(pss_one (ps_while (passes_of rfl) (pt_truth (pv 2) (by intro _; rfl))
(pss_cons (ps_set (i := 3) sc_init.nd rfl (Or.inl rfl) (pe_bm0 PySem.F.plainAttrs_list PySem.F.slot_list_pop PySem.F.type_list_pop mt_pop (pv 2)))
(pss_cons (ps_set (i := 4) sc_init.nd rfl (Or.inl rfl) (pe_callB call_len (by rfl) T.n_len (by decide +kernel) (pa_cons (pe_fld (pv 0) rfl) pa_nil)))
(pss_cons (ps_expr (pe_cx c_judge hr (by decide) (takes_of rfl rfl rfl rfl) (fun _ _ _ _ h => h) rfl (pa_cons (pv 3) (pa_cons (pv 4) pa_nil))))
(pss_cons (ps_expr (pe_mt c_keep hr (by decide) (pv 0) (pa_cons (pv 3) (pa_cons (pv 4) pa_nil))))
(pss_one (ps_for (passes_of rfl) rfl (pi_reversed rfl T.n_reversed (pa_cons (pe_callTy call_list_of (by rfl) T.n_list (by decide +kernel) (pa_cons (pe_c c_spots_inside hr (by decide) rfl (pa_cons (pv 3) (pa_cons (pv 4) pa_nil))) pa_nil)) pa_nil)) (pg_name (i := 5) sc_init.nd rfl (Or.inl rfl))
(pss_one (ps_expr (pe_bm PySem.F.plainAttrs_list PySem.F.slot_list_append PySem.F.type_list_append mt_append (pv 2) (pa_cons (pv 5) pa_nil)))))))))))))))))), ?_⟩
    -- the five lists
    have len : ∀ {fs : List (Str × V)} {f : Str} {x : V} {n : Nat}, fs.length ≤ n → (putF f x fs).length ≤ n + 1 := fun h => Nat.le_trans (length_putF _ _ _) (Nat.succ_le_succ h)
    refine ⟨Nat.zero_le _, fun S nS => ?_⟩
    have pS : p ≠ S := ne_of_none hp nS
    refine ⟨_, rfl, p, c.cCode, dx, [], rfl, by rw [upd_ne pS]; exact hp, T.cl, T.a_st, by decide, ?_⟩
    refine ⟨Nat.zero_le _, fun D nD => ?_⟩
    obtain ⟨Dp, nD1⟩ := upd_none nD
    obtain ⟨DS, nDH⟩ := upd_none nD1
    have len1 : (putF "_statements" (V.ref S) []).length ≤ 1 := len (n := 0) (Nat.zero_le _)
    refine ⟨_, rfl, p, c.cCode, dx, _, rfl, by rw [upd_ne Dp.symm, upd_same], T.cl, T.a_hd, Nat.lt_of_le_of_lt len1 (by decide), ?_⟩
    refine ⟨Nat.zero_le _, fun A nA => ?_⟩
    obtain ⟨Ap, nA1⟩ := upd_none nA
    obtain ⟨AD, nA2⟩ := upd_none nA1
    obtain ⟨_, nA3⟩ := upd_none nA2
    obtain ⟨AS, nAH⟩ := upd_none nA3
    have len2 := len (f := "_heads") (x := V.ref D) len1
    refine ⟨_, rfl, p, c.cCode, dx, _, rfl, by rw [upd_ne Ap.symm, upd_same], T.cl, T.a_pa, Nat.lt_of_le_of_lt len2 (by decide), ?_⟩
    refine ⟨Nat.zero_le _, fun B nB => ?_⟩
    obtain ⟨Bp, nB1⟩ := upd_none nB
    obtain ⟨BA, nB2⟩ := upd_none nB1
    obtain ⟨_, nB3⟩ := upd_none nB2
    obtain ⟨BD, nB4⟩ := upd_none nB3
    obtain ⟨_, nB5⟩ := upd_none nB4
    obtain ⟨BS, nBH⟩ := upd_none nB5
    have len3 := len (f := "_parents") (x := V.ref A) len2
    refine ⟨_, rfl, p, c.cCode, dx, _, rfl, by rw [upd_ne Bp.symm, upd_same], T.cl, T.a_pt, Nat.lt_of_le_of_lt len3 (by decide), ?_⟩
    refine ⟨Nat.zero_le _, fun L nL => ?_⟩
    obtain ⟨Lp, nL1⟩ := upd_none nL
    obtain ⟨LB, nL2⟩ := upd_none nL1
    obtain ⟨_, nL3⟩ := upd_none nL2
    obtain ⟨LA, nL4⟩ := upd_none nL3
    obtain ⟨_, nL5⟩ := upd_none nL4
    obtain ⟨LD, nL6⟩ := upd_none nL5
    obtain ⟨_, nL7⟩ := upd_none nL6
    obtain ⟨LS, nLH⟩ := upd_none nL7
    have len4 := len (f := "_parts") (x := V.ref B) len3
    refine ⟨_, rfl, p, c.cCode, dx, _, rfl, by rw [upd_ne Lp.symm, upd_same], T.cl, T.a_la, Nat.lt_of_le_of_lt len4 (by decide), ?_⟩
    -- the heap with them
    have dX : ∀ {x : Addr}, H x = none → dx ≠ x := fun e => ne_of_none hdx e
    have pX : ∀ {x : Addr}, H x = none → p ≠ x := fun e => ne_of_none hp e
    have dp : dx ≠ p := ne_of hdx hp (by intro z; cases z)
    obtain ⟨Hf, eHf⟩ : ∃ Hf, Hf = upd (upd (upd (upd (upd (upd (upd (upd (upd (upd H S (.lst [])) p (.ins c.cCode dx (putF "_statements" (V.ref S) []))) D (.lst [])) p (.ins c.cCode dx (putF "_heads" (V.ref D) (putF "_statements" (V.ref S) [])))) A (.lst [])) p (.ins c.cCode dx (putF "_parents" (V.ref A) (putF "_heads" (V.ref D) (putF "_statements" (V.ref S) []))))) B (.lst [])) p (.ins c.cCode dx (putF "_parts" (V.ref B) (putF "_parents" (V.ref A) (putF "_heads" (V.ref D) (putF "_statements" (V.ref S) [])))))) L (.lst [])) p (.ins c.cCode dx (putF "_layers" (V.ref L) (putF "_parts" (V.ref B) (putF "_parents" (V.ref A) (putF "_heads" (V.ref D) (putF "_statements" (V.ref S) [])))))) := ⟨_, rfl⟩
    have fo : ∀ b, b ≠ p → b ≠ S → b ≠ D → b ≠ A → b ≠ B → b ≠ L → Hf b = H b := by
      intro b h1 h2 h3 h4 h5 h6
      rw [eHf]
      simp only [upd, h1, h2, h3, h4, h5, h6, if_false]
    have fp : Hf p = some (.ins c.cCode dx (cf S D A B L)) := by rw [eHf]; exact upd_same
    have fL : Hf L = some (.lst []) := by rw [eHf, upd_ne Lp]; exact upd_same
    have fB : Hf B = some (.lst []) := by rw [eHf, upd_ne Bp, upd_ne LB.symm, upd_ne Bp]; exact upd_same
    have fA : Hf A = some (.lst []) := by rw [eHf, upd_ne Ap, upd_ne LA.symm, upd_ne Ap, upd_ne BA.symm, upd_ne Ap]; exact upd_same
    have fD : Hf D = some (.lst []) := by rw [eHf, upd_ne Dp, upd_ne LD.symm, upd_ne Dp, upd_ne BD.symm, upd_ne Dp, upd_ne AD.symm, upd_ne Dp]; exact upd_same
    have fS : Hf S = some (.lst []) := by rw [eHf, upd_ne pS.symm, upd_ne LS.symm, upd_ne pS.symm, upd_ne BS.symm, upd_ne pS.symm, upd_ne AS.symm, upd_ne pS.symm, upd_ne DS.symm, upd_ne pS.symm]; exact upd_same
    have fdx : Hf dx = some (.own p) := by rw [fo dx dp (dX nS) (dX nDH) (dX nAH) (dX nBH) (dX nLH)]; exact hdx
    have rX : ∀ {x : Addr}, H x = none → R x = none := fun e => Same.free sRH e
    have sRf : Same R Hf := fun b u q => by
      have nb : ∀ {x : Addr}, R x = none → b ≠ x := fun e => ne_of_none q e
      rw [fo b (nb rp) (nb (rX nS)) (nb (rX nDH)) (nb (rX nAH)) (nb (rX nBH)) (nb (rX nLH))]
      exact sRH b u q
    rw [← eHf]
    clear eHf
    -- waiting
    refine ⟨_, rfl, Nat.zero_le _, fun l0 n0 => ?_⟩
    refine ⟨by show 5 ≤ sizeLine; decide, fun q0 nq => ?_⟩
    obtain ⟨ql, nq0⟩ := upd_none nq
    refine ⟨by show 1 ≤ sizeLine; decide, fun W nW => ?_⟩
    obtain ⟨Wq, nW1⟩ := upd_none nW
    obtain ⟨Wl, nW0⟩ := upd_none nW1
    have rl : R l0 = none := Same.free sRf n0
    have rq : R q0 = none := Same.free sRf nq0
    have rW : R W = none := Same.free sRf nW0
    have sFf : Same F Hf := sFR.trans sRf
    have fl : F l0 = none := Same.free sFf n0
    have fq : F q0 = none := Same.free sFf nq0
    have fW : F W = none := Same.free sFf nW0
    have tr : ∀ {b : Addr} {u : HO}, Hf b = some u → upd (upd (upd Hf l0 (.lst [])) q0 (.tup [v, .non, .int 1, .int 0, .ref l0])) W (.lst [.ref q0]) b = some u := by
      intro b u e
      rw [upd_ne (ne_of_none e nW0), upd_ne (ne_of_none e nq0), upd_ne (ne_of_none e n0)]
      exact e
    have ownP : ∀ b ∈ own p dx S D A B L [], Hf b ≠ none := by
      have go : ∀ {b : Addr} {o : HO}, Hf b = some o → Hf b ≠ none := fun e z => by
        rw [z] at e
        cases e
      intro b m
      unfold own at m
      simp only [List.mem_cons, List.mem_nil_iff, or_false] at m
      rcases m with rfl | rfl | rfl | rfl | rfl | rfl | rfl
      · exact go fp
      · exact go fdx
      · exact go fS
      · exact go fD
      · exact go fA
      · exact go fB
      · exact go fL
    have offR : Off R (own p dx S D A B L []) := by
      intro b m
      unfold own at m
      simp only [List.mem_cons, List.mem_nil_iff, or_false] at m
      rcases m with rfl | rfl | rfl | rfl | rfl | rfl | rfl
      · exact rp
      · exact rdx
      · exact rX nS
      · exact rX nDH
      · exact rX nAH
      · exact rX nBH
      · exact rX nLH
    have sF1 : Same F (upd (upd F l0 (.lst [])) q0 (.tup [v, .non, .int 1, .int 0, .ref l0])) := Same.new (Same.put fl) (by rw [upd_ne ql]; exact fq)
    refine ⟨fun m σ H' => ∃ (rows ss : List Spot) (x3 x4 x5 : Option V), m = 401 - rows.length ∧ σ = [some (.ref p), some v, some (.ref W), x3, x4, x5] ∧ Loop K c F R H' p dx S D A B L W rows ss res, ⟨401, [], [root o], none, none, none, rfl, rfl, ?_⟩, ?_⟩
    · refine ⟨⟨upd (upd F l0 (.lst [])) q0 (.tup [v, .non, .int 1, .int 0, .ref l0]), [], [q0], sF1, ?_, ?_, ?_, offR, ?_, ?_, ?_, ?_, ?_⟩, ?_, rW, hres, Nat.zero_le _, (by decide : 1 ≤ 20000 * 0 + 1), (fun _ m => nomatch m), ?_⟩
      · refine Same.chg ?_ (by rw [upd_ne Wq, upd_ne Wl]; exact fW)
        exact (Grow.add (Grow.add sFf n0).fh (by rw [upd_ne ql]; exact nq0)).fh
      · intro b h1 h2
        rw [upd_ne (fun z => h2 (by rw [z]; exact rq)), upd_ne (fun z => h2 (by rw [z]; exact rl))]
        exact h1
      · refine ⟨tr fp, tr fdx, ⟨[], tr fS, .nil⟩, ⟨[], tr fD, .nil⟩, tr fA, tr fB, rfl, (fun i t e => by cases e), ⟨[], tr fL, .nil⟩, ?_⟩
        simp only [List.nodup_cons, List.mem_cons, not_or, List.mem_nil_iff, not_false_eq_true, List.nodup_nil, and_true]
        exact ⟨⟨DS.symm, AS.symm, BS.symm, LS.symm⟩, ⟨AD.symm, BD.symm, LD.symm⟩, ⟨BA.symm, LA.symm⟩, LB.symm⟩
      · intro b m
        rw [upd_ne (fun z => ownP b m (by rw [z]; exact nq0)), upd_ne (fun z => ownP b m (by rw [z]; exact n0))]
        exact Same.free sFR (offR b m)
      · exact fun m => ownP W m nW0
      · exact upd_same
      · rw [upd_ne Wq, upd_ne Wl]
        exact fW
      · refine .cons ⟨v, l0, SqT.of upd_same, ho.mono sF1, ?_⟩ .nil
        rw [upd_ne ql.symm]
        exact upd_same
      · exact Same.chg (Same.chg (Same.chg sRf rl) rq) rW
      · intro r m n hn
        simp only [List.mem_cons, List.mem_nil_iff, or_false] at m
        subst m
        cases hn
    clear tr ownP offR sF1 fo
    rintro m σ H' ⟨rows, ss, x3, x4, x5, rfl, rfl, ⟨F1, ts, qs, sF1, sH1, out1, cs, offR, off1, nWo, eW, fW1, pq⟩, sR, _, runs, le4, sl, pr, ps⟩
    cases pq with
    | nil =>
      refine ⟨_, rfl, false, .inl ⟨_, SqL.of eW, rfl⟩, iteF ?_⟩
      cases runs
      exact kN rows rfl F1 H' S D A B L ts sF1 sH1 sR out1 offR off1 cs
    | @cons q s qs' ss' pq1 pq =>
      have eW2 : H' W = some (.lst (qs'.reverse.map V.ref ++ [V.ref q])) := by
        rw [eW, List.reverse_cons, List.map_append]
        rfl
      refine ⟨_, rfl, true, .inl ⟨_, SqL.of eW2, by simp⟩, iteT ⟨fun σ' H'' => ∃ m', m' < 401 - rows.length ∧ ∃ (rows ss : List Spot) (x3 x4 x5 : Option V), m' = 401 - rows.length ∧ σ' = [some (.ref p), some v, some (.ref W), x3, x4, x5] ∧ Loop K c F R H'' p dx S D A B L W rows ss res, fun _ _ z => z, ?_⟩⟩
      refine ⟨_, rfl, .inl ⟨rfl, _, SqL.of eW2⟩, W, _, V.ref q, rfl, rfl, eW2, by simp, ?_⟩
      rw [List.dropLast_concat]
      -- number = len(self._statements)
      have wo : ∀ b ∈ own p dx S D A B L ts, b ≠ W := fun b m z => nWo (z ▸ m)
      have cs2 : CodeSt K c.cCode F1 (upd H' W (.lst (qs'.reverse.map V.ref))) p dx S D A B L ts rows := cs.loc fun b m => upd_ne (wo b m)
      have sR2 : Same R (upd H' W (.lst (qs'.reverse.map V.ref))) := Same.chg sR rW
      have sF2 : Same F1 (upd H' W (.lst (qs'.reverse.map V.ref))) := Same.chg sH1 fW1
      have eW3 : upd H' W (.lst (qs'.reverse.map V.ref)) W = some (.lst (qs'.reverse.map V.ref)) := upd_same
      obtain ⟨H2, eH2⟩ : ∃ H2, H2 = upd H' W (.lst (qs'.reverse.map V.ref)) := ⟨_, rfl⟩
      rw [← eH2] at cs2 sR2 sF2 eW3
      rw [← eH2]
      clear eH2 eW eW2 cs sH1 sR
      obtain ⟨vs, eS, oS⟩ := cs2.st
      have lenS : vs.length = rows.length := by rw [oS.len, List.length_map]
      refine ⟨_, rfl, p, c.cCode, dx, _, _, rfl, cs2.ins, T.cl, T.a_st, cf_S, _, rows.length, rfl, .inl ⟨vs, SqL.of eS, lenS.symm⟩, ?_⟩
      -- judge
      refine ⟨_, rfl, _, rfl, q, s, rows.length, rfl, SpotAt.mono sF2 pq1, fun hj => ?_, fun e he => ?_⟩
      rotate_left
      · cases runs with
        | bad hb =>
          rw [hb] at he
          cases he
          exact ErrE.mono sR2 (kE _ rfl)
        | step hb _ =>
          rw [hb] at he
          cases he
      have runs2 : Runs (inside rows.length s ++ ss') (rows ++ [s]) res := by
        cases runs with
        | bad hb =>
          rw [hb] at hj
          cases hj
        | step _ hr => exact hr
      obtain ⟨j1, j2, j3⟩ := judge_none hj
      have li : (inside rows.length s).length < 20000 := by
        obtain ⟨v1, la1, _, ho1, _⟩ := pq1
        exact inside_len ho1.parts_lt
      intro H3 s23
      have cs3 := cs2.keep (Same.refl F1) s23
      have sR3 := sR2.trans s23
      have sF3 := sF2.trans s23
      have eW4 := s23 _ _ eW3
      -- self._keep(spot, number)
      refine ⟨_, rfl, p, dx, _, rfl, cs3.ins, cf_no (by decide +kernel) (by decide +kernel) (by decide +kernel) (by decide +kernel) (by decide +kernel), _, rfl, _, rfl, ?_⟩
      refine ⟨p, q, rows, s, F1, hide (own p dx S D A B L ts) H3, dx, S, D, A, B, L, ts, rfl, Same.hide sF3 off1, hide_same _ _, cs3, off_hide _ _, pq1, j3, by omega, ?_, pr, ?_⟩
      · exact fun m hm => ps s List.mem_cons_self m hm
      intro F2 H4 t sF12 sF24 sRk out2 ht3 off2 cs4
      have sR4 : Same R H4 := (Same.hide sR3 offR).trans sRk
      have eW5 : H4 W = some (.lst (qs'.reverse.map V.ref)) := sRk _ _ (by rw [hide_out nWo]; exact eW4)
      have nz : ∀ {H : Hp} {b : Addr} {o : HO}, H b = some o → H b ≠ none := fun e z => by
        rw [z] at e
        cases e
      have fW2 : F2 W = none := out2 W fW1 (nz eW4)
      -- reversed(list(spots_inside(spot, number)))
      refine ⟨_, rfl, _, rfl, q, s, rows.length, F2, rfl, sF24, SpotAt.mono sF12 pq1, j3, by omega, fun F3 H5 l qs2 g nl fl3 el pq2 => ?_⟩
      refine ⟨l, _, rfl, .inl (SqL.of el), fun l2 nl2 => ?_⟩
      have eW6 : upd H5 l2 (.lst (qs2.map V.ref)) W = some (.lst (qs'.reverse.map V.ref)) := by
        rw [upd_ne (ne_of_none (g.hh _ _ eW5) nl2)]
        exact g.hh _ _ eW5
      have fl2 : F3 l2 = none := Same.free g.fh nl2
      have nWl2 : W ≠ l2 := ne_of_none (g.hh _ _ eW5) nl2
      have fW3 : F3 W = none := g.out W fW2 (nz eW5)
      have sF36 : Same F3 (upd H5 l2 (.lst (qs2.map V.ref))) := Same.chg g.fh fl2
      have sR6 : Same R (upd H5 l2 (.lst (qs2.map V.ref))) := Same.new (sR4.trans g.hh) nl2
      have el2 : upd H5 l2 (.lst (qs2.map V.ref)) l2 = some (.lst (qs2.map V.ref)) := upd_same
      have cs6 : CodeSt K c.cCode F3 (upd H5 l2 (.lst (qs2.map V.ref))) p dx S D A B L (ts ++ [t]) (rows ++ [s]) := cs4.keep g.ff (Same.new g.hh nl2)
      obtain ⟨H6, eH6⟩ : ∃ H6, H6 = upd H5 l2 (.lst (qs2.map V.ref)) := ⟨_, rfl⟩
      rw [← eH6] at eW6 sF36 sR6 el2 cs6
      rw [← eH6]
      refine ⟨l2, _, rfl, SqL.of el2, ?_⟩
      have hq2 : (qs2.map V.ref).length = qs2.length := List.length_map _
      rw [hq2]
      refine for_it (n := qs2.length) (fun i σ H => (∃ x5, σ = [some (.ref p), some v, some (.ref W), some (.ref q), some (.int (rows.length : Nat)), x5]) ∧ H = upd H6 W (.lst ((qs'.reverse ++ qs2.reverse.take i).map V.ref)))
        ⟨⟨x5, rfl⟩, ?_⟩ ?_ ?_ ?_ ?_
      · rw [List.take_zero, List.append_nil, upd_id eW6]
      · rintro i σ H hi ⟨_, rfl⟩
        refine ⟨hi, qs2.map V.ref, ?_⟩
        obtain ⟨y, hy⟩ : ∃ y, (qs2.map V.ref)[qs2.length - 1 - i]? = some y := ⟨_, List.getElem?_eq_getElem (by rw [hq2]; omega)⟩
        exact ⟨y, SqL.of (by rw [upd_ne nWl2.symm]; exact el2), hy⟩
      · rintro σ H _
        exact Nat.le_refl _
      · rintro i x σ H H'' hi ⟨⟨y5, rfl⟩, rfl⟩ ⟨rfl, hx⟩
        have hx2 := hx _ (SqL.of (K := K) (by rw [upd_ne nWl2.symm]; exact el2))
        obtain ⟨a, ha, rfl⟩ : ∃ a, qs2.reverse[i]? = some a ∧ x = V.ref a := by
          rw [List.getElem?_map] at hx2
          rw [List.getElem?_reverse hi]
          cases e : qs2[qs2.length - 1 - i]? with
          | none =>
            rw [e] at hx2
            cases hx2
          | some a =>
            rw [e] at hx2
            exact ⟨a, rfl, (Option.some.inj hx2).symm⟩
        refine ⟨_, rfl, .inl ⟨rfl, _, SqL.of upd_same⟩, _, rfl, W, _, _, rfl, rfl, upd_same, ?_, ⟨_, rfl⟩, ?_⟩
        · rw [List.length_map, List.length_append, List.length_reverse, List.length_take, List.length_reverse]
          have z1 : ss'.length + 1 ≤ 20000 * rows.length + 1 := sl
          have z2 := Paired.length pq
          have z3 := Paired.length pq2
          rw [sizeLine_eq]
          omega
        · rw [upd_upd, List.take_add_one, ha]
          simp
      · rintro σ H ⟨⟨y5, rfl⟩, rfl⟩
        refine ⟨401 - (rows ++ [s]).length, by rw [List.length_append, List.length_singleton]; omega, rows ++ [s], inside rows.length s ++ ss', _, _, _, rfl, rfl, ?_⟩
        have csW : CodeSt K c.cCode F3 (upd H6 W (.lst ((qs'.reverse ++ qs2.reverse.take qs2.length).map V.ref))) p dx S D A B L (ts ++ [t]) (rows ++ [s]) := by
          refine cs6.loc fun b m => upd_ne fun z => ?_
          rcases own_snoc m with m | m
          · exact wo b m z
          · rw [z] at m
            rw [← m] at ht3
            rw [eW4] at ht3
            cases ht3
        refine ⟨⟨F3, ts ++ [t], qs2 ++ qs', (sF1.trans sF12).trans g.ff, Same.chg sF36 fW3, ?_, csW, ?_, ?_, ?_, ?_, fW3, ?_⟩, Same.chg sR6 rW, rW, runs2, ?_, ?_, ?_, ?_⟩
        · intro b h1 h2
          have z3 : H3 b ≠ none := fun z => h2 (Same.free sR3 z)
          have z4 : H4 b ≠ none := fun z => h2 (Same.free sR4 z)
          exact g.out b (out2 b (out1 b h1 h2) z3) z4
        · intro b m
          rcases own_snoc m with m | m
          · exact offR b m
          · rw [m]
            exact Same.free sR3 ht3
        · intro b m
          exact g.out b (off2 b m) (cs4.there b m)
        · intro m
          rcases own_snoc m with m | m
          · exact nWo m
          · rw [← m] at ht3
            rw [eW4] at ht3
            cases ht3
        · rw [upd_same, List.reverse_append, List.take_of_length_le (by rw [List.length_reverse]; exact Nat.le_refl _)]
        · exact Fc.Paired.app pq2 (Fc.Paired.map2 (fun _ _ h => SpotAt.mono (sF12.trans g.ff) h) pq)
        · rw [List.length_append, List.length_singleton]
          omega
        · rw [List.length_append, List.length_append, List.length_singleton]
          have z1 : ss'.length + 1 ≤ 20000 * rows.length + 1 := sl
          omega
        · intro r m k hk
          rw [List.length_append, List.length_singleton]
          rcases List.mem_append.mp m with m | m
          · exact Nat.lt_succ_of_lt (pr r m k hk)
          · rw [List.mem_singleton] at m
            subst m
            exact Nat.lt_succ_of_lt (ps r List.mem_cons_self k hk)
        · intro r m k hk
          rw [List.length_append, List.length_singleton]
          rcases List.mem_append.mp m with m | m
          · rw [inside_par m] at hk
            cases hk
            exact Nat.lt_succ_self _
          · exact Nat.lt_succ_of_lt (ps r (List.mem_cons_of_mem _ m) k hk)
end
end K4
end L2
set_option Elab.async false
set_option linter.all false
set_option maxRecDepth 100000
set_option maxHeartbeats 8000000
namespace L2
namespace K4
open PySem PySem.Spec PyProof.Rows Fc C8
section
variable {P : Program} {w : World} {K : PySem.W.Frag} {mg : Str → Option Value} {base : Heap} {c : Cs}

/-! ### the errors' __init__ -/
abbrev s_bad : Stmt := inClass (top 3) 0
theorem sc_bad : FnScope ["self", "number"] ["self", "number"] (defScope s_bad) := ⟨rfl, rfl, rfl, by decide +kernel, rfl, by decide +kernel, by decide +kernel⟩
theorem ok_bad {f : Addr} {fd : FuncData} (Fn : Fun K "__init__" "InvalidCode.__init__" s_bad f fd) (T : Txt K mg w c) : FnOk P w K mg base CX0 1 f fd ["self", "number"] (spExc c.cBad "number") := by
  refine Fn.ok sc_bad (fun vs H Q E h => ?_) (fun cdv A0 outer s0 H vs Q E hr h => ?_)
  · obtain ⟨a, y, rfl, _⟩ := h
    rfl
  · obtain ⟨a, y, rfl, ha, k⟩ := h
    exact ⟨_, pss_one (ps_arset (pv 0) (pv 1)), _, rfl, _, rfl, a, c.cBad, c.iBad, rfl, T.arB, ha, k⟩
abbrev s_lim : Stmt := inClass (top 5) 0
theorem sc_lim : FnScope ["self", "limit"] ["self", "limit"] (defScope s_lim) := ⟨rfl, rfl, rfl, by decide +kernel, rfl, by decide +kernel, by decide +kernel⟩
theorem ok_lim {f : Addr} {fd : FuncData} (Fn : Fun K "__init__" "LimitExceeded.__init__" s_lim f fd) (T : Txt K mg w c) : FnOk P w K mg base CX0 1 f fd ["self", "limit"] (spExc c.cLim "limit") := by
  refine Fn.ok sc_lim (fun vs H Q E h => ?_) (fun cdv A0 outer s0 H vs Q E hr h => ?_)
  · obtain ⟨a, y, rfl, _⟩ := h
    rfl
  · obtain ⟨a, y, rfl, ha, k⟩ := h
    exact ⟨_, pss_one (ps_arset (pv 0) (pv 1)), _, rfl, _, rfl, a, c.cLim, c.iLim, rfl, T.arL, ha, k⟩

/-! ### len(code) -/
def spLen (c : Cs) : Sp := fun vs H Q _ => ∃ (p dx S D A B L : Addr) (xs : List V), vs = [.ref p] ∧ H p = some (.ins c.cCode dx (cf S D A B L)) ∧ H S = some (.lst xs) ∧ Q (.int (xs.length : Nat)) H
abbrev s_len : Stmt := inClass (top 25) 2
theorem sc_len : FnScope ["self"] ["self"] (defScope s_len) := ⟨rfl, rfl, rfl, by decide +kernel, rfl, by decide +kernel, by decide +kernel⟩
theorem ok_len {f : Addr} {fd : FuncData} (Fn : Fun K "__len__" "Code.__len__" s_len f fd) (T : Txt K mg w c) : FnOk P w K mg base CX0 1 f fd ["self"] (spLen c) := by
  refine Fn.ok sc_len (fun vs H Q E h => ?_) (fun cdv A0 outer s0 H vs Q E hr h => ?_)
  · obtain ⟨p, dx, S, D, A, B, L, xs, rfl, _⟩ := h
    rfl
  · obtain ⟨p, dx, S, D, A, B, L, xs, rfl, hp, hS, k⟩ := h
    exact ⟨_, (pss_one (ps_ret (pe_callB call_len (by rfl) T.n_len (by decide +kernel) (pa_cons (pe_fld (pv 0) rfl) pa_nil)))), _, rfl, p, c.cCode, dx, _, _, rfl, hp, T.cl, T.a_st, cf_S, _, _, rfl, .inl ⟨xs, SqL.of hS, rfl⟩, k⟩

/-! ### _law_said -/
theorem runs_le : ∀ {ss rows : List Spot} {res : Except Err (List Spot)}, Runs ss rows res → rows.length ≤ 400 → ∀ out, res = .ok out → out.length ≤ 400 := by
  intro ss rows res h
  induction h with
  | nil =>
    intro hl out e
    cases e
    exact hl
  | bad _ =>
    intro _ out e
    cases e
  | step hj _ ih =>
    intro hl out e
    refine ih ?_ out e
    have := (judge_none hj).1
    rw [List.length_append, List.length_singleton]
    omega
def Told (H : Hp) (Q : VK) : Except Err (List Spot) → Prop
  | .ok rows => ∀ H' p, Same H H' → H p = none → H' p = some (.lst [.str "made", .int (rows.length : Nat)]) → Q (.ref p) H'
  | .error (.bad n) => ∀ H' p, Same H H' → H p = none → H' p = some (.lst [.int (n : Nat)]) → Q (.ref p) H'
  | .error (.lim n) => ∀ H', Same H H' → Q (.int (n : Nat)) H'
def spSaid (K : PySem.W.Frag) : Sp := fun vs H Q _ => ∃ (v : V) (o : O) (res : Except Err (List Spot)), vs = [v] ∧ Ob K H v o ∧ Codes o res ∧ Told H Q res
abbrev s_said : Stmt := top 31
theorem sc_said : FnScope ["_law_statement", "_law_found", "e"] ["_law_statement"] (defScope s_said) := ⟨rfl, rfl, rfl, by decide +kernel, rfl, by decide +kernel, by decide +kernel⟩
theorem ok_said {f fL : Addr} {fd fdL : FuncData} (Fn : Fun K "_law_said" "_law_said" s_said f fd) (T : Txt K mg w c) (c_Code : MakX P w K mg base 4 "Code" c.cCode (spInit K c))
    (hl1 : PySem.W.findIn K (.ref c.cCode) "__len__" = some (some (.ref fL))) (hl2 : PySem.W.isFn K (.ref fL) = true) (GL : FnOk P w K mg base CX0 1 fL fdL ["self"] (spLen c)) (bL : Binds K fdL ["self"] []) :
    FnOk P w K mg base CX0 6 f fd ["_law_statement"] (spSaid K) := by
  refine Fn.ok sc_said (fun vs H Q E h => ?_) (fun cdv A0 outer s0 H vs Q E hr h => ?_)
  · obtain ⟨v, o, res, rfl, _⟩ := h
    rfl
  · obtain ⟨v, o, res, rfl, ho, hres, k⟩ := h
    have hr2 : Room 2 (A0.deeper (envOfC "_law_said" (defScope s_said) s0.heap.objs.size f cdv)) := hr.mono (by decide)
    refine ⟨_, pss_cons (ps_set (i := 1) sc_said.nd rfl (Or.inl rfl) pe_str) (pss_cons
      (ps_try2 rfl rfl sc_said.nd takes0
        (fun W pn xe tk _ => pss_one (ps_set (i := 1) sc_said.nd rfl (Or.inl rfl) (by exact pe_lst (pa_cons pe_str (pa_cons (pe_callB (call_lenI hl1 hl2 GL bL hr2) (by rfl) T.n_len (by decide +kernel) (pa_cons (pe_mkx c_Code hr (by decide) tk rfl (pa_cons (pv 0) pa_nil)) pa_nil)) pa_nil)))))
        (.named (i := 2) ⟨rfl, by decide, .inl T.g_InvalidCode⟩ rfl rfl (fun a oe cls d pn hz hf => pss_one (ps_set (i := 1) sc_said.nd rfl (Or.inl rfl) (by exact pe_lst (pa_cons (pe_xf T.arB.xf T.arB.nf hz hf (pv 2)) pa_nil))))
        (.named (i := 2) ⟨rfl, by decide, .inl T.g_LimitExceeded⟩ rfl rfl (fun a oe cls d pn hz hf => pss_one (ps_set (i := 1) sc_said.nd rfl (Or.inl rfl) (by exact pe_xf T.arL.xf T.arL.nf hz hf (pv 2))))
        (.bare ⟨rfl, by decide, .inl T.g_CopyError⟩ (fun a oe cls d pn hz hf => pss_one (ps_set (i := 1) sc_said.nd rfl (Or.inl rfl) pe_str)) .nil))))
      (pss_one (ps_ret (pv 1)))), ?_⟩
    refine ⟨_, rfl, fun x dx nx ndx ne => ?_⟩
    have s0 : Same H (upd (upd H dx (.own x)) x (.ins c.cCode dx [])) := Same.new (Same.put ndx) (by rw [upd_ne ne.symm]; exact nx)
    refine ⟨x, dx, v, o, H, H, res, rfl, Same.refl H, s0, nx, ndx, upd_same, by rw [upd_ne ne]; exact upd_same, ho, hres, ?_, ?_⟩
    · intro rows er F' H' S D A B L ts s1 s2 s3 _ off _ cs
      subst er
      obtain ⟨xs, eS, oS⟩ := cs.st
      have lenS : xs.length = rows.length := by rw [oS.len, List.length_map]
      have le4 := runs_le hres (Nat.zero_le _) rows rfl
      refine ⟨rfl, ?_⟩
      refine ⟨x, dx, _, rfl, cs.ins, x, dx, S, D, A, B, L, xs, rfl, cs.ins, eS, _, rfl, ⟨by omega, by omega⟩, ?_⟩
      refine ⟨by show 2 ≤ sizeLine; decide, fun l nl => ?_⟩
      rw [lenS]
      exact ⟨_, rfl, k _ l (Same.new s3 nl) (Same.free s3 nl) upd_same⟩
    · intro e er
      subst er
      cases e with
      | bad n =>
        intro H' d s1 nd1 ed
        refine ⟨true, T.x_bb, fun _ a na => ?_, fun q => nomatch q⟩
        refine ⟨_, rfl, rfl, rfl, d, _, _, rfl, ed, rfl, ?_⟩
        refine ⟨by show 1 ≤ sizeLine; decide, fun l nl => ?_⟩
        exact ⟨_, rfl, k _ l (Same.new s1 nl) (Same.free s1 nl) upd_same⟩
      | lim n =>
        intro H' d s1 nd1 ed
        refine ⟨false, T.x_lb, (fun q => nomatch q), fun _ => ⟨true, T.x_ll, fun _ a na => ?_, fun q => nomatch q⟩⟩
        refine ⟨_, rfl, rfl, rfl, d, _, _, rfl, ed, rfl, ?_⟩
        exact ⟨_, rfl, k _ s1⟩
end
end K4
end L2
set_option Elab.async false
set_option linter.all false
set_option maxRecDepth 100000
set_option maxHeartbeats 8000000
namespace L2
namespace K4
open PySem PySem.Spec PyProof.Rows Fc C8
section
variable {P : Program} {w : World} {K : PySem.W.Frag} {mg : Str → Option Value} {base : Heap} {c : Cs}

/-! ### _law_one -/
def spOne (K : PySem.W.Frag) : Sp := fun vs H Q _ => ∃ (a l : Addr) (xs : List V), vs = [.ref a, .ref l] ∧ Src H a ∧ l ≠ a ∧ H l = some (.lst xs) ∧ xs ≠ [] ∧ xs.length ≤ 1000 ∧
  ∀ (i : Nat) (v : V) (H' : Hp), xs[i]? = some v → Adv a H H' → Q v H'
abbrev s_one : Stmt := top 30
theorem sc_one : FnScope ["_law_source", "_law_some"] ["_law_source", "_law_some"] (defScope s_one) := ⟨rfl, rfl, rfl, by decide +kernel, rfl, by decide +kernel, by decide +kernel⟩
theorem ok_one {f : Addr} {fd : FuncData} (Fn : Fun K "_law_one" "_law_one" s_one f fd) (T : Txt K mg w c) (c_draw : Cal P w K mg base 1 "_law_draw" spDraw []) : FnOk P w K mg base CX0 2 f fd ["_law_source", "_law_some"] (spOne K) := by
  refine Fn.ok sc_one (fun vs H Q E h => ?_) (fun cdv A0 outer s0 H vs Q E hr h => ?_)
  · obtain ⟨a, l, xs, rfl, _⟩ := h
    rfl
  · obtain ⟨a, l, xs, rfl, hs, la, hl, hne, hlen, k⟩ := h
    refine ⟨_, (pss_one (ps_ret (pe_ix ix_list (pv 1) (pe_c c_draw hr (by decide) rfl (pa_cons (pv 0) (pa_cons (pe_callB call_len (by rfl) T.n_len (by decide +kernel) (pa_cons (pv 1) pa_nil)) pa_nil))) (fun _ _ => rfl)))), ?_⟩
    have h0 : 0 < xs.length := List.length_pos_iff.mpr hne
    refine ⟨_, rfl, _, rfl, _, rfl, _, xs.length, rfl, .inl ⟨xs, SqL.of hl, rfl⟩, a, xs.length, rfl, hs, by omega, by omega, fun r x y z r0 r1 => ?_⟩
    obtain ⟨n, rfl⟩ : ∃ n : Nat, r = n := ⟨r.toNat, by omega⟩
    obtain ⟨v, hv⟩ : ∃ v, xs[n]? = some v := ⟨_, List.getElem?_eq_getElem (by omega)⟩
    exact ⟨l, xs, n, v, rfl, rfl, SqL.of (by rw [upd_ne la]; exact hl), at_of rfl hv, k n v _ hv Adv.draw⟩

/-! ### _law_wrapped -/
def spWrapped (K : PySem.W.Frag) : Sp := fun vs H Q _ => ∃ (a : Addr) (v : V) (o : O) (n : Nat), vs = [.ref a, v, .int n] ∧ Src H a ∧ Ob K (Fz a H) v o ∧ n ≤ 1000 ∧
  ∀ v' u H', Adv a H H' → Ob K (Fz a H') v' u → Wraps n o u → Q v' H'
abbrev s_wrapped : Stmt := top 32
theorem sc_wrapped : FnScope ["_law_source", "_law_inner", "_law_amount", "_law_k", "_law_some"] ["_law_source", "_law_inner", "_law_amount"] (defScope s_wrapped) := ⟨rfl, rfl, rfl, by decide +kernel, rfl, by decide +kernel, by decide +kernel⟩
theorem ok_wrapped {f : Addr} {fd : FuncData} (Fn : Fun K "_law_wrapped" "_law_wrapped" s_wrapped f fd) (T : Txt K mg w c) (c_one : Cal P w K mg base 2 "_law_one" (spOne K) []) : FnOk P w K mg base CX0 3 f fd ["_law_source", "_law_inner", "_law_amount"] (spWrapped K) := by
  refine Fn.ok sc_wrapped (fun vs H Q E h => ?_) (fun cdv A0 outer s0 H vs Q E hr h => ?_)
  · obtain ⟨a, v, o, n, rfl, _⟩ := h
    rfl
  · obtain ⟨a, v, o, n, rfl, hs, ho, hn, k⟩ := h
    refine ⟨_, (pss_cons (ps_for PassesOwn.never rfl (pi_range1 rfl T.n_range (pa_cons (pv 2) pa_nil)) (pg_name (i := 3) sc_wrapped.nd rfl (Or.inl rfl))
(pss_cons (ps_set (i := 4) sc_wrapped.nd rfl (Or.inl rfl) (pe_lst (pa_cons (pe_tup (pa_cons pe_str (pa_cons (pe_tup (pa_cons (pv 1) pa_nil)) pa_nil))) (pa_cons (pe_tup (pa_cons pe_str (pa_cons pe_str (pa_cons (pv 1) pa_nil)))) (pa_cons (pe_tup (pa_cons pe_str (pa_cons (pv 1) (pa_cons (pe_tup (pa_cons pe_str (pa_cons pe_str pa_nil))) pa_nil)))) (pa_cons (pe_tup (pa_cons pe_str (pa_cons (pv 1) (pa_cons (pe_tup (pa_cons pe_str (pa_cons pe_str pa_nil))) pa_nil)))) pa_nil))))))
(pss_one (ps_set (i := 1) sc_wrapped.nd rfl (Or.inl rfl) (pe_c c_one hr (by decide) rfl (pa_cons (pv 0) (pa_cons (pe_op op_cat (pv 4) (pe_lst (pa_cons (pe_tup (pa_cons pe_str (pa_cons pe_str (pa_cons (pv 1) (pa_cons (pe_tup (pa_cons pe_str pa_nil)) pa_nil))))) pa_nil))) pa_nil)))))))
(pss_one (ps_ret (pv 1)))), ?_⟩
    refine ⟨_, rfl, n, rfl, by omega, by omega, for_range (lo := 0) (n := n) (fun i σ H' => ∃ (v' : V) (u : O) (x3 x4 : Option V), σ = [some (.ref a), some v', some (.int n), x3, x4] ∧ Adv a H H' ∧ Ob K (Fz a H') v' u ∧ Wraps i o u) ⟨v, o, none, none, rfl, Adv.refl hs, ho, .zero o⟩ ?_ ?_⟩
    · rintro i σ H1 hi ⟨v1, u, x3, x4, rfl, ad, hu, wu⟩
      have q2 : (2 : Nat) ≤ sizeLine := by decide
      have q3 : (3 : Nat) ≤ sizeLine := by decide
      refine ⟨_, rfl, by show 1 ≤ sizeLine; decide, fun t1 n1 => ⟨q2, fun t2 n2 => ⟨_, rfl, q3, fun t3 n3 => ⟨_, rfl, q2, fun t4 n4 => ⟨q3, fun t5 n5 => ⟨_, rfl, q2, fun t6 n6 => ⟨q3, fun t7 n7 => ⟨by show 4 ≤ sizeLine; decide, fun l1 m1 => ?_⟩⟩⟩⟩⟩⟩⟩⟩
      have a1 := ad.new (o := .tup [v1]) n1
      have e1 := tup_new (K := K) ad.src n1 (Obs.cons hu .nil) (by simp)
      have a2 := a1.new (o := .tup [.str "seq", .ref t1]) n2
      have e2 := tup_new a1.src n2 (.cons (str_ob "seq") (.cons e1 .nil)) (by simp)
      have b2 := Adv.new (o := .tup [.str "seq", .ref t1]) (Adv.new (o := .tup [v1]) (Adv.refl ad.src) n1) n2
      have a3 := a2.new (o := .tup [.str "while", .str "w", v1]) n3
      have e3 := tup_new a2.src n3 (.cons (str_ob "while") (.cons (str_ob "w") (.cons (b2.ob hu) .nil))) (by simp)
      have b3 := b2.new (o := .tup [.str "while", .str "w", v1]) n3
      have a4 := a3.new (o := .tup [.str "do", .str "h"]) n4
      have e4 := tup_new (K := K) a3.src n4 (.cons (str_ob "do") (.cons (str_ob "h") .nil)) (by simp)
      have b4 := b3.new (o := .tup [.str "do", .str "h"]) n4
      have a5 := a4.new (o := .tup [.str "try", v1, .ref t4]) n5
      have e5 := tup_new a4.src n5 (.cons (str_ob "try") (.cons (b4.ob hu) (.cons e4 .nil))) (by simp)
      have b5 := b4.new (o := .tup [.str "try", v1, .ref t4]) n5
      have a6 := a5.new (o := .tup [.str "do", .str "f"]) n6
      have e6 := tup_new (K := K) a5.src n6 (.cons (str_ob "do") (.cons (str_ob "f") .nil)) (by simp)
      have b6 := b5.new (o := .tup [.str "do", .str "f"]) n6
      have a7 := a6.new (o := .tup [.str "final", v1, .ref t6]) n7
      have e7 := tup_new a6.src n7 (.cons (str_ob "final") (.cons (b6.ob hu) (.cons e6 .nil))) (by simp)
      have b7 := b6.new (o := .tup [.str "final", v1, .ref t6]) n7
      have a8 := a7.new (o := .lst [.ref t2, .ref t3, .ref t5, .ref t7]) m1
      have b8 := b7.new (o := .lst [.ref t2, .ref t3, .ref t5, .ref t7]) m1
      refine ⟨_, rfl, _, rfl, _, rfl, by show 1 ≤ sizeLine; decide, fun t8 n8 => ⟨by show 4 ≤ sizeLine; decide, fun t9 n9 => ⟨by show 1 ≤ sizeLine; decide, fun l2 m2 => ?_⟩⟩⟩
      have a9 := a8.new (o := .tup [.str "raise"]) n8
      have e9 := tup_new (K := K) a8.src n8 (.cons (str_ob "raise") .nil) (by simp)
      have b9 := b8.new (o := .tup [.str "raise"]) n8
      have a10 := a9.new (o := .tup [.str "if", .str "i", v1, .ref t8]) n9
      have e10 := tup_new a9.src n9 (.cons (str_ob "if") (.cons (str_ob "i") (.cons (b9.ob hu) (.cons e9 .nil)))) (by simp)
      have a11 := a10.new (o := .lst [.ref t9]) m2
      have g1 : ∀ {X : Hp} {p : Addr}, X p = none → X l1 = some (.lst [.ref t2, .ref t3, .ref t5, .ref t7]) → ∀ o, upd X p o l1 = some (.lst [.ref t2, .ref t3, .ref t5, .ref t7]) := fun n e o => by
        rw [upd_ne (ne_of_none e n)]
        exact e
      refine ⟨l1, l2, _, _, rfl, rfl, g1 m2 (g1 n9 (g1 n8 upd_same _) _) _, upd_same, by show 5 ≤ sizeLine; decide, fun l3 m3 => ?_⟩
      have a12 := a11.new (o := .lst ([.ref t2, .ref t3, .ref t5, .ref t7] ++ [.ref t9])) m3
      have al3 : l3 ≠ a := fun z => a11.src.some (by rw [← z]; exact m3)
      refine ⟨a, l3, _, rfl, a12.src, al3, upd_same, by simp, by show 5 ≤ 1000; decide, fun j v2 H2 hv ad2 => ?_⟩
      -- whichever is drawn
      have c12 : Adv a _ _ := Adv.new (o := .lst ([V.ref t2, V.ref t3, V.ref t5, V.ref t7] ++ [V.ref t9])) (Adv.new (o := .lst [V.ref t9]) (Adv.refl a10.src) m2) m3
      have c10 := (Adv.new (o := .tup [.str "if", .str "i", v1, .ref t8]) (Adv.new (o := .tup [.str "raise"]) (Adv.refl a8.src) n8) n9).trans c12
      have c7 := (Adv.new (o := .lst [V.ref t2, V.ref t3, V.ref t5, V.ref t7]) (Adv.refl a7.src) m1).trans c10
      have c5 := (Adv.new (o := .tup [.str "final", v1, .ref t6]) (Adv.new (o := .tup [.str "do", .str "f"]) (Adv.refl a5.src) n6) n7).trans c7
      have c3 := (Adv.new (o := .tup [.str "try", v1, .ref t4]) (Adv.new (o := .tup [.str "do", .str "h"]) (Adv.refl a3.src) n4) n5).trans c5
      have c2 := (Adv.new (o := .tup [.str "while", .str "w", v1]) (Adv.refl a2.src) n3).trans c3
      have pick : ∃ u2, Ob K (Fz a H2) v2 u2 ∧ Wr u u2 := by
        have hj : j < 5 := (List.getElem?_eq_some_iff.mp hv).1
        match j, hj, hv with
        | 0, _, hv =>
          cases hv
          exact ⟨_, (c2.trans ad2).ob e2, .seq u⟩
        | 1, _, hv =>
          cases hv
          exact ⟨_, (c3.trans ad2).ob e3, .whi u⟩
        | 2, _, hv =>
          cases hv
          exact ⟨_, (c5.trans ad2).ob e5, .try_ u⟩
        | 3, _, hv =>
          cases hv
          exact ⟨_, (c7.trans ad2).ob e7, .fin u⟩
        | 4, _, hv =>
          cases hv
          exact ⟨_, (c12.trans ad2).ob e10, .if_ u⟩
      obtain ⟨u2, hu2, w2⟩ := pick
      exact ⟨v2, u2, _, _, rfl, a12.trans ad2, hu2, wu.succ w2⟩
    · rintro σ H1 ⟨v1, u, x3, x4, rfl, ad, hu, wu⟩
      exact ⟨_, rfl, k v1 u H1 ad hu wu⟩

/-! ### _law_blocks -/
def spBlocks (K : PySem.W.Frag) : Sp := fun vs H Q _ => ∃ (a : Addr) (v : V) (o : O) (n : Nat), vs = [v, .int n] ∧ Src H a ∧ Ob K (Fz a H) v o ∧ n ≤ 1000 ∧
  ∀ v' H', Same H H' → Ob K (Fz a H') v' (blocks n o) → Q v' H'
abbrev s_blocks : Stmt := top 33
theorem sc_blocks : FnScope ["_law_inner", "_law_amount", "_law_k"] ["_law_inner", "_law_amount"] (defScope s_blocks) := ⟨rfl, rfl, rfl, by decide +kernel, rfl, by decide +kernel, by decide +kernel⟩
theorem ok_blocks {f : Addr} {fd : FuncData} (Fn : Fun K "_law_blocks" "_law_blocks" s_blocks f fd) (T : Txt K mg w c) : FnOk P w K mg base CX0 1 f fd ["_law_inner", "_law_amount"] (spBlocks K) := by
  refine Fn.ok sc_blocks (fun vs H Q E h => ?_) (fun cdv A0 outer s0 H vs Q E hr h => ?_)
  · obtain ⟨a, v, o, n, rfl, _⟩ := h
    rfl
  · obtain ⟨a, v, o, n, rfl, hs, ho, hn, k⟩ := h
    refine ⟨_, (pss_cons (ps_for PassesOwn.never rfl (pi_range1 rfl T.n_range (pa_cons (pv 1) pa_nil)) (pg_name (i := 2) sc_blocks.nd rfl (Or.inl rfl))
(pss_one (ps_set (i := 0) sc_blocks.nd rfl (Or.inl rfl) (pe_tup (pa_cons pe_str (pa_cons (pe_tup (pa_cons pe_str (pa_cons pe_str pa_nil))) (pa_cons (pv 0) pa_nil)))))))
(pss_one (ps_ret (pv 0)))), ?_⟩
    refine ⟨_, rfl, n, rfl, by omega, by omega, for_range (lo := 0) (n := n) (fun i σ H' => ∃ (v' : V) (x2 : Option V), σ = [some v', some (.int n), x2] ∧ Same H H' ∧ Ob K (Fz a H') v' (blocks i o)) ⟨v, none, rfl, Same.refl H, ho⟩ ?_ ?_⟩
    · rintro i σ H1 hi ⟨v1, x2, rfl, s1, hu⟩
      refine ⟨by show 2 ≤ sizeLine; decide, fun t1 n1 => ⟨_, rfl, by show 3 ≤ sizeLine; decide, fun t2 n2 => ?_⟩⟩
      have src1 : Src H1 a := (Adv.of_same hs s1).src
      have a1 := Adv.new (o := .tup [.str "call", .str "x"]) (Adv.refl src1) n1
      have e1 := tup_new (K := K) src1 n1 (.cons (str_ob "call") (.cons (str_ob "x") .nil)) (by simp)
      exact ⟨_, _, rfl, Same.new (Same.new s1 n1) n2, tup_new a1.src n2 (.cons (str_ob "final") (.cons e1 (.cons (a1.ob hu) .nil))) (by simp)⟩
    · rintro σ H1 ⟨v1, x2, rfl, s1, hu⟩
      exact ⟨_, rfl, k v1 H1 s1 hu⟩
end
end K4
end L2
set_option Elab.async false
set_option linter.all false
set_option maxRecDepth 100000
set_option maxHeartbeats 8000000
namespace L2
namespace K4
open PySem PySem.Spec PyProof.Rows Fc C8
section
variable {P : Program} {w : World} {K : PySem.W.Frag} {mg : Str → Option Value} {base : Heap} {c : Cs}

/-! ### what the law's defs lay out -/
theorem seq_ob {H : Hp} {a l t : Addr} {xs : List V} {os : List O} (s : Src H a) (h : Obs K (Fz a H) xs os) (b : os.length < 20000) (nl : H l = none) (nt : upd H l (.tup xs) t = none) :
    Ob K (upd (upd H l (.tup xs)) t (.tup [.str "seq", .ref l])) (.ref t) (seqO os) ∧ Adv a H (upd (upd H l (.tup xs)) t (.tup [.str "seq", .ref l])) := by
  have a1 := Adv.new (o := .tup xs) (Adv.refl s) nl
  have e1 := tup_new (K := K) s nl h b
  have a2 := a1.new (o := .tup [.str "seq", .ref l]) nt
  have e2 := tup_new a1.src nt (.cons (str_ob "seq") (.cons e1 .nil)) (by simp)
  exact ⟨e2.mono fz_same, a2⟩
theorem ne_lists {H : Hp} {p m : Addr} {xs ys : List V} {ds : List PyData} {Q : VK} (hp : H p = some (.lst xs)) (nm : H m = none) (d1 : ∀ H, DpAll K H xs ds) (d2 : ∀ H, DpAll K H ys ds)
    (sh : SeqAt.shaped (.list ds) = true) (eq : PyData.eqv (.list ds) (.list ds) = true) (q : Q (.bl false) (upd H m (.lst ys))) : rNeD K (.ref p) (.ref m) (upd H m (.lst ys)) Q := by
  refine ⟨.list ds, .list ds, .lst (SqL.of (by rw [upd_ne (ne_of_none hp nm)]; exact hp)) (d1 _), .lst (SqL.of upd_same) (d2 _), sh, sh, ?_⟩
  rw [eq]
  exact q
theorem eq_lists {H : Hp} {p m : Addr} {xs ys : List V} {ds : List PyData} {Q : VK} (hp : H p = some (.lst xs)) (nm : H m = none) (d1 : ∀ H, DpAll K H xs ds) (d2 : ∀ H, DpAll K H ys ds)
    (sh : SeqAt.shaped (.list ds) = true) (eq : PyData.eqv (.list ds) (.list ds) = true) (q : Q (.bl true) (upd H m (.lst ys))) : rEqD K (.ref p) (.ref m) (upd H m (.lst ys)) Q := by
  refine ⟨.list ds, .list ds, .lst (SqL.of (by rw [upd_ne (ne_of_none hp nm)]; exact hp)) (d1 _), .lst (SqL.of upd_same) (d2 _), sh, sh, ?_⟩
  rw [eq]
  exact q
theorem one_int (i : Int) : SeqAt.shaped (.list [.int i]) = true ∧ PyData.eqv (.list [.int i]) (.list [.int i]) = true := ⟨rfl, by simp [PyData.eqv, PyData.eqvAll]⟩
theorem made_int (i : Int) : SeqAt.shaped (.list [.str "made", .int i]) = true ∧ PyData.eqv (.list [.str "made", .int i]) (.list [.str "made", .int i]) = true := by
  have h : PyData.canLay0 (.list [.str "made", .int i]) = true := by
    have h1 : PyData.canLay0 (.str "made") = true := by decide +kernel
    have h2 : PyData.canLay0 (.int i) = true := rfl
    simp only [PyData.canLay0, PyData.canLayAll0] at h1 h2 ⊢
    simp only [h1, Bool.and_true]
  exact ⟨Bool.and_eq_true_iff.mpr ⟨h, rfl⟩, by simp [PyData.eqv, PyData.eqvAll]⟩
theorem dp_int (i : Int) : ∀ H, DpAll K H [.int i] [.int i] := fun _ => .cons (.int i) .nil
theorem dp_made (i : Int) : ∀ H, DpAll K H [.str "made", .int i] [.str "made", .int i] := fun _ => .cons (.str _) (.cons (.int i) .nil)
theorem obs_rep {H : Hp} {v : V} {o : O} (h : Ob K H v o) : ∀ n, Obs K H (List.replicate n v) (List.replicate n o)
  | 0 => .nil
  | n + 1 => by
    rw [List.replicate_succ, List.replicate_succ]
    exact .cons h (obs_rep h n)
theorem obs_app {H : Hp} : ∀ {vs ws : List V} {os us : List O}, Obs K H vs os → Obs K H ws us → Obs K H (vs ++ ws) (os ++ us)
  | _, _, _, _, .nil, h => h
  | _, _, _, _, .cons g r, h => .cons g (obs_app r h)
structure Row (K : PySem.W.Frag) (a q t : Addr) (H : Hp) : Prop where
  src : Src H a
  ne : q ≠ a
  row : H q = some (.lst (List.replicate 399 (.ref t)))
  ob : Ob K (Fz a H) (.ref t) (doO "a")
theorem Row.go {a q t : Addr} {H H' : Hp} (r : Row K a q t H) (ad : Adv a H H') : Row K a q t H' := ⟨ad.src, r.ne, ad.get r.ne r.row, ad.ob r.ob⟩
theorem Row.new {a q t p : Addr} {H : Hp} {o : HO} (r : Row K a q t H) (n : H p = none) : Row K a q t (upd H p o) := r.go (Adv.new (Adv.refl r.src) n)
theorem Row.same {a q t : Addr} {H H' : Hp} (r : Row K a q t H) (e : Same H H') : Row K a q t H' := r.go (Adv.of_same r.src e)

/-! ### _law_many_right -/
def spRight : Sp := fun vs H Q _ => ∃ a : Addr, vs = [.ref a] ∧ Src H a ∧ ∀ H', Adv a H H' → Q (.bl true) H'
abbrev s_many_right : Stmt := top 34
theorem sc_many_right : FnScope ["_law_source", "_law_first", "_law_row", "_law_deep"] ["_law_source"] (defScope s_many_right) := ⟨rfl, rfl, rfl, by decide +kernel, rfl, by decide +kernel, by decide +kernel⟩
theorem ok_many_right {f : Addr} {fd : FuncData} (Fn : Fun K "_law_many_right" "_law_many_right" s_many_right f fd) (T : Txt K mg w c) (c_draw : Cal P w K mg base 1 "_law_draw" spDraw []) (c_said : Cal P w K mg base 6 "_law_said" (spSaid K) [])
    (c_wrapped : Cal P w K mg base 3 "_law_wrapped" (spWrapped K) []) : FnOk P w K mg base CX0 7 f fd ["_law_source"] spRight := by
  refine Fn.ok sc_many_right (fun vs H Q E h => ?_) (fun cdv A0 outer s0 H vs Q E hr h => ?_)
  · obtain ⟨a, rfl, _⟩ := h
    rfl
  · obtain ⟨a, rfl, hs, k⟩ := h
    refine ⟨_, (pss_cons (ps_set (i := 1) sc_many_right.nd rfl (Or.inl rfl) (pe_c c_draw hr (by decide) rfl (pa_cons (pv 0) (pa_cons pe_int pa_nil))))
(pss_cons (ps_set (i := 2) sc_many_right.nd rfl (Or.inl rfl) (pe_op op_rep (pe_lst (pa_cons (pe_tup (pa_cons pe_str (pa_cons pe_str pa_nil))) pa_nil)) pe_int))
(pss_cons (ps_if (PW.pt (pw_or (pt_cmpR (op_neD hr.units) (pe_c c_said hr (by decide) rfl (pa_cons (pe_tup (pa_cons pe_str (pa_cons (pe_callTy call_tuple_of (by rfl) T.n_tuple (by decide +kernel) (pa_cons (pv 2) pa_nil)) pa_nil))) pa_nil)) (pe_lst (pa_cons pe_str (pa_cons pe_int pa_nil))) (nomark _)) (pw_or1 (pt_cmpR op_ne (pe_c c_said hr (by decide) rfl (pa_cons (pe_tup (pa_cons pe_str (pa_cons (pe_callTy call_tuple_of (by rfl) T.n_tuple (by decide +kernel) (pa_cons (pe_op op_cat (pv 2) (pe_lst (pa_cons (pe_tup (pa_cons pe_str (pa_cons pe_str pa_nil))) pa_nil))) pa_nil)) pa_nil))) pa_nil)) pe_int (nomark _)))))
(pss_one (ps_ret pe_bl))
pss_nil)
(pss_cons (ps_if (PW.pt (pw_or (pt_cmpR op_ne (pe_c c_said hr (by decide) rfl (pa_cons (pe_tup (pa_cons pe_str (pa_cons (pe_callTy call_tuple_of (by rfl) T.n_tuple (by decide +kernel) (pa_cons (pe_op op_cat (pv 2) (pe_lst (pa_cons pe_non pa_nil))) pa_nil)) pa_nil))) pa_nil)) pe_int (nomark _)) (pw_or1 (pt_cmpR op_ne (pe_c c_said hr (by decide) rfl (pa_cons (pe_tup (pa_cons pe_str (pa_cons (pe_callTy call_tuple_of (by rfl) T.n_tuple (by decide +kernel) (pa_cons (pe_op op_rep (pv 2) pe_int) pa_nil)) pa_nil))) pa_nil)) pe_int (nomark _)))))
(pss_one (ps_ret pe_bl))
pss_nil)
(pss_cons (ps_if (pt_cmpR (op_neD hr.units) (pe_c c_said hr (by decide) rfl (pa_cons (pe_tup (pa_cons pe_str (pa_cons (pe_callTy call_tuple_of (by rfl) T.n_tuple (by decide +kernel) (pa_cons (pe_op op_cat (pe_op op_cat (pe_slice sl_list (pv 2) po_none (po_some (pv 1))) (pe_lst (pa_cons pe_non pa_nil))) (pv 2)) pa_nil)) pa_nil))) pa_nil)) (pe_lst (pa_cons (pe_op op_add (pv 1) pe_int) pa_nil)) (nomark _))
(pss_one (ps_ret pe_bl))
pss_nil)
(pss_cons (ps_set (i := 3) sc_many_right.nd rfl (Or.inl rfl) (pe_c c_wrapped hr (by decide) rfl (pa_cons (pv 0) (pa_cons (pe_tup (pa_cons pe_str (pa_cons pe_str pa_nil))) (pa_cons pe_int pa_nil)))))
(pss_one (ps_ret (pe_cmpR op_eq (pe_c c_said hr (by decide) rfl (pa_cons (pe_tup (pa_cons pe_str (pa_cons (pe_callTy call_tuple_of (by rfl) T.n_tuple (by decide +kernel) (pa_cons (pe_op op_cat (pv 2) (pe_lst (pa_cons (pv 3) pa_nil))) pa_nil)) pa_nil))) pa_nil)) pe_int (nomark _)))))))))), ?_⟩
    have q1 : (1 : Nat) ≤ sizeLine := by decide
    have q2 : (2 : Nat) ≤ sizeLine := by decide
    have q400 : (400 : Nat) ≤ sizeLine := by decide
    have q800 : (800 : Nat) ≤ sizeLine := by decide
    have q1197 : (1197 : Nat) ≤ sizeLine := by decide
    refine ⟨_, rfl, a, 398, rfl, hs, by decide, by decide, fun r x y z r0 r1 => ?_⟩
    obtain ⟨n, rfl⟩ : ∃ n : Nat, r = n := ⟨r.toNat, by omega⟩
    have ad1 : Adv a H (upd H a (.lst [.int x, .int y, .int z])) := Adv.draw
    obtain ⟨H1, e1⟩ : ∃ H1, H1 = upd H a (.lst [.int x, .int y, .int z]) := ⟨_, rfl⟩
    rw [← e1] at ad1 ⊢
    refine ⟨q2, fun t nt => ⟨q1, fun l nl => ⟨l, 399, [.ref t], rfl, rfl, upd_same, by decide, by decide, (by show 1 * 399 ≤ sizeLine; decide), fun q nq => ?_⟩⟩⟩
    have hrep : (List.replicate (Int.toNat 399) [V.ref t]).flatten = List.replicate 399 (V.ref t) := List.flatten_replicate_singleton
    rw [hrep]
    have a2 := ad1.new (o := .tup [.str "do", .str "a"]) nt
    have et := tup_new (K := K) ad1.src nt (.cons (str_ob "do") (.cons (str_ob "a") .nil)) (by simp)
    have a3 := a2.new (o := .lst [.ref t]) nl
    have a4 := a3.new (o := .lst (List.replicate 399 (.ref t))) nq
    have nqa : q ≠ a := fun z => a3.src.some (by rw [← z]; exact nq)
    have R : Row K a q t _ := ⟨a4.src, nqa, upd_same, (Adv.new (Adv.new (Adv.refl a2.src) nl) nq).ob et⟩
    obtain ⟨H2, e2⟩ : ∃ H2, H2 = upd (upd (upd H1 t (.tup [.str "do", .str "a"])) l (.lst [.ref t])) q (.lst (List.replicate 399 (.ref t))) := ⟨_, rfl⟩
    rw [← e2] at a4 R ⊢
    clear nt nl nq et a2 a3 hrep e2
    have len9 : (List.replicate 399 (V.ref t)).length = 399 := List.length_replicate
    have ll := leaf_do "a" (by decide)
    -- ['made', 400]
    refine ⟨_, rfl, q, _, rfl, .inl ⟨SqL.of R.row, fun l nl => ⟨q2, fun u nu => ?_⟩⟩⟩
    obtain ⟨ob, ad⟩ := seq_ob R.src (obs_rep R.ob 399) (by rw [List.length_replicate]; decide) nl nu
    obtain ⟨rows, lr, cr⟩ := codes_400 ll
    refine ⟨.ref u, _, _, rfl, ob, cr, fun H3 p s3 _ hp => ⟨q2, fun m nm => ?_⟩⟩
    rw [lr] at hp
    refine ne_lists hp nm (dp_made _) (dp_made _) (made_int _).1 (made_int _).2 ⟨_, rfl, iteF ?_⟩
    have R4 := ((R.go ad).same s3).new (o := .lst [.str "made", .int 400]) nm
    have a5 := a4.trans ((ad.trans (Adv.of_same ad.src s3)).new (o := .lst [.str "made", .int 400]) nm)
    clear ob ad
    obtain ⟨H4, e4⟩ : ∃ H4, H4 = upd H3 m (.lst [.str "made", .int 400]) := ⟨_, rfl⟩
    rw [← e4] at R4 a5 ⊢
    clear hp nm nl nu s3 e4
    -- .. + [('do', 'b')]
    refine ⟨_, rfl, q2, fun b nb => ⟨q1, fun lb nlb => ?_⟩⟩
    have eb := tup_new (K := K) R4.src nb (.cons (str_ob "do") (.cons (str_ob "b") .nil)) (by simp)
    have R5 := (R4.new (o := .tup [.str "do", .str "b"]) nb).new (o := .lst [.ref b]) nlb
    have a6 := (a5.new (o := .tup [.str "do", .str "b"]) nb).new (o := .lst [.ref b]) nlb
    have eb2 := (Adv.new (o := .lst [.ref b]) (Adv.refl (R4.new (o := .tup [.str "do", .str "b"]) nb).src) nlb).ob (K := K) eb
    refine ⟨q, lb, _, _, rfl, rfl, R5.row, upd_same, by rw [len9]; exact q400, fun s ns => ⟨s, _, rfl, .inl ⟨SqL.of upd_same, fun l nl => ⟨q2, fun u nu => ?_⟩⟩⟩⟩
    have R6 := R5.new (o := .lst (List.replicate 399 (.ref t) ++ [.ref b])) ns
    have eb3 := (Adv.new (o := .lst (List.replicate 399 (.ref t) ++ [.ref b])) (Adv.refl R5.src) ns).ob (K := K) eb2
    have a7 := a6.new (o := .lst (List.replicate 399 (.ref t) ++ [.ref b])) ns
    obtain ⟨ob, ad⟩ := seq_ob R6.src (obs_app (obs_rep R6.ob 399) (.cons eb3 .nil)) (by rw [List.length_append, List.length_replicate]; decide) nl nu
    refine ⟨.ref u, _, _, rfl, ob, codes_over ll (doO "b") [], fun H7 s7 => ⟨rfl, _, rfl, iteF ?_⟩⟩
    have R7 := (R6.go ad).same s7
    have a8 := a7.trans (ad.trans (Adv.of_same ad.src s7))
    clear ob ad s7 nl nu ns nlb nb eb eb2 eb3 a6 a7 R5 R6 R4 a5
    -- .. + [None]
    refine ⟨_, rfl, q1, fun lb nlb => ?_⟩
    have R8 := R7.new (o := .lst [.non]) nlb
    have a9 := a8.new (o := .lst [.non]) nlb
    refine ⟨q, lb, _, _, rfl, rfl, R8.row, upd_same, by rw [len9]; exact q400, fun s ns => ⟨s, _, rfl, .inl ⟨SqL.of upd_same, fun l nl => ⟨q2, fun u nu => ?_⟩⟩⟩⟩
    have R9 := R8.new (o := .lst (List.replicate 399 (.ref t) ++ [.non])) ns
    have a10 := a9.new (o := .lst (List.replicate 399 (.ref t) ++ [.non])) ns
    obtain ⟨ob, ad⟩ := seq_ob R9.src (obs_app (obs_rep R9.ob 399) (.cons .non .nil)) (by rw [List.length_append, List.length_replicate]; decide) nl nu
    refine ⟨.ref u, _, _, rfl, ob, codes_over ll .non [], fun H10 s10 => ⟨rfl, _, rfl, iteF ?_⟩⟩
    have R10 := (R9.go ad).same s10
    have a11 := a10.trans (ad.trans (Adv.of_same ad.src s10))
    clear ob ad s10 nl nu ns nlb R8 R9 R7 a8 a9 a10
    -- .. * 3
    refine ⟨_, rfl, q, 3, _, rfl, rfl, R10.row, by decide, by decide, by rw [len9]; exact q1197, fun s ns => ⟨s, _, rfl, .inl ⟨SqL.of upd_same, fun l nl => ⟨q2, fun u nu => ?_⟩⟩⟩⟩
    have h3 : (List.replicate (Int.toNat 3) (List.replicate 399 (V.ref t))).flatten = List.replicate 399 (V.ref t) ++ (V.ref t :: List.replicate 797 (V.ref t)) := by
      show (List.replicate 3 (List.replicate 399 (V.ref t))).flatten = _
      rw [List.flatten_replicate_replicate, ← List.replicate_succ, List.replicate_append_replicate]
    rw [h3] at nl nu ⊢
    have R11 := R10.new (o := .lst (List.replicate 399 (.ref t) ++ (V.ref t :: List.replicate 797 (V.ref t)))) ns
    have a12 := a11.new (o := .lst (List.replicate 399 (.ref t) ++ (V.ref t :: List.replicate 797 (V.ref t)))) ns
    obtain ⟨ob, ad⟩ := seq_ob R11.src (obs_app (obs_rep R11.ob 399) (.cons R11.ob (obs_rep R11.ob 797))) (by rw [List.length_append, List.length_replicate, List.length_cons, List.length_replicate]; decide) nl nu
    refine ⟨.ref u, _, _, rfl, ob, codes_over ll _ _, fun H12 s12 => ⟨rfl, _, rfl, iteF ?_⟩⟩
    have R12 := (R11.go ad).same s12
    have a13 := a12.trans (ad.trans (Adv.of_same ad.src s12))
    clear ob ad s12 nl nu ns R10 R11 a11 a12 h3
    -- row[:first] + [None] + row
    have hn : n < 398 := by omega
    refine ⟨_, rfl, _, rfl, n, rfl, q, _, rfl, SqL.of R12.row, fun z1 nz1 => ⟨q1, fun z2 nz2 => ?_⟩⟩
    have hcut : cutV (List.replicate 399 (V.ref t)) none (some (n : Int)) = List.replicate n (V.ref t) := by
      unfold cutV
      rw [len9, HT.sIx_nat, Nat.min_eq_left (by omega)]
      show ((List.replicate 399 (V.ref t)).drop 0).take (n - 0) = _
      rw [List.drop_zero, Nat.sub_zero, List.take_replicate, Nat.min_eq_left (by omega)]
    rw [hcut] at nz2 ⊢
    have R13 := R12.new (o := .lst (List.replicate n (V.ref t))) nz1
    have a14 := a13.new (o := .lst (List.replicate n (V.ref t))) nz1
    have R14 := R13.new (o := .lst [.non]) nz2
    have a15 := a14.new (o := .lst [.non]) nz2
    refine ⟨z1, z2, _, _, rfl, rfl, by rw [upd_ne (ne_of_none upd_same nz2)]; exact upd_same, upd_same, by rw [List.length_replicate]; show n + 1 ≤ sizeLine; exact Nat.le_trans (by omega) q400, fun z3 nz3 => ?_⟩
    have R15 := R14.new (o := .lst (List.replicate n (V.ref t) ++ [.non])) nz3
    have a16 := a15.new (o := .lst (List.replicate n (V.ref t) ++ [.non])) nz3
    refine ⟨_, rfl, z3, q, _, _, rfl, rfl, upd_same, R15.row, by rw [List.length_append, List.length_replicate, len9]; show n + 1 + 399 ≤ sizeLine; exact Nat.le_trans (by omega) q800, fun s ns => ⟨s, _, rfl, .inl ⟨SqL.of upd_same, fun l nl => ⟨q2, fun u nu => ?_⟩⟩⟩⟩
    have R16 := R15.new (o := .lst (List.replicate n (V.ref t) ++ [.non] ++ List.replicate 399 (V.ref t))) ns
    have a17 := a16.new (o := .lst (List.replicate n (V.ref t) ++ [.non] ++ List.replicate 399 (V.ref t))) ns
    obtain ⟨ob, ad⟩ := seq_ob R16.src (obs_app (obs_app (obs_rep R16.ob n) (.cons .non .nil)) (obs_rep R16.ob 399)) (by rw [List.length_append, List.length_append, List.length_replicate, List.length_replicate]; show n + 1 + 399 < 20000; omega) nl nu
    have cb : Codes (seqO (List.replicate n (doO "a") ++ [.non] ++ List.replicate 399 (doO "a"))) (.error (.bad (n + 1))) := by
      rw [List.append_assoc]
      exact codes_first ll n (by omega) _
    refine ⟨.ref u, _, _, rfl, ob, cb, fun H17 p s17 _ hp => ?_⟩
    have R17 := (R16.go ad).same s17
    have a18 := a17.trans (ad.trans (Adv.of_same ad.src s17))
    refine ⟨_, rfl, _, _, rfl, rfl, q1, fun m nm => ?_⟩
    have en : ((n + 1 : Nat) : Int) = (n : Int) + 1 := by omega
    rw [en] at hp
    refine ne_lists hp nm (dp_int _) (dp_int _) (one_int _).1 (one_int _).2 ⟨_, rfl, iteF ?_⟩
    have R18 := R17.new (o := .lst [.int ((n : Int) + 1)]) nm
    have a19 := a18.new (o := .lst [.int ((n : Int) + 1)]) nm
    clear ob ad s17 nl nu ns nz1 nz2 nz3 R12 R13 R14 R15 R16 R17 a13 a14 a15 a16 a17 a18 hp nm en cb hcut
    -- deep
    refine ⟨_, rfl, q2, fun d nd => ?_⟩
    have ed := tup_new (K := K) R18.src nd (.cons (str_ob "do") (.cons (str_ob "d") .nil)) (by simp)
    have R19 := R18.new (o := .tup [.str "do", .str "d"]) nd
    have a20 := a19.new (o := .tup [.str "do", .str "d"]) nd
    refine ⟨a, .ref d, _, 99, rfl, R19.src, ed, by decide, fun v u H20 ad20 ou wu => ?_⟩
    have R20 := R19.go ad20
    have a21 := a20.trans ad20
    refine ⟨_, rfl, _, rfl, q1, fun lb nlb => ?_⟩
    have R21 := R20.new (o := .lst [v]) nlb
    have a22 := a21.new (o := .lst [v]) nlb
    have ou2 := (Adv.new (o := .lst [v]) (Adv.refl R20.src) nlb).ob ou
    refine ⟨q, lb, _, _, rfl, rfl, R21.row, upd_same, by rw [len9]; exact q400, fun s ns => ⟨s, _, rfl, .inl ⟨SqL.of upd_same, fun l nl => ⟨q2, fun u' nu => ?_⟩⟩⟩⟩
    have R22 := R21.new (o := .lst (List.replicate 399 (.ref t) ++ [v])) ns
    have a23 := a22.new (o := .lst (List.replicate 399 (.ref t) ++ [v])) ns
    have ou3 := (Adv.new (o := .lst (List.replicate 399 (.ref t) ++ [v])) (Adv.refl R21.src) ns).ob ou2
    obtain ⟨ob, ad⟩ := seq_ob R22.src (obs_app (obs_rep R22.ob 399) (.cons ou3 .nil)) (by rw [List.length_append, List.length_replicate]; show 399 + 1 < 20000; decide) nl nu
    refine ⟨.ref u', _, _, rfl, ob, codes_over ll u [], fun H23 s23 => ⟨rfl, ?_⟩⟩
    exact k H23 (a23.trans (ad.trans (Adv.of_same ad.src s23)))
end
end K4
end L2
set_option Elab.async false
set_option linter.all false
set_option maxRecDepth 100000
set_option maxHeartbeats 8000000
namespace L2
namespace K4
open PySem PySem.Spec PyProof.Rows Fc C8
section
variable {P : Program} {w : World} {K : PySem.W.Frag} {mg : Str → Option Value} {base : Heap} {c : Cs}

/-! ### _law_cell_at, _law_source_of -/
def spCellAt (K : PySem.W.Frag) : Sp := fun vs H Q _ => ∃ (l : Addr) (ns : List Int), vs = [.ref l, .int 0] ∧ SqL K H l (ns.map V.int) ∧ ∀ i, Q (.int i) H
abbrev s_cell_at : Stmt := top 27
theorem sc_cell_at : FnScope ["_law_script", "_law_k"] ["_law_script", "_law_k"] (defScope s_cell_at) := ⟨rfl, rfl, rfl, by decide +kernel, rfl, by decide +kernel, by decide +kernel⟩
theorem ok_cell_at {f : Addr} {fd : FuncData} (Fn : Fun K "_law_cell_at" "_law_cell_at" s_cell_at f fd) (T : Txt K mg w c) : FnOk P w K mg base CX0 1 f fd ["_law_script", "_law_k"] (spCellAt K) := by
  refine Fn.ok sc_cell_at (fun vs H Q E h => ?_) (fun cdv A0 outer s0 H vs Q E hr h => ?_)
  · obtain ⟨l, ns, rfl, _⟩ := h
    rfl
  · obtain ⟨l, ns, rfl, hl, k⟩ := h
    refine ⟨_, (pss_one (ps_ret (pe_ifExp (pt_cmpR op_lt (pv 1) (pe_callB call_len_seq (by rfl) T.n_len (by decide +kernel) (pa_cons (pv 0) pa_nil)) (nomark _)) (pe_ix ix_list (pv 0) (pv 1) (fun _ _ => rfl)) pe_int))), ?_⟩
    refine ⟨_, rfl, _, rfl, l, _, rfl, .inl hl, _, _, rfl, rfl, _, rfl, ?_⟩
    cases ns with
    | nil => exact iteF (k 0)
    | cons n ns =>
      refine (if_pos (decide_eq_true (by rw [List.length_map, List.length_cons]; omega))).mpr ?_
      exact ⟨_, rfl, _, rfl, l, _, 0, _, rfl, rfl, hl, at_of rfl rfl, k n⟩
def spSourceOf : Sp := fun vs H Q _ => ∃ i : Int, vs = [.int i] ∧ ∀ (p : Addr) (x y z : Int), H p = none → Q (.ref p) (upd H p (.lst [.int x, .int y, .int z]))
abbrev s_source_of : Stmt := top 28
theorem sc_source_of : FnScope ["_law_cell"] ["_law_cell"] (defScope s_source_of) := ⟨rfl, rfl, rfl, by decide +kernel, rfl, by decide +kernel, by decide +kernel⟩
theorem ok_source_of {f : Addr} {fd : FuncData} (Fn : Fun K "_law_source_of" "_law_source_of" s_source_of f fd) (T : Txt K mg w c) : FnOk P w K mg base CX0 1 f fd ["_law_cell"] spSourceOf := by
  refine Fn.ok sc_source_of (fun vs H Q E h => ?_) (fun cdv A0 outer s0 H vs Q E hr h => ?_)
  · obtain ⟨i, rfl, _⟩ := h
    rfl
  · obtain ⟨i, rfl, k⟩ := h
    refine ⟨_, (pss_one (ps_ret (pe_lst (pa_cons (pe_op op_mul (pv 0) (pe_callTy call_int1 (by rfl) T.n_int (by decide +kernel) (pa_cons (pe_cmpR op_ge (pv 0) (pe_op op_pow pe_int pe_int) (nomark _)) pa_nil))) (pa_cons (pe_op op_add (pe_op op_mod (pe_callTy call_int1 (by rfl) T.n_int (by decide +kernel) (pa_cons (pv 0) pa_nil)) pe_int) pe_int) (pa_cons pe_int pa_nil)))))), ?_⟩
    refine ⟨_, rfl, _, rfl, 10, 18, rfl, rfl, ⟨by decide, by decide, by decide⟩, _, _, rfl, rfl, .inr ⟨_, rfl, ?_⟩⟩
    refine ⟨_, _, rfl, rfl, .inr ?_, ?_⟩
    · cases decide ((10 : Int) ^ (18 : Int).toNat ≤ i) <;> exact ⟨by decide, by decide⟩
    refine ⟨_, rfl, .inl ⟨_, rfl, _, _, rfl, rfl, (by show (0 : Int) < 2147483629; decide), _, _, rfl, rfl, ?_⟩⟩
    refine ⟨by show 3 ≤ sizeLine; decide, fun p np => ?_⟩
    exact k p _ _ _ np

/-! ### _law_deep_right -/
abbrev s_deep_right : Stmt := top 35
theorem sc_deep_right : FnScope ["_law_source", "_law_fine", "_law_inner", "_law_first"] ["_law_source"] (defScope s_deep_right) := ⟨rfl, rfl, rfl, by decide +kernel, rfl, by decide +kernel, by decide +kernel⟩
theorem ok_deep_right {f : Addr} {fd : FuncData} (Fn : Fun K "_law_deep_right" "_law_deep_right" s_deep_right f fd) (T : Txt K mg w c) (c_said : Cal P w K mg base 6 "_law_said" (spSaid K) [])
    (c_wrapped : Cal P w K mg base 3 "_law_wrapped" (spWrapped K) []) : FnOk P w K mg base CX0 7 f fd ["_law_source"] spRight := by
  refine Fn.ok sc_deep_right (fun vs H Q E h => ?_) (fun cdv A0 outer s0 H vs Q E hr h => ?_)
  · obtain ⟨a, rfl, _⟩ := h
    rfl
  · obtain ⟨a, rfl, hs, k⟩ := h
    refine ⟨_, (pss_cons (ps_set (i := 1) sc_deep_right.nd rfl (Or.inl rfl) (pe_c c_wrapped hr (by decide) rfl (pa_cons (pv 0) (pa_cons (pe_tup (pa_cons pe_str (pa_cons pe_str pa_nil))) (pa_cons pe_int pa_nil)))))
(pss_cons (ps_if (pt_cmpR op_ne (pe_ix ix_list (pe_c c_said hr (by decide) rfl (pa_cons (pv 1) pa_nil)) pe_int (fun _ _ => rfl)) pe_str (nomark _))
(pss_one (ps_ret pe_bl))
pss_nil)
(pss_cons (ps_for PassesOwn.never rfl (pi_list (pe_lst (pa_cons (pe_tup (pa_cons pe_str (pa_cons pe_str pa_nil))) (pa_cons pe_non (pa_cons (pe_tup (pa_cons pe_str pa_nil)) pa_nil))))) (pg_name (i := 2) sc_deep_right.nd rfl (Or.inl rfl))
(pss_one (ps_if (pt_cmpR op_ne (pe_c c_said hr (by decide) rfl (pa_cons (pe_c c_wrapped hr (by decide) rfl (pa_cons (pv 0) (pa_cons (pv 2) (pa_cons pe_int pa_nil)))) pa_nil)) pe_int (nomark _))
(pss_one (ps_ret pe_bl))
pss_nil)))
(pss_cons (ps_set (i := 3) sc_deep_right.nd rfl (Or.inl rfl) (pe_tup (pa_cons pe_str (pa_cons (pe_tup (pa_cons (pe_tup (pa_cons pe_str (pa_cons pe_str pa_nil))) (pa_cons (pe_c c_wrapped hr (by decide) rfl (pa_cons (pv 0) (pa_cons (pe_tup (pa_cons pe_str pa_nil)) (pa_cons pe_int pa_nil)))) (pa_cons pe_int pa_nil)))) pa_nil))))
(pss_one (ps_ret (pe_and (pe_cmpR op_eq (pe_c c_said hr (by decide) rfl (pa_cons (pv 3) pa_nil)) pe_int (nomark _)) (pe_one (pe_cmpR (op_eqD hr.units) (pe_c c_said hr (by decide) rfl (pa_cons (pe_tup (pa_cons pe_str (pa_cons (pe_tup (pa_cons pe_int (pa_cons (pe_c c_wrapped hr (by decide) rfl (pa_cons (pv 0) (pa_cons (pe_tup (pa_cons pe_str pa_nil)) (pa_cons pe_int pa_nil)))) pa_nil))) pa_nil))) pa_nil)) (pe_lst (pa_cons pe_int pa_nil)) (nomark _)))))))))), ?_⟩
    have q1 : (1 : Nat) ≤ sizeLine := by decide
    have q2 : (2 : Nat) ≤ sizeLine := by decide
    have q3 : (3 : Nat) ≤ sizeLine := by decide
    -- _law_fine
    refine ⟨_, rfl, q2, fun d nd => ?_⟩
    have ed := tup_new (K := K) hs nd (.cons (str_ob "do") (.cons (str_ob "d") .nil)) (by simp)
    have a1 := Adv.new (o := .tup [.str "do", .str "d"]) (Adv.refl hs) nd
    refine ⟨a, .ref d, _, 99, rfl, a1.src, ed, by decide, fun v u H1 ad1 ou wu => ?_⟩
    obtain ⟨rows, cr⟩ := codes_fine (leaf_do "d" (by decide)) wu
    refine ⟨_, rfl, v, u, _, rfl, ou.mono fz_same, cr, fun H2 p s2 np hp => ?_⟩
    have a2 := (a1.trans ad1).trans (Adv.of_same ad1.src s2)
    refine ⟨p, _, _, _, rfl, rfl, SqL.of hp, at_of rfl rfl, rfl, _, rfl, iteF ?_⟩
    -- the loop
    refine ⟨q2, fun t1 n1 => ⟨q1, fun t2 n2 => ⟨q3, fun l nl => ?_⟩⟩⟩
    have e1 := tup_new (K := K) a2.src n1 (.cons (str_ob "do") (.cons (str_ob "d") .nil)) (by simp)
    have a3 := a2.new (o := .tup [.str "do", .str "d"]) n1
    have e2 := tup_new (K := K) a3.src n2 (.cons (str_ob "do") .nil) (by simp)
    have b3 := Adv.new (o := .tup [.str "do"]) (Adv.refl a3.src) n2
    have a4 := a3.new (o := .tup [.str "do"]) n2
    have b4 := Adv.new (o := .lst [.ref t1, .non, .ref t2]) (Adv.refl a4.src) nl
    have a5 := a4.new (o := .lst [.ref t1, .non, .ref t2]) nl
    have la : l ≠ a := fun z => a4.src.some (by rw [← z]; exact nl)
    have f1 := b4.ob (b3.ob e1)
    have f2 := b4.ob e2
    obtain ⟨H3, e3⟩ : ∃ H3, H3 = upd (upd (upd H2 t1 (.tup [.str "do", .str "d"])) t2 (.tup [.str "do"])) l (.lst [.ref t1, .non, .ref t2]) := ⟨_, rfl⟩
    have hl : H3 l = some (.lst [.ref t1, .non, .ref t2]) := by
      rw [e3]
      exact upd_same
    rw [← e3] at f1 f2 a5 ⊢
    refine ⟨l, rfl, ⟨_, SqL.of hl⟩, for_list (K := K) (a := l) (xs := [V.ref t1, .non, .ref t2]) (fun i σ H' => ∃ x2, σ = [some (.ref a), some v, x2, none] ∧ Adv a H3 H') ⟨none, rfl, Adv.refl a5.src⟩ (fun i σ H' _ ⟨x2, _, ad⟩ => SqL.of (ad.get la hl)) ?_ ?_⟩
    · rintro i x σ H4 hi ⟨x2, rfl, ad4⟩
      have pick : ∃ o, Ob K (Fz a H4) x o := by
        have hj : i < 3 := (List.getElem?_eq_some_iff.mp hi).1
        match i, hj, hi with
        | 0, _, hi =>
          cases hi
          exact ⟨_, ad4.ob f1⟩
        | 1, _, hi =>
          cases hi
          exact ⟨_, .non⟩
        | 2, _, hi =>
          cases hi
          exact ⟨_, ad4.ob f2⟩
      obtain ⟨o, ho⟩ := pick
      refine ⟨_, rfl, _, rfl, a, x, o, 100, rfl, ad4.src, ho, by decide, fun v2 u2 H5 ad5 ou2 wu2 => ?_⟩
      refine ⟨v2, u2, _, rfl, ou2.mono fz_same, codes_deep wu2, fun H6 s6 => ⟨rfl, _, rfl, iteF ?_⟩⟩
      exact ⟨_, rfl, (ad4.trans ad5).trans (Adv.of_same ad5.src s6)⟩
    · rintro σ H4 ⟨x2, rfl, ad4⟩
      have a6 := a5.trans ad4
      -- _law_first
      refine ⟨q2, fun t3 n3 => ⟨_, rfl, q1, fun t4 n4 => ?_⟩⟩
      have g3 := tup_new (K := K) a6.src n3 (.cons (str_ob "do") (.cons (str_ob "a") .nil)) (by simp)
      have a7 := a6.new (o := .tup [.str "do", .str "a"]) n3
      have g4 := tup_new (K := K) a7.src n4 (.cons (str_ob "raise") .nil) (by simp)
      have a8 := a7.new (o := .tup [.str "raise"]) n4
      have b8 := Adv.new (o := .tup [.str "raise"]) (Adv.refl a7.src) n4
      refine ⟨a, .ref t4, _, 99, rfl, a8.src, g4, by decide, fun v2 u2 H5 ad5 ou2 wu2 => ?_⟩
      refine ⟨q3, fun t5 n5 => ⟨q2, fun t6 n6 => ?_⟩⟩
      have a9 := a8.trans ad5
      obtain ⟨ob, ad⟩ := seq_ob ad5.src (.cons (ad5.ob (b8.ob g3)) (.cons ou2 (.cons (.int 5) .nil))) (by simp) n5 n6
      have a10 := a9.trans ad
      refine ⟨_, rfl, .ref t6, _, _, rfl, ob, codes_deep2 (leaf_do "a" (by decide)) wu2, fun H6 s6 => ?_⟩
      have a11 := a10.trans (Adv.of_same ad.src s6)
      refine ⟨rfl, _, rfl, iteT ?_⟩
      refine ⟨_, rfl, q1, fun t7 n7 => ?_⟩
      have g7 := tup_new (K := K) a11.src n7 (.cons (str_ob "raise") .nil) (by simp)
      have a12 := a11.new (o := .tup [.str "raise"]) n7
      refine ⟨a, .ref t7, _, 100, rfl, a12.src, g7, by decide, fun v3 u3 H7 ad7 ou3 wu3 => ?_⟩
      refine ⟨q2, fun t8 n8 => ⟨q2, fun t9 n9 => ?_⟩⟩
      obtain ⟨ob2, ad2⟩ := seq_ob ad7.src (.cons (.int 5) (.cons ou3 .nil)) (by simp) n8 n9
      have a13 := (a12.trans ad7).trans ad2
      refine ⟨.ref t9, _, _, rfl, ob2, codes_bad1 5 _, fun H8 p2 s8 _ hp2 => ?_⟩
      have a14 := a13.trans (Adv.of_same ad2.src s8)
      refine ⟨q1, fun m nm => ?_⟩
      refine eq_lists hp2 nm (dp_int _) (dp_int _) (one_int _).1 (one_int _).2 ?_
      exact k _ (a14.new nm)

/-! ### _law_blocks_right -/
abbrev s_blocks_right : Stmt := top 36
theorem sc_blocks_right : FnScope ["_law_source", "_law_inner", "_law_mixed", "_law_deep"] ["_law_source"] (defScope s_blocks_right) := ⟨rfl, rfl, rfl, by decide +kernel, rfl, by decide +kernel, by decide +kernel⟩
theorem ok_blocks_right {f : Addr} {fd : FuncData} (Fn : Fun K "_law_blocks_right" "_law_blocks_right" s_blocks_right f fd) (T : Txt K mg w c) (c_draw : Cal P w K mg base 1 "_law_draw" spDraw []) (c_said : Cal P w K mg base 6 "_law_said" (spSaid K) [])
    (c_wrapped : Cal P w K mg base 3 "_law_wrapped" (spWrapped K) []) (c_blocks : Cal P w K mg base 1 "_law_blocks" (spBlocks K) []) : FnOk P w K mg base CX0 7 f fd ["_law_source"] spRight := by
  refine Fn.ok sc_blocks_right (fun vs H Q E h => ?_) (fun cdv A0 outer s0 H vs Q E hr h => ?_)
  · obtain ⟨a, rfl, _⟩ := h
    rfl
  · obtain ⟨a, rfl, hs, k⟩ := h
    refine ⟨_, (pss_cons (ps_if (pt_cmpR (op_neD hr.units) (pe_c c_said hr (by decide) rfl (pa_cons (pe_c c_blocks hr (by decide) rfl (pa_cons (pe_tup (pa_cons pe_str (pa_cons pe_str pa_nil))) (pa_cons pe_int pa_nil))) pa_nil)) (pe_lst (pa_cons pe_str (pa_cons pe_int pa_nil))) (nomark _))
(pss_one (ps_ret pe_bl))
pss_nil)
(pss_cons (ps_for PassesOwn.never rfl (pi_list (pe_lst (pa_cons (pe_tup (pa_cons pe_str (pa_cons pe_str pa_nil))) (pa_cons pe_non (pa_cons (pe_tup (pa_cons pe_str (pa_cons pe_int pa_nil))) pa_nil))))) (pg_name (i := 1) sc_blocks_right.nd rfl (Or.inl rfl))
(pss_one (ps_if (pt_cmpR op_ne (pe_c c_said hr (by decide) rfl (pa_cons (pe_c c_blocks hr (by decide) rfl (pa_cons (pv 1) (pa_cons pe_int pa_nil))) pa_nil)) pe_int (nomark _))
(pss_one (ps_ret pe_bl))
pss_nil)))
(pss_cons (ps_set (i := 2) sc_blocks_right.nd rfl (Or.inl rfl) (pe_c c_wrapped hr (by decide) rfl (pa_cons (pv 0) (pa_cons (pe_c c_blocks hr (by decide) rfl (pa_cons (pe_tup (pa_cons pe_str (pa_cons pe_str pa_nil))) (pa_cons pe_int pa_nil))) (pa_cons (pe_c c_draw hr (by decide) rfl (pa_cons (pv 0) (pa_cons pe_int pa_nil))) pa_nil)))))
(pss_cons (ps_if (pt_cmpR op_ne (pe_ix ix_list (pe_c c_said hr (by decide) rfl (pa_cons (pv 2) pa_nil)) pe_int (fun _ _ => rfl)) pe_str (nomark _))
(pss_one (ps_ret pe_bl))
pss_nil)
(pss_cons (ps_set (i := 3) sc_blocks_right.nd rfl (Or.inl rfl) (pe_c c_wrapped hr (by decide) rfl (pa_cons (pv 0) (pa_cons (pe_c c_blocks hr (by decide) rfl (pa_cons (pe_tup (pa_cons pe_str (pa_cons pe_str pa_nil))) (pa_cons pe_int pa_nil))) (pa_cons pe_int pa_nil)))))
(pss_one (ps_ret (pe_and (pe_cmpR op_eq (pe_c c_said hr (by decide) rfl (pa_cons (pv 3) pa_nil)) pe_int (nomark _)) (pe_one (pe_cmpR (op_eqD hr.units) (pe_c c_said hr (by decide) rfl (pa_cons (pe_c c_blocks hr (by decide) rfl (pa_cons (pe_c c_wrapped hr (by decide) rfl (pa_cons (pv 0) (pa_cons pe_non (pa_cons pe_int pa_nil)))) (pa_cons pe_int pa_nil))) pa_nil)) (pe_lst (pa_cons pe_int pa_nil)) (nomark _))))))))))), ?_⟩
    have q1 : (1 : Nat) ≤ sizeLine := by decide
    have q2 : (2 : Nat) ≤ sizeLine := by decide
    have q3 : (3 : Nat) ≤ sizeLine := by decide
    have ld := leaf_do "d" (by decide)
    refine ⟨q2, fun d nd => ?_⟩
    have ed := tup_new (K := K) hs nd (.cons (str_ob "do") (.cons (str_ob "d") .nil)) (by simp)
    have a1 := Adv.new (o := .tup [.str "do", .str "d"]) (Adv.refl hs) nd
    refine ⟨a, .ref d, _, 25, rfl, a1.src, ed, by decide, fun v H1 s1 ov => ?_⟩
    have a2 := a1.trans (Adv.of_same a1.src s1)
    obtain ⟨rows, lr, cr⟩ := codes_blocks25 ld
    refine ⟨v, _, _, rfl, ov.mono fz_same, cr, fun H2 p s2 _ hp => ⟨q2, fun m nm => ?_⟩⟩
    rw [lr] at hp
    have a3 := (a2.trans (Adv.of_same a2.src s2)).new (o := .lst [.str "made", .int 51]) nm
    refine ne_lists hp nm (dp_made _) (dp_made _) (made_int _).1 (made_int _).2 ⟨_, rfl, iteF ?_⟩
    obtain ⟨H3, e3⟩ : ∃ H3, H3 = upd H2 m (.lst [.str "made", .int 51]) := ⟨_, rfl⟩
    rw [← e3] at a3 ⊢
    clear e3 hp nm
    -- the loop
    refine ⟨q2, fun t1 n1 => ⟨q2, fun t2 n2 => ⟨q3, fun l nl => ?_⟩⟩⟩
    have g1 := tup_new (K := K) a3.src n1 (.cons (str_ob "do") (.cons (str_ob "d") .nil)) (by simp)
    have a4 := a3.new (o := .tup [.str "do", .str "d"]) n1
    have g2 := tup_new (K := K) a4.src n2 (.cons (str_ob "break") (.cons (.int 1) .nil)) (by simp)
    have b4 := Adv.new (o := .tup [.str "break", .int 1]) (Adv.refl a4.src) n2
    have a5 := a4.new (o := .tup [.str "break", .int 1]) n2
    have b5 := Adv.new (o := .lst [.ref t1, .non, .ref t2]) (Adv.refl a5.src) nl
    have a6 := a5.new (o := .lst [.ref t1, .non, .ref t2]) nl
    have la : l ≠ a := fun z => a5.src.some (by rw [← z]; exact nl)
    have f1 := b5.ob (b4.ob g1)
    have f2 := b5.ob g2
    obtain ⟨H4, e4⟩ : ∃ H4, H4 = upd (upd (upd H3 t1 (.tup [.str "do", .str "d"])) t2 (.tup [.str "break", .int 1])) l (.lst [.ref t1, .non, .ref t2]) := ⟨_, rfl⟩
    have hl : H4 l = some (.lst [.ref t1, .non, .ref t2]) := by
      rw [e4]
      exact upd_same
    rw [← e4] at f1 f2 a6 ⊢
    refine ⟨l, rfl, ⟨_, SqL.of hl⟩, for_list (K := K) (a := l) (xs := [V.ref t1, .non, .ref t2]) (fun i σ H' => ∃ x1, σ = [some (.ref a), x1, none, none] ∧ Adv a H4 H') ⟨none, rfl, Adv.refl a6.src⟩ (fun i σ H' _ ⟨x2, _, ad⟩ => SqL.of (ad.get la hl)) ?_ ?_⟩
    · rintro i x σ H5 hi ⟨x1, rfl, ad5⟩
      have pick : ∃ o, Ob K (Fz a H5) x o := by
        have hj : i < 3 := (List.getElem?_eq_some_iff.mp hi).1
        match i, hj, hi with
        | 0, _, hi =>
          cases hi
          exact ⟨_, ad5.ob f1⟩
        | 1, _, hi =>
          cases hi
          exact ⟨_, .non⟩
        | 2, _, hi =>
          cases hi
          exact ⟨_, ad5.ob f2⟩
      obtain ⟨o, ho⟩ := pick
      refine ⟨_, rfl, a, x, o, 26, rfl, ad5.src, ho, by decide, fun v2 H6 s6 ov2 => ?_⟩
      have ad6 := ad5.trans (Adv.of_same ad5.src s6)
      refine ⟨v2, _, _, rfl, ov2.mono fz_same, codes_blocks26 o, fun H7 s7 => ⟨rfl, _, rfl, iteF ?_⟩⟩
      exact ⟨_, rfl, ad6.trans (Adv.of_same ad6.src s7)⟩
    · rintro σ H5 ⟨x1, rfl, ad5⟩
      have a7 := a6.trans ad5
      -- _law_mixed
      refine ⟨_, rfl, q2, fun t3 n3 => ?_⟩
      have g3 := tup_new (K := K) a7.src n3 (.cons (str_ob "do") (.cons (str_ob "d") .nil)) (by simp)
      have a8 := a7.new (o := .tup [.str "do", .str "d"]) n3
      refine ⟨a, .ref t3, _, 25, rfl, a8.src, g3, by decide, fun v2 H6 s6 ov2 => ?_⟩
      have a9 := a8.trans (Adv.of_same a8.src s6)
      refine ⟨_, rfl, a, 40, rfl, a9.src, by decide, by decide, fun r x y z r0 r1 => ?_⟩
      obtain ⟨n, rfl⟩ : ∃ n : Nat, r = n := ⟨r.toNat, by omega⟩
      have d10 : Adv a H6 (upd H6 a (.lst [.int x, .int y, .int z])) := Adv.draw
      have a10 := a9.trans d10
      refine ⟨a, v2, _, n, rfl, a10.src, d10.ob ov2, by omega, fun v3 u3 H7 ad7 ou3 wu3 => ?_⟩
      have a11 := a10.trans ad7
      obtain ⟨rows3, cr3⟩ := codes_mixed ld (by omega) wu3
      refine ⟨_, rfl, v3, u3, _, rfl, ou3.mono fz_same, cr3, fun H8 p s8 _ hp => ?_⟩
      have a12 := a11.trans (Adv.of_same a11.src s8)
      refine ⟨p, _, _, _, rfl, rfl, SqL.of hp, at_of rfl rfl, rfl, _, rfl, iteF ?_⟩
      -- _law_deep
      refine ⟨_, rfl, q2, fun t4 n4 => ?_⟩
      have g4 := tup_new (K := K) a12.src n4 (.cons (str_ob "do") (.cons (str_ob "d") .nil)) (by simp)
      have a13 := a12.new (o := .tup [.str "do", .str "d"]) n4
      refine ⟨a, .ref t4, _, 26, rfl, a13.src, g4, by decide, fun v4 H9 s9 ov4 => ?_⟩
      have a14 := a13.trans (Adv.of_same a13.src s9)
      refine ⟨a, v4, _, 74, rfl, a14.src, ov4, by decide, fun v5 u5 H10 ad10 ou5 wu5 => ?_⟩
      have a15 := a14.trans ad10
      refine ⟨_, rfl, v5, u5, _, rfl, ou5.mono fz_same, codes_deep3 wu5, fun H11 s11 => ?_⟩
      have a16 := a15.trans (Adv.of_same a15.src s11)
      refine ⟨rfl, _, rfl, iteT ?_⟩
      refine ⟨_, rfl, a, .non, .non, 74, rfl, a16.src, .non, by decide, fun v6 u6 H12 ad12 ou6 wu6 => ?_⟩
      have a17 := a16.trans ad12
      refine ⟨a, v6, u6, 25, rfl, a17.src, ou6, by decide, fun v7 H13 s13 ov7 => ?_⟩
      have a18 := a17.trans (Adv.of_same a17.src s13)
      refine ⟨v7, _, _, rfl, ov7.mono fz_same, codes_last wu6, fun H14 p2 s14 _ hp2 => ?_⟩
      have a19 := a18.trans (Adv.of_same a18.src s14)
      refine ⟨q1, fun m2 nm2 => ?_⟩
      refine eq_lists hp2 nm2 (dp_int _) (dp_int _) (one_int _).1 (one_int _).2 ?_
      exact k _ (a19.new nm2)

/-! ### law -/
def spLaw (K : PySem.W.Frag) : Sp := fun vs H Q _ => ∃ (l : Addr) (ns : List Int), vs = [.ref l] ∧ SqL K H l (ns.map V.int) ∧ ∀ H', Q (.bl true) H'
abbrev s_law : Stmt := top 37
theorem sc_law : FnScope ["_law_script", "_law_cell", "_law_source"] ["_law_script"] (defScope s_law) := ⟨rfl, rfl, rfl, by decide +kernel, rfl, by decide +kernel, by decide +kernel⟩
theorem ok_law {f : Addr} {fd : FuncData} (Fn : Fun K "law" "law" s_law f fd) (T : Txt K mg w c) (c_cell : Cal P w K mg base 1 "_law_cell_at" (spCellAt K) []) (c_source : Cal P w K mg base 1 "_law_source_of" spSourceOf [])
    (c_many : Cal P w K mg base 7 "_law_many_right" spRight []) (c_deep : Cal P w K mg base 7 "_law_deep_right" spRight []) (c_blocks : Cal P w K mg base 7 "_law_blocks_right" spRight []) : FnOk P w K mg base CX0 8 f fd ["_law_script"] (spLaw K) := by
  refine Fn.ok sc_law (fun vs H Q E h => ?_) (fun cdv A0 outer s0 H vs Q E hr h => ?_)
  · obtain ⟨l, ns, rfl, _⟩ := h
    rfl
  · obtain ⟨l, ns, rfl, hl, k⟩ := h
    refine ⟨_, (pss_cons (ps_for PassesOwn.never rfl (pi_list (pe_op op_cat (pe_lst (pa_cons (pe_c c_cell hr (by decide) rfl (pa_cons (pv 0) (pa_cons pe_int pa_nil))) pa_nil)) (pe_slice sl_list (pv 0) (po_some pe_int) (po_some pe_int)))) (pg_name (i := 1) sc_law.nd rfl (Or.inl rfl))
(pss_cons (ps_set (i := 2) sc_law.nd rfl (Or.inl rfl) (pe_c c_source hr (by decide) rfl (pa_cons (pv 1) pa_nil)))
(pss_one (ps_if (PW.pt (pw_or (pt_not (pt_val (pe_c c_many hr (by decide) rfl (pa_cons (pv 2) pa_nil)))) (pw_or (pt_not (pt_val (pe_c c_deep hr (by decide) rfl (pa_cons (pv 2) pa_nil)))) (pw_or1 (pt_not (pt_val (pe_c c_blocks hr (by decide) rfl (pa_cons (pv 2) pa_nil))))))))
(pss_one (ps_ret pe_bl))
pss_nil))))
(pss_one (ps_ret pe_bl))), ?_⟩
    refine ⟨_, rfl, l, ns, rfl, hl, fun i => ⟨by show 1 ≤ sizeLine; decide, fun p np => ?_⟩⟩
    have hl2 : SqL K (upd H p (.lst [.int i])) l (ns.map V.int) := L2.Same.seq (Fc.Same.put np) hl
    refine ⟨_, rfl, 1, rfl, 4, rfl, l, _, rfl, hl2, fun q nq => ?_⟩
    obtain ⟨ms, hm, lm⟩ : ∃ ms : List Int, cutV (ns.map V.int) (some 1) (some 4) = ms.map V.int ∧ ms.length ≤ 4 := by
      refine ⟨(ns.drop (HT.sIx (ns.map V.int).length 0 (some 1))).take (HT.sIx (ns.map V.int).length (ns.map V.int).length (some 4) - HT.sIx (ns.map V.int).length 0 (some 1)), ?_, ?_⟩
      · rw [List.map_take, List.map_drop]
        rfl
      · rw [List.length_take]
        have h4 : HT.sIx (ns.map V.int).length (ns.map V.int).length (some 4) ≤ 4 := by
          rw [show (4 : Int) = ((4 : Nat) : Int) from rfl, HT.sIx_nat]
          exact Nat.min_le_left _ _
        omega
    rw [hm]
    have s1 : Same H (upd H p (.lst [.int i])) := Fc.Same.put np
    refine ⟨p, q, [.int i], _, rfl, rfl, by rw [upd_ne (ne_of_none upd_same nq)]; exact upd_same, upd_same, by rw [List.length_map]; exact Nat.le_trans (show 1 + ms.length ≤ 5 by omega) (by decide), fun z nz => ?_⟩
    obtain ⟨Hz, ez⟩ : ∃ Hz, Hz = upd (upd (upd H p (.lst [.int i])) q (.lst (ms.map V.int))) z (.lst ([.int i] ++ ms.map V.int)) := ⟨_, rfl⟩
    have hz : Hz z = some (.lst ((i :: ms).map V.int)) := by
      rw [ez]
      exact upd_same
    rw [← ez]
    clear ez nz nq hm hl2 s1 np
    refine ⟨z, rfl, ⟨_, SqL.of hz⟩, for_list (K := K) (a := z) (xs := (i :: ms).map V.int) (fun j σ H' => ∃ x1 x2, σ = [some (.ref l), x1, x2] ∧ H' z = some (.lst ((i :: ms).map V.int))) ⟨none, none, rfl, hz⟩ (fun j σ H' _ ⟨_, _, _, e⟩ => SqL.of e) ?_ ?_⟩
    · rintro j x σ H1 hj ⟨x1, x2, rfl, hz1⟩
      obtain ⟨m, rfl⟩ : ∃ m, x = V.int m := by
        rw [List.getElem?_map] at hj
        cases e : (i :: ms)[j]? with
        | none =>
          rw [e] at hj
          cases hj
        | some m =>
          rw [e] at hj
          exact ⟨m, (Option.some.inj hj).symm⟩
      refine ⟨_, rfl, m, rfl, fun a x y u na => ?_⟩
      have nza : z ≠ a := ne_of_none hz1 na
      have hz2 : upd H1 a (.lst [.int x, .int y, .int u]) z = some (.lst ((i :: ms).map V.int)) := by
        rw [upd_ne nza]
        exact hz1
      refine ⟨_, rfl, a, rfl, Src.upd, fun H2 ad2 => ⟨_, rfl, iteF ?_⟩⟩
      refine ⟨_, rfl, a, rfl, ad2.src, fun H3 ad3 => ⟨_, rfl, iteF ?_⟩⟩
      refine ⟨_, rfl, a, rfl, ad3.src, fun H4 ad4 => ⟨_, rfl, iteF ?_⟩⟩
      exact ⟨_, _, rfl, ((ad2.trans ad3).trans ad4).get nza hz2⟩
    · rintro σ H1 ⟨x1, x2, rfl, hz1⟩
      exact k H1
end
end K4
end L2
set_option Elab.async false
set_option linter.all false
set_option maxRecDepth 100000
set_option maxHeartbeats 8000000
namespace L2
namespace K4
open PySem PySem.Spec PyProof.Rows Fc C8

/-! ### what the top has written -/
structure DefF (K : PySem.W.Frag) (x qual : Str) (st : Stmt) (f : Addr) : Prop where
  ex : ∃ fd : FuncData, Fun K x qual st f fd
theorem DefF.of {K : PySem.W.Frag} {x qual : Str} {st : Stmt} {f : Addr} {oc : Value} {od an : Option Addr} {osl : Array (Option Value)} {kV doc pm cdv ct : Value} (l : K.lookup f = some ⟨oc, od, .func (PySem.W.fnOf x qual (defArgs st) (defBody st) (defScope st) .none kV doc pm an cdv ct), osl⟩)
    (c : PySem.W.codeIn K cdv qual = true) (k : PySem.W.keepIn K (.ref f) = true) : DefF K x qual st f := ⟨_, fun_mk l c k⟩
/-- a class over ArithmeticError -/
theorem arc_of {K : PySem.W.Frag} {C fI : Addr} {f nm q : Str} {N : Addr} {bs bm : List Value} {sn : List Str} {sub : List Value} {ab : Bool} {col : Option Bool} {dd : Option Addr} {k0 k1 k2 k3 k5 : Option Value}
    (xL : K.lookup C = some (excClassObj nm q C N bs bm true sn sub ab col dd k0 k1 k2 k3 k5 "ArithmeticError.__new__")) (bm1 : arOver bm = true) (sa : PySem.W.findIn K (.ref C) "__setattr__" = some (some (.builtin "object.__setattr__")))
    (ga : PySem.W.findIn K (.ref C) "__getattribute__" = some (some (.builtin "BaseException.__getattribute__"))) (gg : PySem.W.findIn K (.ref C) "__getattr__" = some none) (hd : PySem.W.hasDictIn K C = true) (nf : PySem.W.findIn K (.ref C) f = some none)
    (exC : PySem.W.subIn K (.ref C) (.type "BaseException") = some true) (tyC : PySem.W.typeIn K (.ref C) = some (.type "type")) (kC : PySem.W.keepIn K (.ref C) = true) (iC : PySem.W.findIn K (.ref C) "__init__" = some (some (.ref fI)))
    (tI : PySem.W.typeIn K (.ref fI) = some (.type "function")) : ArC K C fI f := ⟨⟨nm, q, N, bs, bm, sn, sub, ab, col, dd, k0, k1, k2, k3, k5, xL, bm1⟩, sa, ga, gg, hd, nf, exC, tyC, kC, iC, tI⟩
/-- the texts of a written tuple -/
def txtW : Value → Option Str
  | .str x _ => some x
  | _ => none
def tupW (K : PySem.W.Frag) (a : Addr) : Option (List (Option Str)) := match K.lookup a with
  | some ⟨.type c, _, .seq its _, _⟩ => (match decide (c = "tuple") && decide (its.size ≤ 100) with
    | true => some (its.toList.map txtW)
    | false => none)
  | _ => none
theorem vals_txt : ∀ {vs : List Value} {xs : List Str}, vs.map txtW = xs.map some → Vals (xs.map V.str) vs
  | [], [], _ => .nil
  | [], _ :: _, h => by cases h
  | _ :: _, [], h => by cases h
  | v :: vs, x :: xs, h => by
    rw [List.map_cons, List.map_cons] at h
    injection h with h1 h2
    refine .cons ?_ (vals_txt h2)
    unfold txtW at h1
    split at h1
    · cases h1
      exact ⟨_, rfl⟩
    · cases h1
theorem tup_of {K : PySem.W.Frag} {a : Addr} {xs : List Str} (h : tupW K a = some (xs.map some)) (H : Hp) : SqT K H a (xs.map V.str) := by
  unfold tupW at h
  split at h
  · rename_i cn od its n sl q
    split at h
    · rename_i z
      obtain ⟨z1, z2⟩ := Bool.and_eq_true_iff.mp z
      have e : cn = "tuple" := of_decide_eq_true z1
      subst e
      exact .inr ⟨_, its, n, q, rfl, rfl, Nat.le_trans (of_decide_eq_true z2) (by decide), vals_txt (Option.some.inj h)⟩
    · cases h
  · cases h
/-- the pairs of a written dict with text keys -/
def prOf (e : DictEntry) : Option (Str × Int) := match e.key, e.val with
  | .str x _, .int i _ => some (x, i)
  | _, _ => none
def prW (K : PySem.W.Frag) (a : Addr) : Option (List (Option (Str × Int))) := match K.lookup a with
  | some ⟨_, _, .dict es _, _⟩ => some (es.toList.map prOf)
  | _ => none
theorem prs_find (z : Str) : ∀ {l : List DictEntry} {ps : List (Str × Int)}, l.map prOf = ps.map some →
    ∃ r, (match l.find? (·.key.isStr z) with | some e => some (some e.val) | none => if l.any (·.refKey) then none else some none) = some r ∧ RelO ((ps.find? fun p => p.1 == z).map fun p => V.int p.2) r
  | [], [], _ => ⟨none, rfl, trivial⟩
  | [], _ :: _, h => by cases h
  | _ :: _, [], h => by cases h
  | e :: l, p :: ps, h => by
    rw [List.map_cons, List.map_cons] at h
    injection h with h1 h2
    obtain ⟨hs, ky, vl⟩ := e
    unfold prOf at h1
    split at h1
    · rename_i x t i u q1 q2
      cases h1
      have q1' : ky = .str x t := q1
      have q2' : vl = .int i u := q2
      subst q1' q2'
      have h3 : ∀ b : Bool, b = (x == z) → List.find? (fun en : DictEntry => en.key.isStr z) (⟨hs, .str x t, .int i u⟩ :: l) = if b = true then some ⟨hs, .str x t, .int i u⟩ else List.find? (fun en : DictEntry => en.key.isStr z) l := by
        intro b eb
        rw [List.find?_cons]
        show (match x == z with | true => _ | false => _) = _
        rw [← eb]
        cases b <;> rfl
      have h4 : ∀ b : Bool, b = (x == z) → List.find? (fun pr : Str × Int => pr.1 == z) ((x, i) :: ps) = if b = true then some (x, i) else List.find? (fun pr : Str × Int => pr.1 == z) ps := by
        intro b eb
        rw [List.find?_cons]
        show (match x == z with | true => _ | false => _) = _
        rw [← eb]
        cases b <;> rfl
      have h5 : List.any (⟨hs, .str x t, .int i u⟩ :: l) (·.refKey) = List.any l (·.refKey) := rfl
      rw [h3 _ rfl, h4 _ rfl, h5]
      cases x == z with
      | true => exact ⟨_, rfl, ⟨u, rfl⟩⟩
      | false => exact prs_find z h2
    · cases h1
def sizes : List (Str × Int) := [("do", 2), ("call", 2), ("if", 4), ("while", 3), ("seq", 2), ("break", 2), ("continue", 2), ("return", 1), ("raise", 1), ("try", 3), ("final", 3)]
theorem beqS {x z : Str} : (x == z) = decide (z = x) := by
  by_cases e : z = x
  · rw [decide_eq_true e, e]
    exact beq_self_eq_true x
  · rw [decide_eq_false e]
    exact beq_false_of_ne fun q => e q.symm
theorem sizes_at (z : Str) : (szOf z).map (fun n => V.int (n : Nat)) = (sizes.find? fun p => p.1 == z).map fun p => V.int p.2 := by
  unfold szOf sizes
  simp only [List.find?_cons, List.find?_nil, beqS]
  repeat' split
  all_goals first | rfl | simp_all
theorem szs_of {K : PySem.W.Frag} {a : Addr} (h : prW K a = some (sizes.map some)) (z : Str) : ∃ r, PySem.W.nsIn K a z = some r ∧ RelO ((szOf z).map fun n => V.int (n : Nat)) r := by
  rw [sizes_at]
  unfold prW at h
  unfold PySem.W.nsIn
  split at h
  · rename_i oc od es n sl q
    rw [q]
    exact prs_find z (Option.some.inj h)
  · cases h
theorem all_mk {l : PySem.W.OpenLaw} {w : World} {K : PySem.W.Frag} {h : Heap} {mg : Str → Option Value} {fa : Addr} (X : K.In h) (G : h.Ns mainGlobals mg) (hfa : mg "law" = some (.ref fa))
    {f_is_integer f_is_name f_has_kind f_is_statement f_judge f_head_of f_parts_of f_spots_inside f_cell_at f_source_of f_draw f_one f_said f_wrapped f_blocks f_many_right f_deep_right f_blocks_right f_law f_Ci f_Ck f_Cl f_Bi f_Li cCode cCopyError cInvalidCode cLimitExceeded aSIZES aNAMED aJUMPS aPAIRS : Addr} {t_MOST_STATEMENTS t_MOST_LEVELS t_MOST_BLOCKS t_LONGEST_NAME : Tok} {nm_Bi q_Bi : Str} {N_Bi : Addr} {bs_Bi bm_Bi : List Value} {sn_Bi : List Str} {sub_Bi : List Value} {ab_Bi : Bool} {col_Bi : Option Bool} {dd_Bi : Option Addr} {k0_Bi k1_Bi k2_Bi k3_Bi k5_Bi : Option Value} {nm_Li q_Li : Str} {N_Li : Addr} {bs_Li bm_Li : List Value} {sn_Li : List Str} {sub_Li : List Value} {ab_Li : Bool} {col_Li : Option Bool} {dd_Li : Option Addr} {k0_Li k1_Li k2_Li k3_Li k5_Li : Option Value}
    (a_is_integer : PySem.W.nsIn K mainGlobals "is_integer" = some (some (.ref f_is_integer)))
    (a_is_name : PySem.W.nsIn K mainGlobals "is_name" = some (some (.ref f_is_name)))
    (a_has_kind : PySem.W.nsIn K mainGlobals "has_kind" = some (some (.ref f_has_kind)))
    (a_is_statement : PySem.W.nsIn K mainGlobals "is_statement" = some (some (.ref f_is_statement)))
    (a_judge : PySem.W.nsIn K mainGlobals "judge" = some (some (.ref f_judge)))
    (a_head_of : PySem.W.nsIn K mainGlobals "head_of" = some (some (.ref f_head_of)))
    (a_parts_of : PySem.W.nsIn K mainGlobals "parts_of" = some (some (.ref f_parts_of)))
    (a_spots_inside : PySem.W.nsIn K mainGlobals "spots_inside" = some (some (.ref f_spots_inside)))
    (a_cell_at : PySem.W.nsIn K mainGlobals "_law_cell_at" = some (some (.ref f_cell_at)))
    (a_source_of : PySem.W.nsIn K mainGlobals "_law_source_of" = some (some (.ref f_source_of)))
    (a_draw : PySem.W.nsIn K mainGlobals "_law_draw" = some (some (.ref f_draw)))
    (a_one : PySem.W.nsIn K mainGlobals "_law_one" = some (some (.ref f_one)))
    (a_said : PySem.W.nsIn K mainGlobals "_law_said" = some (some (.ref f_said)))
    (a_wrapped : PySem.W.nsIn K mainGlobals "_law_wrapped" = some (some (.ref f_wrapped)))
    (a_blocks : PySem.W.nsIn K mainGlobals "_law_blocks" = some (some (.ref f_blocks)))
    (a_many_right : PySem.W.nsIn K mainGlobals "_law_many_right" = some (some (.ref f_many_right)))
    (a_deep_right : PySem.W.nsIn K mainGlobals "_law_deep_right" = some (some (.ref f_deep_right)))
    (a_blocks_right : PySem.W.nsIn K mainGlobals "_law_blocks_right" = some (some (.ref f_blocks_right)))
    (a_law : PySem.W.nsIn K mainGlobals "law" = some (some (.ref f_law)))
    (x_Code : PySem.W.nsIn K mainGlobals "Code" = some (some (.ref cCode)))
    (x_CopyError : PySem.W.nsIn K mainGlobals "CopyError" = some (some (.ref cCopyError)))
    (x_InvalidCode : PySem.W.nsIn K mainGlobals "InvalidCode" = some (some (.ref cInvalidCode)))
    (x_LimitExceeded : PySem.W.nsIn K mainGlobals "LimitExceeded" = some (some (.ref cLimitExceeded)))
    (x_SIZES : PySem.W.nsIn K mainGlobals "SIZES" = some (some (.ref aSIZES)))
    (x_NAMED : PySem.W.nsIn K mainGlobals "NAMED" = some (some (.ref aNAMED)))
    (x_JUMPS : PySem.W.nsIn K mainGlobals "JUMPS" = some (some (.ref aJUMPS)))
    (x_PAIRS : PySem.W.nsIn K mainGlobals "PAIRS" = some (some (.ref aPAIRS)))
    (x_MOST_STATEMENTS : PySem.W.nsIn K mainGlobals "MOST_STATEMENTS" = some (some (.int 400 t_MOST_STATEMENTS)))
    (x_MOST_LEVELS : PySem.W.nsIn K mainGlobals "MOST_LEVELS" = some (some (.int 100 t_MOST_LEVELS)))
    (x_MOST_BLOCKS : PySem.W.nsIn K mainGlobals "MOST_BLOCKS" = some (some (.int 25 t_MOST_BLOCKS)))
    (x_LONGEST_NAME : PySem.W.nsIn K mainGlobals "LONGEST_NAME" = some (some (.int 8 t_LONGEST_NAME)))
    (z_len : PySem.W.nsIn K mainGlobals "len" = some none)
    (z_int : PySem.W.nsIn K mainGlobals "int" = some none)
    (z_bool : PySem.W.nsIn K mainGlobals "bool" = some none)
    (z_str : PySem.W.nsIn K mainGlobals "str" = some none)
    (z_tuple : PySem.W.nsIn K mainGlobals "tuple" = some none)
    (z_list : PySem.W.nsIn K mainGlobals "list" = some none)
    (z_all : PySem.W.nsIn K mainGlobals "all" = some none)
    (z_range : PySem.W.nsIn K mainGlobals "range" = some none)
    (z_reversed : PySem.W.nsIn K mainGlobals "reversed" = some none)
    (z_isinstance : PySem.W.nsIn K mainGlobals "isinstance" = some none)
    (m_Ci : PySem.W.findIn K (.ref cCode) "__init__" = some (some (.ref f_Ci)))
    (m_Ck : PySem.W.findIn K (.ref cCode) "_keep" = some (some (.ref f_Ck)))
    (m_Cl : PySem.W.findIn K (.ref cCode) "__len__" = some (some (.ref f_Cl)))
    (m_Bi : PySem.W.findIn K (.ref cInvalidCode) "__init__" = some (some (.ref f_Bi)))
    (m_Li : PySem.W.findIn K (.ref cLimitExceeded) "__init__" = some (some (.ref f_Li)))
    (u_Ck : PySem.W.isFn K (.ref f_Ck) = true)
    (u_Cl : PySem.W.isFn K (.ref f_Cl) = true)
    (u_Ci : PySem.W.isFn K (.ref f_Ci) = true)
    (v_Ck : PySem.W.keepIn K (.ref f_Ck) = true)
    (y_pg : PySem.W.plainGet K cCode Str.empty = true)
    (y_hd : PySem.W.hasDictIn K cCode = true)
    (y_po : PySem.W.plainOver K cCode = true)
    (y_sa : PySem.W.findIn K (.ref cCode) "__setattr__" = some (some (.builtin "object.__setattr__")))
    (y_mk : PySem.W.makesIn K cCode = true)
    (y_kc : PySem.W.keepIn K (.ref cCode) = true)
    (n_statements : PySem.W.findIn K (.ref cCode) "_statements" = some none)
    (n_heads : PySem.W.findIn K (.ref cCode) "_heads" = some none)
    (n_parents : PySem.W.findIn K (.ref cCode) "_parents" = some none)
    (n_parts : PySem.W.findIn K (.ref cCode) "_parts" = some none)
    (n_layers : PySem.W.findIn K (.ref cCode) "_layers" = some none)
    (e0_Bi : K.lookup cInvalidCode = some (excClassObj nm_Bi q_Bi cInvalidCode N_Bi bs_Bi bm_Bi true sn_Bi sub_Bi ab_Bi col_Bi dd_Bi k0_Bi k1_Bi k2_Bi k3_Bi k5_Bi "ArithmeticError.__new__"))
    (e1_Bi : arOver bm_Bi = true)
    (e2_Bi : PySem.W.findIn K (.ref cInvalidCode) "__setattr__" = some (some (.builtin "object.__setattr__")))
    (e3_Bi : PySem.W.findIn K (.ref cInvalidCode) "__getattribute__" = some (some (.builtin "BaseException.__getattribute__")))
    (e4_Bi : PySem.W.findIn K (.ref cInvalidCode) "__getattr__" = some none)
    (e5_Bi : PySem.W.hasDictIn K cInvalidCode = true)
    (e6_Bi : PySem.W.findIn K (.ref cInvalidCode) "number" = some none)
    (e7_Bi : PySem.W.subIn K (.ref cInvalidCode) (.type "BaseException") = some true)
    (e8_Bi : PySem.W.typeIn K (.ref cInvalidCode) = some (.type "type"))
    (e9_Bi : PySem.W.keepIn K (.ref cInvalidCode) = true)
    (e10_Bi : PySem.W.typeIn K (.ref f_Bi) = some (.type "function"))
    (e0_Li : K.lookup cLimitExceeded = some (excClassObj nm_Li q_Li cLimitExceeded N_Li bs_Li bm_Li true sn_Li sub_Li ab_Li col_Li dd_Li k0_Li k1_Li k2_Li k3_Li k5_Li "ArithmeticError.__new__"))
    (e1_Li : arOver bm_Li = true)
    (e2_Li : PySem.W.findIn K (.ref cLimitExceeded) "__setattr__" = some (some (.builtin "object.__setattr__")))
    (e3_Li : PySem.W.findIn K (.ref cLimitExceeded) "__getattribute__" = some (some (.builtin "BaseException.__getattribute__")))
    (e4_Li : PySem.W.findIn K (.ref cLimitExceeded) "__getattr__" = some none)
    (e5_Li : PySem.W.hasDictIn K cLimitExceeded = true)
    (e6_Li : PySem.W.findIn K (.ref cLimitExceeded) "limit" = some none)
    (e7_Li : PySem.W.subIn K (.ref cLimitExceeded) (.type "BaseException") = some true)
    (e8_Li : PySem.W.typeIn K (.ref cLimitExceeded) = some (.type "type"))
    (e9_Li : PySem.W.keepIn K (.ref cLimitExceeded) = true)
    (e10_Li : PySem.W.typeIn K (.ref f_Li) = some (.type "function"))
    (s_bb : PySem.W.subIn K (.ref cInvalidCode) (.ref cInvalidCode) = some true)
    (s_lb : PySem.W.subIn K (.ref cLimitExceeded) (.ref cInvalidCode) = some false)
    (s_ll : PySem.W.subIn K (.ref cLimitExceeded) (.ref cLimitExceeded) = some true)
    (w_SIZES : He.dicW K aSIZES = some (He.keysIn w.params (sizes.map (·.1))))
    (p_SIZES : prW K aSIZES = some (sizes.map some))
    (w_NAMED : tupW K aNAMED = some ((["do", "call", "if", "while"] : List Str).map some))
    (w_JUMPS : tupW K aJUMPS = some ((["break", "continue"] : List Str).map some))
    (w_PAIRS : tupW K aPAIRS = some ((["try", "final"] : List Str).map some))
    (d_is_integer : DefF K "is_integer" "is_integer" s_is_integer f_is_integer)
    (d_is_name : DefF K "is_name" "is_name" s_is_name f_is_name)
    (d_has_kind : DefF K "has_kind" "has_kind" s_has_kind f_has_kind)
    (d_is_statement : DefF K "is_statement" "is_statement" s_is_statement f_is_statement)
    (d_judge : DefF K "judge" "judge" s_judge f_judge)
    (d_head_of : DefF K "head_of" "head_of" s_head_of f_head_of)
    (d_parts_of : DefF K "parts_of" "parts_of" s_parts_of f_parts_of)
    (d_spots_inside : DefF K "spots_inside" "spots_inside" s_spots_inside f_spots_inside)
    (d_cell_at : DefF K "_law_cell_at" "_law_cell_at" s_cell_at f_cell_at)
    (d_source_of : DefF K "_law_source_of" "_law_source_of" s_source_of f_source_of)
    (d_draw : DefF K "_law_draw" "_law_draw" s_draw f_draw)
    (d_one : DefF K "_law_one" "_law_one" s_one f_one)
    (d_said : DefF K "_law_said" "_law_said" s_said f_said)
    (d_wrapped : DefF K "_law_wrapped" "_law_wrapped" s_wrapped f_wrapped)
    (d_blocks : DefF K "_law_blocks" "_law_blocks" s_blocks f_blocks)
    (d_many_right : DefF K "_law_many_right" "_law_many_right" s_many_right f_many_right)
    (d_deep_right : DefF K "_law_deep_right" "_law_deep_right" s_deep_right f_deep_right)
    (d_blocks_right : DefF K "_law_blocks_right" "_law_blocks_right" s_blocks_right f_blocks_right)
    (d_law : DefF K "law" "law" s_law f_law)
    (d_Ci : DefF K "__init__" "Code.__init__" s_init f_Ci)
    (d_Ck : DefF K "_keep" "Code._keep" s_keep f_Ck)
    (d_Cl : DefF K "__len__" "Code.__len__" s_len f_Cl)
    (d_Bi : DefF K "__init__" "InvalidCode.__init__" s_bad f_Bi)
    (d_Li : DefF K "__init__" "LimitExceeded.__init__" s_lim f_Li) :
    ∃ fd : FuncData, (∀ (s : Shared) (v : Value), BindsTo s fd ⟨[v], []⟩ [("_law_script", v)]) ∧ ∀ base : Heap, K.In base → base.Ns mainGlobals mg → FnOk l.prog w K mg base CX0 8 fa fd ["_law_script"] (spLaw K) := by
  have e := hfa.symm.trans (PySem.W.mg_of X G a_law)
  cases e
  obtain ⟨fd_is_integer, F_is_integer⟩ := d_is_integer.ex
  have b_is_integer := F_is_integer.binds (ps := ["value"]) fun _ _ _ _ _ _ us hl => match us, hl with | [_], _ => rfl
  obtain ⟨fd_is_name, F_is_name⟩ := d_is_name.ex
  have b_is_name := F_is_name.binds (ps := ["value"]) fun _ _ _ _ _ _ us hl => match us, hl with | [_], _ => rfl
  obtain ⟨fd_has_kind, F_has_kind⟩ := d_has_kind.ex
  have b_has_kind := F_has_kind.binds (ps := ["value"]) fun _ _ _ _ _ _ us hl => match us, hl with | [_], _ => rfl
  obtain ⟨fd_is_statement, F_is_statement⟩ := d_is_statement.ex
  have b_is_statement := F_is_statement.binds (ps := ["value", "whiles"]) fun _ _ _ _ _ _ us hl => match us, hl with | [_, _], _ => rfl
  obtain ⟨fd_judge, F_judge⟩ := d_judge.ex
  have b_judge := F_judge.binds (ps := ["spot", "number"]) fun _ _ _ _ _ _ us hl => match us, hl with | [_, _], _ => rfl
  obtain ⟨fd_head_of, F_head_of⟩ := d_head_of.ex
  have b_head_of := F_head_of.binds (ps := ["statement"]) fun _ _ _ _ _ _ us hl => match us, hl with | [_], _ => rfl
  obtain ⟨fd_parts_of, F_parts_of⟩ := d_parts_of.ex
  have b_parts_of := F_parts_of.binds (ps := ["statement"]) fun _ _ _ _ _ _ us hl => match us, hl with | [_], _ => rfl
  obtain ⟨fd_spots_inside, F_spots_inside⟩ := d_spots_inside.ex
  have b_spots_inside := F_spots_inside.binds (ps := ["spot", "number"]) fun _ _ _ _ _ _ us hl => match us, hl with | [_, _], _ => rfl
  obtain ⟨fd_cell_at, F_cell_at⟩ := d_cell_at.ex
  have b_cell_at := F_cell_at.binds (ps := ["_law_script", "_law_k"]) fun _ _ _ _ _ _ us hl => match us, hl with | [_, _], _ => rfl
  obtain ⟨fd_source_of, F_source_of⟩ := d_source_of.ex
  have b_source_of := F_source_of.binds (ps := ["_law_cell"]) fun _ _ _ _ _ _ us hl => match us, hl with | [_], _ => rfl
  obtain ⟨fd_draw, F_draw⟩ := d_draw.ex
  have b_draw := F_draw.binds (ps := ["_law_source", "_law_many"]) fun _ _ _ _ _ _ us hl => match us, hl with | [_, _], _ => rfl
  obtain ⟨fd_one, F_one⟩ := d_one.ex
  have b_one := F_one.binds (ps := ["_law_source", "_law_some"]) fun _ _ _ _ _ _ us hl => match us, hl with | [_, _], _ => rfl
  obtain ⟨fd_said, F_said⟩ := d_said.ex
  have b_said := F_said.binds (ps := ["_law_statement"]) fun _ _ _ _ _ _ us hl => match us, hl with | [_], _ => rfl
  obtain ⟨fd_wrapped, F_wrapped⟩ := d_wrapped.ex
  have b_wrapped := F_wrapped.binds (ps := ["_law_source", "_law_inner", "_law_amount"]) fun _ _ _ _ _ _ us hl => match us, hl with | [_, _, _], _ => rfl
  obtain ⟨fd_blocks, F_blocks⟩ := d_blocks.ex
  have b_blocks := F_blocks.binds (ps := ["_law_inner", "_law_amount"]) fun _ _ _ _ _ _ us hl => match us, hl with | [_, _], _ => rfl
  obtain ⟨fd_many_right, F_many_right⟩ := d_many_right.ex
  have b_many_right := F_many_right.binds (ps := ["_law_source"]) fun _ _ _ _ _ _ us hl => match us, hl with | [_], _ => rfl
  obtain ⟨fd_deep_right, F_deep_right⟩ := d_deep_right.ex
  have b_deep_right := F_deep_right.binds (ps := ["_law_source"]) fun _ _ _ _ _ _ us hl => match us, hl with | [_], _ => rfl
  obtain ⟨fd_blocks_right, F_blocks_right⟩ := d_blocks_right.ex
  have b_blocks_right := F_blocks_right.binds (ps := ["_law_source"]) fun _ _ _ _ _ _ us hl => match us, hl with | [_], _ => rfl
  obtain ⟨fd_law, F_law⟩ := d_law.ex
  obtain ⟨fd_Ci, F_Ci⟩ := d_Ci.ex
  have b_Ci := F_Ci.binds (ps := ["self", "statement"]) fun _ _ _ _ _ _ us hl => match us, hl with | [_, _], _ => rfl
  obtain ⟨fd_Ck, F_Ck⟩ := d_Ck.ex
  have b_Ck := F_Ck.binds (ps := ["self", "spot", "number"]) fun _ _ _ _ _ _ us hl => match us, hl with | [_, _, _], _ => rfl
  obtain ⟨fd_Cl, F_Cl⟩ := d_Cl.ex
  have b_Cl := F_Cl.binds (ps := ["self"]) fun _ _ _ _ _ _ us hl => match us, hl with | [_], _ => rfl
  obtain ⟨fd_Bi, F_Bi⟩ := d_Bi.ex
  have b_Bi := F_Bi.binds (ps := ["self", "number"]) fun _ _ _ _ _ _ us hl => match us, hl with | [_, _], _ => rfl
  obtain ⟨fd_Li, F_Li⟩ := d_Li.ex
  have b_Li := F_Li.binds (ps := ["self", "limit"]) fun _ _ _ _ _ _ us hl => match us, hl with | [_, _], _ => rfl
  have aB := arc_of e0_Bi e1_Bi e2_Bi e3_Bi e4_Bi e5_Bi e6_Bi e7_Bi e8_Bi e9_Bi m_Bi e10_Bi
  have aL := arc_of e0_Li e1_Li e2_Li e3_Li e4_Li e5_Li e6_Li e7_Li e8_Li e9_Li m_Li e10_Li
  have T : Txt K mg w ⟨aNAMED, aJUMPS, aPAIRS, aSIZES, cCode, cCopyError, cInvalidCode, cLimitExceeded, f_Bi, f_Li⟩ :=
    { n_len := PySem.W.mg_none_of X G z_len, n_int := PySem.W.mg_none_of X G z_int, n_bool := PySem.W.mg_none_of X G z_bool, n_str := PySem.W.mg_none_of X G z_str, n_tuple := PySem.W.mg_none_of X G z_tuple, n_list := PySem.W.mg_none_of X G z_list, n_all := PySem.W.mg_none_of X G z_all, n_range := PySem.W.mg_none_of X G z_range, n_reversed := PySem.W.mg_none_of X G z_reversed, n_isinstance := PySem.W.mg_none_of X G z_isinstance,
      g_MOST_STATEMENTS := ⟨_, PySem.W.mg_of X G x_MOST_STATEMENTS, _, rfl⟩, g_MOST_LEVELS := ⟨_, PySem.W.mg_of X G x_MOST_LEVELS, _, rfl⟩, g_MOST_BLOCKS := ⟨_, PySem.W.mg_of X G x_MOST_BLOCKS, _, rfl⟩, g_LONGEST_NAME := ⟨_, PySem.W.mg_of X G x_LONGEST_NAME, _, rfl⟩,
      g_SIZES := ⟨_, PySem.W.mg_of X G x_SIZES, rfl⟩, g_NAMED := ⟨_, PySem.W.mg_of X G x_NAMED, rfl⟩, g_JUMPS := ⟨_, PySem.W.mg_of X G x_JUMPS, rfl⟩, g_PAIRS := ⟨_, PySem.W.mg_of X G x_PAIRS, rfl⟩,
      g_InvalidCode := PySem.W.mg_of X G x_InvalidCode, g_LimitExceeded := PySem.W.mg_of X G x_LimitExceeded, g_CopyError := PySem.W.mg_of X G x_CopyError, arB := aB, arL := aL,
      x_bb := PySem.W.exm_ref e7_Bi e5_Bi e8_Bi s_bb, x_lb := PySem.W.exm_ref e7_Bi e5_Bi e8_Bi s_lb, x_ll := PySem.W.exm_ref e7_Li e5_Li e8_Li s_ll,
      cl := ⟨y_pg, y_hd, y_po, y_sa⟩, a_st := n_statements, a_hd := n_heads, a_pa := n_parents, a_pt := n_parts, a_la := n_layers, kd := He.dicW_ok w_SIZES, szs := szs_of p_SIZES, tN := tup_of w_NAMED, tJ := tup_of w_JUMPS, tP := tup_of w_PAIRS }
  refine ⟨fd_law, fun s v => ?_, fun base _ _ => ?_⟩
  · obtain ⟨oc, od, kV, doc, pm, an, cdv, ct, osl, rfl, _⟩ := F_law.ex
    exact .of_eq rfl
  have c_is_integer : Cal l.prog w K mg base 1 "is_integer" (spIsInt K) [] := ⟨_, _, _, _, ok_is_integer F_is_integer T, PySem.W.mg_of X G a_is_integer, F_is_integer.kp, b_is_integer, .nil⟩
  have c_is_name : Cal l.prog w K mg base 1 "is_name" (spIsName K) [] := ⟨_, _, _, _, ok_is_name F_is_name T, PySem.W.mg_of X G a_is_name, F_is_name.kp, b_is_name, .nil⟩
  have c_has_kind : Cal l.prog w K mg base 1 "has_kind" (spHasKind K) [] := ⟨_, _, _, _, ok_has_kind F_has_kind T, PySem.W.mg_of X G a_has_kind, F_has_kind.kp, b_has_kind, .nil⟩
  have c_is_statement : Cal l.prog w K mg base 2 "is_statement" (spIsStmt K) [] := ⟨_, _, _, _, ok_is_statement F_is_statement T c_has_kind c_is_name c_is_integer, PySem.W.mg_of X G a_is_statement, F_is_statement.kp, b_is_statement, .nil⟩
  have cB : ExcOk l.prog w K mg base 1 "InvalidCode" cInvalidCode "number" := ⟨_, _, _, aB, ok_bad F_Bi T, b_Bi, T.g_InvalidCode⟩
  have cL : ExcOk l.prog w K mg base 1 "LimitExceeded" cLimitExceeded "limit" := ⟨_, _, _, aL, ok_lim F_Li T, b_Li, T.g_LimitExceeded⟩
  have c_judge : CalX l.prog w K mg base 3 "judge" (spJudge K _) := ⟨_, _, _, ok_judge F_judge T c_is_statement cL cB, PySem.W.mg_of X G a_judge, F_judge.kp, b_judge⟩
  have c_parts_of : Cal l.prog w K mg base 1 "parts_of" (spParts K) [] := ⟨_, _, _, _, ok_parts_of F_parts_of T, PySem.W.mg_of X G a_parts_of, F_parts_of.kp, b_parts_of, .nil⟩
  have c_head_of : Cal l.prog w K mg base 1 "head_of" (spHead K) [] := ⟨_, _, _, _, ok_head_of F_head_of T, PySem.W.mg_of X G a_head_of, F_head_of.kp, b_head_of, .nil⟩
  have c_spots_inside : Cal l.prog w K mg base 2 "spots_inside" (spInside K) [] := ⟨_, _, _, _, ok_spots_inside F_spots_inside T c_parts_of, PySem.W.mg_of X G a_spots_inside, F_spots_inside.kp, b_spots_inside, .nil⟩
  have c_keep : Met l.prog w K mg base 2 cCode "_keep" (spKeep K _) [] := ⟨_, _, _, _, T.cl, ⟨m_Ck, u_Ck, v_Ck⟩, ok_keep F_Ck T c_head_of, b_Ck, .nil⟩
  have c_Code : MakX l.prog w K mg base 4 "Code" cCode (spInit K _) := ⟨_, _, _, ⟨y_mk, m_Ci, u_Ci, y_kc⟩, ok_init F_Ci T c_judge c_keep c_spots_inside, PySem.W.mg_of X G x_Code, b_Ci⟩
  have c_said : Cal l.prog w K mg base 6 "_law_said" (spSaid K) [] := ⟨_, _, _, _, ok_said F_said T c_Code m_Cl u_Cl (ok_len F_Cl T) b_Cl, PySem.W.mg_of X G a_said, F_said.kp, b_said, .nil⟩
  have c_draw : Cal l.prog w K mg base 1 "_law_draw" spDraw [] := ⟨_, _, _, _, ok_draw F_draw T, PySem.W.mg_of X G a_draw, F_draw.kp, b_draw, .nil⟩
  have c_one : Cal l.prog w K mg base 2 "_law_one" (spOne K) [] := ⟨_, _, _, _, ok_one F_one T c_draw, PySem.W.mg_of X G a_one, F_one.kp, b_one, .nil⟩
  have c_wrapped : Cal l.prog w K mg base 3 "_law_wrapped" (spWrapped K) [] := ⟨_, _, _, _, ok_wrapped F_wrapped T c_one, PySem.W.mg_of X G a_wrapped, F_wrapped.kp, b_wrapped, .nil⟩
  have c_blocks : Cal l.prog w K mg base 1 "_law_blocks" (spBlocks K) [] := ⟨_, _, _, _, ok_blocks F_blocks T, PySem.W.mg_of X G a_blocks, F_blocks.kp, b_blocks, .nil⟩
  have c_many_right : Cal l.prog w K mg base 7 "_law_many_right" spRight [] := ⟨_, _, _, _, ok_many_right F_many_right T c_draw c_said c_wrapped, PySem.W.mg_of X G a_many_right, F_many_right.kp, b_many_right, .nil⟩
  have c_deep_right : Cal l.prog w K mg base 7 "_law_deep_right" spRight [] := ⟨_, _, _, _, ok_deep_right F_deep_right T c_said c_wrapped, PySem.W.mg_of X G a_deep_right, F_deep_right.kp, b_deep_right, .nil⟩
  have c_blocks_right : Cal l.prog w K mg base 7 "_law_blocks_right" spRight [] := ⟨_, _, _, _, ok_blocks_right F_blocks_right T c_draw c_said c_wrapped c_blocks, PySem.W.mg_of X G a_blocks_right, F_blocks_right.kp, b_blocks_right, .nil⟩
  have c_cell_at : Cal l.prog w K mg base 1 "_law_cell_at" (spCellAt K) [] := ⟨_, _, _, _, ok_cell_at F_cell_at T, PySem.W.mg_of X G a_cell_at, F_cell_at.kp, b_cell_at, .nil⟩
  have c_source_of : Cal l.prog w K mg base 1 "_law_source_of" spSourceOf [] := ⟨_, _, _, _, ok_source_of F_source_of T, PySem.W.mg_of X G a_source_of, F_source_of.kp, b_source_of, .nil⟩
  exact ok_law F_law T c_cell_at c_source_of c_many_right c_deep_right c_blocks_right
theorem walk {l : PySem.W.OpenLaw} {q : Program} {loose : List Str} {XP : (Str → Option Value) → Heap → Prop} {YP : World → Heap → Prop} {d : DefRec} {K : Params → PySem.W.Frag} (hn : l.most = some 63) (hdf : d.params.defaults = [])
    (hY : ∀ (w : World) (h : Heap), YP w h → (K w.params).In h)
    (F : ∀ (w : World) (mg : Str → Option Value) (fa : Addr) (h : Heap), (K w.params).In h → h.Ns mainGlobals mg → mg d.name = some (.ref fa) →
      ∃ fd : FuncData, (∀ (s : Shared) (u : Value), BindsTo s fd ⟨[u], []⟩ [("_law_script", u)]) ∧ ∀ base : Heap, (K w.params).In base → base.Ns mainGlobals mg → FnOk l.prog w (K w.params) mg base CX0 8 fa fd ["_law_script"] (spLaw (K w.params))) :
    PySem.W.WalkO q loose XP YP l.row.toRowW d [] (fun f vs => PySem.call f vs) :=
  L2.walk_of (n := 63) (k := 8) (x := "_law_script") (CX := fun _ => CX0) (sp := fun w => spLaw (K w.params)) hn (by decide) hdf ⟨rfl, by decide, by decide⟩ hY F (fun _ _ a ns hl _ hS => ⟨a, ns, rfl, hS, fun _ => rfl⟩) fun _ _ _ _ _ z => z
end K4
end L2
set_option Elab.async false
set_option linter.all false
open PySem PySem.W PyProof.Rows in
set_option maxRecDepth 100000 in
set_option maxHeartbeats 0 in
theorem PySem.Challenge.cw_finallycopies_k04_limits_of_code_holds : PySem.Challenge.rw_finallycopies_k04_limits_of_code.Holds := by
  w_on; o_law; k_head; (case hw => w_witness2)
  k_fill
  refine L2.K4.walk (l := PySem.Challenge.rw_finallycopies_k04_limits_of_code) rfl rfl (fun w h Y => PySem.W.kIn_of Y) ?F
  case F =>
    intro w mg fa h KX G hmg
    refine' L2.K4.all_mk KX G hmg ?a_is_integer ?a_is_name ?a_has_kind ?a_is_statement ?a_judge ?a_head_of ?a_parts_of ?a_spots_inside ?a_cell_at ?a_source_of ?a_draw ?a_one ?a_said ?a_wrapped ?a_blocks ?a_many_right ?a_deep_right ?a_blocks_right ?a_law ?x_Code ?x_CopyError ?x_InvalidCode ?x_LimitExceeded ?x_SIZES ?x_NAMED ?x_JUMPS ?x_PAIRS ?x_MOST_STATEMENTS ?x_MOST_LEVELS ?x_MOST_BLOCKS ?x_LONGEST_NAME ?z_len ?z_int ?z_bool ?z_str ?z_tuple ?z_list ?z_all ?z_range ?z_reversed ?z_isinstance ?m_Ci ?m_Ck ?m_Cl ?m_Bi ?m_Li ?u_Ck ?u_Cl ?u_Ci ?v_Ck ?y_pg ?y_hd ?y_po ?y_sa ?y_mk ?y_kc ?n_statements ?n_heads ?n_parents ?n_parts ?n_layers ?e0_Bi ?e1_Bi ?e2_Bi ?e3_Bi ?e4_Bi ?e5_Bi ?e6_Bi ?e7_Bi ?e8_Bi ?e9_Bi ?e10_Bi ?e0_Li ?e1_Li ?e2_Li ?e3_Li ?e4_Li ?e5_Li ?e6_Li ?e7_Li ?e8_Li ?e9_Li ?e10_Li ?s_bb ?s_lb ?s_ll ?w_SIZES ?p_SIZES ?w_NAMED ?w_JUMPS ?w_PAIRS ?d_is_integer ?d_is_name ?d_has_kind ?d_is_statement ?d_judge ?d_head_of ?d_parts_of ?d_spots_inside ?d_cell_at ?d_source_of ?d_draw ?d_one ?d_said ?d_wrapped ?d_blocks ?d_many_right ?d_deep_right ?d_blocks_right ?d_law ?d_Ci ?d_Ck ?d_Cl ?d_Bi ?d_Li
    (case a_is_integer => k_is)
    (case a_is_name => k_is)
    (case a_has_kind => k_is)
    (case a_is_statement => k_is)
    (case a_judge => k_is)
    (case a_head_of => k_is)
    (case a_parts_of => k_is)
    (case a_spots_inside => k_is)
    (case a_cell_at => k_is)
    (case a_source_of => k_is)
    (case a_draw => k_is)
    (case a_one => k_is)
    (case a_said => k_is)
    (case a_wrapped => k_is)
    (case a_blocks => k_is)
    (case a_many_right => k_is)
    (case a_deep_right => k_is)
    (case a_blocks_right => k_is)
    (case a_law => k_is)
    (case x_Code => k_is)
    (case x_CopyError => k_is)
    (case x_InvalidCode => k_is)
    (case x_LimitExceeded => k_is)
    (case x_SIZES => k_is)
    (case x_NAMED => k_is)
    (case x_JUMPS => k_is)
    (case x_PAIRS => k_is)
    (case x_MOST_STATEMENTS => k_is)
    (case x_MOST_LEVELS => k_is)
    (case x_MOST_BLOCKS => k_is)
    (case x_LONGEST_NAME => k_is)
    (case z_len => k_is)
    (case z_int => k_is)
    (case z_bool => k_is)
    (case z_str => k_is)
    (case z_tuple => k_is)
    (case z_list => k_is)
    (case z_all => k_is)
    (case z_range => k_is)
    (case z_reversed => k_is)
    (case z_isinstance => k_is)
    (case m_Ci => k_is)
    (case m_Ck => k_is)
    (case m_Cl => k_is)
    (case m_Bi => k_is)
    (case m_Li => k_is)
    (case u_Ck => k_is)
    (case u_Cl => k_is)
    (case u_Ci => k_is)
    (case v_Ck => k_is)
    (case y_pg => k_is)
    (case y_hd => k_is)
    (case y_po => k_is)
    (case y_sa => k_is)
    (case y_mk => k_is)
    (case y_kc => k_is)
    (case n_statements => k_is)
    (case n_heads => k_is)
    (case n_parents => k_is)
    (case n_parts => k_is)
    (case n_layers => k_is)
    (case e0_Bi => k_is)
    (case e1_Bi => decide +kernel)
    (case e2_Bi => k_is)
    (case e3_Bi => k_is)
    (case e4_Bi => k_is)
    (case e5_Bi => k_is)
    (case e6_Bi => k_is)
    (case e7_Bi => k_is)
    (case e8_Bi => k_is)
    (case e9_Bi => k_is)
    (case e10_Bi => k_is)
    (case e0_Li => k_is)
    (case e1_Li => decide +kernel)
    (case e2_Li => k_is)
    (case e3_Li => k_is)
    (case e4_Li => k_is)
    (case e5_Li => k_is)
    (case e6_Li => k_is)
    (case e7_Li => k_is)
    (case e8_Li => k_is)
    (case e9_Li => k_is)
    (case e10_Li => k_is)
    (case s_bb => k_is)
    (case s_lb => k_is)
    (case s_ll => k_is)
    (case w_SIZES => kernel_rfl)
    (case p_SIZES => kernel_rfl)
    (case w_NAMED => kernel_rfl)
    (case w_JUMPS => kernel_rfl)
    (case w_PAIRS => kernel_rfl)
    (case d_is_integer => refine' L2.K4.DefF.of ?l ?c ?k; (case l => k_is); (case c => k_is); (case k => k_is))
    (case d_is_name => refine' L2.K4.DefF.of ?l ?c ?k; (case l => k_is); (case c => k_is); (case k => k_is))
    (case d_has_kind => refine' L2.K4.DefF.of ?l ?c ?k; (case l => k_is); (case c => k_is); (case k => k_is))
    (case d_is_statement => refine' L2.K4.DefF.of ?l ?c ?k; (case l => k_is); (case c => k_is); (case k => k_is))
    (case d_judge => refine' L2.K4.DefF.of ?l ?c ?k; (case l => k_is); (case c => k_is); (case k => k_is))
    (case d_head_of => refine' L2.K4.DefF.of ?l ?c ?k; (case l => k_is); (case c => k_is); (case k => k_is))
    (case d_parts_of => refine' L2.K4.DefF.of ?l ?c ?k; (case l => k_is); (case c => k_is); (case k => k_is))
    (case d_spots_inside => refine' L2.K4.DefF.of ?l ?c ?k; (case l => k_is); (case c => k_is); (case k => k_is))
    (case d_cell_at => refine' L2.K4.DefF.of ?l ?c ?k; (case l => k_is); (case c => k_is); (case k => k_is))
    (case d_source_of => refine' L2.K4.DefF.of ?l ?c ?k; (case l => k_is); (case c => k_is); (case k => k_is))
    (case d_draw => refine' L2.K4.DefF.of ?l ?c ?k; (case l => k_is); (case c => k_is); (case k => k_is))
    (case d_one => refine' L2.K4.DefF.of ?l ?c ?k; (case l => k_is); (case c => k_is); (case k => k_is))
    (case d_said => refine' L2.K4.DefF.of ?l ?c ?k; (case l => k_is); (case c => k_is); (case k => k_is))
    (case d_wrapped => refine' L2.K4.DefF.of ?l ?c ?k; (case l => k_is); (case c => k_is); (case k => k_is))
    (case d_blocks => refine' L2.K4.DefF.of ?l ?c ?k; (case l => k_is); (case c => k_is); (case k => k_is))
    (case d_many_right => refine' L2.K4.DefF.of ?l ?c ?k; (case l => k_is); (case c => k_is); (case k => k_is))
    (case d_deep_right => refine' L2.K4.DefF.of ?l ?c ?k; (case l => k_is); (case c => k_is); (case k => k_is))
    (case d_blocks_right => refine' L2.K4.DefF.of ?l ?c ?k; (case l => k_is); (case c => k_is); (case k => k_is))
    (case d_law => refine' L2.K4.DefF.of ?l ?c ?k; (case l => k_is); (case c => k_is); (case k => k_is))
    (case d_Ci => refine' L2.K4.DefF.of ?l ?c ?k; (case l => k_is); (case c => k_is); (case k => k_is))
    (case d_Ck => refine' L2.K4.DefF.of ?l ?c ?k; (case l => k_is); (case c => k_is); (case k => k_is))
    (case d_Cl => refine' L2.K4.DefF.of ?l ?c ?k; (case l => k_is); (case c => k_is); (case k => k_is))
    (case d_Bi => refine' L2.K4.DefF.of ?l ?c ?k; (case l => k_is); (case c => k_is); (case k => k_is))
    (case d_Li => refine' L2.K4.DefF.of ?l ?c ?k; (case l => k_is); (case c => k_is); (case k => k_is))
#print axioms PySem.Challenge.cw_finallycopies_k04_limits_of_code_holds
