import PyProof.Rows.All
import Wide.All
import OpenK.AllK
import Wide.FinOn
import HandS.ForMost
import HandS.Exc
import HandS.ExcOwn
import HandS.ExcInit
import HandS.IsInst
import KE.KExcIs
import KE.KIsAll
import HandS.ExcValue
import HandS.Evl
import HandS.Style
import HandS.Walk
import HandS.Wide
import PySem.Challenge.RW_coatrows_k19_errors_made
set_option Elab.async false
set_option linter.all false
set_option maxRecDepth 100000
set_option maxHeartbeats 4000000
/-! Exceptions of own classes as values: made, asked for their class, their fields read. -/
namespace Ox
open PySem PySem.Spec PyProof.Rows L2
/-- what the written part says of an own exception class whose instances are asked -/
structure ExK (K : PySem.W.Frag) (C : Addr) : Prop where
  cl : (PySem.W.clsIn K C).isSome = true
  ga : PySem.W.findIn K (.ref C) "__getattribute__" = some (some (.builtin "BaseException.__getattribute__"))
  gg : PySem.W.findIn K (.ref C) "__getattr__" = some none
  exC : PySem.W.subIn K (.ref C) (.type "BaseException") = some true
  hdC : PySem.W.hasDictIn K C = true
  ca : PySem.W.findIn K (.ref C) "__class__" = some (some (.builtin "object.__class__"))
  sn : PySem.W.specialIn K (.builtin "object.__class__") "__get__" = some (some (.builtin "getset_descriptor.__get__"))
  tk : PySem.W.takesIn K (.builtin "object.__class__") = some true
  mo : PySem.W.mroIn K C (.type "object") = some true
section
variable {X : Cx}
/-- at e an exception of the class C whose dict is d, at d its fields -/
def Xat (H : Hp) (e C d : Addr) (fs : List (Str × V)) : Prop := H e = some (exo e C (some d)) ∧ H d = some (exd d fs)
theorem inst_some {P : Program} {w : World} {H : Hp} {h : Heap} {e C d : Addr} {fs : List (Str × V)} (ok : HOk P w H h) (x : Xat H e C d fs) :
    ∃ (ox od : Obj) (mA : Str → Option Value), PySem.W.InstAt h e ox C (some od) ∧ (∀ name : Str, PySem.W.lookIn name od = some (mA name)) ∧ ∀ f, RelO (fs.lookup f) (mA f) := by
  obtain ⟨t0, hoe⟩ := exo_at ok x.1
  obtain ⟨mA, hns, rel⟩ := exd_at ok x.2
  obtain ⟨od, ho, hl⟩ := lookIn_ns hns
  exact ⟨_, od, mA, ⟨hoe, rfl, rfl, ho⟩, hl, rel⟩
theorem inst_none {P : Program} {w : World} {H : Hp} {h : Heap} {e C : Addr} (ok : HOk P w H h) (x : H e = some (exo e C none)) : ∃ ox, PySem.W.InstAt h e ox C none := by
  obtain ⟨t0, hoe⟩ := exo_at ok x
  exact ⟨_, ⟨hoe, rfl, rfl, trivial⟩⟩
/-- e.f -/
def tXfv (K : PySem.W.Frag) (f : Str) (te : TE) : TE := fun σ H Q => te σ H fun x H1 => ∃ (a C d : Addr) (fs : List (Str × V)) (v : V), x = .ref a ∧ Xat H1 a C d fs ∧ ExK K C ∧ PySem.W.findIn K (.ref C) f = some none ∧ fs.lookup f = some v ∧ Q v H1
theorem pe_xfv {e : Expr} {te : TE} {n : Str} {pos : Pos} (he : PE X e te) (hb : attributeBase e n X.env (eval e X.env) = eval e X.env := by rfl) : PE X (.Attribute e n pos) (tXfv X.K n te) := by
  refine ⟨fun pins s σ H Q I h => ?_⟩
  refine attr_of hb (thn (he.run pins s σ H _ I h) fun u s1 hh => ?_)
  obtain ⟨x, H1, I1, rx, a, C, d, fs, v, ex, xa, T, hno, l, q⟩ := hh
  subst ex
  obtain rfl : u = Value.ref a := rx
  obtain ⟨ox, od, mA, J, hl, rel⟩ := inst_some I1.hok xa
  obtain ⟨u, hu, ru⟩ := RelO.some_of (v := v) (o := mA n) (by rw [← l]; exact rel n)
  exact HandSPX.exc_get I1.kIn J T.ga T.gg T.exC (PySem.W.findObj_own T.hdC hno rfl (by rw [hl, hu])) (handed_of ru) ⟨v, H1, I1.tok _, ru, q⟩
/-- isinstance(e, c), e such an exception -/
def IsX (H : Hp) (a C : Addr) : Prop := H a = some (exo a C none) ∨ ∃ d fs, Xat H a C d fs
theorem kit_x {pins : List (Addr × Obj)} {σ : L2.St} {H : Hp} {s : Shared} {a C : Addr} (I : Inv X pins σ H s) (x : IsX H a C) (T : ExK X.K C) : ∃ P : Heap → Prop, PySem.W.KitX X.K (.ref a) (.ref C) P ∧ P s.heap := by
  rcases x with x | ⟨d, fs, x⟩
  · obtain ⟨ox, J⟩ := inst_none I.hok x
    exact ⟨_, PySem.W.kitx_exc T.cl T.ga T.gg T.exC T.ca T.sn T.tk T.mo, J⟩
  · obtain ⟨ox, od, mA, J, _⟩ := inst_some I.hok x
    exact ⟨_, PySem.W.kitx_exc T.cl T.ga T.gg T.exC T.ca T.sn T.tk T.mo, J⟩
def rIsX (K : PySem.W.Frag) : List V → Hp → VK → Prop := fun xs H Q => ∃ (a C : Addr) (c : V) (u : Value) (b : Bool), xs = [.ref a, c] ∧ IsX H a C ∧ ExK K C ∧ ClsV c u ∧ PySem.W.kitOne K (.ref C) u = some b ∧ Q (.bl b) H
theorem call_isX : CallR X (.builtin "isinstance") (rIsX X.K) := by
  intro pins s σ H xs us Q I r h
  obtain ⟨a, C, c, u, b, rfl, x, T, k, e, q⟩ := h
  obtain ⟨u1, u2, rfl, r1, r2⟩ := vals2 r
  have e2 := k.eq r2
  subst e2
  cases (show u1 = Value.ref a from r1)
  obtain ⟨P, Z, p⟩ := kit_x I x T
  exact PySem.W.kia_one Z I.kIn p e (fun z => nomatch z) fun tk => ⟨.bl b, H, I.tok tk, rfl, q⟩
/-- isinstance(e, (c1, c2, ..)) -/
def rIsXT (K : PySem.W.Frag) : List V → Hp → VK → Prop := fun xs H Q => ∃ (a C tp : Addr) (cs : List V) (us : List Value) (b : Bool), xs = [.ref a, .ref tp] ∧ IsX H a C ∧ ExK K C ∧ H tp = some (.tup cs) ∧ Paired ClsV cs us ∧ PySem.W.kitAny K (.ref C) us = some b ∧ Q (.bl b) H
theorem call_isXT : CallR X (.builtin "isinstance") (rIsXT X.K) := by
  intro pins s σ H xs us Q I r h
  obtain ⟨a, C, tp, cs, ws, b, rfl, x, T, hT, k, e, q⟩ := h
  obtain ⟨u1, u2, rfl, r1, r2⟩ := vals2 r
  cases (show u2 = Value.ref tp from r2)
  cases (show u1 = Value.ref a from r1)
  obtain ⟨P, Z, p⟩ := kit_x I x T
  obtain ⟨_, its, rv, o, h1, h2, n, h3⟩ := (show ObjOk X.prog X.w H s.heap tp (.tup cs) from I.hok tp _ hT)
  have e3 := ClsV.all k rv
  subst e3
  obtain ⟨oc, od, dt, sl⟩ := o
  simp only at h2 h3
  subst h2 h3
  exact PySem.W.kia_tup Z I.kIn p h1 e (fun z => nomatch z) fun tk => ⟨.bl b, H, I.tok tk, rfl, q⟩
/-- C(e, ..), C's own __init__ keeping sp: a new exception as a value -/
def tMkV (C : Addr) (sp : Sp) (dvs : List V) (ta : TA) : TE := fun σ H Q => ta σ H fun vs H1 => vs.length ≤ 1000 ∧ ∀ a, H1 a = none → sp (.ref a :: (vs ++ dvs)) (upd H1 a (exo a C none)) (fun v H2 => v = .non ∧ Q (.ref a) H2) (fun _ _ _ => False)
theorem pe_mkv {x : Str} {C fI : Addr} {e : Expr} {es : List Expr} {ta : TA} {p pos : Pos} {k : Nat} {fd : FuncData} {ps : List Str} {sp : Sp} {ds : List Value} {dvs : List V} {CX : CXT} (T : OexC X.K C) (iC : PySem.W.findIn X.K (.ref C) "__init__" = some (some (.ref fI))) (tI : PySem.W.typeIn X.K (.ref fI) = some (.type "function"))
    (F1 : FnOk X.prog X.w X.K X.mg X.base CX k fI fd ps sp) (hr : Room (k + 1) X.A) (hb : Binds X.K fd ps ds) (hd : Vals dvs ds) (hx : Passes CX X (fun _ _ _ => False)) (hg : Gl X x) (hm : X.mg x = some (.ref C)) (ha : PA X (e :: es) ta)
    (hdb : (x == ("__debug__" : Str)) = false := by decide) (he : starEach (e :: es) X.env = (false, eval e X.env) :: starEach es X.env := by rfl) (hpl : (backTo pos (starEach es X.env)).any (·.1) = false := by rfl) :
    PE X (.Call (.Name x p) (e :: es) [] pos) (tMkV C sp dvs ta) := by
  refine ⟨fun pins s σ H Q I h => ?_⟩
  obtain ⟨nm, q, N, bs, bm, sn, sub, ab, col, dd, k0, k1, k2, k3, k5, hC, hbm⟩ := T.cls
  refine wpAny_Call_Name_kw (ld_glob I hg hm ?_ hdb)
  refine PySem.W.callWith_K (h₀ := X.base) I.ok.mod.kin T.kC (thn (ha.run pos pins s σ H _ I h) fun us s1 ⟨vs, H1, I1, r1, hz, q1⟩ => ⟨I1.kIn, ?_⟩) he hpl
  show wpAny _ _ (call (.ref C) us) _ _ _
  obtain ⟨hp, g, dr, tk, os⟩ := s1
  have hsz : hp.objs.size ≤ hp.objs.size + 1 := Nat.le_succ _
  have hn : H1 (hp.objs.size + 1) = none := I1.hok.fresh hsz
  have hq := q1 (hp.objs.size + 1) hn
  have kk : ∀ b o, hp.get? b = some o → ((hp.push (PySem.W.kdv_tup us)).push (PySem.HandSPX.excO C hp.objs.size)).get? b = some o := fun b o e => Heap.get?_push_of_some _ (Heap.get?_push_of_some _ e)
  have hget : ((hp.push (PySem.W.kdv_tup us)).push (PySem.HandSPX.excO C hp.objs.size)).get? (hp.objs.size + 1) = some (PySem.HandSPX.excO C hp.objs.size) := by heap_get
  have I2 : Inv X pins σ (upd H1 (hp.objs.size + 1) (exo (hp.objs.size + 1) C none)) ⟨(hp.push (PySem.W.kdv_tup us)).push (PySem.HandSPX.excO C hp.objs.size), g, dr, tk, os⟩ :=
    I1.laid (t' := tk) (a := hp.objs.size + 1) (o := exo (hp.objs.size + 1) C none) (h' := (hp.push (PySem.W.kdv_tup us)).push (PySem.HandSPX.excO C hp.objs.size)) kk hsz (exo_ok hget)
  have r2 : Vals (V.ref (hp.objs.size + 1) :: (vs ++ dvs)) (Value.ref (hp.objs.size + 1) :: (us ++ ds)) := .cons rfl (r1.append hd)
  have hl : (Value.ref (hp.objs.size + 1) :: us ++ ds).length = ps.length := by
    have e := r2.length
    rw [F1.len _ _ _ _ hq] at e
    exact e.symm
  have hus : us.length ≤ sizeLine := by
    rw [← Paired.length r1, sizeLine_eq]
    omega
  refine wpAny_call (PySem.HandSPX.call_own F.excBase_ValueError (fun Y => PySem.HandSPX.refsVE_contains Y bm hbm) (I1.kIn _ _ hC) (PySem.W.looks_findIn I1.kIn iC) (fun self => PySem.W.bind_fn I1.kIn self tI) hus
    (codeAny_mono (F1.run _ X.stack _ _ ⟨Value.ref (hp.objs.size + 1) :: us, []⟩ (Value.ref (hp.objs.size + 1) :: (us ++ ds)) _ _ (fun _ _ _ => False) (hr.make C us []) (I2.env0.make C us []) (hb _ (Value.ref (hp.objs.size + 1) :: us) I2.kIn hl) r2 hq) fun r s' hq' => ?_))
  cases r with
  | error er => exact hx pins σ _ _ er s' I2 hq'
  | ok fl =>
    cases fl with
    | ret u =>
      obtain ⟨v, H2, os2, bare2, un2, hok2, rv, ev, q2⟩ := hq'
      subst ev
      refine ⟨rv, .ref (hp.objs.size + 1), H2, ?_, rfl, q2⟩
      exact I2.call' (ch := []) os2 un2 hok2 bare2 (fun b z => absurd z (by simp))
    | next => exact False.elim hq'
    | brk => exact False.elim hq'
    | cont => exact False.elim hq'
end
end Ox

set_option Elab.async false
set_option linter.all false
set_option maxRecDepth 100000
set_option maxHeartbeats 4000000
namespace Ox
open PySem PySem.Spec PyProof.Rows L2
section
variable {X : Cx}
/-- C(), C an own exception class without own __init__ -/
theorem pe_exc0 {C : Addr} {bmB : List Value} {B newId initId : String} {x : Str} {p pos : Pos} (F : ExcBaseFacts B newId initId bmB) (q : PySem.W.excIn X.K C bmB newId = true) (gC : X.mg x = some (.ref C)) (kC : PySem.W.keepIn X.K (.ref C) = true) (hg : Gl X x)
    (hdb : (x == ("__debug__" : Str)) = false := by decide) :
    PE X (.Call (.Name x p) [] [] pos) (fun _ H Q => ∀ a, H a = none → Q (.ref a) (upd H a (exo a C none))) := by
  refine ⟨fun pins s σ H Q I h => ?_⟩
  refine wpAny_Call_Name_kw (ld_glob I hg gC ?_ hdb)
  refine PySem.W.callWith_K0 I.kIn kC ?_
  show wpAny _ _ (call (.ref C) []) _ _ _
  obtain ⟨bm, N, nm, qn, bs, hdct, sn, sub, ab, col, dd, k0, k1, k2, k3, k5, mN, hC, hN, hni, T⟩ := exc_obj I.kIn q
  obtain ⟨hp, g, d, t, os⟩ := s
  refine wpAny_call_exc_subT F T hC hN hni (fun h' a hm => ?_) (by show 0 ≤ sizeLine; exact Nat.zero_le _)
  have hn : H a = none := I.hok.gone hm.new
  obtain ⟨t, ht, _, _⟩ := hm.there
  exact ⟨.ref a, upd H a (exo a C none), I.laidN (t' := _) hm.keeps hm.new hn (exo_ok ht), rfl, h a hn⟩
end
end Ox
namespace Ox
open PySem PySem.Spec PyProof.Rows L2
/-- an own exception class with an own __init__ at f | without one -/
structure XcI (K : PySem.W.Frag) (C f : Addr) : Prop where
  oe : OexC K C
  ini : PySem.W.findIn K (.ref C) "__init__" = some (some (.ref f))
  ity : PySem.W.typeIn K (.ref f) = some (.type "function")
structure Xc0 (K : PySem.W.Frag) (C : Addr) : Prop where
  ein : PySem.W.excIn K C [.type "ValueError", .type "Exception", .type "BaseException", .type "object"] "ValueError.__new__" = true
  kc : PySem.W.keepIn K (.ref C) = true
end Ox
namespace Ox
open PySem PySem.Spec PyProof.Rows L2
theorem cl_of {K : PySem.W.Frag} {C : Addr} (h : PySem.W.hasDictIn K C = true) : (PySem.W.clsIn K C).isSome = true := by
  obtain ⟨cd, hc, _⟩ := PySem.W.any_some h
  rw [hc]
  rfl
/-- own error classes: each is itself and no other of them; each is under base and ValueError and under no other of three built-in ones -/
def kitTab (K : PySem.W.Frag) (cs : List Addr) (base : Addr) : Bool :=
  ((List.range cs.length).all fun i => (List.range cs.length).all fun j => decide (PySem.W.kitOne K (.ref (cs.getD i 0)) (.ref (cs.getD j 0)) = some (decide (i = j)))) &&
    cs.all fun c => decide (PySem.W.kitOne K (.ref c) (.ref base) = some true) && (decide (PySem.W.kitOne K (.ref c) (.type "ValueError") = some true) &&
      (decide (PySem.W.kitOne K (.ref c) (.type "LookupError") = some false) && (decide (PySem.W.kitOne K (.ref c) (.type "TypeError") = some false) && decide (PySem.W.kitOne K (.ref c) (.type "ArithmeticError") = some false))))
structure Kits (K : PySem.W.Frag) (cs : List Addr) (base : Addr) : Prop where
  own : ∀ i j, i < cs.length → j < cs.length → PySem.W.kitOne K (.ref (cs.getD i 0)) (.ref (cs.getD j 0)) = some (decide (i = j))
  bas : ∀ i, i < cs.length → PySem.W.kitOne K (.ref (cs.getD i 0)) (.ref base) = some true
  val : ∀ i, i < cs.length → PySem.W.kitOne K (.ref (cs.getD i 0)) (.type "ValueError") = some true
  loo : ∀ i, i < cs.length → PySem.W.kitOne K (.ref (cs.getD i 0)) (.type "LookupError") = some false
  typ : ∀ i, i < cs.length → PySem.W.kitOne K (.ref (cs.getD i 0)) (.type "TypeError") = some false
  ari : ∀ i, i < cs.length → PySem.W.kitOne K (.ref (cs.getD i 0)) (.type "ArithmeticError") = some false
theorem kits_of {K : PySem.W.Frag} {cs : List Addr} {base : Addr} (h : kitTab K cs base = true) : Kits K cs base := by
  unfold kitTab at h
  simp only [Bool.and_eq_true, List.all_eq_true, List.mem_range, decide_eq_true_eq] at h
  obtain ⟨h1, h2⟩ := h
  have mem : ∀ i, i < cs.length → cs.getD i 0 ∈ cs := fun i hi => by
    rw [List.getD_eq_getElem?_getD, List.getElem?_eq_getElem hi]
    exact List.getElem_mem hi
  exact ⟨fun i j hi hj => h1 i hi j hj, fun i hi => (h2 _ (mem i hi)).1, fun i hi => (h2 _ (mem i hi)).2.1, fun i hi => (h2 _ (mem i hi)).2.2.1, fun i hi => (h2 _ (mem i hi)).2.2.2.1, fun i hi => (h2 _ (mem i hi)).2.2.2.2⟩
end Ox

set_option Elab.async false
set_option linter.all false
set_option maxRecDepth 100000
set_option maxHeartbeats 4000000
namespace Ox
open PySem PySem.Spec PyProof.Rows L2
section
variable {X : Cx}
/-- a text times nought or one -/
def rRepS : R2 := fun x y H Q => ∃ z n, x = .str z ∧ y = .int n ∧ ((n = 0 ∧ Q (.str Str.empty) H) ∨ (n = 1 ∧ Q (.str z) H))
theorem op_rep_str : OpR X (binaryOp .Mult) rRepS := by
  intro pins s σ H x y v u Q I rx ry h
  obtain ⟨z, n, rfl, rfl, h⟩ := h
  obtain ⟨t1, rfl⟩ := (show ∃ t, v = Value.str z t from rx)
  obtain ⟨t2, rfl⟩ := (show ∃ t, u = Value.int n t from ry)
  rcases h with ⟨rfl, q⟩ | ⟨rfl, q⟩
  · exact PySem.P.mul_str_none (by decide) (by decide) ⟨.str Str.empty, H, I.tok _, ⟨_, rfl⟩, q⟩
  · refine PySem.P.mul_str (by decide) (fun _ h => by cases h) (fun _ h => by cases h) ?_
    rw [if_neg (by decide), if_pos (by rfl)]
    first
      | exact ⟨.str z, H, I, ⟨_, rfl⟩, q⟩
      | exact ⟨.str z, H, I.tok _, ⟨_, rfl⟩, q⟩
end
end Ox

set_option Elab.async false
set_option linter.all false
set_option maxRecDepth 100000
set_option maxHeartbeats 4000000
/-! Names that are drawn: one to twelve letters, none twice. -/
namespace Nm
open PySem PySem.Spec PyProof.Rows L2
def Ok (x : Str) : Prop := 1 ≤ x.length ∧ x.length ≤ 12 ∧ ∀ c ∈ x.cps.toList, 97 ≤ c ∧ c ≤ 122
def AllOk (xs : List Str) : Prop := xs.Nodup ∧ ∀ x ∈ xs, Ok x
/-- a name by its letters' codes -/
def code (cs : List Nat) (k : Nat) (sh stp : Nat) (tl : List Nat) (i : Nat) : List Nat := cs.take k ++ [97 + (sh + stp * i) % 26] ++ cs.drop k ++ (if i % 2 = 1 then tl else [])
def Step (stp : Nat) : Prop := stp = 1 ∨ stp = 3 ∨ stp = 5 ∨ stp = 7 ∨ stp = 9 ∨ stp = 11 ∨ stp = 15 ∨ stp = 17 ∨ stp = 19 ∨ stp = 21 ∨ stp = 23 ∨ stp = 25
theorem step_inj {sh stp i j : Nat} (hs : Step stp) (hij : i < j) (hj : j < 26) : (sh + stp * i) % 26 ≠ (sh + stp * j) % 26 := by
  rcases hs with rfl | rfl | rfl | rfl | rfl | rfl | rfl | rfl | rfl | rfl | rfl | rfl <;> omega
theorem code_at (cs : List Nat) {k sh stp i : Nat} {tl : List Nat} (hk : k ≤ cs.length) : (code cs k sh stp tl i)[k]? = some (97 + (sh + stp * i) % 26) := by
  unfold code
  have h1 : (cs.take k).length = k := by rw [List.length_take]; omega
  rw [List.append_assoc, List.append_assoc, List.getElem?_append_right (by omega), h1, Nat.sub_self]
  rfl
theorem code_ne (cs : List Nat) {k sh stp i j : Nat} {tl : List Nat} (hk : k ≤ cs.length) (hs : Step stp) (hij : i < j) (hj : j < 26) : code cs k sh stp tl i ≠ code cs k sh stp tl j := fun e => by
  have h1 := code_at cs (sh := sh) (stp := stp) (i := i) (tl := tl) hk
  rw [e, code_at cs hk] at h1
  have h2 := Option.some.inj h1
  exact step_inj (sh := sh) hs hij hj (by omega)
theorem code_len (cs : List Nat) {k sh stp i : Nat} {tl : List Nat} (hk : k ≤ cs.length) : (code cs k sh stp tl i).length = cs.length + 1 + (if i % 2 = 1 then tl.length else 0) := by
  unfold code
  rw [List.length_append, List.length_append, List.length_append, List.length_take, List.length_drop]
  split
  · simp only [List.length_singleton]; omega
  · simp only [List.length_singleton, List.length_nil]; omega
theorem code_mem {cs : List Nat} {k sh stp i : Nat} {tl : List Nat} (h : ∀ c ∈ cs, 97 ≤ c ∧ c ≤ 122) (ht : ∀ c ∈ tl, 97 ≤ c ∧ c ≤ 122) : ∀ c ∈ code cs k sh stp tl i, 97 ≤ c ∧ c ≤ 122 := fun c hc => by
  unfold code at hc
  rcases List.mem_append.mp hc with hc | hc
  · rcases List.mem_append.mp hc with hc | hc
    · rcases List.mem_append.mp hc with hc | hc
      · exact h c (List.mem_of_mem_take hc)
      · have := List.mem_singleton.mp hc
        omega
    · exact h c (List.mem_of_mem_drop hc)
  · split at hc
    · exact ht c hc
    · cases hc
theorem str_ne {a b : Str} (h : a.cps.toList ≠ b.cps.toList) : a ≠ b := fun e => h (by rw [e])
/-- drawn names are names, none twice -/
theorem allOk {cs : List Nat} {k sh stp m : Nat} {tl : List Nat} {f : Nat → Str} (hk : k ≤ cs.length) (hl : cs.length ≤ 11) (htl : cs.length + 1 + tl.length ≤ 12) (h : ∀ c ∈ cs, 97 ≤ c ∧ c ≤ 122) (ht : ∀ c ∈ tl, 97 ≤ c ∧ c ≤ 122) (hs : Step stp) (hm : m ≤ 26)
    (hf : ∀ i, (f i).cps.toList = code cs k sh stp tl i) : AllOk ((List.range m).map f) := by
  refine ⟨?_, fun x hx => ?_⟩
  · refine List.pairwise_map.mpr ?_
    refine List.Pairwise.imp_of_mem ?_ (List.pairwise_lt_range (n := m))
    intro a b ha hb hab
    refine str_ne ?_
    rw [hf, hf]
    exact code_ne cs hk hs hab (by have := List.mem_range.mp hb; omega)
  · obtain ⟨i, hi, rfl⟩ := List.mem_map.mp hx
    have e : (f i).length = (code cs k sh stp tl i).length := by
      rw [← hf i, Array.length_toList]
      rfl
    refine ⟨?_, ?_, ?_⟩
    · rw [e, code_len cs hk]
      omega
    · rw [e, code_len cs hk]
      split <;> omega
    · rw [hf]
      exact code_mem h ht
theorem AllOk.take {xs : List Str} (h : AllOk xs) (n : Nat) : AllOk (xs.take n) :=
  ⟨h.1.sublist (List.take_sublist n xs), fun x hx => h.2 x (List.mem_of_mem_take hx)⟩
theorem cutV_from (xs : List V) (i : Nat) : cutV xs (some (i : Int)) none = xs.drop i := by
  unfold cutV
  rw [HT.sIx_nat, HT.sIx_none]
  by_cases h : i ≤ xs.length
  · rw [Nat.min_eq_left h]
    exact List.take_of_length_le (by rw [List.length_drop]; exact Nat.le_refl _)
  · have h2 : xs.length ≤ i := by omega
    rw [Nat.min_eq_right h2, List.drop_eq_nil_of_le h2, List.drop_length]
    exact List.take_nil
theorem cutV_to (xs : List V) (j : Nat) : cutV xs none (some (j : Int)) = xs.take j := by
  unfold cutV
  rw [HT.sIx_nat, HT.sIx_none, List.drop_zero, Nat.sub_zero]
  by_cases h : j ≤ xs.length
  · rw [Nat.min_eq_left h]
  · have h2 : xs.length ≤ j := by omega
    rw [Nat.min_eq_right h2, List.take_of_length_le h2, List.take_length]
theorem cutS_from (z : Str) (i : Nat) : (cutS z (some (i : Int)) none).cps.toList = z.cps.toList.drop i := by
  unfold cutS
  have e : z.length = z.cps.toList.length := by rw [Array.length_toList]; rfl
  rw [HT.sIx_nat, HT.sIx_none, List.toList_toArray, e]
  by_cases h : i ≤ z.cps.toList.length
  · rw [Nat.min_eq_left h]
    exact List.take_of_length_le (by rw [List.length_drop]; exact Nat.le_refl _)
  · have h2 : z.cps.toList.length ≤ i := by omega
    rw [Nat.min_eq_right h2, List.drop_eq_nil_of_le h2, List.drop_length]
    exact List.take_nil
theorem cutS_to (z : Str) (j : Nat) : (cutS z none (some (j : Int))).cps.toList = z.cps.toList.take j := by
  unfold cutS
  have e : z.length = z.cps.toList.length := by rw [Array.length_toList]; rfl
  rw [HT.sIx_nat, HT.sIx_none, List.toList_toArray, e, List.drop_zero, Nat.sub_zero]
  by_cases h : j ≤ z.cps.toList.length
  · rw [Nat.min_eq_left h]
  · have h2 : z.cps.toList.length ≤ j := by omega
    rw [Nat.min_eq_right h2, List.take_of_length_le h2, List.take_length]
/-- letters put together -/
def lets (cs : List Nat) : List Str := cs.map fun c => ⟨#[c]⟩
theorem join_lets (cs : List Nat) : (Txt.join ⟨#[]⟩ (lets cs)).cps.toList = cs := by
  unfold Txt.join
  rw [StrLaws.glued_eq_join]
  have h := join_nil_signs (⟨cs.toArray⟩ : Str)
  have e : signs (⟨cs.toArray⟩ : Str) = lets cs := by
    unfold signs lets
    rw [List.toList_toArray]
  rw [e] at h
  rw [h, List.toList_toArray]
theorem letter_at : ∀ i : Fin 26, atI ("abcdefghijklmnopqrstuvwxyz" : Str).cps.toList (i.1 : Int) = some (97 + i.1) := by decide +kernel
theorem lets_sum (cs : List Nat) : ((lets cs).map (·.length)).sum = cs.length := by
  induction cs with
  | nil => rfl
  | cons c r ih =>
    show 1 + ((lets r).map (·.length)).sum = r.length + 1
    rw [ih]
    omega
def plain : List Str := ["a", "b", "ab", "c", "ba", "abc", "aa", "bc", "aab", "ca", "cab", "d", "abd", "bca", "e"]
theorem plain_ok : ∀ o : Fin 12, AllOk ((plain.drop o.1 ++ plain).take 12) := by
  intro o
  unfold AllOk Ok
  revert o
  decide +kernel
end Nm

set_option Elab.async false
set_option linter.all false
set_option maxRecDepth 100000
set_option maxHeartbeats 4000000
/-! What a reading evaluates to: further rules. -/
namespace Oe
open PySem L2 Evl
section
variable {K : PySem.W.Frag} {σ : L2.St} {H H' : Hp} {ta tb te tx : TE} {t u : TT} {x y z v : V} {r : R2} {D : Ends} {tz : TS}
theorem IsX.ex {a C : Addr} (h : Ox.IsX H a C) (e : Ex H H') : Ox.IsX H' a C := by
  rcases h with h | ⟨d, fs, h1, h2⟩
  · exact .inl (e _ _ h)
  · exact .inr ⟨d, fs, e _ _ h1, e _ _ h2⟩
theorem Xat.ex {a C d : Addr} {fs : List (Str × V)} (h : Ox.Xat H a C d fs) (e : Ex H H') : Ox.Xat H' a C d fs := ⟨e _ _ h.1, e _ _ h.2⟩
/-- isinstance(e, c), e an exception of an own class at a, c a class -/
theorem ev_isX {a C : Addr} {c : V} {w : Value} {b : Bool} (ha : Ev ta σ H (.ref a)) (hx : Ox.IsX H a C) (T : Ox.ExK K C) (hc : ClsV c w) (hk : PySem.W.kitOne K (.ref C) w = some b) :
    Ev (tCB (Ox.rIsX K) (tCons ta (tCons (tC c) tNil))) σ H (.bl b) := fun H1 e Q q =>
  ha H1 e _ fun H2 e2 => ⟨a, C, c, w, b, rfl, IsX.ex hx (e.trans e2), T, hc, hk, q H2 e2⟩
/-- e.f of an own exception -/
theorem ev_xfv {a C d : Addr} {fs : List (Str × V)} {f : Str} (ha : Ev ta σ H (.ref a)) (hx : Ox.Xat H a C d fs) (T : Ox.ExK K C) (hn : PySem.W.findIn K (.ref C) f = some none) (hl : fs.lookup f = some v) : Ev (Ox.tXfv K f ta) σ H v := fun H1 e Q q =>
  ha H1 e _ fun H2 e2 => ⟨a, C, d, fs, v, rfl, Xat.ex hx (e.trans e2), T, hn, hl, q H2 e2⟩
/-- xs + [..], xs held -/
theorem el_cat {l : Addr} {xs ys : List V} (ha : Ev ta σ H (.ref l)) (hl : H l = some (.lst xs)) (hb : EvL tb σ H ys) (hz : xs.length + ys.length ≤ 100000) : EvL (tOp rCat ta tb) σ H (xs ++ ys) := fun H1 e Q q =>
  ha H1 e _ fun H2 e2 => hb H2 (e.trans e2) _ fun p H3 np e3 hp => ⟨l, p, xs, ys, rfl, rfl, e3 _ _ (e2 _ _ (e _ _ hl)), hp, sz_of hz, fun o no => q o _ (fresh_back (e2.trans e3) no) ((e2.trans e3).trans (Ex.new no)) upd_same⟩
/-- xs[i] of a held list -/
theorem ev_ix {l : Addr} {xs : List V} {i : Int} (ha : Ev ta σ H (.ref l)) (hb : Ev tb σ H (.int i)) (hs : SqL K H l xs) (hi : atI xs i = some v) : Ev (tOp (rIxL K) ta tb) σ H v := ev_op ha hb (rv_ixL hs hi)
/-! the shape of a reading, opened one step -/
theorem o_seq {ts : TS} (h : ts { D with nx := tz D } σ H) : tSeq ts tz D σ H := h
theorem o_asg {i : Nat} (h : te σ H fun v H1 => D.nx (σ.set i (some v)) H1) : tAsg te (gName i) D σ H := h
theorem o_seqAsg {i : Nat} (h : te σ H fun v H1 => tz D (σ.set i (some v)) H1) : tSeq (tAsg te (gName i)) tz D σ H := h
theorem o_ret (h : te σ H D.rt) : tRet te D σ H := h
theorem o_drop (h : te σ H fun _ H1 => D.nx σ H1) : tDrop te D σ H := h
theorem o_seqDrop (h : te σ H fun _ H1 => tz D σ H1) : tSeq (tDrop te) tz D σ H := h
theorem o_lst {ta : TA} {Q : VK} (h : ta σ H fun xs H1 => xs.length ≤ sizeLine ∧ ∀ p, H1 p = none → Q (.ref p) (upd H1 p (.lst xs))) : tLst ta σ H Q := h
theorem o_cons {tr : TA} {Q : List V → Hp → Prop} (h : te σ H fun x H1 => tr σ H1 fun xs H2 => Q (x :: xs) H2) : tCons te tr σ H Q := h
theorem o_nil {Q : List V → Hp → Prop} (h : Q [] H) : tNil σ H Q := h
theorem o_op {Q : VK} (h : ta σ H fun x H1 => tb σ H1 fun y H2 => r x y H2 Q) : tOp r ta tb σ H Q := h
end
end Oe

set_option Elab.async false
set_option linter.all false
set_option maxRecDepth 100000
set_option maxHeartbeats 4000000
/-! Values that stand for data: evaluated, listed, compared. -/
namespace Od
open PySem L2 Evl
variable {K : PySem.W.Frag}
mutual
theorem dp_ex {H H' : Hp} (e : Ex H H') : ∀ (d : PyData) (v : V), Dp K H v d → Dp K H' v d
  | .none, _, h => by cases h; exact .non
  | .bool b, _, h => by cases h; exact .bl b
  | .int i, _, h => by cases h; exact .int i
  | .str x, _, h => by cases h; exact .str x
  | .list ds, _, h => by
    cases h with
    | lst hs ha => exact .lst (ex_l e hs) (da_ex e ds _ ha)
  | .tuple ds, _, h => by
    cases h with
    | tup hs ha => exact .tup (ex_t e hs) (da_ex e ds _ ha)
  | .dict _, _, h => by cases h
theorem da_ex {H H' : Hp} (e : Ex H H') : ∀ (ds : List PyData) (vs : List V), DpAll K H vs ds → DpAll K H' vs ds
  | [], _, h => by cases h; exact .nil
  | d :: ds, _, h => by
    cases h with
    | cons h1 h2 => exact .cons (dp_ex e d _ h1) (da_ex e ds _ h2)
end
theorem da_len {H : Hp} : ∀ {ds : List PyData} {vs : List V}, DpAll K H vs ds → vs.length = ds.length
  | [], _, h => by cases h; rfl
  | d :: ds, _, h => by
    cases h with
    | cons h1 h2 =>
      show _ + 1 = _ + 1
      rw [da_len h2]
theorem da_app {H : Hp} : ∀ {ds es : List PyData} {vs ws : List V}, DpAll K H vs ds → DpAll K H ws es → DpAll K H (vs ++ ws) (ds ++ es)
  | [], _, _, _, h, h' => by cases h; exact h'
  | d :: ds, _, _, _, h, h' => by
    cases h with
    | cons h1 h2 => exact .cons h1 (da_app h2 h')
theorem da_one {H : Hp} {v : V} {d : PyData} (h : Dp K H v d) : DpAll K H [v] [d] := .cons h .nil
/-- texts as data -/
theorem da_strs {H : Hp} : ∀ (xs : List Str), DpAll K H (xs.map V.str) (xs.map PyData.str)
  | [] => .nil
  | x :: xs => .cons (.str x) (da_strs xs)
/-- data that can be compared -/
def Sh (d : PyData) : Prop := SeqAt.shaped d = true
theorem sh_list {ds : List PyData} {n : Nat} (hn : n < 64) (h : ∀ d ∈ ds, d.canLay0 = true ∧ d.depth ≤ n) : (PyData.list ds).canLay0 = true ∧ (PyData.list ds).depth ≤ n + 1 := by
  constructor
  · show PyData.canLayAll0 ds = true
    induction ds with
    | nil => rfl
    | cons d r ih =>
      show (d.canLay0 && PyData.canLayAll0 r) = true
      rw [(h d (List.mem_cons_self ..)).1, ih (fun e he => h e (List.mem_cons_of_mem _ he))]
      rfl
  · show PyData.depthAll ds + 1 ≤ n + 1
    induction ds with
    | nil => exact Nat.succ_le_succ (Nat.zero_le _)
    | cons d r ih =>
      have h1 := (h d (List.mem_cons_self ..)).2
      have h2 := ih (fun e he => h e (List.mem_cons_of_mem _ he))
      show max d.depth (PyData.depthAll r) + 1 ≤ n + 1
      omega
theorem sh_tup {ds : List PyData} {n : Nat} (hn : n < 64) (h : ∀ d ∈ ds, d.canLay0 = true ∧ d.depth ≤ n) : (PyData.tuple ds).canLay0 = true ∧ (PyData.tuple ds).depth ≤ n + 1 := sh_list hn h
theorem sh_of {d : PyData} {n : Nat} (hn : n ≤ 64) (h : d.canLay0 = true ∧ d.depth ≤ n) : SeqAt.shaped d = true := by
  unfold SeqAt.shaped
  rw [h.1, decide_eq_true (Nat.le_trans h.2 hn)]
  rfl
/-- G is a part of H2 that holds H, and of what is beside H nothing that stood in H1 -/
structure Own (H H1 H2 G : Hp) : Prop where
  ex : Ex H G
  sub : Ex G H2
  new : ∀ a o, G a = some o → H a = none → H1 a = none
theorem Own.refl {H H1 : Hp} (e : Ex H H1) : Own H H1 H1 H := ⟨Ex.refl H, e, fun a o h n => by rw [h] at n; cases n⟩
theorem Own.grow {H H1 H2 H3 G : Hp} (o : Own H H1 H2 G) (e : Ex H2 H3) : Own H H1 H3 G := ⟨o.ex, o.sub.trans e, o.new⟩
theorem Own.back {H H0 H1 H2 G : Hp} (o : Own H H1 H2 G) (e : Ex H0 H1) : Own H H0 H2 G := ⟨o.ex, o.sub, fun a u h n => fresh_back e (o.new a u h n)⟩
theorem Own.gone {H H1 H2 G : Hp} (o : Own H H1 H2 G) {p : Addr} (h : H2 p = none) : G p = none := fresh_back o.sub h
/-- what stood in H1 but not in H is not in G -/
theorem Own.out {H H1 H2 G : Hp} (o : Own H H1 H2 G) {p : Addr} {u : HO} (h : H1 p = some u) (n : H p = none) : G p = none := by
  cases q : G p with
  | none => rfl
  | some z =>
    have := o.new p z q n
    rw [h] at this
    cases this
def join (A B : Hp) : Hp := fun a => match A a with | some o => some o | none => B a
theorem join_l {A B : Hp} : Ex A (join A B) := fun a o h => by unfold join; rw [h]
theorem join_r {A B H : Hp} (ha : Ex A H) (hb : Ex B H) : Ex B (join A B) := fun a o h => by
  unfold join
  cases q : A a with
  | none => exact h
  | some z =>
    have h1 := ha a z q
    have h2 := hb a o h
    rw [h1] at h2
    exact h2
theorem join_ex {A B H : Hp} (ha : Ex A H) (hb : Ex B H) : Ex (join A B) H := fun a o h => by
  unfold join at h
  cases q : A a with
  | none =>
    rw [q] at h
    exact hb a o h
  | some z =>
    rw [q] at h
    exact ha a o (q.trans h)
theorem join_none {A B : Hp} {a : Addr} (h : A a = none) (h' : B a = none) : join A B a = none := by
  unfold join
  rw [h]
  exact h'
theorem Own.join {H H1 H2 H3 A B : Hp} (a : Own H H1 H2 A) (b : Own H H2 H3 B) (e1 : Ex H1 H2) (e2 : Ex H2 H3) : Own H H1 H3 (join A B) := ⟨a.ex.trans join_l, join_ex (a.sub.trans e2) b.sub, fun x o h n => by
  unfold Od.join at h
  cases q : A x with
  | none =>
    rw [q] at h
    exact fresh_back e1 (b.new x o h n)
  | some z => exact a.new x z q n⟩
theorem Own.laid {H H1 H2 G : Hp} (o : Own H H1 H2 G) (e : Ex H1 H2) {p : Addr} {u : HO} (hp : H2 p = none) : Own H H1 (upd H2 p u) (upd G p u) := by
  have gp := o.gone hp
  refine ⟨o.ex.trans (Ex.new gp), fun a x h => ?_, fun a x h n => ?_⟩
  · by_cases q : a = p
    · rw [q, upd_same] at h
      rw [q, upd_same]
      exact h
    · rw [upd_ne q] at h
      rw [upd_ne q]
      exact o.sub a x h
  · by_cases q : a = p
    · rw [q]
      exact fresh_back e hp
    · rw [upd_ne q] at h
      exact o.new a x h n
theorem Own.put {H H1 H2 G : Hp} (o : Own H H1 H2 G) {p : Addr} {u : HO} (hp : G p = none) : Own H H1 (upd H2 p u) G := ⟨o.ex, Ex.mut o.sub hp, o.new⟩
/-- a value with these data, whatever it is -/
def EvD (K : PySem.W.Frag) (te : TE) (σ : L2.St) (H : Hp) (d : PyData) : Prop := ∀ H1, Ex H H1 → ∀ Q : VK, (∀ v H2 G, Ex H1 H2 → Own H H1 H2 G → Dp K G v d → Q v H2) → te σ H1 Q
/-- a new list with these data -/
def EvLD (K : PySem.W.Frag) (te : TE) (σ : L2.St) (H : Hp) (ds : List PyData) : Prop := ∀ H1, Ex H H1 → ∀ Q : VK, (∀ p vs H2 G, H1 p = none → Ex H1 H2 → H2 p = some (.lst vs) → Own H H1 H2 G → G p = none → DpAll K G vs ds → Q (.ref p) H2) → te σ H1 Q
def EvAD (K : PySem.W.Frag) (ta : TA) (σ : L2.St) (H : Hp) (ds : List PyData) : Prop := ∀ H1, Ex H H1 → ∀ Q : List V → Hp → Prop, (∀ vs H2 G, Ex H1 H2 → Own H H1 H2 G → DpAll K G vs ds → Q vs H2) → ta σ H1 Q
section
variable {σ : L2.St} {H H' : Hp} {ta tb te tx : TE} {x y z v : V} {d e : PyData} {ds es : List PyData}
theorem ed_ev (h : Ev te σ H v) (hd : Dp K H v d) : EvD K te σ H d := fun H1 e1 Q q => h H1 e1 _ fun H2 e2 => q v H2 H e2 ((Own.refl e1).grow e2) hd
theorem ed_ld (h : EvLD K te σ H ds) : EvD K te σ H (.list ds) := fun H1 e1 Q q => h H1 e1 _ fun p vs H2 G n1 e2 hp o gp hd => q (.ref p) H2 (upd G p (.lst vs)) e2 (by
  refine ⟨o.ex.trans (Ex.new gp), fun a x h => ?_, fun a x h n => ?_⟩
  · by_cases q : a = p
    · rw [q, upd_same] at h
      rw [q, hp]
      exact h
    · rw [upd_ne q] at h
      exact o.sub a x h
  · by_cases q : a = p
    · rw [q]
      exact n1
    · rw [upd_ne q] at h
      exact o.new a x h n) (.lst (sq_of upd_same) (da_ex (Ex.new gp) _ _ hd))
theorem eld_l {xs : List V} (h : EvL te σ H xs) (hd : DpAll K H xs ds) : EvLD K te σ H ds := fun H1 e1 Q q => h H1 e1 _ fun p H2 n2 e2 hp => q p xs H2 H n2 e2 hp ((Own.refl e1).grow e2) (fresh_back e1 n2) hd
theorem ead_nil : EvAD K tNil σ H [] := fun H1 e1 _ q => q [] H1 H (Ex.refl H1) (Own.refl e1) .nil
theorem ead_cons {tr : TA} (h : EvD K te σ H d) (hr : EvAD K tr σ H ds) : EvAD K (tCons te tr) σ H (d :: ds) := fun H1 e1 Q q =>
  h H1 e1 _ fun v H2 A e2 oa hv => hr H2 (e1.trans e2) _ fun vs H3 B e3 ob hs => q (v :: vs) H3 (join A B) (e2.trans e3) (oa.join ob e2 e3) (.cons (dp_ex join_l _ _ hv) (da_ex (join_r (oa.sub.trans e3) ob.sub) _ _ hs))
theorem eld_lst {ta : TA} (h : EvAD K ta σ H ds) (hl : ds.length ≤ 100000) : EvLD K (tLst ta) σ H ds := fun H1 e1 Q q =>
  h H1 e1 _ fun vs H2 G e2 o hd => ⟨sz_of (by rw [da_len hd]; exact hl), fun p hp => q p vs _ G (fresh_back e2 hp) (e2.trans (Ex.new hp)) upd_same (o.grow (Ex.new hp)) (o.gone hp) hd⟩
theorem ed_tup {ta : TA} (h : EvAD K ta σ H ds) (hl : ds.length ≤ 100000) : EvD K (tTup ta) σ H (.tuple ds) := fun H1 e1 Q q =>
  h H1 e1 _ fun vs H2 G e2 o hd => ⟨sz_of (by rw [da_len hd]; exact hl), fun p hp => q (.ref p) _ (upd G p (.tup vs)) (e2.trans (Ex.new hp)) (o.laid e2 hp) (.tup (st_of upd_same) (da_ex (Ex.new (o.gone hp)) _ _ hd))⟩
/-- xs + ys, both as data -/
theorem eld_cat {l : Addr} {xs : List V} (ha : Ev ta σ H (.ref l)) (hl : H l = some (.lst xs)) (hx : DpAll K H xs ds) (hb : EvLD K tb σ H es) (hz : ds.length + es.length ≤ 100000) : EvLD K (tOp rCat ta tb) σ H (ds ++ es) := fun H1 e Q q =>
  ha H1 e _ fun H2 e2 => hb H2 (e.trans e2) _ fun p ys H3 G np e3 hp o gp hy => ⟨l, p, xs, ys, rfl, rfl, e3 _ _ (e2 _ _ (e _ _ hl)), hp, sz_of (by rw [da_len hx, da_len hy]; exact hz),
    fun u nu => q u _ _ G (fresh_back (e2.trans e3) nu) ((e2.trans e3).trans (Ex.new nu)) upd_same ((o.back e2).grow (Ex.new nu)) (o.gone nu) (da_app (da_ex o.ex _ _ hx) hy)⟩
/-- a == b, a != b -/
theorem ev_eqD (ha : EvD K ta σ H d) (hb : EvD K tb σ H e) (sd : SeqAt.shaped d = true) (se : SeqAt.shaped e = true) : Ev (tOp (rEqD K) ta tb) σ H (.bl (PyData.eqv d e)) := fun H1 e1 Q q =>
  ha H1 e1 _ fun v H2 A e2 oa hv => hb H2 (e1.trans e2) _ fun u H3 B e3 ob hu => ⟨d, e, dp_ex (oa.sub.trans e3) _ _ hv, dp_ex ob.sub _ _ hu, sd, se, q H3 (e2.trans e3)⟩
theorem ev_neD (ha : EvD K ta σ H d) (hb : EvD K tb σ H e) (sd : SeqAt.shaped d = true) (se : SeqAt.shaped e = true) : Ev (tOp (rNeD K) ta tb) σ H (.bl (!PyData.eqv d e)) := fun H1 e1 Q q =>
  ha H1 e1 _ fun v H2 A e2 oa hv => hb H2 (e1.trans e2) _ fun u H3 B e3 ob hu => ⟨d, e, dp_ex (oa.sub.trans e3) _ _ hv, dp_ex ob.sub _ _ hu, sd, se, q H3 (e2.trans e3)⟩
theorem ev_sameD (ha : EvD K ta σ H d) (hb : EvD K tb σ H d) (sd : SeqAt.shaped d = true) : Ev (tOp (rEqD K) ta tb) σ H (.bl true) := ev_is (ev_eqD ha hb sd sd) (by rw [SeqAt.eqv_refl d (SeqAt.canLay_of_shaped sd)])
theorem ev_nsameD (ha : EvD K ta σ H d) (hb : EvD K tb σ H d) (sd : SeqAt.shaped d = true) : Ev (tOp (rNeD K) ta tb) σ H (.bl false) := ev_is (ev_neD ha hb sd sd) (by rw [SeqAt.eqv_refl d (SeqAt.canLay_of_shaped sd)]; rfl)
/-- [elt for x in xs], the elements as data -/
theorem yesIf {σ : L2.St} {H : Hp} {A B : Hp → Prop} (h : A H) : tYes σ H (fun b H3 => if b = true then A H3 else B H3) := by
  show (if true = true then A H else B H)
  rw [if_pos rfl]
  exact h
theorem eld_lcG {xs : List V} {tl : TE} {j : Nat} {vs : List Nat} (f : Nat → PyData) (h : ∀ H0, Ex H H0 → ∀ Q : VK, (∀ a H1, Ex H0 H1 → SqL K H1 a xs → Q (.ref a) H1) → tl σ H0 Q) (hz : xs.length ≤ 40000) (hw : ∀ x, wipe ((wipe σ vs).set j (some x)) vs = wipe σ vs)
    (he : ∀ (i : Nat) (x : V), xs[i]? = some x → EvD K te ((wipe σ vs).set j (some x)) H (f i)) : EvLD K (tLc (iList K tl) (gName j) tYes te vs) σ H ((List.range xs.length).map f) := fun H0 e Q q => h H0 e _ fun a H1 e1 hx => ⟨a, rfl, ⟨xs, hx⟩, fun D hD => by
  have hD0 : H D = none := fresh_back (e.trans e1) hD
  refine lc_list (xs := xs) (fun i H' => Ex H1 H' ∧ ∃ rs G, H' D = some (.lst rs) ∧ Own H H1 H' G ∧ G D = none ∧ DpAll K G rs ((List.range i).map f))
    ⟨Ex.new hD, [], H, upd_same, (Own.refl (e.trans e1)).grow (Ex.new hD), hD0, .nil⟩ (fun i H' _ p => ex_l p.1 hx) ?_ (fun H' ⟨p1, rs, G, p2, o, gd, p3⟩ => q D rs H' G (fresh_back e1 hD) (e1.trans p1) p2 (o.back e1) gd p3)
  rintro i x H' hi ⟨p1, rs, G, p2, o, gd, p3⟩
  refine ⟨hw _, yesIf ?_⟩
  refine he i x hi H' ((e.trans e1).trans p1) _ fun v H2 G2 e2 o2 hv => ?_
  have hlen : rs.length = i := by rw [da_len p3, List.length_map, List.length_range]
  have hi' : i < xs.length := (List.getElem?_eq_some_iff.mp hi).1
  have gd2 : G2 D = none := o2.out p2 hD0
  refine ⟨rs, e2 _ _ p2, sz_lt (by omega), Ex.mut (p1.trans e2) hD, rs ++ [v], Od.join G G2, upd_same, (o.join o2 p1 e2).put (join_none gd gd2), join_none gd gd2, ?_⟩
  rw [List.range_succ, List.map_append]
  exact da_app (da_ex join_l _ _ p3) (da_one (dp_ex (join_r (o.sub.trans e2) o2.sub) _ _ hv))⟩
theorem eld_lc {a : Addr} {xs : List V} {tl : TE} {j : Nat} {vs : List Nat} (f : Nat → PyData) (h : Ev tl σ H (.ref a)) (hx : SqL K H a xs) (hz : xs.length ≤ 40000) (hw : ∀ x, wipe ((wipe σ vs).set j (some x)) vs = wipe σ vs)
    (he : ∀ (i : Nat) (x : V), xs[i]? = some x → EvD K te ((wipe σ vs).set j (some x)) H (f i)) : EvLD K (tLc (iList K tl) (gName j) tYes te vs) σ H ((List.range xs.length).map f) :=
  eld_lcG f (fun H0 e0 Q q => h H0 e0 _ fun H1 e1 => q a H1 e1 (ex_l (e0.trans e1) hx)) hz hw he
theorem eld_lcN {xs : List V} {tl : TE} {j : Nat} {vs : List Nat} (f : Nat → PyData) (h : EvL tl σ H xs) (hz : xs.length ≤ 40000) (hw : ∀ x, wipe ((wipe σ vs).set j (some x)) vs = wipe σ vs)
    (he : ∀ (i : Nat) (x : V), xs[i]? = some x → EvD K te ((wipe σ vs).set j (some x)) H (f i)) : EvLD K (tLc (iList K tl) (gName j) tYes te vs) σ H ((List.range xs.length).map f) :=
  eld_lcG f (fun H0 e0 Q q => h H0 e0 _ fun a H1 _ e1 hx => q a H1 e1 (sq_of hx)) hz hw he
theorem el_rev {a : Addr} {xs : List V} (h : Ev te σ H (.ref a)) (hx : SqL K H a xs) : EvL (tRevL K te) σ H xs.reverse := fun H1 e1 _ q =>
  h H1 e1 _ fun H2 e2 => ⟨a, xs, rfl, ex_l (e1.trans e2) hx, fun p hp => q p _ (fresh_back e2 hp) (e2.trans (Ex.new hp)) upd_same⟩
theorem ed_lst {ta : TA} (h : EvAD K ta σ H ds) (hl : ds.length ≤ 100000) : EvD K (tLst ta) σ H (.list ds) := ed_ld (eld_lst h hl)
/-- [x] * 3 -/
theorem eld_rep3 (ha : EvLD K ta σ H [d]) : EvLD K (tOp rRep ta (tC (.int 3))) σ H [d, d, d] := fun H1 e1 Q q => ha H1 e1 _ fun p vs H2 G n1 e2 hp o gp hd => by
  obtain ⟨v, rfl⟩ : ∃ v, vs = [v] := by
    have := da_len hd
    match vs, this with
    | [v], _ => exact ⟨v, rfl⟩
  have hv : Dp K G v d := by
    cases hd with
    | cons h _ => exact h
  refine ⟨p, 3, [v], rfl, rfl, hp, by decide, by decide, by show 1 * 3 ≤ sizeLine; decide, fun r nr => ?_⟩
  exact q r _ _ G (fresh_back e2 nr) (e2.trans (Ex.new nr)) upd_same (o.grow (Ex.new nr)) (o.gone nr) (.cons hv (.cons hv (.cons hv .nil)))
theorem et_yes {σ : L2.St} {H : Hp} : EvT tYes σ H true := fun H1 _ _ q => q H1 (Ex.refl H1)
/-- two new objects, told -/
theorem own_two {H H1 H2 : Hp} {l p : Addr} {u v : HO} (e : Ex H H1) (e2 : Ex H1 H2) (nl : H1 l = none) (np : H1 p = none) (hl : H2 l = some u) (hp : H2 p = some v) : Own H H1 H2 (upd (upd H l u) p v) := by
  refine ⟨fun a o h => ?_, fun a o h => ?_, fun a o h n => ?_⟩
  · have h1 := e a o h
    rw [upd_ne (ne_of_none h1 np), upd_ne (ne_of_none h1 nl)]
    exact h
  · by_cases q : a = p
    · rw [q, upd_same] at h
      rw [q, hp]
      exact h
    · rw [upd_ne q] at h
      by_cases q2 : a = l
      · rw [q2, upd_same] at h
        rw [q2, hl]
        exact h
      · rw [upd_ne q2] at h
        exact e2 _ _ (e _ _ h)
  · by_cases q : a = p
    · rw [q]
      exact np
    · rw [upd_ne q] at h
      by_cases q2 : a = l
      · rw [q2]
        exact nl
      · rw [upd_ne q2, n] at h
        cases h
theorem da_bls {H : Hp} : ∀ (bs : List Bool), DpAll K H (bs.map V.bl) (bs.map PyData.bool)
  | [] => .nil
  | b :: r => .cons (.bl b) (da_bls r)
end
end Od

set_option Elab.async false
set_option linter.all false
set_option maxRecDepth 100000
set_option maxHeartbeats 4000000
/-! law k19: the text by places, what the top has written -/
namespace K19
open PySem PySem.Spec PyProof.Rows L2
def topS (i : Nat) : Stmt := PySem.Challenge.pw_coatrows_k19_errors_made.main.body.getD i (.Pass ⟨0, 0, 0, 0⟩)
abbrev s_InvalidRegion___init__ : Stmt := inClass (topS 2) 0
theorem sc_InvalidRegion___init__ : FnScope ["self", "index"] ["self", "index"] (defScope s_InvalidRegion___init__) := ⟨rfl, rfl, rfl, by decide +kernel, rfl, by decide +kernel, by decide +kernel⟩
abbrev s_InvalidFact___init__ : Stmt := inClass (topS 3) 0
theorem sc_InvalidFact___init__ : FnScope ["self", "index"] ["self", "index"] (defScope s_InvalidFact___init__) := ⟨rfl, rfl, rfl, by decide +kernel, rfl, by decide +kernel, by decide +kernel⟩
abbrev s_InvalidPatch___init__ : Stmt := inClass (topS 4) 0
theorem sc_InvalidPatch___init__ : FnScope ["self", "index"] ["self", "index"] (defScope s_InvalidPatch___init__) := ⟨rfl, rfl, rfl, by decide +kernel, rfl, by decide +kernel, by decide +kernel⟩
abbrev s_InvalidClaim___init__ : Stmt := inClass (topS 5) 0
theorem sc_InvalidClaim___init__ : FnScope ["self", "index"] ["self", "index"] (defScope s_InvalidClaim___init__) := ⟨rfl, rfl, rfl, by decide +kernel, rfl, by decide +kernel, by decide +kernel⟩
abbrev s_InvalidDeed___init__ : Stmt := inClass (topS 6) 0
theorem sc_InvalidDeed___init__ : FnScope ["self", "index"] ["self", "index"] (defScope s_InvalidDeed___init__) := ⟨rfl, rfl, rfl, by decide +kernel, rfl, by decide +kernel, by decide +kernel⟩
abbrev s_InvalidColour___init__ : Stmt := inClass (topS 7) 0
theorem sc_InvalidColour___init__ : FnScope ["self", "colour"] ["self", "colour"] (defScope s_InvalidColour___init__) := ⟨rfl, rfl, rfl, by decide +kernel, rfl, by decide +kernel, by decide +kernel⟩
abbrev s_InvalidNumber___init__ : Stmt := inClass (topS 8) 0
theorem sc_InvalidNumber___init__ : FnScope ["self", "number"] ["self", "number"] (defScope s_InvalidNumber___init__) := ⟨rfl, rfl, rfl, by decide +kernel, rfl, by decide +kernel, by decide +kernel⟩
abbrev s_UnknownRegion___init__ : Stmt := inClass (topS 9) 0
theorem sc_UnknownRegion___init__ : FnScope ["self", "region"] ["self", "region"] (defScope s_UnknownRegion___init__) := ⟨rfl, rfl, rfl, by decide +kernel, rfl, by decide +kernel, by decide +kernel⟩
abbrev s_InvalidMap___init__ : Stmt := inClass (topS 10) 0
theorem sc_InvalidMap___init__ : FnScope ["self", "index"] ["self", "index"] (defScope s_InvalidMap___init__) := ⟨rfl, rfl, rfl, by decide +kernel, rfl, by decide +kernel, by decide +kernel⟩
abbrev s_InvalidText___init__ : Stmt := inClass (topS 11) 0
theorem sc_InvalidText___init__ : FnScope ["self", "column"] ["self", "column"] (defScope s_InvalidText___init__) := ⟨rfl, rfl, rfl, by decide +kernel, rfl, by decide +kernel, by decide +kernel⟩
abbrev s_Contradiction___init__ : Stmt := inClass (topS 12) 0
theorem sc_Contradiction___init__ : FnScope ["self", "there", "back"] ["self", "there", "back"] (defScope s_Contradiction___init__) := ⟨rfl, rfl, rfl, by decide +kernel, rfl, by decide +kernel, by decide +kernel⟩
abbrev s_TooMany___init__ : Stmt := inClass (topS 13) 0
theorem sc_TooMany___init__ : FnScope ["self", "limit"] ["self", "limit"] (defScope s_TooMany___init__) := ⟨rfl, rfl, rfl, by decide +kernel, rfl, by decide +kernel, by decide +kernel⟩
abbrev s_l_mixed : Stmt := topS 16
theorem sc_l_mixed : FnScope ["_law_cell", "_law_k", "_law_number"] ["_law_cell", "_law_k"] (defScope s_l_mixed) := ⟨rfl, rfl, rfl, by decide +kernel, rfl, by decide +kernel, by decide +kernel⟩
abbrev s_l_pile : Stmt := topS 17
theorem sc_l_pile : FnScope ["_law_script", "_law_k", "_law_cell", "_law_great"] ["_law_script", "_law_k"] (defScope s_l_pile) := ⟨rfl, rfl, rfl, by decide +kernel, rfl, by decide +kernel, by decide +kernel⟩
abbrev s_l_take : Stmt := topS 18
theorem sc_l_take : FnScope ["_law_pile_here", "_law_many", "_law_digit"] ["_law_pile_here", "_law_many"] (defScope s_l_take) := ⟨rfl, rfl, rfl, by decide +kernel, rfl, by decide +kernel, by decide +kernel⟩
abbrev s_l_names : Stmt := topS 20
theorem sc_l_names : FnScope ["_law_pile_here", "_law_many", "_law_letters", "_law_stem", "_law_k", "_law_at", "_law_shift", "_law_step", "_law_plain", "_law_tail", "_law_some", "_law_name"] ["_law_pile_here", "_law_many"] (defScope s_l_names) := ⟨rfl, rfl, rfl, by decide +kernel, rfl, by decide +kernel, by decide +kernel⟩
abbrev s_l_classes : Stmt := topS 21
theorem sc_l_classes : FnScope ["_law_error", "_law_some"] ["_law_error"] (defScope s_l_classes) := ⟨rfl, rfl, rfl, by decide +kernel, rfl, by decide +kernel, by decide +kernel⟩
abbrev s_l_ways_right : Stmt := topS 22
theorem sc_l_ways_right : FnScope ["_law_names_here", "_law_ways", "_law_name", "_law_handed", "_law_way", "_law_error"] ["_law_names_here"] (defScope s_l_ways_right) := ⟨rfl, rfl, rfl, by decide +kernel, rfl, by decide +kernel, by decide +kernel⟩
abbrev s_law : Stmt := topS 23
theorem sc_law : FnScope ["_law_script", "_law_at", "_law_pile_here", "_law_names_here", "_law_thing", "_law_k", "_law_j", "_law_claims", "_law_name", "_law_made", "_law_place", "_law_error", "_law_other", "_law_told", "_law_grown", "_law_kept"] ["_law_script"] (defScope s_law) := ⟨rfl, rfl, rfl, by decide +kernel, rfl, by decide +kernel, by decide +kernel⟩
structure Tx (K : PySem.W.Frag) (mg : Str → Option Value) where
  a_InvalidRegion : Addr
  m_InvalidRegion : mg "InvalidRegion" = some (.ref a_InvalidRegion)
  a_InvalidFact : Addr
  m_InvalidFact : mg "InvalidFact" = some (.ref a_InvalidFact)
  a_InvalidPatch : Addr
  m_InvalidPatch : mg "InvalidPatch" = some (.ref a_InvalidPatch)
  a_InvalidClaim : Addr
  m_InvalidClaim : mg "InvalidClaim" = some (.ref a_InvalidClaim)
  a_InvalidDeed : Addr
  m_InvalidDeed : mg "InvalidDeed" = some (.ref a_InvalidDeed)
  a_InvalidColour : Addr
  m_InvalidColour : mg "InvalidColour" = some (.ref a_InvalidColour)
  a_InvalidNumber : Addr
  m_InvalidNumber : mg "InvalidNumber" = some (.ref a_InvalidNumber)
  a_UnknownRegion : Addr
  m_UnknownRegion : mg "UnknownRegion" = some (.ref a_UnknownRegion)
  a_InvalidMap : Addr
  m_InvalidMap : mg "InvalidMap" = some (.ref a_InvalidMap)
  a_InvalidText : Addr
  m_InvalidText : mg "InvalidText" = some (.ref a_InvalidText)
  a_Contradiction : Addr
  m_Contradiction : mg "Contradiction" = some (.ref a_Contradiction)
  a_TooMany : Addr
  m_TooMany : mg "TooMany" = some (.ref a_TooMany)
  a_NothingToUndo : Addr
  m_NothingToUndo : mg "NothingToUndo" = some (.ref a_NothingToUndo)
  a_CoatError : Addr
  m_CoatError : mg "CoatError" = some (.ref a_CoatError)
  f_InvalidRegion___init__ : Addr
  d_InvalidRegion___init__ : FuncData
  F_InvalidRegion___init__ : Fun K "__init__" "InvalidRegion.__init__" s_InvalidRegion___init__ f_InvalidRegion___init__ d_InvalidRegion___init__
  b_InvalidRegion___init__ : Binds K d_InvalidRegion___init__ ["self", "index"] []
  f_InvalidFact___init__ : Addr
  d_InvalidFact___init__ : FuncData
  F_InvalidFact___init__ : Fun K "__init__" "InvalidFact.__init__" s_InvalidFact___init__ f_InvalidFact___init__ d_InvalidFact___init__
  b_InvalidFact___init__ : Binds K d_InvalidFact___init__ ["self", "index"] []
  f_InvalidPatch___init__ : Addr
  d_InvalidPatch___init__ : FuncData
  F_InvalidPatch___init__ : Fun K "__init__" "InvalidPatch.__init__" s_InvalidPatch___init__ f_InvalidPatch___init__ d_InvalidPatch___init__
  b_InvalidPatch___init__ : Binds K d_InvalidPatch___init__ ["self", "index"] []
  f_InvalidClaim___init__ : Addr
  d_InvalidClaim___init__ : FuncData
  F_InvalidClaim___init__ : Fun K "__init__" "InvalidClaim.__init__" s_InvalidClaim___init__ f_InvalidClaim___init__ d_InvalidClaim___init__
  b_InvalidClaim___init__ : Binds K d_InvalidClaim___init__ ["self", "index"] []
  f_InvalidDeed___init__ : Addr
  d_InvalidDeed___init__ : FuncData
  F_InvalidDeed___init__ : Fun K "__init__" "InvalidDeed.__init__" s_InvalidDeed___init__ f_InvalidDeed___init__ d_InvalidDeed___init__
  b_InvalidDeed___init__ : Binds K d_InvalidDeed___init__ ["self", "index"] []
  f_InvalidColour___init__ : Addr
  d_InvalidColour___init__ : FuncData
  F_InvalidColour___init__ : Fun K "__init__" "InvalidColour.__init__" s_InvalidColour___init__ f_InvalidColour___init__ d_InvalidColour___init__
  b_InvalidColour___init__ : Binds K d_InvalidColour___init__ ["self", "colour"] []
  f_InvalidNumber___init__ : Addr
  d_InvalidNumber___init__ : FuncData
  F_InvalidNumber___init__ : Fun K "__init__" "InvalidNumber.__init__" s_InvalidNumber___init__ f_InvalidNumber___init__ d_InvalidNumber___init__
  b_InvalidNumber___init__ : Binds K d_InvalidNumber___init__ ["self", "number"] []
  f_UnknownRegion___init__ : Addr
  d_UnknownRegion___init__ : FuncData
  F_UnknownRegion___init__ : Fun K "__init__" "UnknownRegion.__init__" s_UnknownRegion___init__ f_UnknownRegion___init__ d_UnknownRegion___init__
  b_UnknownRegion___init__ : Binds K d_UnknownRegion___init__ ["self", "region"] []
  f_InvalidMap___init__ : Addr
  d_InvalidMap___init__ : FuncData
  F_InvalidMap___init__ : Fun K "__init__" "InvalidMap.__init__" s_InvalidMap___init__ f_InvalidMap___init__ d_InvalidMap___init__
  b_InvalidMap___init__ : Binds K d_InvalidMap___init__ ["self", "index"] []
  f_InvalidText___init__ : Addr
  d_InvalidText___init__ : FuncData
  F_InvalidText___init__ : Fun K "__init__" "InvalidText.__init__" s_InvalidText___init__ f_InvalidText___init__ d_InvalidText___init__
  b_InvalidText___init__ : Binds K d_InvalidText___init__ ["self", "column"] []
  f_Contradiction___init__ : Addr
  d_Contradiction___init__ : FuncData
  F_Contradiction___init__ : Fun K "__init__" "Contradiction.__init__" s_Contradiction___init__ f_Contradiction___init__ d_Contradiction___init__
  b_Contradiction___init__ : Binds K d_Contradiction___init__ ["self", "there", "back"] []
  f_TooMany___init__ : Addr
  d_TooMany___init__ : FuncData
  F_TooMany___init__ : Fun K "__init__" "TooMany.__init__" s_TooMany___init__ f_TooMany___init__ d_TooMany___init__
  b_TooMany___init__ : Binds K d_TooMany___init__ ["self", "limit"] []
  f_l_mixed : Addr
  d_l_mixed : FuncData
  F_l_mixed : Fun K "_law_mixed" "_law_mixed" s_l_mixed f_l_mixed d_l_mixed
  b_l_mixed : Binds K d_l_mixed ["_law_cell", "_law_k"] []
  m_l_mixed : mg "_law_mixed" = some (.ref f_l_mixed)
  f_l_pile : Addr
  d_l_pile : FuncData
  F_l_pile : Fun K "_law_pile" "_law_pile" s_l_pile f_l_pile d_l_pile
  b_l_pile : Binds K d_l_pile ["_law_script", "_law_k"] []
  m_l_pile : mg "_law_pile" = some (.ref f_l_pile)
  f_l_take : Addr
  d_l_take : FuncData
  F_l_take : Fun K "_law_take" "_law_take" s_l_take f_l_take d_l_take
  b_l_take : Binds K d_l_take ["_law_pile_here", "_law_many"] []
  m_l_take : mg "_law_take" = some (.ref f_l_take)
  f_l_names : Addr
  d_l_names : FuncData
  F_l_names : Fun K "_law_names" "_law_names" s_l_names f_l_names d_l_names
  b_l_names : Binds K d_l_names ["_law_pile_here", "_law_many"] []
  m_l_names : mg "_law_names" = some (.ref f_l_names)
  f_l_classes : Addr
  d_l_classes : FuncData
  F_l_classes : Fun K "_law_classes" "_law_classes" s_l_classes f_l_classes d_l_classes
  b_l_classes : Binds K d_l_classes ["_law_error"] []
  m_l_classes : mg "_law_classes" = some (.ref f_l_classes)
  f_l_ways_right : Addr
  d_l_ways_right : FuncData
  F_l_ways_right : Fun K "_law_ways_right" "_law_ways_right" s_l_ways_right f_l_ways_right d_l_ways_right
  b_l_ways_right : Binds K d_l_ways_right ["_law_names_here"] []
  m_l_ways_right : mg "_law_ways_right" = some (.ref f_l_ways_right)
  f_law : Addr
  d_law : FuncData
  F_law : Fun K "law" "law" s_law f_law d_law
  b_law : Binds K d_law ["_law_script"] []
  m_law : mg "law" = some (.ref f_law)
  e_InvalidRegion : Ox.ExK K a_InvalidRegion
  x_InvalidRegion : Ox.XcI K a_InvalidRegion f_InvalidRegion___init__
  xf_InvalidRegion_index : PySem.W.findIn K (.ref a_InvalidRegion) "index" = some none
  e_InvalidFact : Ox.ExK K a_InvalidFact
  x_InvalidFact : Ox.XcI K a_InvalidFact f_InvalidFact___init__
  xf_InvalidFact_index : PySem.W.findIn K (.ref a_InvalidFact) "index" = some none
  e_InvalidPatch : Ox.ExK K a_InvalidPatch
  x_InvalidPatch : Ox.XcI K a_InvalidPatch f_InvalidPatch___init__
  xf_InvalidPatch_index : PySem.W.findIn K (.ref a_InvalidPatch) "index" = some none
  e_InvalidClaim : Ox.ExK K a_InvalidClaim
  x_InvalidClaim : Ox.XcI K a_InvalidClaim f_InvalidClaim___init__
  xf_InvalidClaim_index : PySem.W.findIn K (.ref a_InvalidClaim) "index" = some none
  e_InvalidDeed : Ox.ExK K a_InvalidDeed
  x_InvalidDeed : Ox.XcI K a_InvalidDeed f_InvalidDeed___init__
  xf_InvalidDeed_index : PySem.W.findIn K (.ref a_InvalidDeed) "index" = some none
  e_InvalidColour : Ox.ExK K a_InvalidColour
  x_InvalidColour : Ox.XcI K a_InvalidColour f_InvalidColour___init__
  xf_InvalidColour_colour : PySem.W.findIn K (.ref a_InvalidColour) "colour" = some none
  e_InvalidNumber : Ox.ExK K a_InvalidNumber
  x_InvalidNumber : Ox.XcI K a_InvalidNumber f_InvalidNumber___init__
  xf_InvalidNumber_number : PySem.W.findIn K (.ref a_InvalidNumber) "number" = some none
  e_UnknownRegion : Ox.ExK K a_UnknownRegion
  x_UnknownRegion : Ox.XcI K a_UnknownRegion f_UnknownRegion___init__
  xf_UnknownRegion_region : PySem.W.findIn K (.ref a_UnknownRegion) "region" = some none
  e_InvalidMap : Ox.ExK K a_InvalidMap
  x_InvalidMap : Ox.XcI K a_InvalidMap f_InvalidMap___init__
  xf_InvalidMap_index : PySem.W.findIn K (.ref a_InvalidMap) "index" = some none
  e_InvalidText : Ox.ExK K a_InvalidText
  x_InvalidText : Ox.XcI K a_InvalidText f_InvalidText___init__
  xf_InvalidText_column : PySem.W.findIn K (.ref a_InvalidText) "column" = some none
  e_Contradiction : Ox.ExK K a_Contradiction
  x_Contradiction : Ox.XcI K a_Contradiction f_Contradiction___init__
  xf_Contradiction_there : PySem.W.findIn K (.ref a_Contradiction) "there" = some none
  xf_Contradiction_back : PySem.W.findIn K (.ref a_Contradiction) "back" = some none
  e_TooMany : Ox.ExK K a_TooMany
  x_TooMany : Ox.XcI K a_TooMany f_TooMany___init__
  xf_TooMany_limit : PySem.W.findIn K (.ref a_TooMany) "limit" = some none
  e_NothingToUndo : Ox.ExK K a_NothingToUndo
  x_NothingToUndo : Ox.Xc0 K a_NothingToUndo
  n_int : mg "int" = none
  n_len : mg "len" = none
  n_abs : mg "abs" = none
  n_range : mg "range" = none
  n_enumerate : mg "enumerate" = none
  n_list : mg "list" = none
  n_isinstance : mg "isinstance" = none
  n_ValueError : mg "ValueError" = none
  n_LookupError : mg "LookupError" = none
  n_TypeError : mg "TypeError" = none
  n_ArithmeticError : mg "ArithmeticError" = none
  kits : Ox.Kits K [a_InvalidRegion, a_InvalidFact, a_InvalidPatch, a_InvalidClaim, a_InvalidDeed, a_InvalidColour, a_InvalidNumber, a_UnknownRegion, a_InvalidMap, a_InvalidText, a_Contradiction, a_TooMany, a_NothingToUndo] a_CoatError
end K19

set_option Elab.async false
set_option linter.all false
set_option maxRecDepth 100000
set_option maxHeartbeats 4000000
/-! law k19: the makers of errors, the draws -/
namespace K19
open PySem PySem.Spec PyProof.Rows L2
local macro_rules | `(tactic| walk_at "ne") => `(tactic| first | assumption | (apply Ne.symm; assumption))
local macro_rules | `(tactic| walk_at "hp") => `(tactic| ((repeat (first | rw [upd_same] | rw [upd_ne (by walk_at "ne")])); try assumption))
theorem same_upd {H : Hp} {p : Addr} {o : HO} (h : H p = none) : Same H (upd H p o) := fun b x e => by
  rw [upd_ne (ne_of_none e h)]
  exact e
/-- all that was tracked but what stands at p is as it was -/
def But (p : Addr) (H H' : Hp) : Prop := ∀ b o, b ≠ p → H b = some o → H' b = some o
theorem But.refl (p : Addr) (H : Hp) : But p H H := fun _ _ _ h => h
theorem But.trans {p : Addr} {H H1 H2 : Hp} (a : But p H H1) (b : But p H1 H2) : But p H H2 := fun c o n h => b c o n (a c o n h)
theorem But.upd {p : Addr} {H : Hp} {o : HO} : But p H (upd H p o) := fun b x n e => by
  rw [upd_ne n]
  exact e
theorem But.same {p : Addr} {H H' : Hp} (a : Same H H') : But p H H' := fun b o _ h => a b o h
theorem But.free {p : Addr} {H H' : Hp} (e : But p H H') {l : Addr} (n : l ≠ p) (h : H' l = Option.none) : H l = Option.none := by
  cases q : H l with
  | none => rfl
  | some o =>
    rw [e l o n q] at h
    cases h
/-- the pile of draws: three whole numbers; the third one at most n -/
def Pile (H : Hp) (p : Addr) (n : Nat) : Prop := ∃ g s c : Int, H p = some (.lst [.int g, .int s, .int c]) ∧ 0 ≤ g ∧ g < 10 ^ 150 ∧ 0 ≤ s ∧ s < 2147483647 ∧ 0 ≤ c ∧ c ≤ n
theorem Pile.mono {H : Hp} {p : Addr} {n m : Nat} (h : Pile H p n) (e : n ≤ m) : Pile H p m := by
  obtain ⟨g, s, c, h1, h2, h3, h4, h5, h6, h7⟩ := h
  exact ⟨g, s, c, h1, h2, h3, h4, h5, h6, by omega⟩
theorem Pile.same {H H' : Hp} {p : Addr} {n : Nat} (h : Pile H p n) (e : Same H H') : Pile H' p n := by
  obtain ⟨g, s, c, h1, h2⟩ := h
  exact ⟨g, s, c, e _ _ h1, h2⟩
def spI (C : Addr) (f : Str) : Sp := fun vs H Q _ => ∃ (a : Addr) (y : V), vs = [.ref a, y] ∧ H a = some (exo a C none) ∧ ∀ dx, H dx = none → dx ≠ a → Q .non (upd (upd H dx (exd dx [(f, y)])) a (exo a C (some dx)))
def spC (C : Addr) : Sp := fun vs H Q _ => ∃ (a p q : Addr) (xs ys : List V), vs = [.ref a, .ref p, .ref q] ∧ H a = some (exo a C none) ∧ H p = some (.lst xs) ∧ H q = some (.lst ys) ∧
  ∀ H' d l m, But a H H' → H d = none → H l = none → H m = none → l ≠ m → Ox.Xat H' a C d [("back", .ref m), ("there", .ref l)] → H' l = some (.lst xs) → H' m = some (.lst ys) → Q .non H'
def spMixed : Sp := fun vs H Q _ => ∃ (c k : Int), vs = [.int c, .int k] ∧ 0 ≤ k ∧ k < 2 ^ 62 ∧ ∀ r : Int, 0 ≤ r → Q (.int r) H
def spPile (K : PySem.W.Frag) : Sp := fun vs H Q _ => ∃ (a : Addr) (ns : List Int) (k : Nat), vs = [.ref a, .int k] ∧ SqL K H a (ns.map V.int) ∧ ns.length ≤ 63 ∧ k ≤ 63 ∧ ∀ p H', H p = none → Same H H' → Pile H' p (97 * k) → Q (.ref p) H'
def spTake : Sp := fun vs H Q _ => ∃ (p : Addr) (n : Nat) (many : Int), vs = [.ref p, .int many] ∧ Pile H p n ∧ n < 2 ^ 40 ∧ 1 ≤ many ∧ many ≤ 2 ^ 29 * 2 ∧ many < 1073741824 ∧ ∀ d H', 0 ≤ d → d < many → But p H H' → Pile H' p (n + 1) → Q (.int d) H'
section
variable {P : Program} {w : World} {K : PySem.W.Frag} {mg : Str → Option Value} {base : Heap}
theorem ok_InvalidRegion___init__ (T : Tx K mg) : FnOk P w K mg base CX0 1 T.f_InvalidRegion___init__ T.d_InvalidRegion___init__ ["self", "index"] (spI T.a_InvalidRegion "index") := by
  refine T.F_InvalidRegion___init__.ok sc_InvalidRegion___init__ (fun vs H Q E h => ?_) (fun cdv A outer s H vs Q E hr h => ?_)
  · obtain ⟨a, y, rfl, _⟩ := h
    rfl
  · obtain ⟨a, y, rfl, ha, q⟩ := h
    exact ⟨_, (pss_one (ps_ost (pv 0) (pv 1))), ⟨_, rfl, _, rfl, a, T.a_InvalidRegion, rfl, T.x_InvalidRegion.oe, T.xf_InvalidRegion_index, .inl ⟨ha, fun dx hn hne => q dx hn hne⟩⟩⟩
theorem ok_InvalidFact___init__ (T : Tx K mg) : FnOk P w K mg base CX0 1 T.f_InvalidFact___init__ T.d_InvalidFact___init__ ["self", "index"] (spI T.a_InvalidFact "index") := by
  refine T.F_InvalidFact___init__.ok sc_InvalidFact___init__ (fun vs H Q E h => ?_) (fun cdv A outer s H vs Q E hr h => ?_)
  · obtain ⟨a, y, rfl, _⟩ := h
    rfl
  · obtain ⟨a, y, rfl, ha, q⟩ := h
    exact ⟨_, (pss_one (ps_ost (pv 0) (pv 1))), ⟨_, rfl, _, rfl, a, T.a_InvalidFact, rfl, T.x_InvalidFact.oe, T.xf_InvalidFact_index, .inl ⟨ha, fun dx hn hne => q dx hn hne⟩⟩⟩
theorem ok_InvalidPatch___init__ (T : Tx K mg) : FnOk P w K mg base CX0 1 T.f_InvalidPatch___init__ T.d_InvalidPatch___init__ ["self", "index"] (spI T.a_InvalidPatch "index") := by
  refine T.F_InvalidPatch___init__.ok sc_InvalidPatch___init__ (fun vs H Q E h => ?_) (fun cdv A outer s H vs Q E hr h => ?_)
  · obtain ⟨a, y, rfl, _⟩ := h
    rfl
  · obtain ⟨a, y, rfl, ha, q⟩ := h
    exact ⟨_, (pss_one (ps_ost (pv 0) (pv 1))), ⟨_, rfl, _, rfl, a, T.a_InvalidPatch, rfl, T.x_InvalidPatch.oe, T.xf_InvalidPatch_index, .inl ⟨ha, fun dx hn hne => q dx hn hne⟩⟩⟩
theorem ok_InvalidClaim___init__ (T : Tx K mg) : FnOk P w K mg base CX0 1 T.f_InvalidClaim___init__ T.d_InvalidClaim___init__ ["self", "index"] (spI T.a_InvalidClaim "index") := by
  refine T.F_InvalidClaim___init__.ok sc_InvalidClaim___init__ (fun vs H Q E h => ?_) (fun cdv A outer s H vs Q E hr h => ?_)
  · obtain ⟨a, y, rfl, _⟩ := h
    rfl
  · obtain ⟨a, y, rfl, ha, q⟩ := h
    exact ⟨_, (pss_one (ps_ost (pv 0) (pv 1))), ⟨_, rfl, _, rfl, a, T.a_InvalidClaim, rfl, T.x_InvalidClaim.oe, T.xf_InvalidClaim_index, .inl ⟨ha, fun dx hn hne => q dx hn hne⟩⟩⟩
theorem ok_InvalidDeed___init__ (T : Tx K mg) : FnOk P w K mg base CX0 1 T.f_InvalidDeed___init__ T.d_InvalidDeed___init__ ["self", "index"] (spI T.a_InvalidDeed "index") := by
  refine T.F_InvalidDeed___init__.ok sc_InvalidDeed___init__ (fun vs H Q E h => ?_) (fun cdv A outer s H vs Q E hr h => ?_)
  · obtain ⟨a, y, rfl, _⟩ := h
    rfl
  · obtain ⟨a, y, rfl, ha, q⟩ := h
    exact ⟨_, (pss_one (ps_ost (pv 0) (pv 1))), ⟨_, rfl, _, rfl, a, T.a_InvalidDeed, rfl, T.x_InvalidDeed.oe, T.xf_InvalidDeed_index, .inl ⟨ha, fun dx hn hne => q dx hn hne⟩⟩⟩
theorem ok_InvalidColour___init__ (T : Tx K mg) : FnOk P w K mg base CX0 1 T.f_InvalidColour___init__ T.d_InvalidColour___init__ ["self", "colour"] (spI T.a_InvalidColour "colour") := by
  refine T.F_InvalidColour___init__.ok sc_InvalidColour___init__ (fun vs H Q E h => ?_) (fun cdv A outer s H vs Q E hr h => ?_)
  · obtain ⟨a, y, rfl, _⟩ := h
    rfl
  · obtain ⟨a, y, rfl, ha, q⟩ := h
    exact ⟨_, (pss_one (ps_ost (pv 0) (pv 1))), ⟨_, rfl, _, rfl, a, T.a_InvalidColour, rfl, T.x_InvalidColour.oe, T.xf_InvalidColour_colour, .inl ⟨ha, fun dx hn hne => q dx hn hne⟩⟩⟩
theorem ok_InvalidNumber___init__ (T : Tx K mg) : FnOk P w K mg base CX0 1 T.f_InvalidNumber___init__ T.d_InvalidNumber___init__ ["self", "number"] (spI T.a_InvalidNumber "number") := by
  refine T.F_InvalidNumber___init__.ok sc_InvalidNumber___init__ (fun vs H Q E h => ?_) (fun cdv A outer s H vs Q E hr h => ?_)
  · obtain ⟨a, y, rfl, _⟩ := h
    rfl
  · obtain ⟨a, y, rfl, ha, q⟩ := h
    exact ⟨_, (pss_one (ps_ost (pv 0) (pv 1))), ⟨_, rfl, _, rfl, a, T.a_InvalidNumber, rfl, T.x_InvalidNumber.oe, T.xf_InvalidNumber_number, .inl ⟨ha, fun dx hn hne => q dx hn hne⟩⟩⟩
theorem ok_UnknownRegion___init__ (T : Tx K mg) : FnOk P w K mg base CX0 1 T.f_UnknownRegion___init__ T.d_UnknownRegion___init__ ["self", "region"] (spI T.a_UnknownRegion "region") := by
  refine T.F_UnknownRegion___init__.ok sc_UnknownRegion___init__ (fun vs H Q E h => ?_) (fun cdv A outer s H vs Q E hr h => ?_)
  · obtain ⟨a, y, rfl, _⟩ := h
    rfl
  · obtain ⟨a, y, rfl, ha, q⟩ := h
    exact ⟨_, (pss_one (ps_ost (pv 0) (pv 1))), ⟨_, rfl, _, rfl, a, T.a_UnknownRegion, rfl, T.x_UnknownRegion.oe, T.xf_UnknownRegion_region, .inl ⟨ha, fun dx hn hne => q dx hn hne⟩⟩⟩
theorem ok_InvalidMap___init__ (T : Tx K mg) : FnOk P w K mg base CX0 1 T.f_InvalidMap___init__ T.d_InvalidMap___init__ ["self", "index"] (spI T.a_InvalidMap "index") := by
  refine T.F_InvalidMap___init__.ok sc_InvalidMap___init__ (fun vs H Q E h => ?_) (fun cdv A outer s H vs Q E hr h => ?_)
  · obtain ⟨a, y, rfl, _⟩ := h
    rfl
  · obtain ⟨a, y, rfl, ha, q⟩ := h
    exact ⟨_, (pss_one (ps_ost (pv 0) (pv 1))), ⟨_, rfl, _, rfl, a, T.a_InvalidMap, rfl, T.x_InvalidMap.oe, T.xf_InvalidMap_index, .inl ⟨ha, fun dx hn hne => q dx hn hne⟩⟩⟩
theorem ok_InvalidText___init__ (T : Tx K mg) : FnOk P w K mg base CX0 1 T.f_InvalidText___init__ T.d_InvalidText___init__ ["self", "column"] (spI T.a_InvalidText "column") := by
  refine T.F_InvalidText___init__.ok sc_InvalidText___init__ (fun vs H Q E h => ?_) (fun cdv A outer s H vs Q E hr h => ?_)
  · obtain ⟨a, y, rfl, _⟩ := h
    rfl
  · obtain ⟨a, y, rfl, ha, q⟩ := h
    exact ⟨_, (pss_one (ps_ost (pv 0) (pv 1))), ⟨_, rfl, _, rfl, a, T.a_InvalidText, rfl, T.x_InvalidText.oe, T.xf_InvalidText_column, .inl ⟨ha, fun dx hn hne => q dx hn hne⟩⟩⟩
theorem ok_TooMany___init__ (T : Tx K mg) : FnOk P w K mg base CX0 1 T.f_TooMany___init__ T.d_TooMany___init__ ["self", "limit"] (spI T.a_TooMany "limit") := by
  refine T.F_TooMany___init__.ok sc_TooMany___init__ (fun vs H Q E h => ?_) (fun cdv A outer s H vs Q E hr h => ?_)
  · obtain ⟨a, y, rfl, _⟩ := h
    rfl
  · obtain ⟨a, y, rfl, ha, q⟩ := h
    exact ⟨_, (pss_one (ps_ost (pv 0) (pv 1))), ⟨_, rfl, _, rfl, a, T.a_TooMany, rfl, T.x_TooMany.oe, T.xf_TooMany_limit, .inl ⟨ha, fun dx hn hne => q dx hn hne⟩⟩⟩
theorem ok_Contradiction___init__ (T : Tx K mg) : FnOk P w K mg base CX0 1 T.f_Contradiction___init__ T.d_Contradiction___init__ ["self", "there", "back"] (spC T.a_Contradiction) := by
  refine T.F_Contradiction___init__.ok sc_Contradiction___init__ (fun vs H Q E h => ?_) (fun cdv A outer s H vs Q E hr h => ?_)
  · obtain ⟨a, p, q, xs, ys, rfl, _⟩ := h
    rfl
  · obtain ⟨a, p, q, xs, ys, rfl, ha, hp, hq, k⟩ := h
    refine ⟨_, (pss_cons (ps_ost (pv 0) (pe_callTy (T := "list") call_list_of (by rfl) T.n_list (by decide +kernel) (pa_cons (pv 1) pa_nil)))
  (pss_one (ps_ost (pv 0) (pe_callTy (T := "list") call_list_of (by rfl) T.n_list (by decide +kernel) (pa_cons (pv 2) pa_nil))))), ?_⟩
    have npa : p ≠ a := ne_of hp ha (by intro z; cases z)
    have nqa : q ≠ a := ne_of hq ha (by intro z; cases z)
    refine ⟨_, rfl, p, xs, rfl, .inl (SqL.of hp), fun l hl => ?_⟩
    have nal := ne_of_none ha hl
    have nql := ne_of_none hq hl
    have npl := ne_of_none hp hl
    refine ⟨_, rfl, a, T.a_Contradiction, rfl, T.x_Contradiction.oe, T.xf_Contradiction_there, .inl ⟨by walk_at "hp", fun d hd hda => ?_⟩⟩
    have nld : l ≠ d := ne_of_none upd_same hd
    have nqd : q ≠ d := ne_of_none (o := .lst ys) (by walk_at "hp") hd
    have hd0 : H d = none := by rw [upd_ne nld.symm] at hd; exact hd
    refine ⟨_, rfl, q, ys, rfl, .inl (SqL.of (by walk_at "hp")), fun m hm => ?_⟩
    have nam : a ≠ m := ne_of_none (o := exo a T.a_Contradiction (some d)) (by walk_at "hp") hm
    have nlm : l ≠ m := ne_of_none (o := .lst xs) (by walk_at "hp") hm
    have ndm : d ≠ m := ne_of_none (o := exd d [("there", V.ref l)]) (by walk_at "hp") hm
    have hm0 : H m = none := by rw [upd_ne nam.symm, upd_ne ndm.symm, upd_ne nlm.symm] at hm; exact hm
    refine ⟨_, rfl, a, T.a_Contradiction, rfl, T.x_Contradiction.oe, T.xf_Contradiction_back, .inr ⟨d, [("there", .ref l)], by walk_at "hp", by walk_at "hp", (by show 1 ≤ 900; decide), ?_⟩⟩
    refine k _ d l m ?_ hd0 hl hm0 nlm ⟨by walk_at "hp", by walk_at "hp"⟩ (by walk_at "hp") (by walk_at "hp")
    intro b o nb e
    have nbl := ne_of_none e hl
    have nbd := ne_of_none e hd0
    have nbm := ne_of_none e hm0
    walk_at "hp"
theorem ok_l_mixed (T : Tx K mg) : FnOk P w K mg base CX0 1 T.f_l_mixed T.d_l_mixed ["_law_cell", "_law_k"] spMixed := by
  refine T.F_l_mixed.ok sc_l_mixed (fun vs H Q E h => ?_) (fun cdv A outer s H vs Q E hr h => ?_)
  · obtain ⟨c, k, rfl, _⟩ := h
    rfl
  · obtain ⟨c, k, rfl, hk0, hk, q⟩ := h
    refine ⟨_, (pss_cons (ps_set (i := 2) sc_l_mixed.nd rfl (Or.inl rfl) (pe_op op_mod (pe_op op_add (pe_op op_add (pe_op op_mul (pe_op op_mod (pe_callTy (T := "int") call_int1 (by rfl) T.n_int (by decide +kernel) (pa_cons (pv 0) pa_nil)) pe_int) pe_int) (pe_op op_mul (pv 1) pe_int)) pe_int) pe_int))
  (pss_cons (ps_set (i := 2) sc_l_mixed.nd rfl (Or.inl rfl) (pe_op op_mod (pe_op op_mul (pv 2) (pv 2)) pe_int))
  (pss_one (ps_ret (pe_op op_fdiv (pe_op op_mod (pe_op op_mul (pv 2) (pv 2)) pe_int) pe_int))))), ?_⟩
    have h1 : 0 ≤ c % 2147483647 := Int.emod_nonneg _ (by decide)
    have h2 : c % 2147483647 < 2147483647 := Int.emod_lt_of_pos _ (by decide)
    refine ⟨_, rfl, .inl ⟨c, rfl, _, _, rfl, rfl, (by show (0 : Int) < 2147483647; decide), ?_⟩⟩
    refine ⟨_, _, rfl, rfl, .inl ⟨by omega, by omega⟩, _, rfl, _, _, rfl, rfl, .inl ⟨by omega, by omega⟩, _, _, rfl, rfl, _, _, rfl, rfl, _, _, rfl, rfl, (by show (0 : Int) < 2147483647; decide), ?_⟩
    generalize hx : (c % 2147483647 * 48271 + k * 69621 + 11) % 2147483647 = x
    have h3 : 0 ≤ x := by rw [← hx]; exact Int.emod_nonneg _ (by decide)
    have h4 : x < 2147483647 := by rw [← hx]; exact Int.emod_lt_of_pos _ (by decide)
    refine ⟨_, rfl, _, rfl, _, _, rfl, rfl, .inl ⟨by omega, by omega⟩, _, _, rfl, rfl, (by show (0 : Int) < 2147483629; decide), ?_⟩
    generalize hy : x * x % 2147483629 = y
    have h5 : 0 ≤ y := by rw [← hy]; exact Int.emod_nonneg _ (by decide)
    have h6 : y < 2147483629 := by rw [← hy]; exact Int.emod_lt_of_pos _ (by decide)
    refine ⟨_, rfl, _, rfl, _, _, rfl, rfl, .inl ⟨by omega, by omega⟩, _, _, rfl, rfl, (by show (0 : Int) < 2147483587; decide), _, _, rfl, rfl, (by show (0 : Int) < 64 ∧ (64 : Int) < 1073741824; decide), ?_⟩
    refine q _ ?_
    exact Int.ediv_nonneg (Int.emod_nonneg _ (by decide)) (by decide)
theorem pow50 : ((10 : Int) ^ (50 : Int).toNat * 10 ^ (50 : Int).toNat * 10 ^ (50 : Int).toNat) = 10 ^ 150 := by decide +kernel
theorem ok_l_pile (T : Tx K mg) : FnOk P w K mg base CX0 1 T.f_l_pile T.d_l_pile ["_law_script", "_law_k"] (spPile K) := by
  refine T.F_l_pile.ok sc_l_pile (fun vs H Q E h => ?_) (fun cdv A outer s H vs Q E hr h => ?_)
  · obtain ⟨a, ns, k, rfl, _⟩ := h
    rfl
  · obtain ⟨a, ns, k, rfl, hS, hlen, hk, q⟩ := h
    refine ⟨_, (pss_cons (ps_set (i := 2) sc_l_pile.nd rfl (Or.inl rfl) pe_int)
  (Evl.pss_cut (ps_if (pt_cmpR op_lt (pv 1) (pe_callB (id := "len") call_len (by rfl) T.n_len PySem.boot_len (pa_cons (pv 0) pa_nil)) (nomark _)) (pss_one (ps_set (i := 2) sc_l_pile.nd rfl (Or.inl rfl) (pe_ix ix_list (pv 0) (pv 1) (fun _ _ => rfl)))) pss_nil)
  (pss_cons (ps_set (i := 3) sc_l_pile.nd rfl (Or.inl rfl) (pe_op op_mod (pe_callTy (T := "int") call_int1 (by rfl) T.n_int (by decide +kernel) (pa_cons (pv 2) pa_nil)) (pe_op op_mulW (pe_op op_mulW (pe_op op_pow pe_int pe_int) (pe_op op_pow pe_int pe_int)) (pe_op op_pow pe_int pe_int))))
  (pss_one (ps_ret (pe_lst (pa_cons (pe_op op_mul (pv 3) (pe_callTy (T := "int") call_int1 (by rfl) T.n_int (by decide +kernel) (pa_cons (pe_cmpR op_ge (pe_callB (id := "abs") call_abs (by rfl) T.n_abs (by decide +kernel) (pa_cons (pv 2) pa_nil)) (pe_op op_pow pe_int pe_int) (nomark _)) pa_nil))) (pa_cons (pe_op op_mod (pe_callTy (T := "int") call_int1 (by rfl) T.n_int (by decide +kernel) (pa_cons (pv 2) pa_nil)) pe_int) (pa_cons (pe_op op_mul pe_int (pv 1)) pa_nil))))))))), ?_⟩
    refine ⟨fun σ' H' => ∃ c : Int, σ' = [some (.ref a), some (.int k), some (.int c), none] ∧ H' = H, ?_, ?_⟩
    · refine ⟨_, rfl, _, rfl, .ref a, ns.length, rfl, .inl ⟨_, hS, by rw [List.length_map]⟩, _, _, rfl, rfl, _, rfl, ?_⟩
      refine ite2 (fun hlt => ?_) (fun hge => ⟨0, rfl, rfl⟩)
      have hlt := of_decide_eq_true hlt
      have hk : k < ns.length := by omega
      have hg : (ns.map V.int)[k]? = some (.int ns[k]) := by
        rw [List.getElem?_map, List.getElem?_eq_getElem hk]
        rfl
      exact ⟨_, rfl, _, rfl, a, _, _, _, rfl, rfl, hS, atI_nat hg, _, rfl, rfl⟩
    · rintro σ' H' ⟨c, rfl, rfl⟩
      have hp : (0 : Int) ≤ 50 ∧ (50 : Int) ≤ 1000000 ∧ (10 : Int).natAbs < 2 ^ 64 := by decide
      have hw1 : CMulW ((10 : Int) ^ (50 : Int).toNat) ((10 : Int) ^ (50 : Int).toNat) := wide_mul (a := 200) (b := 200) (by decide +kernel) (by decide +kernel) (by decide) (by decide) (by decide)
      have hw2 : CMulW ((10 : Int) ^ (50 : Int).toNat * (10 : Int) ^ (50 : Int).toNat) ((10 : Int) ^ (50 : Int).toNat) := wide_mul (a := 400) (b := 200) (by decide +kernel) (by decide +kernel) (by decide) (by decide) (by decide)
      refine ⟨_, rfl, .inl ⟨c, rfl, ?_⟩⟩
      refine ⟨_, _, rfl, rfl, hp, _, _, rfl, rfl, hp, _, _, rfl, rfl, hw1, _, _, rfl, rfl, hp, _, _, rfl, rfl, hw2, ?_⟩
      refine ⟨c, 10 ^ 150, rfl, congrArg V.int pow50, (by show (0 : Int) < 10 ^ 150; decide +kernel), ?_⟩
      have h0 : 0 ≤ c % 10 ^ 150 := Int.emod_nonneg _ (by decide +kernel)
      have h1 : c % 10 ^ 150 < 10 ^ 150 := Int.emod_lt_of_pos _ (by decide +kernel)
      generalize hb : decide ((10 : Int) ^ (18 : Int).toNat ≤ if c < 0 then -c else c) = b
      have hc2 : (0 : Int) ≤ 18 ∧ (18 : Int) ≤ 1000000 ∧ (10 : Int).natAbs < 2 ^ 64 := by decide
      have h2 : 0 ≤ c % 2147483647 := Int.emod_nonneg _ (by decide)
      have h3 : c % 2147483647 < 2147483647 := Int.emod_lt_of_pos _ (by decide)
      refine ⟨_, rfl, _, rfl, c, rfl, _, _, rfl, rfl, hc2, _, _, rfl, rfl, ?_⟩
      refine .inr ⟨b, congrArg (fun z => [V.bl z]) hb, ?_⟩
      have hm : CMul (c % 10 ^ 150) (if b = true then 1 else 0) := .inr (by split <;> omega)
      refine ⟨_, _, rfl, rfl, hm, _, rfl, .inl ⟨c, rfl, _, _, rfl, rfl, (by show (0 : Int) < 2147483647; decide), ?_⟩⟩
      refine ⟨_, rfl, _, _, rfl, rfl, .inl (by constructor <;> decide), (by show 3 ≤ sizeLine; decide), fun p hp => ?_⟩
      refine q p _ hp (same_upd hp) ⟨_, _, _, upd_same, ?_, ?_, h2, h3, by omega, by omega⟩
      · split <;> omega
      · split <;> omega
theorem ok_l_take (T : Tx K mg) : FnOk P w K mg base CX0 2 T.f_l_take T.d_l_take ["_law_pile_here", "_law_many"] spTake := by
  refine T.F_l_take.ok sc_l_take (fun vs H Q E h => ?_) (fun cdv A outer s H vs Q E hr h => ?_)
  · obtain ⟨p, n, many, rfl, _⟩ := h
    rfl
  · obtain ⟨p, n, many, rfl, ⟨g, z, c, hp, h0, h1, h2, h3, h4, h5⟩, hn, m1, _, m2, q⟩ := h
    refine ⟨_, (pss_cons (ps_if (pt_cmpR op_eq (pe_ix ix_list (pv 0) pe_int (fun _ _ => rfl)) pe_int (nomark _)) (pss_cons (ps_asg (pe_op op_add (pe_ix ix_list (pv 0) pe_int (fun _ _ => rfl)) pe_int) (pg_sub (pv 0) pe_int set_list))
  (pss_one (ps_ret (pe_op op_mod (pe_call (ok_l_mixed T) hr (by rfl) T.m_l_mixed T.F_l_mixed.kp T.b_l_mixed .nil pass0 (pa_cons (pe_ix ix_list (pv 0) pe_int (fun _ _ => rfl)) (pa_cons (pe_ix ix_list (pv 0) pe_int (fun _ _ => rfl)) pa_nil))) (pv 1))))) pss_nil)
  (pss_cons (ps_set (i := 2) sc_l_take.nd rfl (Or.inl rfl) (pe_op op_mod (pe_callTy (T := "int") call_int1 (by rfl) T.n_int (by decide +kernel) (pa_cons (pe_ix ix_list (pv 0) pe_int (fun _ _ => rfl)) pa_nil)) (pv 1)))
  (pss_cons (ps_asg (pe_op op_fdiv (pe_ix ix_list (pv 0) pe_int (fun _ _ => rfl)) (pv 1)) (pg_sub (pv 0) pe_int set_list))
  (pss_one (ps_ret (pv 2)))))), ?_⟩
    have i0 : atI [V.int g, .int z, .int c] 0 = some (.int g) := rfl
    have i1 : atI [V.int g, .int z, .int c] 1 = some (.int z) := rfl
    have i2 : atI [V.int g, .int z, .int c] 2 = some (.int c) := rfl
    refine ⟨_, rfl, p, _, _, _, rfl, rfl, SqL.of hp, i0, rfl, _, rfl, ?_⟩
    refine ite2 (fun e => ?_) (fun e => ?_)
    · have e : g = 0 := V.int.inj (of_decide_eq_true e)
      subst e
      refine ⟨_, rfl, p, _, _, _, rfl, rfl, SqL.of hp, i2, _, _, rfl, rfl, _, rfl, p, _, _, 2, rfl, rfl, hp, rfl, ?_⟩
      refine ⟨_, rfl, p, _, _, _, rfl, rfl, SqL.of upd_same, rfl, _, rfl, p, _, _, _, rfl, rfl, SqL.of upd_same, rfl, _, _, rfl, by omega, by omega, fun r hr0 => ?_⟩
      refine ⟨_, rfl, _, _, rfl, rfl, (show 0 < many by omega), ?_⟩
      exact q _ _ (Int.emod_nonneg _ (by omega)) (Int.emod_lt_of_pos _ (by omega)) But.upd ⟨0, z, c + 1, upd_same, by omega, by decide +kernel, h2, h3, by omega, by omega⟩
    · refine ⟨_, rfl, p, _, _, _, rfl, rfl, SqL.of hp, i0, .inl ⟨g, rfl, _, rfl, _, _, rfl, rfl, (show 0 < many by omega), ?_⟩⟩
      refine ⟨_, rfl, p, _, _, _, rfl, rfl, SqL.of hp, i0, _, rfl, _, _, rfl, rfl, (show 0 < many ∧ many < 1073741824 by omega), _, rfl, p, _, _, 0, rfl, rfl, hp, rfl, ?_⟩
      refine ⟨_, rfl, ?_⟩
      have hd : g / many ≤ g := Int.ediv_le_self _ h0
      exact q _ _ (Int.emod_nonneg _ (by omega)) (Int.emod_lt_of_pos _ (by omega)) But.upd ⟨g / many, z, c, upd_same, Int.ediv_nonneg h0 (by omega), by omega, h2, h3, by omega, by omega⟩
end
end K19

set_option Elab.async false
set_option linter.all false
set_option maxRecDepth 100000
set_option maxHeartbeats 4000000
/-! law k19: the names -/
namespace K19
open PySem PySem.Spec PyProof.Rows L2
local macro_rules | `(tactic| walk_at "ne") => `(tactic| first | assumption | (apply Ne.symm; assumption))
local macro_rules | `(tactic| walk_at "hp") => `(tactic| ((repeat (first | rw [upd_same] | rw [upd_ne (by walk_at "ne")])); try assumption))
def spNames : Sp := fun vs H Q _ => ∃ (p : Addr) (n m : Nat), vs = [.ref p, .int m] ∧ Pile H p n ∧ n < 2 ^ 39 ∧ 1 ≤ m ∧ m ≤ 26 ∧
  ∀ (xs : List Str) (L : Addr) (H' : Hp), xs.length = m → Nm.AllOk xs → H L = none → But p H H' → Pile H' p (n + 20) → H' L = some (.lst (xs.map V.str)) → Q (.ref L) H'
def base (z : Str) (k sh stp i : Nat) : Str := cutS z none (some (k : Int)) ++ ⟨#[97 + (sh + stp * i) % 26]⟩ ++ cutS z (some (k : Int)) none
def full (z : Str) (k sh stp : Nat) (tl : Str) (i : Nat) : Str := base z k sh stp i ++ (if i % 2 = 1 then tl else Str.empty)
theorem full_code (z : Str) (k sh stp : Nat) (tl : Str) (i : Nat) : (full z k sh stp tl i).cps.toList = Nm.code z.cps.toList k sh stp tl.cps.toList i := by
  unfold full base Nm.code
  show (((cutS z none (some (k : Int))).cps ++ #[97 + (sh + stp * i) % 26] ++ (cutS z (some (k : Int)) none).cps) ++ (if i % 2 = 1 then tl else Str.empty).cps).toList = _
  rw [Array.toList_append, Array.toList_append, Array.toList_append, Nm.cutS_to, Nm.cutS_from]
  split <;> rfl
theorem steps_at : ∀ i : Fin 12, ∃ stp : Nat, atI [V.int 1, .int 3, .int 5, .int 7, .int 9, .int 11, .int 15, .int 17, .int 19, .int 21, .int 23, .int 25] (i.1 : Int) = some (.int stp) ∧ Nm.Step stp ∧ stp ≤ 25 := by
  intro i
  unfold Nm.Step
  match i with
  | ⟨0, _⟩ => exact ⟨1, rfl, by omega, by omega⟩
  | ⟨1, _⟩ => exact ⟨3, rfl, by omega, by omega⟩
  | ⟨2, _⟩ => exact ⟨5, rfl, by omega, by omega⟩
  | ⟨3, _⟩ => exact ⟨7, rfl, by omega, by omega⟩
  | ⟨4, _⟩ => exact ⟨9, rfl, by omega, by omega⟩
  | ⟨5, _⟩ => exact ⟨11, rfl, by omega, by omega⟩
  | ⟨6, _⟩ => exact ⟨15, rfl, by omega, by omega⟩
  | ⟨7, _⟩ => exact ⟨17, rfl, by omega, by omega⟩
  | ⟨8, _⟩ => exact ⟨19, rfl, by omega, by omega⟩
  | ⟨9, _⟩ => exact ⟨21, rfl, by omega, by omega⟩
  | ⟨10, _⟩ => exact ⟨23, rfl, by omega, by omega⟩
  | ⟨11, _⟩ => exact ⟨25, rfl, by omega, by omega⟩
theorem small {n : Nat} (h : n ≤ 100000) : n ≤ sizeLine := Nat.le_trans h (by decide)
theorem small' {n : Nat} (h : n ≤ 100000) : n < sizeLine := Nat.lt_of_le_of_lt h (by decide)
theorem yesIf {σ : L2.St} {H : Hp} {A B : Hp → Prop} (h : A H) : tYes σ H (fun b H3 => if b = true then A H3 else B H3) := by
  show (if true = true then A H else B H)
  rw [if_pos rfl]
  exact h
theorem andIf {t u : TT} {σ : L2.St} {H : Hp} {A B : Hp → Prop} (a b : Bool) (h1 : ∀ Q : Bool → Hp → Prop, Q a H → t σ H Q) (h2 : ∀ Q : Bool → Hp → Prop, Q b H → u σ H Q) (hT : a = true → b = true → A H) (hF : ¬ (a = true ∧ b = true) → B H) :
    tAnd t u σ H (fun c H3 => if c = true then A H3 else B H3) := by
  refine h1 _ ?_
  cases a with
  | false =>
    show (if false = true then A H else B H)
    exact iteF (hF (fun z => nomatch z.1))
  | true =>
    show u σ H _
    refine h2 _ ?_
    cases b with
    | false =>
      show (if false = true then A H else B H)
      exact iteF (hF (fun z => nomatch z.2))
    | true =>
      show (if true = true then A H else B H)
      exact iteT (hT rfl rfl)
theorem seqIfAnd {t u : TT} {U V C : TS} {D : Ends} {σ : L2.St} {H : Hp} (a b : Bool) (h1 : ∀ Q : Bool → Hp → Prop, Q a H → t σ H Q) (h2 : ∀ Q : Bool → Hp → Prop, Q b H → u σ H Q) (hT : a = true → b = true → U { D with nx := C D } σ H)
    (hF : ¬ (a = true ∧ b = true) → V { D with nx := C D } σ H) : tSeq (tIfS (tAnd t u) U V) C D σ H :=
  andIf (A := fun H => U { D with nx := C D } σ H) (B := fun H => V { D with nx := C D } σ H) a b h1 h2 hT hF
theorem repS {z : Str} {n : Int} {H : Hp} {Q : VK} (hn : n = 0 ∨ n = 1) (h : ∀ tl, (n = 0 ∧ tl = Str.empty ∨ n = 1 ∧ tl = z) → Q (.str tl) H) : Ox.rRepS (.str z) (.int n) H Q := by
  refine ⟨z, n, rfl, rfl, ?_⟩
  rcases hn with e | e
  · exact .inl ⟨e, h _ (.inl ⟨e, rfl⟩)⟩
  · exact .inr ⟨e, h _ (.inr ⟨e, rfl⟩)⟩
theorem map_take_strs (xs : List Str) (m : Nat) : (xs.map V.str).take m = (xs.take m).map V.str := (List.map_take).symm
section
variable {P : Program} {w : World} {K : PySem.W.Frag} {mg : Str → Option Value} {base' : Heap}
theorem ok_l_names (T : Tx K mg) : FnOk P w K mg base' CX0 3 T.f_l_names T.d_l_names ["_law_pile_here", "_law_many"] spNames := by
  refine T.F_l_names.ok sc_l_names (fun vs H Q E h => ?_) (fun cdv A outer s H vs Q E hr h => ?_)
  · obtain ⟨p, n, m, rfl, _⟩ := h
    rfl
  · obtain ⟨p, n, m, rfl, hP, hn, m1, m2, q⟩ := h
    refine ⟨_, (pss_cons (ps_set (i := 2) sc_l_names.nd rfl (Or.inr rfl) pe_str)
  (pss_cons (ps_set (i := 3) sc_l_names.nd rfl (Or.inr rfl) (pe_bm PySem.F.plainAttrs_str PySem.F.slot_str_join PySem.F.type_str_join mt_join pe_str (pa_cons (pe_lc (own := [("_law_k", 4)]) (g := (gName 4)) (tt := tYes) rfl sc_l_names.nd (pi_range1 rfl T.n_range (pa_cons (pe_call (ok_l_take T) hr (by rfl) T.m_l_take T.F_l_take.kp T.b_l_take .nil pass0 (pa_cons (pv 0) (pa_cons pe_int pa_nil))) pa_nil)) (blkOk_by (N := ["_law_pile_here", "_law_many", "_law_letters", "_law_stem", "_law_k", "_law_at", "_law_shift", "_law_step", "_law_plain", "_law_tail", "_law_some", "_law_name"]) (sc := defScope s_l_names) (by decide +kernel)) (fun _ _ _ _ _ => (pg_name (i := 4) sc_l_names.nd rfl (Or.inl rfl))) (fun _ _ _ _ _ => pts_nil) (fun _ _ _ _ _ => (pe_ix ix_str (pv 2) (pe_call (ok_l_take T) hr (by rfl) T.m_l_take T.F_l_take.kp T.b_l_take .nil pass0 (pa_cons (pv 0) (pa_cons pe_int pa_nil))) (fun _ _ => rfl)))) pa_nil)))
  (pss_cons (ps_set (i := 5) sc_l_names.nd rfl (Or.inr rfl) (pe_call (ok_l_take T) hr (by rfl) T.m_l_take T.F_l_take.kp T.b_l_take .nil pass0 (pa_cons (pv 0) (pa_cons (pe_op op_add (pe_callB (id := "len") call_len (by rfl) T.n_len PySem.boot_len (pa_cons (pv 3) pa_nil)) pe_int) pa_nil))))
  (pss_cons (ps_set (i := 6) sc_l_names.nd rfl (Or.inr rfl) (pe_call (ok_l_take T) hr (by rfl) T.m_l_take T.F_l_take.kp T.b_l_take .nil pass0 (pa_cons (pv 0) (pa_cons pe_int pa_nil))))
  (pss_cons (ps_set (i := 7) sc_l_names.nd rfl (Or.inr rfl) (pe_ix ix_list (pe_lst (pa_cons pe_int (pa_cons pe_int (pa_cons pe_int (pa_cons pe_int (pa_cons pe_int (pa_cons pe_int (pa_cons pe_int (pa_cons pe_int (pa_cons pe_int (pa_cons pe_int (pa_cons pe_int (pa_cons pe_int pa_nil))))))))))))) (pe_call (ok_l_take T) hr (by rfl) T.m_l_take T.F_l_take.kp T.b_l_take .nil pass0 (pa_cons (pv 0) (pa_cons pe_int pa_nil))) (fun _ _ => rfl)))
  (pss_cons (ps_if (PW.pt (pw_and (pt_cmpR op_eq (pe_op op_mod (pv 6) pe_int) pe_int (nomark _)) (pw_and1 (pt_cmpR op_lt (pv 1) pe_int (nomark _))))) (pss_cons (ps_set (i := 8) sc_l_names.nd rfl (Or.inl rfl) (pe_lst (pa_cons pe_str (pa_cons pe_str (pa_cons pe_str (pa_cons pe_str (pa_cons pe_str (pa_cons pe_str (pa_cons pe_str (pa_cons pe_str (pa_cons pe_str (pa_cons pe_str (pa_cons pe_str (pa_cons pe_str (pa_cons pe_str (pa_cons pe_str (pa_cons pe_str pa_nil)))))))))))))))))
  (pss_one (ps_ret (pe_slice sl_list (pe_op op_cat (pe_slice sl_list (pv 8) (po_some (pe_op op_add (pe_op op_fdiv (pv 6) pe_int) (pe_op op_mod (pv 7) pe_int))) po_none) (pv 8)) po_none (po_some (pv 1)))))) pss_nil)
  (pss_cons (ps_set (i := 9) sc_l_names.nd rfl (Or.inr rfl) (pe_op Ox.op_rep_str pe_str (pe_callTy (T := "int") call_int1 (by rfl) T.n_int (by decide +kernel) (pa_cons (pe_cmpR op_lt (pe_callB (id := "len") call_len (by rfl) T.n_len PySem.boot_len (pa_cons (pv 3) pa_nil)) pe_int (nomark _)) pa_nil))))
  (pss_cons (ps_setLc (i := 10) (own := [("_law_k", 4)]) (g := (gName 4)) (tt := tYes) rfl sc_l_names.nd rfl rfl (sw_true rfl rfl rfl (by decide +kernel)) (pi_range1 rfl T.n_range (pa_cons (pv 1) pa_nil)) (blkOk_by (N := ["_law_pile_here", "_law_many", "_law_letters", "_law_stem", "_law_k", "_law_at", "_law_shift", "_law_step", "_law_plain", "_law_tail", "_law_some", "_law_name"]) (sc := defScope s_l_names) (by decide +kernel)) (fun _ _ _ _ _ => (pg_name (i := 4) sc_l_names.nd rfl (Or.inl rfl))) (fun _ _ _ _ _ => pts_nil) (fun _ _ _ _ _ => (pe_op op_add_str (pe_op op_add_str (pe_slice sl_str (pv 3) po_none (po_some (pv 5))) (pe_ix ix_str (pv 2) (pe_op op_mod (pe_op op_add (pv 6) (pe_op op_mul (pv 7) (pv 4))) pe_int) (fun _ _ => rfl))) (pe_slice sl_str (pv 3) (po_some (pv 5)) po_none))))
  (pss_one (ps_ret (pe_lc (own := [("_law_k", 4), ("_law_name", 11)]) (g := (gTup K 2 (gCons (gName 4) (gCons (gName 11) gNil)))) (tt := tYes) rfl sc_l_names.nd (pi_enum rfl T.n_enumerate (pa_cons (pv 10) pa_nil)) (blkOk_by (N := ["_law_pile_here", "_law_many", "_law_letters", "_law_stem", "_law_k", "_law_at", "_law_shift", "_law_step", "_law_plain", "_law_tail", "_law_some", "_law_name"]) (sc := defScope s_l_names) (by decide +kernel)) (fun _ _ _ _ _ => (pg_tup rfl (pgs_cons (pg_name (i := 4) sc_l_names.nd rfl (Or.inl rfl)) (pgs_cons (pg_name (i := 11) sc_l_names.nd rfl (Or.inl rfl)) pgs_nil)))) (fun _ _ _ _ _ => pts_nil) (fun _ _ _ _ _ => (pe_op op_add_str (pv 11) (pe_op Ox.op_rep_str (pv 9) (pe_op op_mod (pv 4) pe_int))))))))))))))), ?_⟩
    have pAt : ∀ {H' : Hp} {k : Nat}, Pile H' p k → ∃ o, H' p = some o := fun ⟨_, _, _, e, _⟩ => ⟨_, e⟩
    -- the stem
    refine ⟨rfl, ?_⟩
    refine ⟨_, rfl, p, n, 12, rfl, hP, by omega, by decide, by decide, by decide, fun d H1 d0 d1 b1 P1 => ?_⟩
    obtain ⟨m0, rfl⟩ := Int.eq_ofNat_of_zero_le d0
    refine ⟨m0, rfl, by omega, by omega, fun D hD => ?_⟩
    have nDp : D ≠ p := fun z => by
      obtain ⟨o, e⟩ := pAt P1
      rw [z, e] at hD
      cases hD
    refine lc_range (lo := 0) (n := m0) (fun i H' => ∃ cs : List Nat, cs.length = i ∧ (∀ c ∈ cs, 97 ≤ c ∧ c ≤ 122) ∧ H' D = some (.lst ((Nm.lets cs).map V.str)) ∧ But p H H' ∧ Pile H' p (n + 1 + i))
      ⟨[], rfl, (fun c hc => by cases hc), upd_same, b1.trans (But.same (same_upd hD)), P1.same (same_upd hD)⟩ ?_ ?_
    · rintro i H' hi ⟨cs, hl, hc, hL, bt, PL⟩
      refine ⟨rfl, yesIf ?_⟩
      refine ⟨_, rfl, _, rfl, p, n + 1 + i, 26, rfl, PL, by omega, by decide, by decide, by decide, fun d H2 e0 e1 b2 P2 => ?_⟩
      obtain ⟨c, rfl⟩ := Int.eq_ofNat_of_zero_le e0
      refine ⟨_, _, 97 + c, rfl, rfl, small (by decide +kernel), Nm.letter_at ⟨c, by omega⟩, ?_⟩
      have hL2 : H2 D = some (.lst ((Nm.lets cs).map V.str)) := b2 _ _ nDp hL
      refine ⟨_, hL2, small' (by rw [List.length_map]; show (Nm.lets cs).length ≤ _; unfold Nm.lets; rw [List.length_map]; omega), cs ++ [97 + c], ?_, ?_, ?_, ?_, ?_⟩
      · rw [List.length_append, hl]
        rfl
      · intro x hx
        rcases List.mem_append.mp hx with hx | hx
        · exact hc x hx
        · have := List.mem_singleton.mp hx
          omega
      · rw [upd_same]
        unfold Nm.lets
        rw [List.map_append, List.map_append]
        rfl
      · intro b o nb e
        have h2 := b2 b o nb (bt b o nb e)
        have nbD : b ≠ D := fun z => by
          have := But.free b1 nDp hD
          rw [z, this] at e
          cases e
        rw [upd_ne nbD]
        exact h2
      · obtain ⟨g, z, c', e, r⟩ := P2
        exact ⟨g, z, c', by rw [upd_ne nDp.symm]; exact e, r.1, r.2.1, r.2.2.1, r.2.2.2.1, r.2.2.2.2.1, by have := r.2.2.2.2.2; omega⟩
    rintro H' ⟨cs, hl, hc, hL, bt, PL⟩
    refine ⟨_, D, Nm.lets cs, rfl, rfl, .inl (SqL.of hL), ?_, ?_⟩
    · rw [Nm.lets_sum]
      show cs.length + (Nm.lets cs).length * 0 ≤ _
      omega
    have ez : (Txt.join (Str.ofString "") (Nm.lets cs)).cps.toList = cs := Nm.join_lets cs
    generalize Txt.join (Str.ofString "") (Nm.lets cs) = z at ez ⊢
    have zl : z.length = m0 := by
      rw [← hl, ← ez, Array.length_toList]
      rfl
    -- the place, the shift, the step
    refine ⟨_, rfl, _, rfl, .str z, z.length, rfl, ⟨small (by omega), rfl⟩, _, _, rfl, rfl, p, n + 1 + m0, _, rfl, PL, by omega, by omega, by omega, by omega, fun d H2 e0 e1 b2 P2 => ?_⟩
    obtain ⟨k, rfl⟩ := Int.eq_ofNat_of_zero_le e0
    refine ⟨_, rfl, p, _, 26, rfl, P2, by omega, by decide, by decide, by decide, fun d H3 f0 f1 b3 P3 => ?_⟩
    obtain ⟨sh, rfl⟩ := Int.eq_ofNat_of_zero_le f0
    refine ⟨small (by decide), fun l1 hl1 => ?_⟩
    refine ⟨_, rfl, p, _, 12, rfl, P3.same (same_upd hl1), by omega, by decide, by decide, by decide, fun d H4 g0 g1 b4 P4 => ?_⟩
    obtain ⟨si, rfl⟩ := Int.eq_ofNat_of_zero_le g0
    obtain ⟨stp, hst, hS, hst25⟩ := steps_at ⟨si, by omega⟩
    have nl1p : l1 ≠ p := fun z => by
      obtain ⟨o, e⟩ := pAt P3
      rw [z, e] at hl1
      cases hl1
    have hl14 : H4 l1 = some (.lst [V.int 1, .int 3, .int 5, .int 7, .int 9, .int 11, .int 15, .int 17, .int 19, .int 21, .int 23, .int 25]) := b4 _ _ nl1p upd_same
    refine ⟨l1, _, _, .int stp, rfl, rfl, SqL.of hl14, hst, ?_⟩
    have bH4 : But p H H4 := ((bt.trans b2).trans b3).trans ((But.same (same_upd hl1)).trans b4)
    have P4 : Pile H4 p (n + 20) := P4.mono (by omega)
    clear hl14 b4 b3 b2 bt PL P3 P2 hL hD b1 P1 hl1 hst
    -- the plain names
    dsimp only [gName]
    refine seqIfAnd (decide ((sh : Int) % 4 = 3)) (decide ((m : Int) < 13)) (fun R r => ⟨_, rfl, _, _, rfl, rfl, (by show (0 : Int) < 4; decide), rfl, _, rfl, ?_⟩) (fun R r => ⟨_, rfl, _, _, rfl, rfl, _, rfl, r⟩) (fun ha hb => ?_) (fun _ => ?_)
    · have e : decide (V.int ((sh : Int) % 4) = V.int 3) = decide ((sh : Int) % 4 = 3) := by
        rw [Bool.eq_iff_iff, decide_eq_true_iff, decide_eq_true_iff]
        exact ⟨V.int.inj, congrArg V.int⟩
      rw [e]
      exact r
    · have hb := of_decide_eq_true hb
      refine ⟨small (by decide), fun l2 hl2 => ?_⟩
      refine ⟨_, rfl, _, rfl, _, _, rfl, rfl, (by show (0 : Int) < 4 ∧ (4 : Int) < 1073741824; decide), _, rfl, _, _, rfl, rfl, (by show (0 : Int) < 4; decide), _, _, rfl, rfl, _, rfl, ?_⟩
      have eo : (sh : Int) / 4 + (stp : Int) % 4 = ((sh / 4 + stp % 4 : Nat) : Int) := by omega
      refine ⟨l2, _, rfl, SqL.of upd_same, fun l3 hl3 => ?_⟩
      have n23 : l2 ≠ l3 := ne_of_none upd_same hl3
      refine ⟨_, rfl, l3, l2, _, _, rfl, rfl, upd_same, (by rw [upd_ne n23, upd_same]), small ?_, fun l4 hl4 => ⟨_, rfl, _, rfl, l4, _, rfl, SqL.of upd_same, fun L hL => ?_⟩⟩
      · have := cutV_length [V.str "a", .str "b", .str "ab", .str "c", .str "ba", .str "abc", .str "aa", .str "bc", .str "aab", .str "ca", .str "cab", .str "d", .str "abd", .str "bca", .str "e"] (some ((sh : Int) / 4 + (stp : Int) % 4)) none
        show List.length _ + 15 ≤ 100000
        have e15 : ([V.str "a", .str "b", .str "ab", .str "c", .str "ba", .str "abc", .str "aa", .str "bc", .str "aab", .str "ca", .str "cab", .str "d", .str "abd", .str "bca", .str "e"]).length = 15 := rfl
        omega
      · have eL : cutV (cutV (Nm.plain.map V.str) (some ((sh : Int) / 4 + (stp : Int) % 4)) none ++ Nm.plain.map V.str) none (some (m : Int)) = (((Nm.plain.drop (sh / 4 + stp % 4) ++ Nm.plain).take 12).take m).map V.str := by
          rw [eo, Nm.cutV_from, Nm.cutV_to, ← List.map_drop, ← List.map_append, ← List.map_take, List.take_take, Nat.min_eq_left (by omega)]
        have hl40 : H4 l4 = none := by
          have n3 : l4 ≠ l3 := fun z => by rw [z, upd_same] at hl4; cases hl4
          have n2 : l4 ≠ l2 := fun z => by rw [z, upd_ne n23, upd_same] at hl4; cases hl4
          rw [upd_ne n3, upd_ne n2] at hl4
          exact hl4
        have s4 : Same H4 (upd (upd (upd (upd H4 l2 (.lst (Nm.plain.map V.str))) l3 (.lst (cutV (Nm.plain.map V.str) (some ((sh : Int) / 4 + (stp : Int) % 4)) none))) l4 (.lst (cutV (Nm.plain.map V.str) (some ((sh : Int) / 4 + (stp : Int) % 4)) none ++ Nm.plain.map V.str))) L
            (.lst (cutV (cutV (Nm.plain.map V.str) (some ((sh : Int) / 4 + (stp : Int) % 4)) none ++ Nm.plain.map V.str) none (some (m : Int))))) :=
          ((same_upd hl2).trans (same_upd hl3)).trans ((same_upd hl4).trans (same_upd hL))
        refine q (((Nm.plain.drop (sh / 4 + stp % 4) ++ Nm.plain).take 12).take m) L _ ?_ ((Nm.plain_ok ⟨sh / 4 + stp % 4, by omega⟩).take m) ?_ (bH4.trans (But.same s4)) (P4.same s4) (upd_same.trans (congrArg (fun z => some (HO.lst z)) eL))
        · rw [List.length_take, List.length_take, List.length_append]
          show min m (min 12 ((Nm.plain.drop _).length + 15)) = m
          omega
        · refine bH4.free (fun z => ?_) ((((same_upd hl2).trans (same_upd hl3)).trans (same_upd hl4)).free hL)
          obtain ⟨o, e⟩ := pAt (P4.same (((same_upd hl2).trans (same_upd hl3)).trans (same_upd hl4)))
          rw [z, e] at hL
          cases hL
    · -- the tail
      refine ⟨_, rfl, .str z, z.length, rfl, ⟨small (by omega), rfl⟩, _, _, rfl, rfl, .inr ⟨_, rfl, ?_⟩⟩
      refine repS (by split <;> simp) fun tl htl => ?_
      have htl : tl.cps.toList.length ≤ 1 ∧ z.length + 1 + tl.cps.toList.length ≤ 12 ∧ ∀ c ∈ tl.cps.toList, 97 ≤ c ∧ c ≤ 122 := by
        rcases htl with ⟨_, rfl⟩ | ⟨hn, rfl⟩
        · exact ⟨by decide, by show z.length + 1 + 0 ≤ 12; omega, fun c hc => by cases hc⟩
        · have h11 : z.length < 11 := by
            by_cases hh : (z.length : Int) < 11
            · omega
            · rw [decide_eq_false hh, if_neg Bool.false_ne_true] at hn
              cases hn
          have e1 : ("a" : Str).cps.toList = [97] := by decide +kernel
          rw [e1]
          exact ⟨by decide, by show z.length + 1 + 1 ≤ 12; omega, fun c hc => by have := List.mem_singleton.mp hc; omega⟩
      -- the names without their tails
      refine ⟨_, rfl, m, rfl, by omega, by omega, fun D2 hD2 => ?_⟩
      have zcl : z.cps.toList.length = z.length := by rw [Array.length_toList]; rfl
      have lb : ∀ i, (base z k sh stp i).length = z.length + 1 := fun i => by
        have h1 : ((base z k sh stp i).cps.toList).length = z.cps.toList.length + 1 := by
          show ((cutS z none (some (k : Int))).cps ++ #[97 + (sh + stp * i) % 26] ++ (cutS z (some (k : Int)) none).cps).toList.length = _
          rw [Array.toList_append, Array.toList_append, Nm.cutS_to, Nm.cutS_from, List.length_append, List.length_append, List.length_take, List.length_drop]
          show min k _ + 1 + _ = _
          omega
        rw [Array.length_toList, zcl] at h1
        exact h1
      refine lc_range (lo := 0) (n := m) (fun i H' => Same H4 H' ∧ H4 D2 = none ∧ H' D2 = some (.lst ((List.range i).map fun j => V.str (base z k sh stp j)))) ⟨same_upd hD2, hD2, upd_same⟩ ?_ ?_
      · rintro i H5 hi ⟨s5, hD20, hL5⟩
        refine ⟨rfl, yesIf ?_⟩
        have hm26 : ((sh : Int) + (stp : Int) * (0 + (i : Int))) % 26 = (((sh + stp * i) % 26 : Nat) : Int) := by
          rw [Int.zero_add]
          push_cast
          rfl
        refine ⟨_, rfl, _, rfl, _, rfl, z, rfl, small (by omega), _, rfl, _, rfl, _, rfl, _, rfl, _, _, rfl, rfl, .inl ⟨by omega, by omega⟩, _, _, rfl, rfl, _, _, rfl, rfl, (by show (0 : Int) < 26; decide), ?_⟩
        refine ⟨_, _, 97 + (sh + stp * i) % 26, rfl, rfl, small (by decide +kernel), ?_, _, _, rfl, rfl, ?_, _, rfl, _, rfl, _, rfl, z, rfl, small (by omega), _, _, rfl, rfl, ?_, ?_⟩
        · rw [hm26]
          exact Nm.letter_at ⟨(sh + stp * i) % 26, Nat.mod_lt _ (by decide)⟩
        · have := cutS_length z none (some (k : Int))
          exact small (by show _ + 1 ≤ 100000; omega)
        · have h1 := cutS_length z none (some (k : Int))
          have h2 := cutS_length z (some (k : Int)) none
          refine small ?_
          rw [PySem.Str.length_append]
          show _ + 1 + _ ≤ 100000
          omega
        · refine ⟨_, hL5, small' (by rw [List.length_map, List.length_range]; omega), fun b o e => ?_, hD20, ?_⟩
          · have nbD : b ≠ D2 := ne_of_none e hD20
            rw [upd_ne nbD]
            exact s5 b o e
          · rw [upd_same, List.range_succ, List.map_append]
            rfl
      rintro H5 ⟨s5, hD20, hL5⟩
      -- the names with their tails
      have hS5 : SqL K H5 D2 ((List.range m).map fun j => V.str (base z k sh stp j)) := SqL.of hL5
      refine ⟨_, rfl, D2, _, rfl, hS5, fun D3 hD3 => ?_⟩
      have P5 : Pile H5 p (n + 20) := P4.same s5
      have wk := walk_enum (K := K) (a := D2) (xs := (List.range m).map fun j => V.str (base z k sh stp j))
      refine lc_it wk (fun i H' => Same H5 H' ∧ H5 D3 = none ∧ H' D3 = some (.lst ((List.range i).map fun j => V.str (full z k sh stp tl j)))) ⟨same_upd hD3, hD3, upd_same⟩ (fun i H' _ h => h.1.seq hS5) ?_ ?_
      · rintro i x H6 H7 hi ⟨s6, hD30, hL6⟩ ⟨t, v1, v2, rfl, nt, rfl, e1, e2⟩
        have hi : i < m := by rw [List.length_map, List.length_range] at hi; exact hi
        have e1 : v1 = .int (i : Nat) := (Option.some.inj e1).symm
        have e2 : v2 = .str (base z k sh stp i) := by
          dsimp only at e2
          rw [List.getElem?_map, List.getElem?_range hi] at e2
          exact (Option.some.inj e2).symm
        subst e1 e2
        refine ⟨t, [.int (i : Nat), .str (base z k sh stp i)], rfl, .inl (.inl upd_same), rfl, _, _, rfl, _, _, rfl, rfl, rfl, yesIf ?_⟩
        refine ⟨_, rfl, _, rfl, _, rfl, _, _, rfl, rfl, (by show (0 : Int) < 2; decide), repS (by omega) fun tl' htl' => ?_⟩
        have ht : tl' = if i % 2 = 1 then tl else Str.empty := by
          rcases htl' with ⟨h1, h2⟩ | ⟨h1, h2⟩
          · rw [if_neg (by omega), h2]
          · rw [if_pos (by omega), h2]
        have n3 : D3 ≠ t := ne_of_none hL6 nt
        have ltl : tl'.length ≤ 1 := by
          rw [ht]
          split
          · have := htl.1
            rw [Array.length_toList] at this
            exact this
          · exact Nat.zero_le _
        refine ⟨_, _, rfl, rfl, small (by rw [lb]; omega), _, (by rw [upd_ne n3]; exact hL6), small' (by rw [List.length_map, List.length_range]; omega), fun b o e => ?_, hD30, ?_⟩
        · have nb3 : b ≠ D3 := ne_of_none e hD30
          rw [upd_ne nb3]
          exact same_upd nt _ _ (s6 b o e)
        · rw [upd_same, List.range_succ, List.map_append, ht]
          rfl
      · rintro H6 ⟨s6, hD30, hL6⟩
        rw [List.length_map, List.length_range] at hL6
        have sAll : Same H4 H6 := s5.trans s6
        have hD34 : H4 D3 = none := s5.free hD30
        have nD3p : D3 ≠ p := fun e => by
          obtain ⟨o, e'⟩ := pAt P4
          rw [e, e'] at hD34
          cases hD34
        refine q ((List.range m).map (full z k sh stp tl)) D3 H6 (by rw [List.length_map, List.length_range]) ?_ (bH4.free nD3p hD34) (bH4.trans (But.same sAll)) (P4.same sAll) ?_
        · refine Nm.allOk (cs := z.cps.toList) (k := k) (sh := sh) (stp := stp) (tl := tl.cps.toList) (by omega) (by omega) (by rw [zcl]; exact htl.2.1) ?_ htl.2.2 hS m2 (fun i => full_code z k sh stp tl i)
          rw [ez]
          exact hc
        · rw [hL6, List.map_map]
          rfl
end
end K19

set_option Elab.async false
set_option linter.all false
set_option maxRecDepth 100000
set_option maxHeartbeats 4000000
/-! law k19: the classes of an error -/
namespace K19
open PySem PySem.Spec PyProof.Rows L2
section
variable {P : Program} {w : World} {K : PySem.W.Frag} {mg : Str → Option Value} {base' : Heap}
def cs (T : Tx K mg) : List Addr := [T.a_InvalidRegion, T.a_InvalidFact, T.a_InvalidPatch, T.a_InvalidClaim, T.a_InvalidDeed, T.a_InvalidColour, T.a_InvalidNumber, T.a_UnknownRegion, T.a_InvalidMap, T.a_InvalidText, T.a_Contradiction, T.a_TooMany, T.a_NothingToUndo]
def spClasses (T : Tx K mg) : Sp := fun vs H Q _ => ∃ (a : Addr) (i : Nat), vs = [.ref a] ∧ i < 13 ∧ Ox.IsX H a ((cs T).getD i 0) ∧ Ox.ExK K ((cs T).getD i 0) ∧
  ∀ l p H', Evl.Ex H H' → H l = none → H p = none → H' l = some (.lst ((List.range 13).map fun j => .bl (decide (i = j)))) → H' p = some (.lst [.ref l, .bl true, .bl true]) → Q (.ref p) H'
theorem ok_l_classes (T : Tx K mg) : FnOk P w K mg base' CX0 1 T.f_l_classes T.d_l_classes ["_law_error"] (spClasses T) := by
  refine T.F_l_classes.ok sc_l_classes (fun vs H Q E h => ?_) (fun cdv A outer s H vs Q E hr h => ?_)
  · obtain ⟨a, i, rfl, _⟩ := h
    rfl
  · obtain ⟨a, i, rfl, hi, hx, hE, q⟩ := h
    refine ⟨_, (pss_cons (ps_set (i := 1) sc_l_classes.nd rfl (Or.inl rfl) (pe_lst (pa_cons (pe_callB (id := "isinstance") Ox.call_isX (by rfl) T.n_isinstance (by decide +kernel) (pa_cons (pv 0) (pa_cons (pe_glob (v := .ref T.a_InvalidRegion) rfl T.m_InvalidRegion rfl) pa_nil))) (pa_cons (pe_callB (id := "isinstance") Ox.call_isX (by rfl) T.n_isinstance (by decide +kernel) (pa_cons (pv 0) (pa_cons (pe_glob (v := .ref T.a_InvalidFact) rfl T.m_InvalidFact rfl) pa_nil))) (pa_cons (pe_callB (id := "isinstance") Ox.call_isX (by rfl) T.n_isinstance (by decide +kernel) (pa_cons (pv 0) (pa_cons (pe_glob (v := .ref T.a_InvalidPatch) rfl T.m_InvalidPatch rfl) pa_nil))) pa_nil)))))
  (pss_cons (ps_set (i := 1) sc_l_classes.nd rfl (Or.inl rfl) (pe_op op_cat (pv 1) (pe_lst (pa_cons (pe_callB (id := "isinstance") Ox.call_isX (by rfl) T.n_isinstance (by decide +kernel) (pa_cons (pv 0) (pa_cons (pe_glob (v := .ref T.a_InvalidClaim) rfl T.m_InvalidClaim rfl) pa_nil))) (pa_cons (pe_callB (id := "isinstance") Ox.call_isX (by rfl) T.n_isinstance (by decide +kernel) (pa_cons (pv 0) (pa_cons (pe_glob (v := .ref T.a_InvalidDeed) rfl T.m_InvalidDeed rfl) pa_nil))) (pa_cons (pe_callB (id := "isinstance") Ox.call_isX (by rfl) T.n_isinstance (by decide +kernel) (pa_cons (pv 0) (pa_cons (pe_glob (v := .ref T.a_InvalidColour) rfl T.m_InvalidColour rfl) pa_nil))) pa_nil))))))
  (pss_cons (ps_set (i := 1) sc_l_classes.nd rfl (Or.inl rfl) (pe_op op_cat (pv 1) (pe_lst (pa_cons (pe_callB (id := "isinstance") Ox.call_isX (by rfl) T.n_isinstance (by decide +kernel) (pa_cons (pv 0) (pa_cons (pe_glob (v := .ref T.a_InvalidNumber) rfl T.m_InvalidNumber rfl) pa_nil))) (pa_cons (pe_callB (id := "isinstance") Ox.call_isX (by rfl) T.n_isinstance (by decide +kernel) (pa_cons (pv 0) (pa_cons (pe_glob (v := .ref T.a_UnknownRegion) rfl T.m_UnknownRegion rfl) pa_nil))) (pa_cons (pe_callB (id := "isinstance") Ox.call_isX (by rfl) T.n_isinstance (by decide +kernel) (pa_cons (pv 0) (pa_cons (pe_glob (v := .ref T.a_InvalidMap) rfl T.m_InvalidMap rfl) pa_nil))) pa_nil))))))
  (pss_cons (ps_set (i := 1) sc_l_classes.nd rfl (Or.inl rfl) (pe_op op_cat (pv 1) (pe_lst (pa_cons (pe_callB (id := "isinstance") Ox.call_isX (by rfl) T.n_isinstance (by decide +kernel) (pa_cons (pv 0) (pa_cons (pe_glob (v := .ref T.a_InvalidText) rfl T.m_InvalidText rfl) pa_nil))) (pa_cons (pe_callB (id := "isinstance") Ox.call_isX (by rfl) T.n_isinstance (by decide +kernel) (pa_cons (pv 0) (pa_cons (pe_glob (v := .ref T.a_Contradiction) rfl T.m_Contradiction rfl) pa_nil))) (pa_cons (pe_callB (id := "isinstance") Ox.call_isX (by rfl) T.n_isinstance (by decide +kernel) (pa_cons (pv 0) (pa_cons (pe_glob (v := .ref T.a_TooMany) rfl T.m_TooMany rfl) pa_nil))) pa_nil))))))
  (pss_cons (ps_expr (pe_bm PySem.F.plainAttrs_list PySem.F.slot_list_append PySem.F.type_list_append mt_append (pv 1) (pa_cons (pe_callB (id := "isinstance") Ox.call_isX (by rfl) T.n_isinstance (by decide +kernel) (pa_cons (pv 0) (pa_cons (pe_glob (v := .ref T.a_NothingToUndo) rfl T.m_NothingToUndo rfl) pa_nil))) pa_nil)))
  (pss_one (ps_ret (pe_lst (pa_cons (pv 1) (pa_cons (pe_callB (id := "isinstance") Ox.call_isX (by rfl) T.n_isinstance (by decide +kernel) (pa_cons (pv 0) (pa_cons (pe_glob (v := .ref T.a_CoatError) rfl T.m_CoatError rfl) pa_nil))) (pa_cons (pe_callB (id := "isinstance") Ox.call_isX (by rfl) T.n_isinstance (by decide +kernel) (pa_cons (pv 0) (pa_cons (pe_bltn (v := .ty "ValueError") (by rfl) T.n_ValueError (by decide +kernel) rfl) pa_nil))) pa_nil))))))))))), ?_⟩
    have is : ∀ (j : Nat) (hj : j < 13) (σ : L2.St) (H' : Hp), σ[0]? = some (some (.ref a)) → Evl.Ex H H' → Evl.Ev (tCB (Ox.rIsX K) (tCons (tVar 0) (tCons (tC (.ref ((cs T).getD j 0))) tNil))) σ H' (.bl (decide (i = j))) := fun j hj σ H' h0 e =>
      Oe.ev_isX (Evl.ev_var h0) (Oe.IsX.ex hx e) hE (.own _) (T.kits.own i j hi hj)
    refine Evl.q_asgL (Evl.el_lst (Evl.ea_cons (is 0 (by decide) _ _ rfl (Evl.Ex.refl _)) (Evl.ea_cons (is 1 (by decide) _ _ rfl (Evl.Ex.refl _)) (Evl.ea_cons (is 2 (by decide) _ _ rfl (Evl.Ex.refl _)) Evl.ea_nil))) (by show 3 ≤ 100000; decide)) fun l1 H1 n1 e1 h1 => ?_
    refine Evl.q_asgL (Oe.el_cat (Evl.ev_var rfl) h1 (Evl.el_lst (Evl.ea_cons (is 3 (by decide) _ _ rfl e1) (Evl.ea_cons (is 4 (by decide) _ _ rfl e1) (Evl.ea_cons (is 5 (by decide) _ _ rfl e1) Evl.ea_nil))) (by show 3 ≤ 100000; decide)) (by show 3 + 3 ≤ 100000; decide)) fun l2 H2 n2 e2 h2 => ?_
    have e2 := e1.trans e2
    refine Evl.q_asgL (Oe.el_cat (Evl.ev_var rfl) h2 (Evl.el_lst (Evl.ea_cons (is 6 (by decide) _ _ rfl e2) (Evl.ea_cons (is 7 (by decide) _ _ rfl e2) (Evl.ea_cons (is 8 (by decide) _ _ rfl e2) Evl.ea_nil))) (by show 3 ≤ 100000; decide)) (by show 6 + 3 ≤ 100000; decide)) fun l3 H3 n3 e3 h3 => ?_
    have e3 := e2.trans e3
    refine Evl.q_asgL (Oe.el_cat (Evl.ev_var rfl) h3 (Evl.el_lst (Evl.ea_cons (is 9 (by decide) _ _ rfl e3) (Evl.ea_cons (is 10 (by decide) _ _ rfl e3) (Evl.ea_cons (is 11 (by decide) _ _ rfl e3) Evl.ea_nil))) (by show 3 ≤ 100000; decide)) (by show 9 + 3 ≤ 100000; decide)) fun l4 H4 n4 e4 h4 => ?_
    have n40 : H l4 = none := Evl.fresh_back e3 n4
    have e4 := e3.trans e4
    refine Evl.q_app h4 (Evl.ev_var rfl) (is 12 (by decide) _ _ rfl e4) (by show 12 < 100000; decide) fun H5 e5 => ?_
    have e5 : ∀ o, Evl.Ex H (upd H5 l4 o) := fun o => Evl.Ex.mut (e4.trans e5) n40
    refine Evl.s_retL (Evl.el_lst (Evl.ea_cons (Evl.ev_var rfl) (Evl.ea_cons (Oe.ev_isX (Evl.ev_var rfl) (Oe.IsX.ex hx (e5 _)) hE (.own _) (T.kits.bas i hi)) (Evl.ea_cons (Oe.ev_isX (Evl.ev_var rfl) (Oe.IsX.ex hx (e5 _)) hE (.ty _) (T.kits.val i hi)) Evl.ea_nil))) (by show 3 ≤ 100000; decide)) fun p H6 n6 e6 h6 => ?_
    exact q l4 p H6 ((e5 _).trans e6) n40 (Evl.fresh_back (e5 _) n6) (e6 _ _ upd_same) h6
end
end K19

set_option Elab.async false
set_option linter.all false
set_option maxRecDepth 100000
set_option maxHeartbeats 4000000
/-! law k19: the lists of Contradiction -/
namespace K19
open PySem PySem.Spec PyProof.Rows L2
local macro_rules | `(tactic| walk_at "ne") => `(tactic| first | assumption | (apply Ne.symm; assumption))
local macro_rules | `(tactic| walk_at "hp") => `(tactic| ((repeat (first | rw [upd_same] | rw [upd_ne (by walk_at "ne")])); first | assumption | rfl | skip))
def dt (b : Bool) (x : V) : PyData := match x with
  | .str z => .tuple [.str z, .bool b]
  | _ => .none
def dts (b : Bool) (xs : List V) : List PyData := (List.range xs.length).map fun i => dt b (xs.getD i .non)
theorem nm_ok {x : Str} (h : Nm.Ok x) : (PyData.str x).canLay0 = true := by
  show PyData.strOk x = true
  unfold PyData.strOk
  rw [Array.all_eq_true]
  intro i hi
  have := h.2.2 x.cps[i] (by rw [← Array.mem_def]; exact Array.getElem_mem hi)
  exact decide_eq_true (by omega)
theorem dts_sh {b : Bool} {xs : List Str} (h : ∀ x ∈ xs, Nm.Ok x) : ∀ d ∈ dts b (xs.map V.str), d.canLay0 = true ∧ d.depth ≤ 1 := by
  intro d hd
  obtain ⟨i, hi, rfl⟩ := List.mem_map.mp hd
  have hi := List.mem_range.mp hi
  rw [List.length_map] at hi
  have e : (xs.map V.str).getD i .non = .str xs[i] := by
    rw [List.getD_eq_getElem?_getD, List.getElem?_map, List.getElem?_eq_getElem hi]
    rfl
  rw [e]
  refine Od.sh_tup (by decide) fun d hd => ?_
  rcases List.mem_cons.mp hd with rfl | hd
  · exact ⟨nm_ok (h _ (List.getElem_mem hi)), Nat.le_refl _⟩
  · rcases List.mem_cons.mp hd with rfl | hd
    · exact ⟨rfl, Nat.le_refl _⟩
    · cases hd
def spWays : Sp := fun vs H Q _ => ∃ (L : Addr) (xs : List Str), vs = [.ref L] ∧ H L = some (.lst (xs.map V.str)) ∧ xs.length ≤ 26 ∧ (∀ x ∈ xs, Nm.Ok x) ∧ ∀ H', Evl.Ex H H' → Q (.bl true) H'
section
variable {P : Program} {w : World} {K : PySem.W.Frag} {mg : Str → Option Value} {base' : Heap}
theorem ok_l_ways_right (T : Tx K mg) : FnOk P w K mg base' CX0 3 T.f_l_ways_right T.d_l_ways_right ["_law_names_here"] spWays := by
  refine T.F_l_ways_right.ok sc_l_ways_right (fun vs H Q E h => ?_) (fun cdv A outer s H vs Q E hr h => ?_)
  · obtain ⟨L, xs, rfl, _⟩ := h
    rfl
  · obtain ⟨L, xs, rfl, hL, hlen, hok, q⟩ := h
    refine ⟨_, (pss_cons (ps_set (i := 1) sc_l_ways_right.nd rfl (Or.inl rfl) (pe_lst (pa_cons (pe_lc (own := [("_law_name", 2)]) (g := (gName 2)) (tt := tYes) rfl sc_l_ways_right.nd (pi_list (pv 0)) (blkOk_by (N := ["_law_names_here", "_law_ways", "_law_name", "_law_handed", "_law_way", "_law_error"]) (sc := defScope s_l_ways_right) (by decide +kernel)) (fun _ _ _ _ _ => (pg_name (i := 2) sc_l_ways_right.nd rfl (Or.inl rfl))) (fun _ _ _ _ _ => pts_nil) (fun _ _ _ _ _ => (pe_tup (pa_cons (pv 2) (pa_cons pe_bl pa_nil))))) (pa_cons (pe_lc (own := [("_law_name", 2)]) (g := (gName 2)) (tt := tYes) rfl sc_l_ways_right.nd (pi_list (pe_revL (pv 0))) (blkOk_by (N := ["_law_names_here", "_law_ways", "_law_name", "_law_handed", "_law_way", "_law_error"]) (sc := defScope s_l_ways_right) (by decide +kernel)) (fun _ _ _ _ _ => (pg_name (i := 2) sc_l_ways_right.nd rfl (Or.inl rfl))) (fun _ _ _ _ _ => pts_nil) (fun _ _ _ _ _ => (pe_tup (pa_cons (pv 2) (pa_cons pe_bl pa_nil))))) pa_nil))))
  (pss_cons (ps_setLc (i := 3) (own := [("_law_way", 4)]) (g := (gName 4)) (tt := tYes) (te := tCB (Evl.rListS K) (tCons (tVar 4) tNil)) rfl sc_l_ways_right.nd rfl rfl (sw_true rfl rfl rfl (by decide +kernel)) (pi_list (pv 1)) (blkOk_by (N := ["_law_names_here", "_law_ways", "_law_name", "_law_handed", "_law_way", "_law_error"]) (sc := defScope s_l_ways_right) (by decide +kernel)) (fun _ _ _ _ _ => (pg_name (i := 4) sc_l_ways_right.nd rfl (Or.inl rfl))) (fun _ _ _ _ _ => pts_nil) (fun _ _ _ _ _ => (pe_callTy (T := "list") call_list_of (by rfl) T.n_list (by decide +kernel) (pa_cons (pv 4) pa_nil))))
  (pss_cons (ps_set (i := 5) sc_l_ways_right.nd rfl (Or.inl rfl) (Ox.pe_mkv T.x_Contradiction.oe T.x_Contradiction.ini T.x_Contradiction.ity (ok_Contradiction___init__ T) hr T.b_Contradiction___init__ .nil pass0 (by rfl) T.m_Contradiction (pa_cons (pe_ix ix_list (pv 3) pe_int (fun _ _ => rfl)) (pa_cons (pe_ix ix_list (pv 3) pe_int (fun _ _ => rfl)) pa_nil))))
  (pss_cons (ps_for PassesOwn.never rfl (pi_list (pv 3)) (pg_name (i := 4) sc_l_ways_right.nd rfl (Or.inl rfl)) (pss_one (ps_expr (pe_bm PySem.F.plainAttrs_list PySem.F.slot_list_append PySem.F.type_list_append mt_append (pv 4) (pa_cons pe_str pa_nil)))))
  (pss_cons (ps_if (pt_cmpR (op_neD hr.units) (pe_lst (pa_cons (Ox.pe_xfv (pv 5)) (pa_cons (Ox.pe_xfv (pv 5)) pa_nil))) (pv 1) (nomark _)) (pss_one (ps_ret pe_bl)) pss_nil)
  (pss_cons (ps_expr (pe_bm PySem.F.plainAttrs_list PySem.F.slot_list_append PySem.F.type_list_append mt_append (Ox.pe_xfv (pv 5)) (pa_cons pe_str pa_nil)))
  (pss_cons (ps_expr (pe_bm0 PySem.F.plainAttrs_list PySem.F.slot_list_clear PySem.F.type_list_clear mt_clear (Ox.pe_xfv (pv 5))))
  (pss_one (ps_ret (pe_cmpR (op_eqD hr.units) (pv 3) (pe_lc (own := [("_law_way", 4)]) (g := (gName 4)) (tt := tYes) rfl sc_l_ways_right.nd (pi_list (pv 1)) (blkOk_by (N := ["_law_names_here", "_law_ways", "_law_name", "_law_handed", "_law_way", "_law_error"]) (sc := defScope s_l_ways_right) (by decide +kernel)) (fun _ _ _ _ _ => (pg_name (i := 4) sc_l_ways_right.nd rfl (Or.inl rfl))) (fun _ _ _ _ _ => pts_nil) (fun _ _ _ _ _ => (pe_op op_cat (pv 4) (pe_lst (pa_cons pe_str pa_nil))))) (nomark _))))))))))), ?_⟩
    have hz : (xs.map V.str).length ≤ 26 := by rw [List.length_map]; exact hlen
    have elt : ∀ (b : Bool) (ys : List Str) (σ : L2.St) (i : Nat) (x : V), ((ys.map V.str)[i]? = some x) → σ[2]? = some (some x) → Od.EvD K (tTup (tCons (tVar 2) (tCons (tC (.bl b)) tNil))) σ H (dt b ((ys.map V.str).getD i .non)) := by
      intro b ys σ i x hx hσ
      have hd : (ys.map V.str).getD i .non = x := by rw [List.getD_eq_getElem?_getD, hx]; rfl
      rw [hd]
      rw [List.getElem?_map] at hx
      cases hy : ys[i]? with
      | none => rw [hy] at hx; cases hx
      | some y =>
        rw [hy] at hx
        cases hx
        exact Od.ed_tup (Od.ead_cons (Od.ed_ev (Evl.ev_var hσ) (.str y)) (Od.ead_cons (Od.ed_ev Evl.ev_c (.bl b)) Od.ead_nil)) (by show 2 ≤ 100000; decide)
    have hrev : (xs.map V.str).reverse = xs.reverse.map V.str := by rw [List.map_reverse]
    -- the two ways
    refine Oe.o_seqAsg (Oe.o_lst (Oe.o_cons ?_))
    refine Od.eld_lc (σ := [some (.ref L), none, none, none, none, none]) (j := 2) (vs := [2]) (fun i => dt true ((xs.map V.str).getD i .non)) (Evl.ev_var (i := 0) rfl) (SqL.of hL) (by omega) (fun _ => rfl) (fun i x hx => elt true xs _ i x hx (by rfl)) H (Evl.Ex.refl _) _ fun p1 rs1 H1 G1 n1 e1 h1 o1 g1 d1 => ?_
    refine Oe.o_cons ?_
    refine Od.eld_lcN (σ := [some (.ref L), none, none, none, none, none]) (j := 2) (vs := [2]) (fun i => dt false ((xs.reverse.map V.str).getD i .non)) (Od.el_rev (Evl.ev_var (i := 0) rfl) (SqL.of hL)) (by rw [List.length_reverse]; omega) (fun _ => rfl) (fun i x hx => elt false xs.reverse _ i x (by rw [← hrev]; exact hx) (by rfl)) H1 e1 _ fun p2 rs2 H2 G2 n2 e2 h2 o2 g2 d2 => ?_
    refine ⟨by show 2 ≤ sizeLine; decide, fun w0 nw => ?_⟩
    -- what stands from here on: B
    have lp1 : H2 p1 = some (.lst rs1) := e2 _ _ h1
    have gp12 : G2 p1 = none := o2.out h1 n1
    have gp21 : G1 p2 = none := o1.gone n2
    have nLp1 : L ≠ p1 := ne_of_none hL n1
    have d1B : DpAll K (upd H2 w0 (.lst [.ref p1, .ref p2])) rs1 (dts true (xs.map V.str)) := Od.da_ex ((o1.sub.trans e2).trans (Evl.Ex.new nw)) _ _ d1
    have hl2 : (xs.map V.str).reverse.length = (xs.reverse.map V.str).length := by rw [hrev]
    have d2 : DpAll K G2 rs2 (dts false (xs.reverse.map V.str)) := by
      unfold dts
      rw [← hl2]
      exact d2
    have d2B : DpAll K (upd H2 w0 (.lst [.ref p1, .ref p2])) rs2 (dts false (xs.reverse.map V.str)) := Od.da_ex (o2.sub.trans (Evl.Ex.new nw)) _ _ d2
    have eB : Evl.Ex H (upd H2 w0 (.lst [.ref p1, .ref p2])) := (e1.trans e2).trans (Evl.Ex.new nw)
    have b1 : upd H2 w0 (.lst [.ref p1, .ref p2]) p1 = some (.lst rs1) := Evl.Ex.new nw _ _ lp1
    have b2 : upd H2 w0 (.lst [.ref p1, .ref p2]) p2 = some (.lst rs2) := Evl.Ex.new nw _ _ h2
    have bw : upd H2 w0 (.lst [.ref p1, .ref p2]) w0 = some (.lst [.ref p1, .ref p2]) := upd_same
    generalize upd H2 w0 (.lst [.ref p1, .ref p2]) = B at d1B d2B eB b1 b2 bw ⊢
    clear d1 d2 gp12 gp21 g1 g2 o1 o2 h1 h2 lp1 n1 n2 nw e1 e2
    generalize hds1 : dts true (xs.map V.str) = ds1 at d1B
    generalize hds2 : dts false (xs.reverse.map V.str) = ds2 at d2B
    have sh1 : ∀ d ∈ ds1, d.canLay0 = true ∧ d.depth ≤ 1 := by rw [← hds1]; exact dts_sh hok
    have sh2 : ∀ d ∈ ds2, d.canLay0 = true ∧ d.depth ≤ 1 := by rw [← hds2]; exact dts_sh (fun x hx => hok x (List.mem_reverse.mp hx))
    have ll1 : ds1.length ≤ 26 := by rw [← hds1]; unfold dts; rw [List.length_map, List.length_range]; exact hz
    have ll2 : ds2.length ≤ 26 := by rw [← hds2]; unfold dts; rw [List.length_map, List.length_range, ← hl2, List.length_reverse]; exact hz
    -- the lists that are handed in
    refine ⟨_, rfl, w0, rfl, ⟨_, SqL.of bw⟩, fun D hD => ?_⟩
    refine lc_list (xs := [.ref p1, .ref p2]) (fun i H' => Evl.Ex B H' ∧ ((i = 0 ∧ H' D = some (.lst [])) ∨ (i = 1 ∧ ∃ a1, B a1 = none ∧ a1 ≠ D ∧ H' D = some (.lst [.ref a1]) ∧ H' a1 = some (.lst rs1)) ∨
        (i = 2 ∧ ∃ a1 a2, B a1 = none ∧ B a2 = none ∧ a1 ≠ a2 ∧ a1 ≠ D ∧ a2 ≠ D ∧ H' D = some (.lst [.ref a1, .ref a2]) ∧ H' a1 = some (.lst rs1) ∧ H' a2 = some (.lst rs2))))
      ⟨Evl.Ex.new hD, .inl ⟨rfl, upd_same⟩⟩ (fun i H' _ h => SqL.of (h.1 _ _ bw)) ?_ ?_
    · rintro i x H' hi ⟨eH, hcase⟩
      match i, hi with
      | 0, hi =>
        cases hi
        rcases hcase with ⟨_, h0⟩ | ⟨c, _⟩ | ⟨c, _⟩
        · refine ⟨rfl, Od.yesIf ⟨_, rfl, p1, rs1, rfl, .inl (SqL.of (eH _ _ b1)), fun a1 na1 => ?_⟩⟩
          have n1D : D ≠ a1 := ne_of_none h0 na1
          refine ⟨[], by walk_at "hp", small' (by decide), (Evl.Ex.mut (eH.trans (Evl.Ex.new na1)) hD), .inr (.inl ⟨rfl, a1, Evl.fresh_back eH na1, n1D.symm, by walk_at "hp", by walk_at "hp"⟩)⟩
        · cases c
        · cases c
      | 1, hi =>
        cases hi
        rcases hcase with ⟨c, _⟩ | ⟨_, a1, na1, nD, h0, h1⟩ | ⟨c, _⟩
        · cases c
        · refine ⟨rfl, Od.yesIf ⟨_, rfl, p2, rs2, rfl, .inl (SqL.of (eH _ _ b2)), fun a2 na2 => ?_⟩⟩
          have n2D : D ≠ a2 := ne_of_none h0 na2
          have n12 : a1 ≠ a2 := ne_of_none h1 na2
          refine ⟨[.ref a1], by walk_at "hp", small' (by show 1 ≤ 100000; decide), (Evl.Ex.mut (eH.trans (Evl.Ex.new na2)) hD), .inr (.inr ⟨rfl, a1, a2, na1, Evl.fresh_back eH na2, n12, nD, n2D.symm, by walk_at "hp", by walk_at "hp", by walk_at "hp"⟩)⟩
        · cases c
      | (k + 2), hi => cases hi
    rintro H3 ⟨eH, hcase⟩
    rcases hcase with ⟨c, _⟩ | ⟨c, _⟩ | ⟨_, a1, a2, na1, na2, n12, n1D, n2D, hD3, h1, h2⟩
    · cases c
    · cases c
    -- the error
    refine ⟨_, rfl, D, _, 0, .ref a1, rfl, rfl, SqL.of hD3, rfl, _, rfl, D, _, 1, .ref a2, rfl, rfl, SqL.of hD3, rfl, by show 2 ≤ 1000; decide, fun e ne => ?_⟩
    have ne1 : a1 ≠ e := ne_of_none h1 ne
    have ne2 : a2 ≠ e := ne_of_none h2 ne
    have neD : D ≠ e := ne_of_none hD3 ne
    refine ⟨e, a1, a2, rs1, rs2, rfl, upd_same, by walk_at "hp", by walk_at "hp", fun H4 d l m bt nd nl nm nlm hX hl hm => ⟨rfl, ?_⟩⟩
    have e34 : Evl.Ex H3 H4 := fun b o h => by
      have nbe := ne_of_none h ne
      exact bt b o nbe (by walk_at "hp")
    have hce : upd H3 e (exo e T.a_Contradiction none) e = some (exo e T.a_Contradiction none) := upd_same
    have hc1 : upd H3 e (exo e T.a_Contradiction none) a1 = some (.lst rs1) := by walk_at "hp"
    have hc2 : upd H3 e (exo e T.a_Contradiction none) a2 = some (.lst rs2) := by walk_at "hp"
    have hcD : upd H3 e (exo e T.a_Contradiction none) D = some (.lst [.ref a1, .ref a2]) := by walk_at "hp"
    have n1d := ne_of_none hc1 nd
    have n1l := ne_of_none hc1 nl
    have n1m := ne_of_none hc1 nm
    have n2d := ne_of_none hc2 nd
    have n2l := ne_of_none hc2 nl
    have n2m := ne_of_none hc2 nm
    have nDd := ne_of_none hcD nd
    have nDl := ne_of_none hcD nl
    have nDm := ne_of_none hcD nm
    have ned := ne_of_none hce nd
    have nel := ne_of_none hce nl
    have nem := ne_of_none hce nm
    have ndl : d ≠ l := ne_of hX.2 hl (by
      intro z
      have z' : HO.ext _ = HO.lst rs1 := z
      cases z')
    have ndm : d ≠ m := ne_of hX.2 hm (by
      intro z
      have z' : HO.ext _ = HO.lst rs2 := z
      cases z')
    have e4 : Evl.Ex B H4 := eH.trans e34
    have hD4 := e34 _ _ hD3
    have h14 := e34 _ _ h1
    have h24 := e34 _ _ h2
    have nlB : B l = none := by
      have : H3 l = none := by rw [upd_ne nel.symm] at nl; exact nl
      exact Evl.fresh_back eH this
    have nmB : B m = none := by
      have : H3 m = none := by rw [upd_ne nem.symm] at nm; exact nm
      exact Evl.fresh_back eH this
    clear hce hc1 hc2 hcD nd nl nm bt ne hD3 h1 h2 eH e34 hD
    obtain ⟨hXe, hXd⟩ := hX
    -- each of the lists grows
    refine Evl.q_forLn (a := D) (xs := [.ref a1, .ref a2]) (Evl.ev_var (i := 3) rfl) (SqL.of hD4) (fun i σ' H' => (∃ y, σ' = [some (.ref L), some (.ref w0), none, some (.ref D), y, some (.ref e)]) ∧ Evl.Ex B H' ∧ H' D = some (.lst [.ref a1, .ref a2]) ∧ H' e = some (exo e T.a_Contradiction (some d)) ∧
      H' d = some (exd d [("back", .ref m), ("there", .ref l)]) ∧ H' l = some (.lst rs1) ∧ H' m = some (.lst rs2) ∧ H' a1 = some (.lst (rs1 ++ if 0 < i then [.str "x"] else [])) ∧ H' a2 = some (.lst (rs2 ++ if 1 < i then [.str "x"] else []))) ?_ ?_ ?_ ?_
    · intro H' e'
      exact ⟨⟨none, rfl⟩, e4.trans e', e' _ _ hD4, e' _ _ hXe, e' _ _ hXd, e' _ _ hl, e' _ _ hm, by rw [e' _ _ h14]; simp, by rw [e' _ _ h24]; simp⟩
    · intro i σ' H' _ h
      exact SqL.of h.2.2.1
    · rintro i x σ' H' hi ⟨⟨y, rfl⟩, eb, gD, ge, gd, gl, gm, g1, g2⟩
      have rl1 : rs1.length ≤ 26 := by rw [Od.da_len d1B]; exact ll1
      have rl2 : rs2.length ≤ 26 := by rw [Od.da_len d2B]; exact ll2
      have hi2 : i = 0 ∨ i = 1 := by
        have := (List.getElem?_eq_some_iff.mp hi).1
        have : i < 2 := this
        omega
      rcases hi2 with rfl | rfl
      · cases hi
        have g1 : H' a1 = some (.lst rs1) := by rw [g1]; simp
        have g2 : H' a2 = some (.lst rs2) := by rw [g2]; simp
        refine ⟨_, rfl, .inl ⟨rfl, _, SqL.of g1⟩, a1, _, _, rfl, rfl, g1, small' (by omega), ⟨_, rfl⟩, Evl.Ex.mut eb na1, by walk_at "hp", by walk_at "hp", by walk_at "hp", by walk_at "hp", by walk_at "hp", ?_, by rw [upd_ne n12.symm, g2]; simp⟩
        rw [upd_same]
        simp
      · cases hi
        have g1 : H' a1 = some (.lst (rs1 ++ [.str "x"])) := by rw [g1]; simp
        have g2 : H' a2 = some (.lst rs2) := by rw [g2]; simp
        refine ⟨_, rfl, .inl ⟨rfl, _, SqL.of g2⟩, a2, _, _, rfl, rfl, g2, small' (by omega), ⟨_, rfl⟩, Evl.Ex.mut eb na2, by walk_at "hp", by walk_at "hp", by walk_at "hp", by walk_at "hp", by walk_at "hp", by rw [upd_ne n12, g1]; simp, ?_⟩
        rw [upd_same]
        simp
    rintro σ' H5 ⟨⟨y, rfl⟩, eb, gD, ge, gd, gl, gm, g1, g2⟩
    have g1 : H5 a1 = some (.lst (rs1 ++ [.str "x"])) := g1
    have g2 : H5 a2 = some (.lst (rs2 ++ [.str "x"])) := g2
    clear hD4 h14 h24 hXe hXd hl hm e4
    have xE : Ox.Xat H5 e T.a_Contradiction d [("back", .ref m), ("there", .ref l)] := ⟨ge, gd⟩
    have shW : SeqAt.shaped (.list [.list ds1, .list ds2]) = true := Od.sh_of (n := 3) (by decide) (Od.sh_list (by decide) fun dd hd => by
      rcases List.mem_cons.mp hd with rfl | hd
      · exact Od.sh_list (by decide) sh1
      · rcases List.mem_cons.mp hd with rfl | hd
        · exact Od.sh_list (by decide) sh2
        · cases hd)
    -- the error's lists are as they were
    refine Evl.q_when (b := false) (Evl.et_test (Od.ev_nsameD (d := .list [.list ds1, .list ds2]) (Od.ed_ld (Od.eld_lst (Od.ead_cons (Od.ed_ev (Oe.ev_xfv (Evl.ev_var rfl) xE T.e_Contradiction T.xf_Contradiction_there rfl) (.lst (SqL.of gl) (Od.da_ex eb _ _ d1B)))
      (Od.ead_cons (Od.ed_ev (Oe.ev_xfv (Evl.ev_var rfl) xE T.e_Contradiction T.xf_Contradiction_back rfl) (.lst (SqL.of gm) (Od.da_ex eb _ _ d2B))) Od.ead_nil)) (by show 2 ≤ 100000; decide)))
      (Od.ed_ev (Evl.ev_var rfl) (.lst (SqL.of (eb _ _ bw)) (.cons (.lst (SqL.of (eb _ _ b1)) (Od.da_ex eb _ _ d1B)) (.cons (.lst (SqL.of (eb _ _ b2)) (Od.da_ex eb _ _ d2B)) .nil)))) shW)) (fun hb => nomatch hb) fun _ H6 e6 => ?_
    have eb := eb.trans e6
    have xE := Oe.Xat.ex xE e6
    have rl1 : rs1.length ≤ 26 := by rw [Od.da_len d1B]; exact ll1
    have gl := e6 _ _ gl
    have gm := e6 _ _ gm
    have gD := e6 _ _ gD
    have g1 := e6 _ _ g1
    have g2 := e6 _ _ g2
    clear e6 ge gd
    refine Evl.q_app gl (Oe.ev_xfv (Evl.ev_var rfl) xE T.e_Contradiction T.xf_Contradiction_there rfl) Evl.ev_c (by omega) fun H7 e7 => ?_
    have eb := eb.trans e7
    have xE := Oe.Xat.ex xE e7
    have gm := e7 _ _ gm
    have gD := e7 _ _ gD
    have g1 := e7 _ _ g1
    have g2 := e7 _ _ g2
    obtain ⟨ge, gd⟩ := xE
    have ge : upd H7 l (.lst (rs1 ++ [.str "y"])) e = some (exo e T.a_Contradiction (some d)) := by walk_at "hp"
    have gd : upd H7 l (.lst (rs1 ++ [.str "y"])) d = some (exd d [("back", .ref m), ("there", .ref l)]) := by walk_at "hp"
    have gm : upd H7 l (.lst (rs1 ++ [.str "y"])) m = some (.lst rs2) := by walk_at "hp"
    have gD : upd H7 l (.lst (rs1 ++ [.str "y"])) D = some (.lst [.ref a1, .ref a2]) := by walk_at "hp"
    have g1 : upd H7 l (.lst (rs1 ++ [.str "y"])) a1 = some (.lst (rs1 ++ [.str "x"])) := by walk_at "hp"
    have g2 : upd H7 l (.lst (rs1 ++ [.str "y"])) a2 = some (.lst (rs2 ++ [.str "x"])) := by walk_at "hp"
    have eb : Evl.Ex B (upd H7 l (.lst (rs1 ++ [.str "y"]))) := Evl.Ex.mut eb nlB
    generalize upd H7 l (.lst (rs1 ++ [.str "y"])) = H8 at ge gd gm gD g1 g2 eb ⊢
    -- the other list is cleared
    refine Oe.o_seqDrop ?_
    refine Oe.ev_xfv (K := K) (Evl.ev_var (i := 5) rfl) ⟨ge, gd⟩ T.e_Contradiction T.xf_Contradiction_back rfl H8 (Evl.Ex.refl _) _ fun H9 e9 => ?_
    refine ⟨.inl ⟨rfl, _, SqL.of (e9 _ _ gm)⟩, m, _, rfl, rfl, e9 _ _ gm, ?_⟩
    have gD := e9 _ _ gD
    have g1 := e9 _ _ g1
    have g2 := e9 _ _ g2
    have eb := eb.trans e9
    have gD : upd H9 m (.lst []) D = some (.lst [.ref a1, .ref a2]) := by walk_at "hp"
    have g1 : upd H9 m (.lst []) a1 = some (.lst (rs1 ++ [.str "x"])) := by walk_at "hp"
    have g2 : upd H9 m (.lst []) a2 = some (.lst (rs2 ++ [.str "x"])) := by walk_at "hp"
    have eb : Evl.Ex B (upd H9 m (.lst [])) := Evl.Ex.mut eb nmB
    generalize upd H9 m (.lst []) = HA at gD g1 g2 eb ⊢
    have shx : ∀ {ds : List PyData}, (∀ d ∈ ds, d.canLay0 = true ∧ d.depth ≤ 1) → ∀ d ∈ ds ++ [PyData.str "x"], d.canLay0 = true ∧ d.depth ≤ 1 := fun h d hd => by
      rcases List.mem_append.mp hd with hd | hd
      · exact h d hd
      · cases List.mem_singleton.mp hd
        exact ⟨by decide +kernel, Nat.zero_le _⟩
    have shR : SeqAt.shaped (.list [.list (ds1 ++ [.str "x"]), .list (ds2 ++ [.str "x"])]) = true := Od.sh_of (n := 3) (by decide) (Od.sh_list (by decide) fun dd hd => by
      rcases List.mem_cons.mp hd with rfl | hd
      · exact Od.sh_list (by decide) (shx sh1)
      · rcases List.mem_cons.mp hd with rfl | hd
        · exact Od.sh_list (by decide) (shx sh2)
        · cases hd)
    have c1 := Od.da_ex eb _ _ d1B
    have c2 := Od.da_ex eb _ _ d2B
    refine Evl.s_ret (v := .bl true) (Od.ev_sameD (d := .list [.list (ds1 ++ [.str "x"]), .list (ds2 ++ [.str "x"])]) (Od.ed_ev (Evl.ev_var rfl) (.lst (SqL.of gD) (.cons (.lst (SqL.of g1) (Od.da_app c1 (Od.da_one (.str "x")))) (.cons (.lst (SqL.of g2) (Od.da_app c2 (Od.da_one (.str "x")))) .nil)))) ?_ shR) fun HB eB' => q HB (eB.trans (eb.trans eB'))
    refine Od.ed_ld (ds := [.list (ds1 ++ [.str "x"]), .list (ds2 ++ [.str "x"])]) ?_
    refine Od.eld_lc (σ := [some (.ref L), some (.ref w0), none, some (.ref D), y, some (.ref e)]) (j := 4) (vs := [4]) (fun i => if i = 0 then .list (ds1 ++ [.str "x"]) else .list (ds2 ++ [.str "x"])) (xs := [.ref p1, .ref p2]) (Evl.ev_var (i := 1) rfl) (SqL.of (eb _ _ bw)) (by show 2 ≤ 40000; decide) (fun _ => rfl) fun i x hx => ?_
    have hi2 : i = 0 ∨ i = 1 := by
      have := (List.getElem?_eq_some_iff.mp hx).1
      have : i < 2 := this
      omega
    have lx : Od.EvLD K (tLst (tCons (tC (.str "x")) tNil)) ((wipe [some (.ref L), some (.ref w0), none, some (.ref D), y, some (.ref e)] [4]).set 4 (some x)) HA [.str "x"] := Od.eld_lst (Od.ead_cons (Od.ed_ev Evl.ev_c (.str "x")) Od.ead_nil) (by show 1 ≤ 100000; decide)
    rcases hi2 with rfl | rfl
    · cases hx
      exact Od.ed_ld (Od.eld_cat (Evl.ev_var (i := 4) rfl) (eb _ _ b1) c1 lx (by show ds1.length + 1 ≤ 100000; omega))
    · cases hx
      exact Od.ed_ld (Od.eld_cat (Evl.ev_var (i := 4) rfl) (eb _ _ b2) c2 lx (by show ds2.length + 1 ≤ 100000; omega))
end
end K19

set_option Elab.async false
set_option linter.all false
set_option maxRecDepth 100000
set_option maxHeartbeats 4000000
/-! law k19: the law -/
namespace K19
open PySem PySem.Spec PyProof.Rows L2
local macro_rules | `(tactic| walk_at "ne") => `(tactic| first | assumption | (apply Ne.symm; assumption))
local macro_rules | `(tactic| walk_at "hp") => `(tactic| ((repeat (first | rw [upd_same] | rw [upd_ne (by walk_at "ne")])); first | assumption | rfl | skip))
def spLaw (K : PySem.W.Frag) : Sp := fun vs H Q _ => ∃ (a : Addr) (ns : List Int), vs = [.ref a] ∧ SqL K H a (ns.map V.int) ∧ ns.length ≤ 63 ∧ ∀ H', Q (.bl true) H'
section
variable {K : PySem.W.Frag} {σ : L2.St} {H H' : Hp} {te : TE} {y : V}
/-- a new error of the class at C with these fields -/
def EvX (te : TE) (σ : L2.St) (H : Hp) (C : Addr) (fs : List (Str × V)) : Prop := ∀ H1, Evl.Ex H H1 → ∀ Q : VK, (∀ a d H2, H1 a = none → Evl.Ex H1 H2 → Ox.Xat H2 a C d fs → Q (.ref a) H2) → te σ H1 Q
theorem ex_mk {C : Addr} {f : Str} (h : Evl.Ev te σ H y) : EvX (Ox.tMkV C (spI C f) [] (tCons te tNil)) σ H C [(f, y)] := fun H1 e1 Q q => h H1 e1 _ fun H2 e2 => by
  refine ⟨by show 1 ≤ 1000; decide, fun a na => ⟨a, y, rfl, upd_same, fun dx nd hda => ⟨rfl, ?_⟩⟩⟩
  have nd0 : H2 dx = none := by rw [upd_ne hda] at nd; exact nd
  refine q a dx _ (Evl.fresh_back e2 na) (fun b o hb => ?_) ⟨upd_same, by walk_at "hp"⟩
  have h2 := e2 b o hb
  have n1 := ne_of_none h2 na
  have n2 := ne_of_none h2 nd0
  walk_at "hp"
def MkC (C : Addr) (x y : V) (H : Hp) (Q : VK) : Prop := [x, y].length ≤ 1000 ∧ ∀ a, H a = none → spC C (.ref a :: ([x, y] ++ [])) (upd H a (exo a C none)) (fun v H2 => v = .non ∧ Q (.ref a) H2) (fun _ _ _ => False)
theorem o_mkC {C : Addr} {ta tb : TE} {Q : VK} (h : ta σ H fun x H1 => tb σ H1 fun y H2 => MkC C x y H2 Q) : Ox.tMkV C (spC C) [] (tCons ta (tCons tb tNil)) σ H Q := h
theorem mkC {C p q : Addr} {xs ys : List V} (hp : H p = some (.lst xs)) (hq : H q = some (.lst ys)) {Q : VK} (k : ∀ a d l m H2, Evl.Ex H H2 → Ox.Xat H2 a C d [("back", .ref m), ("there", .ref l)] → H2 l = some (.lst xs) → H2 m = some (.lst ys) → Q (.ref a) H2) :
    MkC C (.ref p) (.ref q) H Q := by
  refine ⟨by show 2 ≤ 1000; decide, fun a na => ?_⟩
  have np := ne_of_none hp na
  have nq := ne_of_none hq na
  refine ⟨a, p, q, xs, ys, rfl, upd_same, by walk_at "hp", by walk_at "hp", fun H4 d l m bt nd nl nm nlm hX hl hm => ⟨rfl, k a d l m H4 (fun b o hb => ?_) hX hl hm⟩⟩
  have nb := ne_of_none hb na
  exact bt b o nb (by walk_at "hp")
/-- errors that stand in a heap: where, class, dict, fields -/
def XS (H : Hp) (ts : List (Addr × Addr × Addr × List (Str × V))) : Prop := ∀ t ∈ ts, Ox.Xat H t.1 t.2.1 t.2.2.1 t.2.2.2
theorem XS.ex {ts : List (Addr × Addr × Addr × List (Str × V))} (h : XS H ts) (e : Evl.Ex H H') : XS H' ts := fun t ht => Oe.Xat.ex (h t ht) e
theorem XS.nil : XS H [] := fun t h => by cases h
theorem XS.cons {ts : List (Addr × Addr × Addr × List (Str × V))} {a C d : Addr} {fs : List (Str × V)} (h : XS H ts) (e : Evl.Ex H H') (x : Ox.Xat H' a C d fs) : XS H' ((a, C, d, fs) :: ts) := fun t ht => by
  rcases List.mem_cons.mp ht with rfl | ht
  · exact x
  · exact Oe.Xat.ex (h t ht) e
theorem sq_but {p a : Addr} {xs : List V} (b : But p H H') (hp : H p = none) (h : SqL K H a xs) : SqL K H' a xs := by
  rcases h with (h | ⟨o, h⟩) | h
  · exact .inl (.inl (b _ _ (ne_of_none h hp) h))
  · exact .inl (.inr ⟨o, b _ _ (ne_of_none h hp) h⟩)
  · exact .inr h
end
section
variable {P : Program} {w : World} {K : PySem.W.Frag} {mg : Str → Option Value} {base' : Heap}
theorem ok_law (T : Tx K mg) : FnOk P w K mg base' CX0 4 T.f_law T.d_law ["_law_script"] (spLaw K) := by
  refine T.F_law.ok sc_law (fun vs H Q E h => ?_) (fun cdv A outer s H vs Q E hr h => ?_)
  · obtain ⟨a, ns, rfl, _⟩ := h
    rfl
  · obtain ⟨a, ns, rfl, hS, hlen, q⟩ := h
    refine ⟨_, (pss_cons (ps_for PassesOwn.never rfl (pi_range1 rfl T.n_range (pa_cons pe_int pa_nil)) (pg_name (i := 1) sc_law.nd rfl (Or.inl rfl)) (pss_cons (ps_set (i := 2) sc_law.nd rfl (Or.inl rfl) (pe_call (ok_l_pile T) (hr.mono (by decide)) (by rfl) T.m_l_pile T.F_l_pile.kp T.b_l_pile .nil pass0 (pa_cons (pv 0) (pa_cons (pv 1) pa_nil))))
  (pss_cons (ps_set (i := 3) sc_law.nd rfl (Or.inl rfl) (pe_call (ok_l_names T) hr (by rfl) T.m_l_names T.F_l_names.kp T.b_l_names .nil pass0 (pa_cons (pv 2) (pa_cons (pe_op op_add pe_int (pe_call (ok_l_take T) (hr.mono (by decide)) (by rfl) T.m_l_take T.F_l_take.kp T.b_l_take .nil pass0 (pa_cons (pv 2) (pa_cons pe_int pa_nil)))) pa_nil))))
  (pss_cons (ps_set (i := 4) sc_law.nd rfl (Or.inl rfl) (pe_ix ix_list (pe_lst (pa_cons (pe_ix ix_list (pv 3) pe_int (fun _ _ => rfl)) (pa_cons pe_non (pa_cons (pe_call (ok_l_take T) (hr.mono (by decide)) (by rfl) T.m_l_take T.F_l_take.kp T.b_l_take .nil pass0 (pa_cons (pv 2) (pa_cons (pe_op op_pow pe_int pe_int) pa_nil))) (pa_cons (pe_lst (pa_cons (pe_ix ix_list (pv 3) (pe_un un_neg pe_int) (fun _ _ => rfl)) pa_nil)) (pa_cons pe_bl pa_nil)))))) (pe_call (ok_l_take T) (hr.mono (by decide)) (by rfl) T.m_l_take T.F_l_take.kp T.b_l_take .nil pass0 (pa_cons (pv 2) (pa_cons pe_int pa_nil))) (fun _ _ => rfl)))
  (pss_cons (ps_par (i := 5) (j := 6) rfl sc_law.nd rfl rfl (by decide) rfl rfl (pa_cons (pe_call (ok_l_take T) (hr.mono (by decide)) (by rfl) T.m_l_take T.F_l_take.kp T.b_l_take .nil pass0 (pa_cons (pv 2) (pa_cons pe_int pa_nil))) (pa_cons (pe_ix ix_list (pe_lst (pa_cons pe_non (pa_cons (pe_call (ok_l_take T) (hr.mono (by decide)) (by rfl) T.m_l_take T.F_l_take.kp T.b_l_take .nil pass0 (pa_cons (pv 2) (pa_cons pe_int pa_nil))) pa_nil))) (pe_call (ok_l_take T) (hr.mono (by decide)) (by rfl) T.m_l_take T.F_l_take.kp T.b_l_take .nil pass0 (pa_cons (pv 2) (pa_cons pe_int pa_nil))) (fun _ _ => rfl)) pa_nil)) (by rfl))
  (pss_cons (ps_setLc (i := 7) (own := [("_law_name", 8)]) (g := (gName 8)) (tt := tYes) rfl sc_law.nd rfl rfl (sw_true rfl rfl rfl (by decide +kernel)) (pi_list (pv 3)) (blkOk_by (N := ["_law_script", "_law_at", "_law_pile_here", "_law_names_here", "_law_thing", "_law_k", "_law_j", "_law_claims", "_law_name", "_law_made", "_law_place", "_law_error", "_law_other", "_law_told", "_law_grown", "_law_kept"]) (sc := defScope s_law) (by decide +kernel)) (fun _ _ _ _ _ => (pg_name (i := 8) sc_law.nd rfl (Or.inl rfl))) (fun _ _ _ _ _ => pts_nil) (fun _ _ _ _ _ => (pe_tup (pa_cons (pv 8) (pa_cons pe_bl pa_nil)))))
  (pss_cons (ps_set (i := 9) sc_law.nd rfl (Or.inl rfl) (pe_lst (pa_cons (Ox.pe_mkv T.x_InvalidRegion.oe T.x_InvalidRegion.ini T.x_InvalidRegion.ity (ok_InvalidRegion___init__ T) (hr.mono (by decide)) T.b_InvalidRegion___init__ .nil pass0 (by rfl) T.m_InvalidRegion (pa_cons (pv 6) pa_nil)) (pa_cons (Ox.pe_mkv T.x_InvalidFact.oe T.x_InvalidFact.ini T.x_InvalidFact.ity (ok_InvalidFact___init__ T) (hr.mono (by decide)) T.b_InvalidFact___init__ .nil pass0 (by rfl) T.m_InvalidFact (pa_cons (pv 5) pa_nil)) (pa_cons (Ox.pe_mkv T.x_InvalidPatch.oe T.x_InvalidPatch.ini T.x_InvalidPatch.ity (ok_InvalidPatch___init__ T) (hr.mono (by decide)) T.b_InvalidPatch___init__ .nil pass0 (by rfl) T.m_InvalidPatch (pa_cons (pv 6) pa_nil)) (pa_cons (Ox.pe_mkv T.x_InvalidClaim.oe T.x_InvalidClaim.ini T.x_InvalidClaim.ity (ok_InvalidClaim___init__ T) (hr.mono (by decide)) T.b_InvalidClaim___init__ .nil pass0 (by rfl) T.m_InvalidClaim (pa_cons (pv 5) pa_nil)) (pa_cons (Ox.pe_mkv T.x_InvalidDeed.oe T.x_InvalidDeed.ini T.x_InvalidDeed.ity (ok_InvalidDeed___init__ T) (hr.mono (by decide)) T.b_InvalidDeed___init__ .nil pass0 (by rfl) T.m_InvalidDeed (pa_cons (pv 6) pa_nil)) pa_nil)))))))
  (pss_cons (ps_set (i := 9) sc_law.nd rfl (Or.inl rfl) (pe_op op_cat (pv 9) (pe_lst (pa_cons (Ox.pe_mkv T.x_InvalidColour.oe T.x_InvalidColour.ini T.x_InvalidColour.ity (ok_InvalidColour___init__ T) (hr.mono (by decide)) T.b_InvalidColour___init__ .nil pass0 (by rfl) T.m_InvalidColour (pa_cons (pv 4) pa_nil)) (pa_cons (Ox.pe_mkv T.x_InvalidNumber.oe T.x_InvalidNumber.ini T.x_InvalidNumber.ity (ok_InvalidNumber___init__ T) (hr.mono (by decide)) T.b_InvalidNumber___init__ .nil pass0 (by rfl) T.m_InvalidNumber (pa_cons (pv 4) pa_nil)) (pa_cons (Ox.pe_mkv T.x_UnknownRegion.oe T.x_UnknownRegion.ini T.x_UnknownRegion.ity (ok_UnknownRegion___init__ T) (hr.mono (by decide)) T.b_UnknownRegion___init__ .nil pass0 (by rfl) T.m_UnknownRegion (pa_cons (pv 4) pa_nil)) (pa_cons (Ox.pe_mkv T.x_InvalidMap.oe T.x_InvalidMap.ini T.x_InvalidMap.ity (ok_InvalidMap___init__ T) (hr.mono (by decide)) T.b_InvalidMap___init__ .nil pass0 (by rfl) T.m_InvalidMap (pa_cons (pv 5) pa_nil)) pa_nil)))))))
  (pss_cons (ps_set (i := 9) sc_law.nd rfl (Or.inl rfl) (pe_op op_cat (pv 9) (pe_lst (pa_cons (Ox.pe_mkv T.x_InvalidText.oe T.x_InvalidText.ini T.x_InvalidText.ity (ok_InvalidText___init__ T) (hr.mono (by decide)) T.b_InvalidText___init__ .nil pass0 (by rfl) T.m_InvalidText (pa_cons (pv 6) pa_nil)) (pa_cons (Ox.pe_mkv T.x_Contradiction.oe T.x_Contradiction.ini T.x_Contradiction.ity (ok_Contradiction___init__ T) (hr.mono (by decide)) T.b_Contradiction___init__ .nil pass0 (by rfl) T.m_Contradiction (pa_cons (pe_lst pa_nil) (pa_cons (pv 7) pa_nil))) (pa_cons (Ox.pe_mkv T.x_TooMany.oe T.x_TooMany.ini T.x_TooMany.ity (ok_TooMany___init__ T) (hr.mono (by decide)) T.b_TooMany___init__ .nil pass0 (by rfl) T.m_TooMany (pa_cons (pv 5) pa_nil)) (pa_cons (Ox.pe_exc0 PySem.F.excBase_ValueError T.x_NothingToUndo.ein T.m_NothingToUndo T.x_NothingToUndo.kc (by rfl)) pa_nil)))))))
  (pss_cons (ps_for PassesOwn.never rfl (pi_enum rfl T.n_enumerate (pa_cons (pv 9) pa_nil)) (pg_tup rfl (pgs_cons (pg_name (i := 10) sc_law.nd rfl (Or.inr rfl)) (pgs_cons (pg_name (i := 11) sc_law.nd rfl (Or.inl rfl)) pgs_nil))) (pss_cons (ps_if (pt_cmpR (op_neD hr.units) (pe_call (ok_l_classes T) (hr.mono (by decide)) (by rfl) T.m_l_classes T.F_l_classes.kp T.b_l_classes .nil pass0 (pa_cons (pv 11) pa_nil)) (pe_lst (pa_cons (pe_lc (own := [("_law_other", 12)]) (g := (gName 12)) (tt := tYes) rfl sc_law.nd (pi_range1 rfl T.n_range (pa_cons pe_int pa_nil)) (blkOk_by (N := ["_law_script", "_law_at", "_law_pile_here", "_law_names_here", "_law_thing", "_law_k", "_law_j", "_law_claims", "_law_name", "_law_made", "_law_place", "_law_error", "_law_other", "_law_told", "_law_grown", "_law_kept"]) (sc := defScope s_law) (by decide +kernel)) (fun _ _ _ _ _ => (pg_name (i := 12) sc_law.nd rfl (Or.inl rfl))) (fun _ _ _ _ _ => pts_nil) (fun _ _ _ _ _ => (pe_cmpR op_eq (pv 12) (pv 10) (nomark _)))) (pa_cons pe_bl (pa_cons pe_bl pa_nil)))) (nomark _)) (pss_one (ps_ret pe_bl)) pss_nil)
  (pss_one (ps_if (pt_val (pe_callB (id := "isinstance") Ox.call_isXT (by rfl) T.n_isinstance (by decide +kernel) (pa_cons (pv 11) (pa_cons (pe_tup (pa_cons (pe_bltn (v := .ty "LookupError") (by rfl) T.n_LookupError (by decide +kernel) rfl) (pa_cons (pe_bltn (v := .ty "TypeError") (by rfl) T.n_TypeError (by decide +kernel) rfl) (pa_cons (pe_bltn (v := .ty "ArithmeticError") (by rfl) T.n_ArithmeticError (by decide +kernel) rfl) pa_nil)))) pa_nil)))) (pss_one (ps_ret pe_bl)) pss_nil))))
  (pss_cons (ps_set (i := 13) sc_law.nd rfl (Or.inl rfl) (pe_lst (pa_cons (Ox.pe_xfv (pe_ix ix_list (pv 9) pe_int (fun _ _ => rfl))) (pa_cons (Ox.pe_xfv (pe_ix ix_list (pv 9) pe_int (fun _ _ => rfl))) (pa_cons (Ox.pe_xfv (pe_ix ix_list (pv 9) pe_int (fun _ _ => rfl))) (pa_cons (Ox.pe_xfv (pe_ix ix_list (pv 9) pe_int (fun _ _ => rfl))) (pa_cons (Ox.pe_xfv (pe_ix ix_list (pv 9) pe_int (fun _ _ => rfl))) (pa_cons (Ox.pe_xfv (pe_ix ix_list (pv 9) pe_int (fun _ _ => rfl))) pa_nil))))))))
  (pss_cons (ps_set (i := 13) sc_law.nd rfl (Or.inl rfl) (pe_op op_cat (pv 13) (pe_lst (pa_cons (Ox.pe_xfv (pe_ix ix_list (pv 9) pe_int (fun _ _ => rfl))) (pa_cons (Ox.pe_xfv (pe_ix ix_list (pv 9) pe_int (fun _ _ => rfl))) (pa_cons (Ox.pe_xfv (pe_ix ix_list (pv 9) pe_int (fun _ _ => rfl))) (pa_cons (Ox.pe_xfv (pe_ix ix_list (pv 9) pe_int (fun _ _ => rfl))) (pa_cons (Ox.pe_xfv (pe_ix ix_list (pv 9) pe_int (fun _ _ => rfl))) (pa_cons (Ox.pe_xfv (pe_ix ix_list (pv 9) pe_int (fun _ _ => rfl))) pa_nil)))))))))
  (pss_cons (ps_if (pt_cmpR (op_neD hr.units) (pe_op op_cat (pv 13) (pe_lst (pa_cons (Ox.pe_xfv (pe_ix ix_list (pv 9) pe_int (fun _ _ => rfl))) pa_nil))) (pe_lst (pa_cons (pv 6) (pa_cons (pv 5) (pa_cons (pv 6) (pa_cons (pv 5) (pa_cons (pv 6) (pa_cons (pv 4) (pa_cons (pv 4) (pa_cons (pv 4) (pa_cons (pv 5) (pa_cons (pv 6) (pa_cons (pe_lst pa_nil) (pa_cons (pv 7) (pa_cons (pv 5) pa_nil)))))))))))))) (nomark _)) (pss_one (ps_ret pe_bl)) pss_nil)
  (pss_cons (ps_set (i := 14) sc_law.nd rfl (Or.inl rfl) (pe_callTy (T := "list") call_list_of (by rfl) T.n_list (by decide +kernel) (pa_cons (pv 3) pa_nil)))
  (pss_cons (ps_set (i := 15) sc_law.nd rfl (Or.inl rfl) (pe_lst (pa_cons (Ox.pe_mkv T.x_InvalidColour.oe T.x_InvalidColour.ini T.x_InvalidColour.ity (ok_InvalidColour___init__ T) (hr.mono (by decide)) T.b_InvalidColour___init__ .nil pass0 (by rfl) T.m_InvalidColour (pa_cons (pv 14) pa_nil)) (pa_cons (Ox.pe_mkv T.x_InvalidNumber.oe T.x_InvalidNumber.ini T.x_InvalidNumber.ity (ok_InvalidNumber___init__ T) (hr.mono (by decide)) T.b_InvalidNumber___init__ .nil pass0 (by rfl) T.m_InvalidNumber (pa_cons (pv 14) pa_nil)) (pa_cons (Ox.pe_mkv T.x_UnknownRegion.oe T.x_UnknownRegion.ini T.x_UnknownRegion.ity (ok_UnknownRegion___init__ T) (hr.mono (by decide)) T.b_UnknownRegion___init__ .nil pass0 (by rfl) T.m_UnknownRegion (pa_cons (pv 14) pa_nil)) pa_nil)))))
  (pss_cons (ps_expr (pe_bm PySem.F.plainAttrs_list PySem.F.slot_list_append PySem.F.type_list_append mt_append (pv 14) (pa_cons pe_str pa_nil)))
  (pss_one (ps_if (PW.pt (pw_or (pt_cmpR (op_neD hr.units) (pe_lst (pa_cons (Ox.pe_xfv (pe_ix ix_list (pv 15) pe_int (fun _ _ => rfl))) (pa_cons (Ox.pe_xfv (pe_ix ix_list (pv 15) pe_int (fun _ _ => rfl))) (pa_cons (Ox.pe_xfv (pe_ix ix_list (pv 15) pe_int (fun _ _ => rfl))) pa_nil)))) (pe_op op_rep (pe_lst (pa_cons (pe_op op_cat (pv 3) (pe_lst (pa_cons pe_str pa_nil))) pa_nil)) pe_int) (nomark _)) (pw_or1 (pt_not (pt_val (pe_call (ok_l_ways_right T) hr (by rfl) T.m_l_ways_right T.F_l_ways_right.kp T.b_l_ways_right .nil pass0 (pa_cons (pv 3) pa_nil))))))) (pss_one (ps_ret pe_bl)) pss_nil))))))))))))))))))
  (pss_one (ps_ret pe_bl))), ?_⟩
    refine Evl.q_forR1 (n := 3) (Evl.ea_cons Evl.ev_c Evl.ea_nil) (by decide) (fun i σ' H' => (∃ y1 y2 y3 y4 y5 y6 y7 y8 y9 y10 y11 y12 y13 y14 y15, σ' = [some (.ref a), y1, y2, y3, y4, y5, y6, y7, y8, y9, y10, y11, y12, y13, y14, y15]) ∧ SqL K H' a (ns.map V.int)) ?_ ?_ ?_
    · intro H1 e1
      exact ⟨⟨_, _, _, _, _, _, _, _, _, _, _, _, _, _, _, rfl⟩, Evl.ex_l e1 hS⟩
    · rintro i σ' H0 hi ⟨⟨y1, y2, y3, y4, y5, y6, y7, y8, y9, y10, y11, y12, y13, y14, y15, rfl⟩, hS⟩
      have hi3 : i < 3 := by omega
      -- the pile
      refine ⟨_, rfl, _, rfl, a, ns, i, rfl, hS, hlen, by omega, fun p H1 np s1 P1 => ?_⟩
      have pAt : ∀ {H' : Hp} {k : Nat}, Pile H' p k → ∃ o, H' p = some o := fun ⟨_, _, _, e, _⟩ => ⟨_, e⟩
      have b1 : But p H0 H1 := But.same s1
      -- the names
      refine ⟨_, rfl, _, rfl, p, _, 9, rfl, P1, by omega, by decide, by decide, by decide, fun d H2 d0 d1 b2 P2 => ?_⟩
      obtain ⟨m, rfl⟩ := Int.eq_ofNat_of_zero_le d0
      refine ⟨_, _, rfl, rfl, p, _, 1 + m, rfl, P2, by omega, by omega, by omega, fun xs L H3 hxl hxo nL b3 P3 hL => ?_⟩
      have nLp : L ≠ p := fun z => by
        obtain ⟨o, e⟩ := pAt P2
        rw [z, e] at nL
        cases nL
      have b03 : But p H0 H3 := (b1.trans b2).trans b3
      clear b1 b2 b3 s1 nL P1 P2
      obtain ⟨x0, xr, rfl⟩ : ∃ x0 xr, xs = x0 :: xr := by
        cases xs with
        | nil => simp at hxl; omega
        | cons x r => exact ⟨x, r, rfl⟩
      -- the thing
      refine ⟨_, rfl, L, _, 0, .str x0, rfl, rfl, SqL.of hL, atI_nat (j := 0) rfl, ?_⟩
      refine ⟨_, rfl, _, _, rfl, rfl, (by show (0 : Int) ≤ 9 ∧ (9 : Int) ≤ 1000000 ∧ (10 : Int).natAbs < 2 ^ 64; decide), p, _, _, rfl, P3, by omega, (by decide +kernel), (by decide +kernel), (by decide +kernel), fun dn H4 t0 t1 b4 P4 => ?_⟩
      have hL4 := b4 _ _ nLp hL
      have lastI : atI ((x0 :: xr).map V.str) (-1) = some (.str ((x0 :: xr).getLast (List.cons_ne_nil _ _))) := by
        have hz : ((x0 :: xr).map V.str) = ((x0 :: xr).dropLast.map V.str) ++ [.str ((x0 :: xr).getLast (List.cons_ne_nil _ _))] := by
          rw [← List.map_singleton, ← List.map_append, List.dropLast_concat_getLast]
        rw [hz]
        exact atI_last _ _
      refine ⟨_, rfl, _, rfl, L, _, _, _, rfl, rfl, SqL.of hL4, lastI, small (by show 1 ≤ 100000; decide), fun q1 nq1 => ?_⟩
      refine ⟨small (by show 5 ≤ 100000; decide), fun q2 nq2 => ?_⟩
      have nq1p : q1 ≠ p := fun z => by
        obtain ⟨o, e⟩ := pAt P4
        rw [z, e] at nq1
        cases nq1
      have n12 : q1 ≠ q2 := ne_of_none upd_same nq2
      have P5 : Pile (upd (upd H4 q1 (.lst [.str ((x0 :: xr).getLast (List.cons_ne_nil _ _))])) q2 (.lst [.str x0, .non, .int dn, .ref q1, .bl true])) p _ := (P4.same (same_upd nq1)).same (same_upd nq2)
      have nq2p : q2 ≠ p := fun z => by
        obtain ⟨o, e⟩ := pAt (P4.same (same_upd (o := .lst [.str ((x0 :: xr).getLast (List.cons_ne_nil _ _))]) nq1))
        rw [z, e] at nq2
        cases nq2
      refine ⟨_, rfl, p, _, 5, rfl, P5, by omega, by decide, by decide, by decide, fun sl H6 u0 u1 b6 P6 => ?_⟩
      have hq16 : H6 q1 = some (.lst [.str ((x0 :: xr).getLast (List.cons_ne_nil _ _))]) := b6 _ _ nq1p (by walk_at "hp")
      have hq26 : H6 q2 = some (.lst [.str x0, .non, .int dn, .ref q1, .bl true]) := b6 _ _ nq2p upd_same
      have hL6 : H6 L = some (.lst ((x0 :: xr).map V.str)) := b6 _ _ nLp (same_upd nq2 _ _ (same_upd nq1 _ _ hL4))
      have b06 : But p H0 H6 := ((b03.trans b4).trans (But.same (same_upd nq1))).trans ((But.same (same_upd nq2)).trans b6)
      obtain ⟨thing, hth, dth, hdth, sth⟩ : ∃ thing, atI [V.str x0, .non, .int dn, .ref q1, .bl true] sl = some thing ∧ ∃ dth, (∀ H', H' q1 = some (.lst [.str ((x0 :: xr).getLast (List.cons_ne_nil _ _))]) → Dp K H' thing dth) ∧ dth.canLay0 = true ∧ dth.depth ≤ 1 := by
        have c0 : (PyData.str x0).canLay0 = true := nm_ok (hxo.2 _ (List.mem_cons_self ..))
        have c1 : (PyData.str ((x0 :: xr).getLast (List.cons_ne_nil _ _))).canLay0 = true := nm_ok (hxo.2 _ (List.getLast_mem _))
        have hc : sl = 0 ∨ sl = 1 ∨ sl = 2 ∨ sl = 3 ∨ sl = 4 := by omega
        rcases hc with rfl | rfl | rfl | rfl | rfl
        · exact ⟨_, rfl, _, fun _ _ => .str _, c0, Nat.zero_le _⟩
        · exact ⟨_, rfl, _, fun _ _ => .non, rfl, Nat.zero_le _⟩
        · exact ⟨_, rfl, _, fun _ _ => .int _, rfl, Nat.zero_le _⟩
        · exact ⟨_, rfl, _, fun _ h => .lst (SqL.of h) (.cons (.str _) .nil), Od.sh_list (n := 0) (by decide) fun d hd => by
            cases List.mem_singleton.mp hd
            exact ⟨c1, Nat.le_refl _⟩⟩
        · exact ⟨_, rfl, _, fun _ _ => .bl _, rfl, Nat.zero_le _⟩
      refine ⟨q2, _, _, thing, rfl, rfl, SqL.of hq26, hth, ?_⟩
      clear P4 P5 b4 b6 hL4 hq26 nq2 nq1 P3 hL b03 lastI hth n12 nq2p
      -- k and j
      refine ⟨_, rfl, p, _, 99, rfl, P6, by omega, by decide, by decide, by decide, fun kk H7 k0 k1 b7 P7 => ?_⟩
      refine ⟨_, rfl, p, _, 2000, rfl, P7, by omega, by decide, by decide, by decide, fun jj H8 j0 j1 b8 P8 => ?_⟩
      refine ⟨small (by show 2 ≤ 100000; decide), fun q3 nq3 => ?_⟩
      have nq3p : q3 ≠ p := fun z => by
        obtain ⟨o, e⟩ := pAt P8
        rw [z, e] at nq3
        cases nq3
      refine ⟨_, rfl, p, _, 2, rfl, P8.same (same_upd nq3), by omega, by decide, by decide, by decide, fun sj H9 v0 v1 b9 P9 => ?_⟩
      have hq39 : H9 q3 = some (.lst [.non, .int jj]) := b9 _ _ nq3p upd_same
      obtain ⟨j, hj, dj, hdj, sj⟩ : ∃ j, atI [V.non, .int jj] sj = some j ∧ ∃ dj, (∀ H', Dp K H' j dj) ∧ dj.canLay0 = true ∧ dj.depth ≤ 1 := by
        have hc : sj = 0 ∨ sj = 1 := by omega
        rcases hc with rfl | rfl
        · exact ⟨_, rfl, _, fun _ => .non, rfl, Nat.zero_le _⟩
        · exact ⟨_, rfl, _, fun _ => .int _, rfl, Nat.zero_le _⟩
      refine ⟨q3, _, _, j, rfl, rfl, SqL.of hq39, hj, _, _, rfl, ?_⟩
      have b69 : But p H6 H9 := (b7.trans b8).trans ((But.same (same_upd nq3)).trans b9)
      have hS9 : SqL K H9 a (ns.map V.int) := sq_but (b06.trans b69) np hS
      have hL9 : H9 L = some (.lst ((x0 :: xr).map V.str)) := b69 _ _ nLp hL6
      have dth9 : Dp K H9 thing dth := hdth _ (b69 _ _ nq1p hq16)
      have hdj9 : Dp K H9 j dj := hdj H9
      clear b06 b69 hS hL6 hdth hq16 hdj hj b7 b8 b9 P6 P7 P8 P9 hq39 nq3 nq3p nq1p
      generalize hxs : x0 :: xr = xs at *
      have hz : (xs.map V.str).length ≤ 26 := by rw [List.length_map]; omega
      -- the claims
      dsimp only
      refine Oe.o_seqAsg ?_
      refine Od.eld_lc (σ := [some (.ref a), some (.int i), some (.ref p), some (.ref L), some thing, some (.int kk), some j, y7, y8, y9, y10, y11, y12, y13, y14, y15]) (j := 8) (vs := [8]) (fun i => dt true ((xs.map V.str).getD i .non)) (Evl.ev_var (i := 3) rfl) (SqL.of hL9) (by omega) (fun _ => rfl) (fun i x hx => ?_) H9 (Evl.Ex.refl _) _ fun c rsC HC GC nC eC hC oC gC dC => ?_
      · have hd : (xs.map V.str).getD i .non = x := by rw [List.getD_eq_getElem?_getD, hx]; rfl
        rw [hd]
        rw [List.getElem?_map] at hx
        cases hy : xs[i]? with
        | none => rw [hy] at hx; cases hx
        | some y =>
          rw [hy] at hx
          cases hx
          exact Od.ed_tup (Od.ead_cons (Od.ed_ev (Evl.ev_var rfl) (.str y)) (Od.ead_cons (Od.ed_ev Evl.ev_c (.bl true)) Od.ead_nil)) (by show 2 ≤ 100000; decide)
      have dC : DpAll K HC rsC (dts true (xs.map V.str)) := Od.da_ex oC.sub _ _ dC
      clear oC gC
      -- the errors: the first five
      refine Oe.o_seqAsg (Oe.o_lst (Oe.o_cons ?_))
      refine ex_mk (Evl.ev_var (i := 6) (by rfl)) HC (Evl.Ex.refl _) _ fun a0 d0 M0 n0 e0 x0 => ?_
      have X0 : XS M0 _ := XS.nil.cons e0 x0
      refine Oe.o_cons ?_
      refine ex_mk (Evl.ev_var (i := 5) (by rfl)) M0 (Evl.Ex.refl _) _ fun a1 d1 M1 n1 e1 x1 => ?_
      have X1 := X0.cons e1 x1
      have e1 := e0.trans e1
      refine Oe.o_cons ?_
      refine ex_mk (Evl.ev_var (i := 6) (by rfl)) M1 (Evl.Ex.refl _) _ fun a2 d2 M2 n2 e2 x2 => ?_
      have X2 := X1.cons e2 x2
      have e2 := e1.trans e2
      refine Oe.o_cons ?_
      refine ex_mk (Evl.ev_var (i := 5) (by rfl)) M2 (Evl.Ex.refl _) _ fun a3 d3 M3 n3 e3 x3 => ?_
      have X3 := X2.cons e3 x3
      have e3 := e2.trans e3
      refine Oe.o_cons ?_
      refine ex_mk (Evl.ev_var (i := 6) (by rfl)) M3 (Evl.Ex.refl _) _ fun a4 d4 M4 n4 e4 x4 => ?_
      have X4 := X3.cons e4 x4
      have e4 := e3.trans e4
      refine ⟨small (by show 5 ≤ 100000; decide), fun l1 nl1 => ?_⟩
      have X4 := X4.ex (Evl.Ex.new (o := .lst [.ref a0, .ref a1, .ref a2, .ref a3, .ref a4]) nl1)
      have e4 := e4.trans (Evl.Ex.new (o := .lst [.ref a0, .ref a1, .ref a2, .ref a3, .ref a4]) nl1)
      have hl1 : upd M4 l1 (.lst [.ref a0, .ref a1, .ref a2, .ref a3, .ref a4]) l1 = _ := upd_same
      generalize upd M4 l1 (.lst [.ref a0, .ref a1, .ref a2, .ref a3, .ref a4]) = N4 at X4 e4 hl1 ⊢
      clear X0 X1 X2 X3 e0 e1 e2 e3 x0 x1 x2 x3 x4 n0 n1 n2 n3 n4 nl1
      -- four more
      refine Oe.o_seqAsg (Oe.o_op ⟨_, rfl, Oe.o_lst (Oe.o_cons ?_)⟩)
      refine ex_mk (Evl.ev_var (i := 4) (by rfl)) N4 (Evl.Ex.refl _) _ fun a5 d5 M5 n5 e5 x5 => ?_
      have X5 := X4.cons e5 x5
      refine Oe.o_cons ?_
      refine ex_mk (Evl.ev_var (i := 4) (by rfl)) M5 (Evl.Ex.refl _) _ fun a6 d6 M6 n6 e6 x6 => ?_
      have X6 := X5.cons e6 x6
      have e6 := e5.trans e6
      refine Oe.o_cons ?_
      refine ex_mk (Evl.ev_var (i := 4) (by rfl)) M6 (Evl.Ex.refl _) _ fun a7 d7 M7 n7 e7 x7 => ?_
      have X7 := X6.cons e7 x7
      have e7 := e6.trans e7
      refine Oe.o_cons ?_
      refine ex_mk (Evl.ev_var (i := 5) (by rfl)) M7 (Evl.Ex.refl _) _ fun a8 d8 M8 n8 e8 x8 => ?_
      have X8 := X7.cons e8 x8
      have e8 := e7.trans e8
      refine ⟨small (by show 4 ≤ 100000; decide), fun l2 nl2 => ?_⟩
      have hl1 := same_upd (o := .lst [.ref a5, .ref a6, .ref a7, .ref a8]) nl2 _ _ (e8 _ _ hl1)
      refine ⟨l1, l2, _, _, rfl, rfl, hl1, upd_same, small (by show 5 + 4 ≤ 100000; decide), fun l3 nl3 => ?_⟩
      have X8 := (X8.ex (Evl.Ex.new (o := .lst [.ref a5, .ref a6, .ref a7, .ref a8]) nl2)).ex (Evl.Ex.new (o := .lst ([.ref a0, .ref a1, .ref a2, .ref a3, .ref a4] ++ [.ref a5, .ref a6, .ref a7, .ref a8])) nl3)
      have e8 := (e4.trans e8).trans ((Evl.Ex.new (o := .lst [.ref a5, .ref a6, .ref a7, .ref a8]) nl2).trans (Evl.Ex.new (o := .lst ([.ref a0, .ref a1, .ref a2, .ref a3, .ref a4] ++ [.ref a5, .ref a6, .ref a7, .ref a8])) nl3))
      have hl3 : upd (upd M8 l2 (.lst [.ref a5, .ref a6, .ref a7, .ref a8])) l3 (.lst ([.ref a0, .ref a1, .ref a2, .ref a3, .ref a4] ++ [.ref a5, .ref a6, .ref a7, .ref a8])) l3 = some (.lst [.ref a0, .ref a1, .ref a2, .ref a3, .ref a4, .ref a5, .ref a6, .ref a7, .ref a8]) := upd_same
      generalize upd (upd M8 l2 (.lst [.ref a5, .ref a6, .ref a7, .ref a8])) l3 (.lst ([.ref a0, .ref a1, .ref a2, .ref a3, .ref a4] ++ [.ref a5, .ref a6, .ref a7, .ref a8])) = N8 at X8 e8 hl3 ⊢
      clear X4 X5 X6 X7 e4 e5 e6 e7 x5 x6 x7 x8 n5 n6 n7 n8 nl2 nl3 hl1
      -- the last four
      refine Oe.o_seqAsg (Oe.o_op ⟨_, rfl, Oe.o_lst (Oe.o_cons ?_)⟩)
      refine ex_mk (Evl.ev_var (i := 6) (by rfl)) N8 (Evl.Ex.refl _) _ fun a9 d9 M9 n9 e9 x9 => ?_
      have X9 := X8.cons e9 x9
      refine Oe.o_cons ?_
      refine o_mkC ?_
      refine ⟨small (Nat.zero_le _), fun z nz => ⟨_, rfl, mkC (xs := []) (ys := rsC) upd_same (same_upd nz _ _ ((e8.trans e9) _ _ hC)) fun a10 d10 lC mC M10 e10 x10 hlC hmC => ?_⟩⟩
      have e10 := (Evl.Ex.new (o := .lst []) nz).trans e10
      have XA := X9.cons e10 x10
      have e10 := e9.trans e10
      refine Oe.o_cons ?_
      refine ex_mk (Evl.ev_var (i := 5) (by rfl)) M10 (Evl.Ex.refl _) _ fun a11 d11 M11 n11 e11 x11 => ?_
      have XB := XA.cons e11 x11
      have hlC := e11 _ _ hlC
      have hmC := e11 _ _ hmC
      have e11 := e10.trans e11
      refine Oe.o_cons ?_
      refine fun a12 n12 => ?_
      have h12 : upd M11 a12 (exo a12 T.a_NothingToUndo none) a12 = some (exo a12 T.a_NothingToUndo none) := upd_same
      have e12 : Evl.Ex M11 (upd M11 a12 (exo a12 T.a_NothingToUndo none)) := Evl.Ex.new n12
      generalize upd M11 a12 (exo a12 T.a_NothingToUndo none) = M12 at h12 e12 ⊢
      have XB := XB.ex e12
      have hlC := e12 _ _ hlC
      have hmC := e12 _ _ hmC
      have e12 := e11.trans e12
      refine ⟨small (by show 4 ≤ 100000; decide), fun l4 nl4 => ?_⟩
      have e13 : Evl.Ex M12 (upd M12 l4 (.lst [.ref a9, .ref a10, .ref a11, .ref a12])) := Evl.Ex.new nl4
      have hl4 : upd M12 l4 (.lst [.ref a9, .ref a10, .ref a11, .ref a12]) l4 = some (.lst [.ref a9, .ref a10, .ref a11, .ref a12]) := upd_same
      generalize upd M12 l4 (.lst [.ref a9, .ref a10, .ref a11, .ref a12]) = M13 at e13 hl4 ⊢
      refine ⟨l3, l4, _, _, rfl, rfl, e13 _ _ (e12 _ _ hl3), hl4, small (by show 9 + 4 ≤ 100000; decide), fun lM nlM => ?_⟩
      have e14 : Evl.Ex M13 (upd M13 lM (.lst ([.ref a0, .ref a1, .ref a2, .ref a3, .ref a4, .ref a5, .ref a6, .ref a7, .ref a8] ++ [.ref a9, .ref a10, .ref a11, .ref a12]))) := Evl.Ex.new nlM
      have hM : upd M13 lM (.lst ([.ref a0, .ref a1, .ref a2, .ref a3, .ref a4, .ref a5, .ref a6, .ref a7, .ref a8] ++ [.ref a9, .ref a10, .ref a11, .ref a12])) lM = some (.lst [.ref a0, .ref a1, .ref a2, .ref a3, .ref a4, .ref a5, .ref a6, .ref a7, .ref a8, .ref a9, .ref a10, .ref a11, .ref a12]) := upd_same
      generalize upd M13 lM (.lst ([.ref a0, .ref a1, .ref a2, .ref a3, .ref a4, .ref a5, .ref a6, .ref a7, .ref a8] ++ [.ref a9, .ref a10, .ref a11, .ref a12])) = B at e14 hM ⊢
      have e14 := e13.trans e14
      have XB := XB.ex e14
      have hlC := e14 _ _ hlC
      have hmC := e14 _ _ hmC
      have h12 := e14 _ _ h12
      have eB : Evl.Ex HC B := e8.trans (e12.trans e14)
      have hC := eB _ _ hC
      have dC := Od.da_ex eB _ _ dC
      have eB := eC.trans eB
      have hS := Evl.ex_l eB hS9
      have hL := eB _ _ hL9
      have dth9 := Od.dp_ex eB _ _ dth9
      have hdj9 := Od.dp_ex eB _ _ hdj9
      clear eB e14 nlM e13 hl4 nl4 e12 n12 e11 x11 n11 XA e10 x10 nz X9 x9 e9 n9 hl3 X8 e8 eC nC hS9 hL9
      have x0 : Ox.Xat B a0 T.a_InvalidRegion d0 [("index", j)] := XB _ (List.mem_of_getElem? (i := 11) rfl)
      have x1 : Ox.Xat B a1 T.a_InvalidFact d1 [("index", .int kk)] := XB _ (List.mem_of_getElem? (i := 10) rfl)
      have x2 : Ox.Xat B a2 T.a_InvalidPatch d2 [("index", j)] := XB _ (List.mem_of_getElem? (i := 9) rfl)
      have x3 : Ox.Xat B a3 T.a_InvalidClaim d3 [("index", .int kk)] := XB _ (List.mem_of_getElem? (i := 8) rfl)
      have x4 : Ox.Xat B a4 T.a_InvalidDeed d4 [("index", j)] := XB _ (List.mem_of_getElem? (i := 7) rfl)
      have x5 : Ox.Xat B a5 T.a_InvalidColour d5 [("colour", thing)] := XB _ (List.mem_of_getElem? (i := 6) rfl)
      have x6 : Ox.Xat B a6 T.a_InvalidNumber d6 [("number", thing)] := XB _ (List.mem_of_getElem? (i := 5) rfl)
      have x7 : Ox.Xat B a7 T.a_UnknownRegion d7 [("region", thing)] := XB _ (List.mem_of_getElem? (i := 4) rfl)
      have x8 : Ox.Xat B a8 T.a_InvalidMap d8 [("index", .int kk)] := XB _ (List.mem_of_getElem? (i := 3) rfl)
      have x9 : Ox.Xat B a9 T.a_InvalidText d9 [("column", j)] := XB _ (List.mem_of_getElem? (i := 2) rfl)
      have x10 : Ox.Xat B a10 T.a_Contradiction d10 [("back", .ref mC), ("there", .ref lC)] := XB _ (List.mem_of_getElem? (i := 1) rfl)
      have x11 : Ox.Xat B a11 T.a_TooMany d11 [("limit", .int kk)] := XB _ (List.mem_of_getElem? (i := 0) rfl)
      clear XB
      -- each is of its class and of no other
      have isX : ∀ i v, i < 13 → [V.ref a0, .ref a1, .ref a2, .ref a3, .ref a4, .ref a5, .ref a6, .ref a7, .ref a8, .ref a9, .ref a10, .ref a11, .ref a12][i]? = some v → ∃ e, v = .ref e ∧ Ox.IsX B e ((cs T).getD i 0) ∧ Ox.ExK K ((cs T).getD i 0) := by
        intro i v hi hv
        have hc : i = 0 ∨ i = 1 ∨ i = 2 ∨ i = 3 ∨ i = 4 ∨ i = 5 ∨ i = 6 ∨ i = 7 ∨ i = 8 ∨ i = 9 ∨ i = 10 ∨ i = 11 ∨ i = 12 := by omega
        rcases hc with rfl | rfl | rfl | rfl | rfl | rfl | rfl | rfl | rfl | rfl | rfl | rfl | rfl <;> cases hv
        · exact ⟨_, rfl, .inr ⟨_, _, x0⟩, T.e_InvalidRegion⟩
        · exact ⟨_, rfl, .inr ⟨_, _, x1⟩, T.e_InvalidFact⟩
        · exact ⟨_, rfl, .inr ⟨_, _, x2⟩, T.e_InvalidPatch⟩
        · exact ⟨_, rfl, .inr ⟨_, _, x3⟩, T.e_InvalidClaim⟩
        · exact ⟨_, rfl, .inr ⟨_, _, x4⟩, T.e_InvalidDeed⟩
        · exact ⟨_, rfl, .inr ⟨_, _, x5⟩, T.e_InvalidColour⟩
        · exact ⟨_, rfl, .inr ⟨_, _, x6⟩, T.e_InvalidNumber⟩
        · exact ⟨_, rfl, .inr ⟨_, _, x7⟩, T.e_UnknownRegion⟩
        · exact ⟨_, rfl, .inr ⟨_, _, x8⟩, T.e_InvalidMap⟩
        · exact ⟨_, rfl, .inr ⟨_, _, x9⟩, T.e_InvalidText⟩
        · exact ⟨_, rfl, .inr ⟨_, _, x10⟩, T.e_Contradiction⟩
        · exact ⟨_, rfl, .inr ⟨_, _, x11⟩, T.e_TooMany⟩
        · exact ⟨_, rfl, .inl h12, T.e_NothingToUndo⟩
      refine ⟨_, rfl, lM, _, rfl, SqL.of hM, for_it (walk_enum (K := K) (a := lM) (xs := [.ref a0, .ref a1, .ref a2, .ref a3, .ref a4, .ref a5, .ref a6, .ref a7, .ref a8, .ref a9, .ref a10, .ref a11, .ref a12])) (fun i' σ' H' => (∃ z10 z11, σ' = [some (.ref a), some (.int i), some (.ref p), some (.ref L), some thing, some (.int kk), some j, some (.ref c), y8, some (.ref lM), z10, z11, y12, y13, y14, y15]) ∧ Evl.Ex B H')
        ⟨⟨_, _, rfl⟩, Evl.Ex.refl _⟩ (fun _ _ _ _ h => SqL.of (h.2 _ _ hM)) ?_ ?_⟩
      · rintro i' x σ' H2 H3 hi' ⟨⟨z10, z11, rfl⟩, eH⟩ ⟨t, v1, v2, rfl, nt, rfl, w1, w2⟩
        have hi' : i' < 13 := hi'
        have w1 : v1 = .int (i' : Nat) := (Option.some.inj w1).symm
        subst w1
        obtain ⟨e, rfl, hX, hE⟩ := isX i' v2 hi' w2
        refine ⟨t, [.int (i' : Nat), .ref e], rfl, .inl (.inl upd_same), rfl, _, _, rfl, _, _, rfl, rfl, ?_⟩
        have eH : Evl.Ex B (upd H2 t (.tup [.int (i' : Nat), .ref e])) := eH.trans (Evl.Ex.new nt)
        generalize upd H2 t (.tup [.int (i' : Nat), .ref e]) = H3 at eH ⊢
        have hX := Oe.IsX.ex hX eH
        have hbs : ∀ j', j' < 13 → decide (V.int (j' : Nat) = V.int (i' : Nat)) = decide (i' = j') := fun j' _ => by
          rw [Bool.eq_iff_iff, decide_eq_true_iff, decide_eq_true_iff]
          exact ⟨fun h => by have := V.int.inj h; omega, fun h => by rw [h]⟩
        refine Evl.q_when (b := false) (Evl.et_test (Od.ev_nsameD (d := .list [.list (((List.range 13).map fun j => decide (i' = j)).map PyData.bool), .bool true, .bool true]) (fun H1 e1 Q' q' => ?_) ?_ ?_)) (fun hb => nomatch hb) fun _ H4 e4 => ?_
        · refine ⟨_, rfl, e, i', rfl, hi', Oe.IsX.ex hX e1, hE, fun l p' H' eL nl np' hl hp' => ?_⟩
          have hl : H' l = some (.lst (((List.range 13).map fun j => decide (i' = j)).map V.bl)) := by rw [hl, List.map_map]; rfl
          have hlp : l ≠ p' := ne_of hl hp' (by
            intro z
            have z := congrArg List.length (HO.lst.inj z)
            rw [List.length_map, List.length_map, List.length_range] at z
            cases z)
          refine q' (.ref p') H' _ eL (Od.own_two e1 eL nl np' hl hp') (.lst (SqL.of upd_same) (.cons (.lst (SqL.of (by walk_at "hp")) (Od.da_bls _)) (.cons (.bl true) (.cons (.bl true) .nil))))
        · refine Od.ed_lst (Od.ead_cons (Od.ed_ld (Od.eld_l (xs := ((List.range 13).map fun j => decide (i' = j)).map V.bl) ?_ (Od.da_bls _))) (Od.ead_cons (Od.ed_ev Evl.ev_c (.bl true)) (Od.ead_cons (Od.ed_ev Evl.ev_c (.bl true)) Od.ead_nil))) (by show 3 ≤ 100000; decide)
          have g := Evl.el_lcR1 (te := tOp rEq (tVar 12) (tVar 10)) (t := tYes) (H := H3) (ta := tCons (tC (.int 13)) tNil) (σ := [some (.ref a), some (.int i), some (.ref p), some (.ref L), some thing, some (.int kk), some j, some (.ref c), y8, some (.ref lM), some (.int (i' : Nat)), some (.ref e), y12, y13, y14, y15]) (j := 12) (vs := [12]) (fun _ => true) (fun j' => .bl (decide (i' = j'))) (Evl.ea_cons Evl.ev_c Evl.ea_nil) (by decide) (fun _ => rfl) (fun _ _ _ _ => Od.et_yes)
            (fun j' H1 e1 hj _ => by
              have := Evl.ev_op (σ := (wipe [some (.ref a), some (.int i), some (.ref p), some (.ref L), some thing, some (.int kk), some j, some (.ref c), y8, some (.ref lM), some (.int (i' : Nat)), some (.ref e), y12, y13, y14, y15] [12]).set 12 (some (.int (j' : Nat)))) (H := H1) (Evl.ev_var (i := 12) rfl) (Evl.ev_var (i := 10) rfl) (Evl.rv_eq (x := .int (j' : Nat)) (y := .int (i' : Nat)) rfl)
              rw [hbs j' (by omega)] at this
              exact this)
          have e13 : Evl.given (13 : Int).toNat (fun _ => true) (fun j' => V.bl (decide (i' = j'))) = ((List.range 13).map fun j => decide (i' = j)).map V.bl := by
            rw [List.map_map]
            rfl
          rw [e13] at g
          exact g
        · refine Od.sh_of (n := 3) (by decide) (Od.sh_list (by decide) fun d hd => ?_)
          rcases List.mem_cons.mp hd with rfl | hd
          · refine Od.sh_list (n := 1) (by decide) fun d hd => ?_
            obtain ⟨b, _, rfl⟩ := List.mem_map.mp hd
            exact ⟨rfl, Nat.zero_le _⟩
          · rcases List.mem_cons.mp hd with rfl | hd
            · exact ⟨rfl, Nat.zero_le _⟩
            · cases List.mem_singleton.mp hd
              exact ⟨rfl, Nat.zero_le _⟩
        · have eH := eH.trans e4
          have hX := Oe.IsX.ex hX e4
          refine Evl.s_when (b := false) (Evl.et_B fun H1 e1 Q' q' => ?_) (fun hb => nomatch hb) fun _ H5 e5 => ⟨⟨_, _, rfl⟩, eH.trans e5⟩
          refine ⟨_, rfl, small (by show 3 ≤ 100000; decide), fun tp ntp => ?_⟩
          refine ⟨e, _, tp, _, [.type "LookupError", .type "TypeError", .type "ArithmeticError"], false, rfl, Oe.IsX.ex hX (e1.trans (Evl.Ex.new ntp)), hE, upd_same, .cons (.ty _) (.cons (.ty _) (.cons (.ty _) .nil)), ?_, q' _ (Evl.Ex.new ntp)⟩
          exact kitAny_cons (T.kits.loo i' hi') (fun _ => kitAny_cons (T.kits.typ i' hi') (fun _ => kitAny_cons (T.kits.ari i' hi') (fun _ => kitAny_nil) (fun h => nomatch h)) (fun h => nomatch h)) (fun h => nomatch h)
      · rintro σ' H2 ⟨⟨z10, z11, rfl⟩, e2⟩
        clear isX
        have hM := e2 _ _ hM
        have hlC := e2 _ _ hlC
        have hmC := e2 _ _ hmC
        have hC := e2 _ _ hC
        have hL := e2 _ _ hL
        have dC := Od.da_ex e2 _ _ dC
        have dth9 := Od.dp_ex e2 _ _ dth9
        have hdj9 := Od.dp_ex e2 _ _ hdj9
        have hS := Evl.ex_l e2 hS
        have x0 := Oe.Xat.ex x0 e2
        have x1 := Oe.Xat.ex x1 e2
        have x2 := Oe.Xat.ex x2 e2
        have x3 := Oe.Xat.ex x3 e2
        have x4 := Oe.Xat.ex x4 e2
        have x5 := Oe.Xat.ex x5 e2
        have x6 := Oe.Xat.ex x6 e2
        have x7 := Oe.Xat.ex x7 e2
        have x8 := Oe.Xat.ex x8 e2
        have x9 := Oe.Xat.ex x9 e2
        have x10 := Oe.Xat.ex x10 e2
        have x11 := Oe.Xat.ex x11 e2
        clear e2
        -- the fields
        refine Evl.q_asgL (Evl.el_lst (Evl.ea_cons (Oe.ev_xfv (Oe.ev_ix (Evl.ev_var rfl) Evl.ev_c (SqL.of hM) rfl) x0 T.e_InvalidRegion T.xf_InvalidRegion_index rfl) (Evl.ea_cons (Oe.ev_xfv (Oe.ev_ix (Evl.ev_var rfl) Evl.ev_c (SqL.of hM) rfl) x1 T.e_InvalidFact T.xf_InvalidFact_index rfl) (Evl.ea_cons (Oe.ev_xfv (Oe.ev_ix (Evl.ev_var rfl) Evl.ev_c (SqL.of hM) rfl) x2 T.e_InvalidPatch T.xf_InvalidPatch_index rfl) (Evl.ea_cons (Oe.ev_xfv (Oe.ev_ix (Evl.ev_var rfl) Evl.ev_c (SqL.of hM) rfl) x3 T.e_InvalidClaim T.xf_InvalidClaim_index rfl) (Evl.ea_cons (Oe.ev_xfv (Oe.ev_ix (Evl.ev_var rfl) Evl.ev_c (SqL.of hM) rfl) x4 T.e_InvalidDeed T.xf_InvalidDeed_index rfl) (Evl.ea_cons (Oe.ev_xfv (Oe.ev_ix (Evl.ev_var rfl) Evl.ev_c (SqL.of hM) rfl) x5 T.e_InvalidColour T.xf_InvalidColour_colour rfl) Evl.ea_nil)))))) (by show 6 ≤ 100000; decide)) fun t1 H3 n3 e3 h3 => ?_
        have hM := e3 _ _ hM
        have hlC := e3 _ _ hlC
        have hmC := e3 _ _ hmC
        have hC := e3 _ _ hC
        have hL := e3 _ _ hL
        have dC := Od.da_ex e3 _ _ dC
        have dth9 := Od.dp_ex e3 _ _ dth9
        have hdj9 := Od.dp_ex e3 _ _ hdj9
        have hS := Evl.ex_l e3 hS
        have x0 := Oe.Xat.ex x0 e3
        have x1 := Oe.Xat.ex x1 e3
        have x2 := Oe.Xat.ex x2 e3
        have x3 := Oe.Xat.ex x3 e3
        have x4 := Oe.Xat.ex x4 e3
        have x5 := Oe.Xat.ex x5 e3
        have x6 := Oe.Xat.ex x6 e3
        have x7 := Oe.Xat.ex x7 e3
        have x8 := Oe.Xat.ex x8 e3
        have x9 := Oe.Xat.ex x9 e3
        have x10 := Oe.Xat.ex x10 e3
        have x11 := Oe.Xat.ex x11 e3
        refine Evl.q_asgL (Oe.el_cat (Evl.ev_var rfl) h3 (Evl.el_lst (Evl.ea_cons (Oe.ev_xfv (Oe.ev_ix (Evl.ev_var rfl) Evl.ev_c (SqL.of hM) rfl) x6 T.e_InvalidNumber T.xf_InvalidNumber_number rfl) (Evl.ea_cons (Oe.ev_xfv (Oe.ev_ix (Evl.ev_var rfl) Evl.ev_c (SqL.of hM) rfl) x7 T.e_UnknownRegion T.xf_UnknownRegion_region rfl) (Evl.ea_cons (Oe.ev_xfv (Oe.ev_ix (Evl.ev_var rfl) Evl.ev_c (SqL.of hM) rfl) x8 T.e_InvalidMap T.xf_InvalidMap_index rfl) (Evl.ea_cons (Oe.ev_xfv (Oe.ev_ix (Evl.ev_var rfl) Evl.ev_c (SqL.of hM) rfl) x9 T.e_InvalidText T.xf_InvalidText_column rfl) (Evl.ea_cons (Oe.ev_xfv (Oe.ev_ix (Evl.ev_var rfl) Evl.ev_c (SqL.of hM) rfl) x10 T.e_Contradiction T.xf_Contradiction_there rfl) (Evl.ea_cons (Oe.ev_xfv (Oe.ev_ix (Evl.ev_var rfl) Evl.ev_c (SqL.of hM) rfl) x10 T.e_Contradiction T.xf_Contradiction_back rfl) Evl.ea_nil)))))) (by show 6 ≤ 100000; decide)) (by show 6 + 6 ≤ 100000; decide)) fun t2 H4 n4 e4 h4 => ?_
        have hM := e4 _ _ hM
        have hlC := e4 _ _ hlC
        have hmC := e4 _ _ hmC
        have hC := e4 _ _ hC
        have hL := e4 _ _ hL
        have dC := Od.da_ex e4 _ _ dC
        have dth9 := Od.dp_ex e4 _ _ dth9
        have hdj9 := Od.dp_ex e4 _ _ hdj9
        have hS := Evl.ex_l e4 hS
        have x0 := Oe.Xat.ex x0 e4
        have x1 := Oe.Xat.ex x1 e4
        have x2 := Oe.Xat.ex x2 e4
        have x3 := Oe.Xat.ex x3 e4
        have x4 := Oe.Xat.ex x4 e4
        have x5 := Oe.Xat.ex x5 e4
        have x6 := Oe.Xat.ex x6 e4
        have x7 := Oe.Xat.ex x7 e4
        have x8 := Oe.Xat.ex x8 e4
        have x9 := Oe.Xat.ex x9 e4
        have x10 := Oe.Xat.ex x10 e4
        have x11 := Oe.Xat.ex x11 e4
        have shC : ∀ d ∈ dts true (xs.map V.str), d.canLay0 = true ∧ d.depth ≤ 1 := dts_sh hxo.2
        have lC26 : (dts true (xs.map V.str)).length ≤ 26 := by unfold dts; rw [List.length_map, List.length_range]; exact hz
        generalize dts true (xs.map V.str) = dsC at shC lC26 dC
        have cM : ∀ {d : PyData}, d.canLay0 = true ∧ d.depth ≤ 1 → d.canLay0 = true ∧ d.depth ≤ 2 := fun h => ⟨h.1, by omega⟩
        refine Evl.q_when (b := false) (Evl.et_test (Od.ev_nsameD (d := .list [dj, .int kk, dj, .int kk, dj, dth, dth, dth, .int kk, dj, .list [], .list dsC, .int kk])
          (Od.ed_ld (Od.eld_l (Oe.el_cat (Evl.ev_var rfl) h4 (Evl.el_lst (Evl.ea_cons (Oe.ev_xfv (Oe.ev_ix (Evl.ev_var rfl) Evl.ev_c (SqL.of hM) rfl) x11 T.e_TooMany T.xf_TooMany_limit rfl) Evl.ea_nil) (by show 1 ≤ 100000; decide)) (by show 12 + 1 ≤ 100000; decide))
            (.cons hdj9 (.cons (.int kk) (.cons hdj9 (.cons (.int kk) (.cons hdj9 (.cons dth9 (.cons dth9 (.cons dth9 (.cons (.int kk) (.cons hdj9 (.cons (.lst (SqL.of hlC) .nil) (.cons (.lst (SqL.of hmC) dC) (.cons (.int kk) .nil)))))))))))))))
          (Od.ed_lst (Od.ead_cons (Od.ed_ev (Evl.ev_var rfl) hdj9) (Od.ead_cons (Od.ed_ev (Evl.ev_var rfl) (.int kk)) (Od.ead_cons (Od.ed_ev (Evl.ev_var rfl) hdj9) (Od.ead_cons (Od.ed_ev (Evl.ev_var rfl) (.int kk)) (Od.ead_cons (Od.ed_ev (Evl.ev_var rfl) hdj9)
            (Od.ead_cons (Od.ed_ev (Evl.ev_var rfl) dth9) (Od.ead_cons (Od.ed_ev (Evl.ev_var rfl) dth9) (Od.ead_cons (Od.ed_ev (Evl.ev_var rfl) dth9) (Od.ead_cons (Od.ed_ev (Evl.ev_var rfl) (.int kk)) (Od.ead_cons (Od.ed_ev (Evl.ev_var rfl) hdj9)
            (Od.ead_cons (Od.ed_lst Od.ead_nil (Nat.zero_le _)) (Od.ead_cons (Od.ed_ev (Evl.ev_var rfl) (.lst (SqL.of hC) dC)) (Od.ead_cons (Od.ed_ev (Evl.ev_var rfl) (.int kk)) Od.ead_nil))))))))))))) (by show 13 ≤ 100000; decide)) ?_)) (fun hb => nomatch hb) fun _ H5 e5 => ?_
        · refine Od.sh_of (n := 3) (by decide) (Od.sh_list (by decide) fun d hd => ?_)
          have hd : d = dj ∨ d = .int kk ∨ d = dth ∨ d = .list [] ∨ d = .list dsC := by
            simp only [List.mem_cons, List.not_mem_nil, or_false] at hd
            rcases hd with h | h | h | h | h | h | h | h | h | h | h | h | h <;> simp [h]
          rcases hd with rfl | rfl | rfl | rfl | rfl
          · exact cM sj
          · exact ⟨rfl, Nat.zero_le _⟩
          · exact cM sth
          · exact ⟨rfl, by decide⟩
          · exact Od.sh_list (by decide) shC
        have hL := e5 _ _ hL
        have hS := Evl.ex_l e5 hS
        clear e5 x0 x1 x2 x3 x4 x5 x6 x7 x8 x9 x10 x11 hM hlC hmC hC dC dth9 hdj9 h4 h3 n3 n4 e3 e4 shC lC26
        -- errors that hold a list that grows
        refine Evl.q_asgL (Evl.el_list (Evl.ev_var rfl) (SqL.of hL)) fun gl H6 n6 e6 h6 => ?_
        refine Oe.o_seqAsg (Oe.o_lst (Oe.o_cons ?_))
        refine ex_mk (Evl.ev_var (i := 14) (by rfl)) H6 (Evl.Ex.refl _) _ fun g0 d0 M0 n0 e0 x0 => ?_
        refine Oe.o_cons ?_
        refine ex_mk (Evl.ev_var (i := 14) (by rfl)) M0 (Evl.Ex.refl _) _ fun g1 d1 M1 n1 e1 x1 => ?_
        have x0 := Oe.Xat.ex x0 e1
        have e1 := e0.trans e1
        refine Oe.o_cons ?_
        refine ex_mk (Evl.ev_var (i := 14) (by rfl)) M1 (Evl.Ex.refl _) _ fun g2 d2 M2 n2 e2 x2 => ?_
        have x0 := Oe.Xat.ex x0 e2
        have x1 := Oe.Xat.ex x1 e2
        have e2 := e1.trans e2
        refine ⟨small (by show 3 ≤ 100000; decide), fun kl nkl => ?_⟩
        have ek : Evl.Ex M2 (upd M2 kl (.lst [.ref g0, .ref g1, .ref g2])) := Evl.Ex.new nkl
        have hk : upd M2 kl (.lst [.ref g0, .ref g1, .ref g2]) kl = some (.lst [.ref g0, .ref g1, .ref g2]) := upd_same
        generalize upd M2 kl (.lst [.ref g0, .ref g1, .ref g2]) = M3 at ek hk ⊢
        have x0 := Oe.Xat.ex x0 ek
        have x1 := Oe.Xat.ex x1 ek
        have x2 := Oe.Xat.ex x2 ek
        have e3 := e2.trans ek
        have h7 := e3 _ _ h6
        refine Evl.q_app h7 (Evl.ev_var rfl) Evl.ev_c (by omega) fun H7 e7 => ?_
        have x0 := Oe.Xat.ex x0 e7
        have x1 := Oe.Xat.ex x1 e7
        have x2 := Oe.Xat.ex x2 e7
        have hk := e7 _ _ hk
        have h8 := e7 _ _ h7
        have eb : Evl.Ex H5 (upd H7 gl (.lst (xs.map V.str ++ [.str "x"]))) := Evl.Ex.mut ((e6.trans e3).trans e7) n6
        have nx : ∀ {e C d : Addr} {fs : List (Str × V)}, Ox.Xat H7 e C d fs → Ox.Xat (upd H7 gl (.lst (xs.map V.str ++ [.str "x"]))) e C d fs := fun {e C d fs} h => by
          have n1 : e ≠ gl := ne_of h.1 h8 (by
            intro z
            have z' : HO.ext _ = HO.lst (xs.map V.str) := z
            cases z')
          have n2 : d ≠ gl := ne_of h.2 h8 (by
            intro z
            have z' : HO.ext _ = HO.lst (xs.map V.str) := z
            cases z')
          exact ⟨by rw [upd_ne n1]; exact h.1, by rw [upd_ne n2]; exact h.2⟩
        have x0 := nx x0
        have x1 := nx x1
        have x2 := nx x2
        have nkg : kl ≠ gl := ne_of hk h8 (by
          intro z
          have z := HO.lst.inj z
          have hz1 : (xs.map V.str).length = 3 := by rw [← z]; rfl
          have := congrArg (fun l => l[0]?) z
          rw [List.getElem?_map] at this
          cases h0 : xs[0]? with
          | none => rw [h0] at this; cases this
          | some y => rw [h0] at this; cases this)
        have hk : upd H7 gl (.lst (xs.map V.str ++ [.str "x"])) kl = some (.lst [.ref g0, .ref g1, .ref g2]) := by rw [upd_ne nkg]; exact hk
        have hg : upd H7 gl (.lst (xs.map V.str ++ [.str "x"])) gl = some (.lst (xs.map V.str ++ [.str "x"])) := upd_same
        generalize upd H7 gl (.lst (xs.map V.str ++ [.str "x"])) = H8 at eb x0 x1 x2 hk hg ⊢
        have hL := eb _ _ hL
        have hS := Evl.ex_l eb hS
        have dg : Dp K H8 (.ref gl) (PyData.list (xs.map PyData.str ++ [PyData.str "x"])) := .lst (SqL.of hg) (Od.da_app (Od.da_strs xs) (Od.da_one (.str "x")))
        have lx : ∀ σ, Od.EvLD K (tLst (tCons (tC (.str "x")) tNil)) σ H8 [PyData.str "x"] := fun σ => Od.eld_lst (Od.ead_cons (Od.ed_ev Evl.ev_c (.str "x")) Od.ead_nil) (by show 1 ≤ 100000; decide)
        have hz2 : (xs.map PyData.str).length ≤ 26 := by rw [List.length_map] at hz ⊢; exact hz
        refine Evl.s_when (b := (false || !true)) (Evl.et_or (Evl.et_test (Od.ev_nsameD (d := PyData.list [PyData.list (xs.map PyData.str ++ [PyData.str "x"]), PyData.list (xs.map PyData.str ++ [PyData.str "x"]), PyData.list (xs.map PyData.str ++ [PyData.str "x"])])
          (Od.ed_lst (Od.ead_cons (Od.ed_ev (Oe.ev_xfv (Oe.ev_ix (Evl.ev_var rfl) Evl.ev_c (SqL.of hk) rfl) x0 T.e_InvalidColour T.xf_InvalidColour_colour rfl) dg)
            (Od.ead_cons (Od.ed_ev (Oe.ev_xfv (Oe.ev_ix (Evl.ev_var rfl) Evl.ev_c (SqL.of hk) rfl) x1 T.e_InvalidNumber T.xf_InvalidNumber_number rfl) dg)
            (Od.ead_cons (Od.ed_ev (Oe.ev_xfv (Oe.ev_ix (Evl.ev_var rfl) Evl.ev_c (SqL.of hk) rfl) x2 T.e_UnknownRegion T.xf_UnknownRegion_region rfl) dg) Od.ead_nil))) (by show 3 ≤ 100000; decide))
          (Od.ed_ld (Od.eld_rep3 (Od.eld_lst (Od.ead_cons (Od.ed_ld (Od.eld_cat (Evl.ev_var (i := 3) (by rfl)) hL (Od.da_strs xs) (lx _) (by show (xs.map PyData.str).length + 1 ≤ 100000; omega))) Od.ead_nil) (by show 1 ≤ 100000; decide)))) ?_)) fun _ => Evl.et_not (Evl.et_B (Evl.ev_call (Evl.ea_cons (Evl.ev_var rfl) Evl.ea_nil) fun H1 e1 Q' q' E' => ?_))) (fun hb => nomatch hb) fun _ H9 e9 => ?_
        · refine Od.sh_of (n := 3) (by decide) (Od.sh_list (by decide) fun d hd => ?_)
          have hd : d = PyData.list (xs.map PyData.str ++ [PyData.str "x"]) := by
            simp only [List.mem_cons, List.not_mem_nil, or_false] at hd
            rcases hd with h | h | h <;> exact h
          subst hd
          refine Od.sh_list (n := 1) (by decide) fun d hd => ?_
          rcases List.mem_append.mp hd with hd | hd
          · obtain ⟨y, hy, rfl⟩ := List.mem_map.mp hd
            exact ⟨nm_ok (hxo.2 y hy), Nat.zero_le _⟩
          · cases List.mem_singleton.mp hd
            exact ⟨by decide +kernel, Nat.zero_le _⟩
        · exact ⟨L, xs, rfl, e1 _ _ hL, by omega, hxo.2, fun H' e' => q' H' e'⟩
        · exact ⟨⟨_, _, _, _, _, _, _, _, _, _, _, _, _, _, _, rfl⟩, Evl.ex_l e9 hS⟩
    · rintro σ' H1 -
      exact q H1
end
end K19

open PySem PySem.W PyProof.Rows in
set_option maxHeartbeats 0 in
open_top hd19 for PySem.Challenge.rw_coatrows_k19_errors_made
set_option Elab.async false
set_option linter.all false
set_option maxRecDepth 100000
set_option maxHeartbeats 4000000
/-! law k19: the end -/
namespace K19
open PySem PySem.Spec PyProof.Rows L2
theorem all_mk {l : PySem.W.OpenLaw} {w : World} {K : PySem.W.Frag} {h : Heap} {mg : Str → Option Value} {fa : Addr}
    {a_InvalidRegion : Addr}
    {a_InvalidFact : Addr}
    {a_InvalidPatch : Addr}
    {a_InvalidClaim : Addr}
    {a_InvalidDeed : Addr}
    {a_InvalidColour : Addr}
    {a_InvalidNumber : Addr}
    {a_UnknownRegion : Addr}
    {a_InvalidMap : Addr}
    {a_InvalidText : Addr}
    {a_Contradiction : Addr}
    {a_TooMany : Addr}
    {a_NothingToUndo : Addr}
    {a_CoatError : Addr}
    {f_InvalidRegion___init__ : Addr}
    {od_InvalidRegion___init__ an_InvalidRegion___init__ : Option Addr}
    {sl_InvalidRegion___init__ : Array (Option Value)}
    {oc_InvalidRegion___init__ kV_InvalidRegion___init__ dc_InvalidRegion___init__ pm_InvalidRegion___init__ cd_InvalidRegion___init__ ct_InvalidRegion___init__ : Value}
    {f_InvalidFact___init__ : Addr}
    {od_InvalidFact___init__ an_InvalidFact___init__ : Option Addr}
    {sl_InvalidFact___init__ : Array (Option Value)}
    {oc_InvalidFact___init__ kV_InvalidFact___init__ dc_InvalidFact___init__ pm_InvalidFact___init__ cd_InvalidFact___init__ ct_InvalidFact___init__ : Value}
    {f_InvalidPatch___init__ : Addr}
    {od_InvalidPatch___init__ an_InvalidPatch___init__ : Option Addr}
    {sl_InvalidPatch___init__ : Array (Option Value)}
    {oc_InvalidPatch___init__ kV_InvalidPatch___init__ dc_InvalidPatch___init__ pm_InvalidPatch___init__ cd_InvalidPatch___init__ ct_InvalidPatch___init__ : Value}
    {f_InvalidClaim___init__ : Addr}
    {od_InvalidClaim___init__ an_InvalidClaim___init__ : Option Addr}
    {sl_InvalidClaim___init__ : Array (Option Value)}
    {oc_InvalidClaim___init__ kV_InvalidClaim___init__ dc_InvalidClaim___init__ pm_InvalidClaim___init__ cd_InvalidClaim___init__ ct_InvalidClaim___init__ : Value}
    {f_InvalidDeed___init__ : Addr}
    {od_InvalidDeed___init__ an_InvalidDeed___init__ : Option Addr}
    {sl_InvalidDeed___init__ : Array (Option Value)}
    {oc_InvalidDeed___init__ kV_InvalidDeed___init__ dc_InvalidDeed___init__ pm_InvalidDeed___init__ cd_InvalidDeed___init__ ct_InvalidDeed___init__ : Value}
    {f_InvalidColour___init__ : Addr}
    {od_InvalidColour___init__ an_InvalidColour___init__ : Option Addr}
    {sl_InvalidColour___init__ : Array (Option Value)}
    {oc_InvalidColour___init__ kV_InvalidColour___init__ dc_InvalidColour___init__ pm_InvalidColour___init__ cd_InvalidColour___init__ ct_InvalidColour___init__ : Value}
    {f_InvalidNumber___init__ : Addr}
    {od_InvalidNumber___init__ an_InvalidNumber___init__ : Option Addr}
    {sl_InvalidNumber___init__ : Array (Option Value)}
    {oc_InvalidNumber___init__ kV_InvalidNumber___init__ dc_InvalidNumber___init__ pm_InvalidNumber___init__ cd_InvalidNumber___init__ ct_InvalidNumber___init__ : Value}
    {f_UnknownRegion___init__ : Addr}
    {od_UnknownRegion___init__ an_UnknownRegion___init__ : Option Addr}
    {sl_UnknownRegion___init__ : Array (Option Value)}
    {oc_UnknownRegion___init__ kV_UnknownRegion___init__ dc_UnknownRegion___init__ pm_UnknownRegion___init__ cd_UnknownRegion___init__ ct_UnknownRegion___init__ : Value}
    {f_InvalidMap___init__ : Addr}
    {od_InvalidMap___init__ an_InvalidMap___init__ : Option Addr}
    {sl_InvalidMap___init__ : Array (Option Value)}
    {oc_InvalidMap___init__ kV_InvalidMap___init__ dc_InvalidMap___init__ pm_InvalidMap___init__ cd_InvalidMap___init__ ct_InvalidMap___init__ : Value}
    {f_InvalidText___init__ : Addr}
    {od_InvalidText___init__ an_InvalidText___init__ : Option Addr}
    {sl_InvalidText___init__ : Array (Option Value)}
    {oc_InvalidText___init__ kV_InvalidText___init__ dc_InvalidText___init__ pm_InvalidText___init__ cd_InvalidText___init__ ct_InvalidText___init__ : Value}
    {f_Contradiction___init__ : Addr}
    {od_Contradiction___init__ an_Contradiction___init__ : Option Addr}
    {sl_Contradiction___init__ : Array (Option Value)}
    {oc_Contradiction___init__ kV_Contradiction___init__ dc_Contradiction___init__ pm_Contradiction___init__ cd_Contradiction___init__ ct_Contradiction___init__ : Value}
    {f_TooMany___init__ : Addr}
    {od_TooMany___init__ an_TooMany___init__ : Option Addr}
    {sl_TooMany___init__ : Array (Option Value)}
    {oc_TooMany___init__ kV_TooMany___init__ dc_TooMany___init__ pm_TooMany___init__ cd_TooMany___init__ ct_TooMany___init__ : Value}
    {f_l_mixed : Addr}
    {od_l_mixed an_l_mixed : Option Addr}
    {sl_l_mixed : Array (Option Value)}
    {oc_l_mixed kV_l_mixed dc_l_mixed pm_l_mixed cd_l_mixed ct_l_mixed : Value}
    {f_l_pile : Addr}
    {od_l_pile an_l_pile : Option Addr}
    {sl_l_pile : Array (Option Value)}
    {oc_l_pile kV_l_pile dc_l_pile pm_l_pile cd_l_pile ct_l_pile : Value}
    {f_l_take : Addr}
    {od_l_take an_l_take : Option Addr}
    {sl_l_take : Array (Option Value)}
    {oc_l_take kV_l_take dc_l_take pm_l_take cd_l_take ct_l_take : Value}
    {f_l_names : Addr}
    {od_l_names an_l_names : Option Addr}
    {sl_l_names : Array (Option Value)}
    {oc_l_names kV_l_names dc_l_names pm_l_names cd_l_names ct_l_names : Value}
    {f_l_classes : Addr}
    {od_l_classes an_l_classes : Option Addr}
    {sl_l_classes : Array (Option Value)}
    {oc_l_classes kV_l_classes dc_l_classes pm_l_classes cd_l_classes ct_l_classes : Value}
    {f_l_ways_right : Addr}
    {od_l_ways_right an_l_ways_right : Option Addr}
    {sl_l_ways_right : Array (Option Value)}
    {oc_l_ways_right kV_l_ways_right dc_l_ways_right pm_l_ways_right cd_l_ways_right ct_l_ways_right : Value}
    {f_law : Addr}
    {od_law an_law : Option Addr}
    {sl_law : Array (Option Value)}
    {oc_law kV_law dc_law pm_law cd_law ct_law : Value}
    {nm_InvalidRegion q_InvalidRegion : Str}
    {N_InvalidRegion : Addr}
    {bs_InvalidRegion bm_InvalidRegion sub_InvalidRegion : List Value}
    {sn_InvalidRegion : List Str}
    {ab_InvalidRegion : Bool}
    {col_InvalidRegion : Option Bool}
    {dd_InvalidRegion : Option Addr}
    {k0_InvalidRegion k1_InvalidRegion k2_InvalidRegion k3_InvalidRegion k5_InvalidRegion : Option Value}
    {nm_InvalidFact q_InvalidFact : Str}
    {N_InvalidFact : Addr}
    {bs_InvalidFact bm_InvalidFact sub_InvalidFact : List Value}
    {sn_InvalidFact : List Str}
    {ab_InvalidFact : Bool}
    {col_InvalidFact : Option Bool}
    {dd_InvalidFact : Option Addr}
    {k0_InvalidFact k1_InvalidFact k2_InvalidFact k3_InvalidFact k5_InvalidFact : Option Value}
    {nm_InvalidPatch q_InvalidPatch : Str}
    {N_InvalidPatch : Addr}
    {bs_InvalidPatch bm_InvalidPatch sub_InvalidPatch : List Value}
    {sn_InvalidPatch : List Str}
    {ab_InvalidPatch : Bool}
    {col_InvalidPatch : Option Bool}
    {dd_InvalidPatch : Option Addr}
    {k0_InvalidPatch k1_InvalidPatch k2_InvalidPatch k3_InvalidPatch k5_InvalidPatch : Option Value}
    {nm_InvalidClaim q_InvalidClaim : Str}
    {N_InvalidClaim : Addr}
    {bs_InvalidClaim bm_InvalidClaim sub_InvalidClaim : List Value}
    {sn_InvalidClaim : List Str}
    {ab_InvalidClaim : Bool}
    {col_InvalidClaim : Option Bool}
    {dd_InvalidClaim : Option Addr}
    {k0_InvalidClaim k1_InvalidClaim k2_InvalidClaim k3_InvalidClaim k5_InvalidClaim : Option Value}
    {nm_InvalidDeed q_InvalidDeed : Str}
    {N_InvalidDeed : Addr}
    {bs_InvalidDeed bm_InvalidDeed sub_InvalidDeed : List Value}
    {sn_InvalidDeed : List Str}
    {ab_InvalidDeed : Bool}
    {col_InvalidDeed : Option Bool}
    {dd_InvalidDeed : Option Addr}
    {k0_InvalidDeed k1_InvalidDeed k2_InvalidDeed k3_InvalidDeed k5_InvalidDeed : Option Value}
    {nm_InvalidColour q_InvalidColour : Str}
    {N_InvalidColour : Addr}
    {bs_InvalidColour bm_InvalidColour sub_InvalidColour : List Value}
    {sn_InvalidColour : List Str}
    {ab_InvalidColour : Bool}
    {col_InvalidColour : Option Bool}
    {dd_InvalidColour : Option Addr}
    {k0_InvalidColour k1_InvalidColour k2_InvalidColour k3_InvalidColour k5_InvalidColour : Option Value}
    {nm_InvalidNumber q_InvalidNumber : Str}
    {N_InvalidNumber : Addr}
    {bs_InvalidNumber bm_InvalidNumber sub_InvalidNumber : List Value}
    {sn_InvalidNumber : List Str}
    {ab_InvalidNumber : Bool}
    {col_InvalidNumber : Option Bool}
    {dd_InvalidNumber : Option Addr}
    {k0_InvalidNumber k1_InvalidNumber k2_InvalidNumber k3_InvalidNumber k5_InvalidNumber : Option Value}
    {nm_UnknownRegion q_UnknownRegion : Str}
    {N_UnknownRegion : Addr}
    {bs_UnknownRegion bm_UnknownRegion sub_UnknownRegion : List Value}
    {sn_UnknownRegion : List Str}
    {ab_UnknownRegion : Bool}
    {col_UnknownRegion : Option Bool}
    {dd_UnknownRegion : Option Addr}
    {k0_UnknownRegion k1_UnknownRegion k2_UnknownRegion k3_UnknownRegion k5_UnknownRegion : Option Value}
    {nm_InvalidMap q_InvalidMap : Str}
    {N_InvalidMap : Addr}
    {bs_InvalidMap bm_InvalidMap sub_InvalidMap : List Value}
    {sn_InvalidMap : List Str}
    {ab_InvalidMap : Bool}
    {col_InvalidMap : Option Bool}
    {dd_InvalidMap : Option Addr}
    {k0_InvalidMap k1_InvalidMap k2_InvalidMap k3_InvalidMap k5_InvalidMap : Option Value}
    {nm_InvalidText q_InvalidText : Str}
    {N_InvalidText : Addr}
    {bs_InvalidText bm_InvalidText sub_InvalidText : List Value}
    {sn_InvalidText : List Str}
    {ab_InvalidText : Bool}
    {col_InvalidText : Option Bool}
    {dd_InvalidText : Option Addr}
    {k0_InvalidText k1_InvalidText k2_InvalidText k3_InvalidText k5_InvalidText : Option Value}
    {nm_Contradiction q_Contradiction : Str}
    {N_Contradiction : Addr}
    {bs_Contradiction bm_Contradiction sub_Contradiction : List Value}
    {sn_Contradiction : List Str}
    {ab_Contradiction : Bool}
    {col_Contradiction : Option Bool}
    {dd_Contradiction : Option Addr}
    {k0_Contradiction k1_Contradiction k2_Contradiction k3_Contradiction k5_Contradiction : Option Value}
    {nm_TooMany q_TooMany : Str}
    {N_TooMany : Addr}
    {bs_TooMany bm_TooMany sub_TooMany : List Value}
    {sn_TooMany : List Str}
    {ab_TooMany : Bool}
    {col_TooMany : Option Bool}
    {dd_TooMany : Option Addr}
    {k0_TooMany k1_TooMany k2_TooMany k3_TooMany k5_TooMany : Option Value}
    (X : K.In h) (G : h.Ns mainGlobals mg) (hfa : mg "law" = some (.ref fa))
    (g_InvalidRegion : PySem.W.nsIn K mainGlobals "InvalidRegion" = some (some (.ref a_InvalidRegion)))
    (g_InvalidFact : PySem.W.nsIn K mainGlobals "InvalidFact" = some (some (.ref a_InvalidFact)))
    (g_InvalidPatch : PySem.W.nsIn K mainGlobals "InvalidPatch" = some (some (.ref a_InvalidPatch)))
    (g_InvalidClaim : PySem.W.nsIn K mainGlobals "InvalidClaim" = some (some (.ref a_InvalidClaim)))
    (g_InvalidDeed : PySem.W.nsIn K mainGlobals "InvalidDeed" = some (some (.ref a_InvalidDeed)))
    (g_InvalidColour : PySem.W.nsIn K mainGlobals "InvalidColour" = some (some (.ref a_InvalidColour)))
    (g_InvalidNumber : PySem.W.nsIn K mainGlobals "InvalidNumber" = some (some (.ref a_InvalidNumber)))
    (g_UnknownRegion : PySem.W.nsIn K mainGlobals "UnknownRegion" = some (some (.ref a_UnknownRegion)))
    (g_InvalidMap : PySem.W.nsIn K mainGlobals "InvalidMap" = some (some (.ref a_InvalidMap)))
    (g_InvalidText : PySem.W.nsIn K mainGlobals "InvalidText" = some (some (.ref a_InvalidText)))
    (g_Contradiction : PySem.W.nsIn K mainGlobals "Contradiction" = some (some (.ref a_Contradiction)))
    (g_TooMany : PySem.W.nsIn K mainGlobals "TooMany" = some (some (.ref a_TooMany)))
    (g_NothingToUndo : PySem.W.nsIn K mainGlobals "NothingToUndo" = some (some (.ref a_NothingToUndo)))
    (g_CoatError : PySem.W.nsIn K mainGlobals "CoatError" = some (some (.ref a_CoatError)))
    (g_InvalidRegion___init__ : PySem.W.findIn K (.ref a_InvalidRegion) "__init__" = some (some (.ref f_InvalidRegion___init__)))
    (l_InvalidRegion___init__ : K.lookup f_InvalidRegion___init__ = some ⟨oc_InvalidRegion___init__, od_InvalidRegion___init__, .func (PySem.W.fnOf "__init__" "InvalidRegion.__init__" (defArgs s_InvalidRegion___init__) (defBody s_InvalidRegion___init__) (defScope s_InvalidRegion___init__) .none kV_InvalidRegion___init__ dc_InvalidRegion___init__ pm_InvalidRegion___init__ an_InvalidRegion___init__ cd_InvalidRegion___init__ ct_InvalidRegion___init__), sl_InvalidRegion___init__⟩)
    (c_InvalidRegion___init__ : PySem.W.codeIn K cd_InvalidRegion___init__ "InvalidRegion.__init__" = true)
    (k_InvalidRegion___init__ : PySem.W.keepIn K (.ref f_InvalidRegion___init__) = true)
    (g_InvalidFact___init__ : PySem.W.findIn K (.ref a_InvalidFact) "__init__" = some (some (.ref f_InvalidFact___init__)))
    (l_InvalidFact___init__ : K.lookup f_InvalidFact___init__ = some ⟨oc_InvalidFact___init__, od_InvalidFact___init__, .func (PySem.W.fnOf "__init__" "InvalidFact.__init__" (defArgs s_InvalidFact___init__) (defBody s_InvalidFact___init__) (defScope s_InvalidFact___init__) .none kV_InvalidFact___init__ dc_InvalidFact___init__ pm_InvalidFact___init__ an_InvalidFact___init__ cd_InvalidFact___init__ ct_InvalidFact___init__), sl_InvalidFact___init__⟩)
    (c_InvalidFact___init__ : PySem.W.codeIn K cd_InvalidFact___init__ "InvalidFact.__init__" = true)
    (k_InvalidFact___init__ : PySem.W.keepIn K (.ref f_InvalidFact___init__) = true)
    (g_InvalidPatch___init__ : PySem.W.findIn K (.ref a_InvalidPatch) "__init__" = some (some (.ref f_InvalidPatch___init__)))
    (l_InvalidPatch___init__ : K.lookup f_InvalidPatch___init__ = some ⟨oc_InvalidPatch___init__, od_InvalidPatch___init__, .func (PySem.W.fnOf "__init__" "InvalidPatch.__init__" (defArgs s_InvalidPatch___init__) (defBody s_InvalidPatch___init__) (defScope s_InvalidPatch___init__) .none kV_InvalidPatch___init__ dc_InvalidPatch___init__ pm_InvalidPatch___init__ an_InvalidPatch___init__ cd_InvalidPatch___init__ ct_InvalidPatch___init__), sl_InvalidPatch___init__⟩)
    (c_InvalidPatch___init__ : PySem.W.codeIn K cd_InvalidPatch___init__ "InvalidPatch.__init__" = true)
    (k_InvalidPatch___init__ : PySem.W.keepIn K (.ref f_InvalidPatch___init__) = true)
    (g_InvalidClaim___init__ : PySem.W.findIn K (.ref a_InvalidClaim) "__init__" = some (some (.ref f_InvalidClaim___init__)))
    (l_InvalidClaim___init__ : K.lookup f_InvalidClaim___init__ = some ⟨oc_InvalidClaim___init__, od_InvalidClaim___init__, .func (PySem.W.fnOf "__init__" "InvalidClaim.__init__" (defArgs s_InvalidClaim___init__) (defBody s_InvalidClaim___init__) (defScope s_InvalidClaim___init__) .none kV_InvalidClaim___init__ dc_InvalidClaim___init__ pm_InvalidClaim___init__ an_InvalidClaim___init__ cd_InvalidClaim___init__ ct_InvalidClaim___init__), sl_InvalidClaim___init__⟩)
    (c_InvalidClaim___init__ : PySem.W.codeIn K cd_InvalidClaim___init__ "InvalidClaim.__init__" = true)
    (k_InvalidClaim___init__ : PySem.W.keepIn K (.ref f_InvalidClaim___init__) = true)
    (g_InvalidDeed___init__ : PySem.W.findIn K (.ref a_InvalidDeed) "__init__" = some (some (.ref f_InvalidDeed___init__)))
    (l_InvalidDeed___init__ : K.lookup f_InvalidDeed___init__ = some ⟨oc_InvalidDeed___init__, od_InvalidDeed___init__, .func (PySem.W.fnOf "__init__" "InvalidDeed.__init__" (defArgs s_InvalidDeed___init__) (defBody s_InvalidDeed___init__) (defScope s_InvalidDeed___init__) .none kV_InvalidDeed___init__ dc_InvalidDeed___init__ pm_InvalidDeed___init__ an_InvalidDeed___init__ cd_InvalidDeed___init__ ct_InvalidDeed___init__), sl_InvalidDeed___init__⟩)
    (c_InvalidDeed___init__ : PySem.W.codeIn K cd_InvalidDeed___init__ "InvalidDeed.__init__" = true)
    (k_InvalidDeed___init__ : PySem.W.keepIn K (.ref f_InvalidDeed___init__) = true)
    (g_InvalidColour___init__ : PySem.W.findIn K (.ref a_InvalidColour) "__init__" = some (some (.ref f_InvalidColour___init__)))
    (l_InvalidColour___init__ : K.lookup f_InvalidColour___init__ = some ⟨oc_InvalidColour___init__, od_InvalidColour___init__, .func (PySem.W.fnOf "__init__" "InvalidColour.__init__" (defArgs s_InvalidColour___init__) (defBody s_InvalidColour___init__) (defScope s_InvalidColour___init__) .none kV_InvalidColour___init__ dc_InvalidColour___init__ pm_InvalidColour___init__ an_InvalidColour___init__ cd_InvalidColour___init__ ct_InvalidColour___init__), sl_InvalidColour___init__⟩)
    (c_InvalidColour___init__ : PySem.W.codeIn K cd_InvalidColour___init__ "InvalidColour.__init__" = true)
    (k_InvalidColour___init__ : PySem.W.keepIn K (.ref f_InvalidColour___init__) = true)
    (g_InvalidNumber___init__ : PySem.W.findIn K (.ref a_InvalidNumber) "__init__" = some (some (.ref f_InvalidNumber___init__)))
    (l_InvalidNumber___init__ : K.lookup f_InvalidNumber___init__ = some ⟨oc_InvalidNumber___init__, od_InvalidNumber___init__, .func (PySem.W.fnOf "__init__" "InvalidNumber.__init__" (defArgs s_InvalidNumber___init__) (defBody s_InvalidNumber___init__) (defScope s_InvalidNumber___init__) .none kV_InvalidNumber___init__ dc_InvalidNumber___init__ pm_InvalidNumber___init__ an_InvalidNumber___init__ cd_InvalidNumber___init__ ct_InvalidNumber___init__), sl_InvalidNumber___init__⟩)
    (c_InvalidNumber___init__ : PySem.W.codeIn K cd_InvalidNumber___init__ "InvalidNumber.__init__" = true)
    (k_InvalidNumber___init__ : PySem.W.keepIn K (.ref f_InvalidNumber___init__) = true)
    (g_UnknownRegion___init__ : PySem.W.findIn K (.ref a_UnknownRegion) "__init__" = some (some (.ref f_UnknownRegion___init__)))
    (l_UnknownRegion___init__ : K.lookup f_UnknownRegion___init__ = some ⟨oc_UnknownRegion___init__, od_UnknownRegion___init__, .func (PySem.W.fnOf "__init__" "UnknownRegion.__init__" (defArgs s_UnknownRegion___init__) (defBody s_UnknownRegion___init__) (defScope s_UnknownRegion___init__) .none kV_UnknownRegion___init__ dc_UnknownRegion___init__ pm_UnknownRegion___init__ an_UnknownRegion___init__ cd_UnknownRegion___init__ ct_UnknownRegion___init__), sl_UnknownRegion___init__⟩)
    (c_UnknownRegion___init__ : PySem.W.codeIn K cd_UnknownRegion___init__ "UnknownRegion.__init__" = true)
    (k_UnknownRegion___init__ : PySem.W.keepIn K (.ref f_UnknownRegion___init__) = true)
    (g_InvalidMap___init__ : PySem.W.findIn K (.ref a_InvalidMap) "__init__" = some (some (.ref f_InvalidMap___init__)))
    (l_InvalidMap___init__ : K.lookup f_InvalidMap___init__ = some ⟨oc_InvalidMap___init__, od_InvalidMap___init__, .func (PySem.W.fnOf "__init__" "InvalidMap.__init__" (defArgs s_InvalidMap___init__) (defBody s_InvalidMap___init__) (defScope s_InvalidMap___init__) .none kV_InvalidMap___init__ dc_InvalidMap___init__ pm_InvalidMap___init__ an_InvalidMap___init__ cd_InvalidMap___init__ ct_InvalidMap___init__), sl_InvalidMap___init__⟩)
    (c_InvalidMap___init__ : PySem.W.codeIn K cd_InvalidMap___init__ "InvalidMap.__init__" = true)
    (k_InvalidMap___init__ : PySem.W.keepIn K (.ref f_InvalidMap___init__) = true)
    (g_InvalidText___init__ : PySem.W.findIn K (.ref a_InvalidText) "__init__" = some (some (.ref f_InvalidText___init__)))
    (l_InvalidText___init__ : K.lookup f_InvalidText___init__ = some ⟨oc_InvalidText___init__, od_InvalidText___init__, .func (PySem.W.fnOf "__init__" "InvalidText.__init__" (defArgs s_InvalidText___init__) (defBody s_InvalidText___init__) (defScope s_InvalidText___init__) .none kV_InvalidText___init__ dc_InvalidText___init__ pm_InvalidText___init__ an_InvalidText___init__ cd_InvalidText___init__ ct_InvalidText___init__), sl_InvalidText___init__⟩)
    (c_InvalidText___init__ : PySem.W.codeIn K cd_InvalidText___init__ "InvalidText.__init__" = true)
    (k_InvalidText___init__ : PySem.W.keepIn K (.ref f_InvalidText___init__) = true)
    (g_Contradiction___init__ : PySem.W.findIn K (.ref a_Contradiction) "__init__" = some (some (.ref f_Contradiction___init__)))
    (l_Contradiction___init__ : K.lookup f_Contradiction___init__ = some ⟨oc_Contradiction___init__, od_Contradiction___init__, .func (PySem.W.fnOf "__init__" "Contradiction.__init__" (defArgs s_Contradiction___init__) (defBody s_Contradiction___init__) (defScope s_Contradiction___init__) .none kV_Contradiction___init__ dc_Contradiction___init__ pm_Contradiction___init__ an_Contradiction___init__ cd_Contradiction___init__ ct_Contradiction___init__), sl_Contradiction___init__⟩)
    (c_Contradiction___init__ : PySem.W.codeIn K cd_Contradiction___init__ "Contradiction.__init__" = true)
    (k_Contradiction___init__ : PySem.W.keepIn K (.ref f_Contradiction___init__) = true)
    (g_TooMany___init__ : PySem.W.findIn K (.ref a_TooMany) "__init__" = some (some (.ref f_TooMany___init__)))
    (l_TooMany___init__ : K.lookup f_TooMany___init__ = some ⟨oc_TooMany___init__, od_TooMany___init__, .func (PySem.W.fnOf "__init__" "TooMany.__init__" (defArgs s_TooMany___init__) (defBody s_TooMany___init__) (defScope s_TooMany___init__) .none kV_TooMany___init__ dc_TooMany___init__ pm_TooMany___init__ an_TooMany___init__ cd_TooMany___init__ ct_TooMany___init__), sl_TooMany___init__⟩)
    (c_TooMany___init__ : PySem.W.codeIn K cd_TooMany___init__ "TooMany.__init__" = true)
    (k_TooMany___init__ : PySem.W.keepIn K (.ref f_TooMany___init__) = true)
    (g_l_mixed : PySem.W.nsIn K mainGlobals "_law_mixed" = some (some (.ref f_l_mixed)))
    (l_l_mixed : K.lookup f_l_mixed = some ⟨oc_l_mixed, od_l_mixed, .func (PySem.W.fnOf "_law_mixed" "_law_mixed" (defArgs s_l_mixed) (defBody s_l_mixed) (defScope s_l_mixed) .none kV_l_mixed dc_l_mixed pm_l_mixed an_l_mixed cd_l_mixed ct_l_mixed), sl_l_mixed⟩)
    (c_l_mixed : PySem.W.codeIn K cd_l_mixed "_law_mixed" = true)
    (k_l_mixed : PySem.W.keepIn K (.ref f_l_mixed) = true)
    (g_l_pile : PySem.W.nsIn K mainGlobals "_law_pile" = some (some (.ref f_l_pile)))
    (l_l_pile : K.lookup f_l_pile = some ⟨oc_l_pile, od_l_pile, .func (PySem.W.fnOf "_law_pile" "_law_pile" (defArgs s_l_pile) (defBody s_l_pile) (defScope s_l_pile) .none kV_l_pile dc_l_pile pm_l_pile an_l_pile cd_l_pile ct_l_pile), sl_l_pile⟩)
    (c_l_pile : PySem.W.codeIn K cd_l_pile "_law_pile" = true)
    (k_l_pile : PySem.W.keepIn K (.ref f_l_pile) = true)
    (g_l_take : PySem.W.nsIn K mainGlobals "_law_take" = some (some (.ref f_l_take)))
    (l_l_take : K.lookup f_l_take = some ⟨oc_l_take, od_l_take, .func (PySem.W.fnOf "_law_take" "_law_take" (defArgs s_l_take) (defBody s_l_take) (defScope s_l_take) .none kV_l_take dc_l_take pm_l_take an_l_take cd_l_take ct_l_take), sl_l_take⟩)
    (c_l_take : PySem.W.codeIn K cd_l_take "_law_take" = true)
    (k_l_take : PySem.W.keepIn K (.ref f_l_take) = true)
    (g_l_names : PySem.W.nsIn K mainGlobals "_law_names" = some (some (.ref f_l_names)))
    (l_l_names : K.lookup f_l_names = some ⟨oc_l_names, od_l_names, .func (PySem.W.fnOf "_law_names" "_law_names" (defArgs s_l_names) (defBody s_l_names) (defScope s_l_names) .none kV_l_names dc_l_names pm_l_names an_l_names cd_l_names ct_l_names), sl_l_names⟩)
    (c_l_names : PySem.W.codeIn K cd_l_names "_law_names" = true)
    (k_l_names : PySem.W.keepIn K (.ref f_l_names) = true)
    (g_l_classes : PySem.W.nsIn K mainGlobals "_law_classes" = some (some (.ref f_l_classes)))
    (l_l_classes : K.lookup f_l_classes = some ⟨oc_l_classes, od_l_classes, .func (PySem.W.fnOf "_law_classes" "_law_classes" (defArgs s_l_classes) (defBody s_l_classes) (defScope s_l_classes) .none kV_l_classes dc_l_classes pm_l_classes an_l_classes cd_l_classes ct_l_classes), sl_l_classes⟩)
    (c_l_classes : PySem.W.codeIn K cd_l_classes "_law_classes" = true)
    (k_l_classes : PySem.W.keepIn K (.ref f_l_classes) = true)
    (g_l_ways_right : PySem.W.nsIn K mainGlobals "_law_ways_right" = some (some (.ref f_l_ways_right)))
    (l_l_ways_right : K.lookup f_l_ways_right = some ⟨oc_l_ways_right, od_l_ways_right, .func (PySem.W.fnOf "_law_ways_right" "_law_ways_right" (defArgs s_l_ways_right) (defBody s_l_ways_right) (defScope s_l_ways_right) .none kV_l_ways_right dc_l_ways_right pm_l_ways_right an_l_ways_right cd_l_ways_right ct_l_ways_right), sl_l_ways_right⟩)
    (c_l_ways_right : PySem.W.codeIn K cd_l_ways_right "_law_ways_right" = true)
    (k_l_ways_right : PySem.W.keepIn K (.ref f_l_ways_right) = true)
    (g_law : PySem.W.nsIn K mainGlobals "law" = some (some (.ref f_law)))
    (l_law : K.lookup f_law = some ⟨oc_law, od_law, .func (PySem.W.fnOf "law" "law" (defArgs s_law) (defBody s_law) (defScope s_law) .none kV_law dc_law pm_law an_law cd_law ct_law), sl_law⟩)
    (c_law : PySem.W.codeIn K cd_law "law" = true)
    (k_law : PySem.W.keepIn K (.ref f_law) = true)
    (xga_InvalidRegion : PySem.W.findIn K (.ref a_InvalidRegion) "__getattribute__" = some (some (.builtin "BaseException.__getattribute__")))
    (xgg_InvalidRegion : PySem.W.findIn K (.ref a_InvalidRegion) "__getattr__" = some none)
    (xeC_InvalidRegion : PySem.W.subIn K (.ref a_InvalidRegion) (.type "BaseException") = some true)
    (xhd_InvalidRegion : PySem.W.hasDictIn K a_InvalidRegion = true)
    (xca_InvalidRegion : PySem.W.findIn K (.ref a_InvalidRegion) "__class__" = some (some (.builtin "object.__class__")))
    (xmo_InvalidRegion : PySem.W.mroIn K a_InvalidRegion (.type "object") = some true)
    (xo_InvalidRegion : K.lookup a_InvalidRegion = some (excClassObj nm_InvalidRegion q_InvalidRegion a_InvalidRegion N_InvalidRegion bs_InvalidRegion bm_InvalidRegion true sn_InvalidRegion sub_InvalidRegion ab_InvalidRegion col_InvalidRegion dd_InvalidRegion k0_InvalidRegion k1_InvalidRegion k2_InvalidRegion k3_InvalidRegion k5_InvalidRegion "ValueError.__new__"))
    (xr_InvalidRegion : PySem.HandSPX.refsVE bm_InvalidRegion = true)
    (xsa_InvalidRegion : PySem.W.findIn K (.ref a_InvalidRegion) "__setattr__" = some (some (.builtin "object.__setattr__")))
    (xty_InvalidRegion : PySem.W.typeIn K (.ref a_InvalidRegion) = some (.type "type"))
    (xk_InvalidRegion : PySem.W.keepIn K (.ref a_InvalidRegion) = true)
    (xit_InvalidRegion : PySem.W.typeIn K (.ref f_InvalidRegion___init__) = some (.type "function"))
    (xf_InvalidRegion_index : PySem.W.findIn K (.ref a_InvalidRegion) "index" = some none)
    (xga_InvalidFact : PySem.W.findIn K (.ref a_InvalidFact) "__getattribute__" = some (some (.builtin "BaseException.__getattribute__")))
    (xgg_InvalidFact : PySem.W.findIn K (.ref a_InvalidFact) "__getattr__" = some none)
    (xeC_InvalidFact : PySem.W.subIn K (.ref a_InvalidFact) (.type "BaseException") = some true)
    (xhd_InvalidFact : PySem.W.hasDictIn K a_InvalidFact = true)
    (xca_InvalidFact : PySem.W.findIn K (.ref a_InvalidFact) "__class__" = some (some (.builtin "object.__class__")))
    (xmo_InvalidFact : PySem.W.mroIn K a_InvalidFact (.type "object") = some true)
    (xo_InvalidFact : K.lookup a_InvalidFact = some (excClassObj nm_InvalidFact q_InvalidFact a_InvalidFact N_InvalidFact bs_InvalidFact bm_InvalidFact true sn_InvalidFact sub_InvalidFact ab_InvalidFact col_InvalidFact dd_InvalidFact k0_InvalidFact k1_InvalidFact k2_InvalidFact k3_InvalidFact k5_InvalidFact "ValueError.__new__"))
    (xr_InvalidFact : PySem.HandSPX.refsVE bm_InvalidFact = true)
    (xsa_InvalidFact : PySem.W.findIn K (.ref a_InvalidFact) "__setattr__" = some (some (.builtin "object.__setattr__")))
    (xty_InvalidFact : PySem.W.typeIn K (.ref a_InvalidFact) = some (.type "type"))
    (xk_InvalidFact : PySem.W.keepIn K (.ref a_InvalidFact) = true)
    (xit_InvalidFact : PySem.W.typeIn K (.ref f_InvalidFact___init__) = some (.type "function"))
    (xf_InvalidFact_index : PySem.W.findIn K (.ref a_InvalidFact) "index" = some none)
    (xga_InvalidPatch : PySem.W.findIn K (.ref a_InvalidPatch) "__getattribute__" = some (some (.builtin "BaseException.__getattribute__")))
    (xgg_InvalidPatch : PySem.W.findIn K (.ref a_InvalidPatch) "__getattr__" = some none)
    (xeC_InvalidPatch : PySem.W.subIn K (.ref a_InvalidPatch) (.type "BaseException") = some true)
    (xhd_InvalidPatch : PySem.W.hasDictIn K a_InvalidPatch = true)
    (xca_InvalidPatch : PySem.W.findIn K (.ref a_InvalidPatch) "__class__" = some (some (.builtin "object.__class__")))
    (xmo_InvalidPatch : PySem.W.mroIn K a_InvalidPatch (.type "object") = some true)
    (xo_InvalidPatch : K.lookup a_InvalidPatch = some (excClassObj nm_InvalidPatch q_InvalidPatch a_InvalidPatch N_InvalidPatch bs_InvalidPatch bm_InvalidPatch true sn_InvalidPatch sub_InvalidPatch ab_InvalidPatch col_InvalidPatch dd_InvalidPatch k0_InvalidPatch k1_InvalidPatch k2_InvalidPatch k3_InvalidPatch k5_InvalidPatch "ValueError.__new__"))
    (xr_InvalidPatch : PySem.HandSPX.refsVE bm_InvalidPatch = true)
    (xsa_InvalidPatch : PySem.W.findIn K (.ref a_InvalidPatch) "__setattr__" = some (some (.builtin "object.__setattr__")))
    (xty_InvalidPatch : PySem.W.typeIn K (.ref a_InvalidPatch) = some (.type "type"))
    (xk_InvalidPatch : PySem.W.keepIn K (.ref a_InvalidPatch) = true)
    (xit_InvalidPatch : PySem.W.typeIn K (.ref f_InvalidPatch___init__) = some (.type "function"))
    (xf_InvalidPatch_index : PySem.W.findIn K (.ref a_InvalidPatch) "index" = some none)
    (xga_InvalidClaim : PySem.W.findIn K (.ref a_InvalidClaim) "__getattribute__" = some (some (.builtin "BaseException.__getattribute__")))
    (xgg_InvalidClaim : PySem.W.findIn K (.ref a_InvalidClaim) "__getattr__" = some none)
    (xeC_InvalidClaim : PySem.W.subIn K (.ref a_InvalidClaim) (.type "BaseException") = some true)
    (xhd_InvalidClaim : PySem.W.hasDictIn K a_InvalidClaim = true)
    (xca_InvalidClaim : PySem.W.findIn K (.ref a_InvalidClaim) "__class__" = some (some (.builtin "object.__class__")))
    (xmo_InvalidClaim : PySem.W.mroIn K a_InvalidClaim (.type "object") = some true)
    (xo_InvalidClaim : K.lookup a_InvalidClaim = some (excClassObj nm_InvalidClaim q_InvalidClaim a_InvalidClaim N_InvalidClaim bs_InvalidClaim bm_InvalidClaim true sn_InvalidClaim sub_InvalidClaim ab_InvalidClaim col_InvalidClaim dd_InvalidClaim k0_InvalidClaim k1_InvalidClaim k2_InvalidClaim k3_InvalidClaim k5_InvalidClaim "ValueError.__new__"))
    (xr_InvalidClaim : PySem.HandSPX.refsVE bm_InvalidClaim = true)
    (xsa_InvalidClaim : PySem.W.findIn K (.ref a_InvalidClaim) "__setattr__" = some (some (.builtin "object.__setattr__")))
    (xty_InvalidClaim : PySem.W.typeIn K (.ref a_InvalidClaim) = some (.type "type"))
    (xk_InvalidClaim : PySem.W.keepIn K (.ref a_InvalidClaim) = true)
    (xit_InvalidClaim : PySem.W.typeIn K (.ref f_InvalidClaim___init__) = some (.type "function"))
    (xf_InvalidClaim_index : PySem.W.findIn K (.ref a_InvalidClaim) "index" = some none)
    (xga_InvalidDeed : PySem.W.findIn K (.ref a_InvalidDeed) "__getattribute__" = some (some (.builtin "BaseException.__getattribute__")))
    (xgg_InvalidDeed : PySem.W.findIn K (.ref a_InvalidDeed) "__getattr__" = some none)
    (xeC_InvalidDeed : PySem.W.subIn K (.ref a_InvalidDeed) (.type "BaseException") = some true)
    (xhd_InvalidDeed : PySem.W.hasDictIn K a_InvalidDeed = true)
    (xca_InvalidDeed : PySem.W.findIn K (.ref a_InvalidDeed) "__class__" = some (some (.builtin "object.__class__")))
    (xmo_InvalidDeed : PySem.W.mroIn K a_InvalidDeed (.type "object") = some true)
    (xo_InvalidDeed : K.lookup a_InvalidDeed = some (excClassObj nm_InvalidDeed q_InvalidDeed a_InvalidDeed N_InvalidDeed bs_InvalidDeed bm_InvalidDeed true sn_InvalidDeed sub_InvalidDeed ab_InvalidDeed col_InvalidDeed dd_InvalidDeed k0_InvalidDeed k1_InvalidDeed k2_InvalidDeed k3_InvalidDeed k5_InvalidDeed "ValueError.__new__"))
    (xr_InvalidDeed : PySem.HandSPX.refsVE bm_InvalidDeed = true)
    (xsa_InvalidDeed : PySem.W.findIn K (.ref a_InvalidDeed) "__setattr__" = some (some (.builtin "object.__setattr__")))
    (xty_InvalidDeed : PySem.W.typeIn K (.ref a_InvalidDeed) = some (.type "type"))
    (xk_InvalidDeed : PySem.W.keepIn K (.ref a_InvalidDeed) = true)
    (xit_InvalidDeed : PySem.W.typeIn K (.ref f_InvalidDeed___init__) = some (.type "function"))
    (xf_InvalidDeed_index : PySem.W.findIn K (.ref a_InvalidDeed) "index" = some none)
    (xga_InvalidColour : PySem.W.findIn K (.ref a_InvalidColour) "__getattribute__" = some (some (.builtin "BaseException.__getattribute__")))
    (xgg_InvalidColour : PySem.W.findIn K (.ref a_InvalidColour) "__getattr__" = some none)
    (xeC_InvalidColour : PySem.W.subIn K (.ref a_InvalidColour) (.type "BaseException") = some true)
    (xhd_InvalidColour : PySem.W.hasDictIn K a_InvalidColour = true)
    (xca_InvalidColour : PySem.W.findIn K (.ref a_InvalidColour) "__class__" = some (some (.builtin "object.__class__")))
    (xmo_InvalidColour : PySem.W.mroIn K a_InvalidColour (.type "object") = some true)
    (xo_InvalidColour : K.lookup a_InvalidColour = some (excClassObj nm_InvalidColour q_InvalidColour a_InvalidColour N_InvalidColour bs_InvalidColour bm_InvalidColour true sn_InvalidColour sub_InvalidColour ab_InvalidColour col_InvalidColour dd_InvalidColour k0_InvalidColour k1_InvalidColour k2_InvalidColour k3_InvalidColour k5_InvalidColour "ValueError.__new__"))
    (xr_InvalidColour : PySem.HandSPX.refsVE bm_InvalidColour = true)
    (xsa_InvalidColour : PySem.W.findIn K (.ref a_InvalidColour) "__setattr__" = some (some (.builtin "object.__setattr__")))
    (xty_InvalidColour : PySem.W.typeIn K (.ref a_InvalidColour) = some (.type "type"))
    (xk_InvalidColour : PySem.W.keepIn K (.ref a_InvalidColour) = true)
    (xit_InvalidColour : PySem.W.typeIn K (.ref f_InvalidColour___init__) = some (.type "function"))
    (xf_InvalidColour_colour : PySem.W.findIn K (.ref a_InvalidColour) "colour" = some none)
    (xga_InvalidNumber : PySem.W.findIn K (.ref a_InvalidNumber) "__getattribute__" = some (some (.builtin "BaseException.__getattribute__")))
    (xgg_InvalidNumber : PySem.W.findIn K (.ref a_InvalidNumber) "__getattr__" = some none)
    (xeC_InvalidNumber : PySem.W.subIn K (.ref a_InvalidNumber) (.type "BaseException") = some true)
    (xhd_InvalidNumber : PySem.W.hasDictIn K a_InvalidNumber = true)
    (xca_InvalidNumber : PySem.W.findIn K (.ref a_InvalidNumber) "__class__" = some (some (.builtin "object.__class__")))
    (xmo_InvalidNumber : PySem.W.mroIn K a_InvalidNumber (.type "object") = some true)
    (xo_InvalidNumber : K.lookup a_InvalidNumber = some (excClassObj nm_InvalidNumber q_InvalidNumber a_InvalidNumber N_InvalidNumber bs_InvalidNumber bm_InvalidNumber true sn_InvalidNumber sub_InvalidNumber ab_InvalidNumber col_InvalidNumber dd_InvalidNumber k0_InvalidNumber k1_InvalidNumber k2_InvalidNumber k3_InvalidNumber k5_InvalidNumber "ValueError.__new__"))
    (xr_InvalidNumber : PySem.HandSPX.refsVE bm_InvalidNumber = true)
    (xsa_InvalidNumber : PySem.W.findIn K (.ref a_InvalidNumber) "__setattr__" = some (some (.builtin "object.__setattr__")))
    (xty_InvalidNumber : PySem.W.typeIn K (.ref a_InvalidNumber) = some (.type "type"))
    (xk_InvalidNumber : PySem.W.keepIn K (.ref a_InvalidNumber) = true)
    (xit_InvalidNumber : PySem.W.typeIn K (.ref f_InvalidNumber___init__) = some (.type "function"))
    (xf_InvalidNumber_number : PySem.W.findIn K (.ref a_InvalidNumber) "number" = some none)
    (xga_UnknownRegion : PySem.W.findIn K (.ref a_UnknownRegion) "__getattribute__" = some (some (.builtin "BaseException.__getattribute__")))
    (xgg_UnknownRegion : PySem.W.findIn K (.ref a_UnknownRegion) "__getattr__" = some none)
    (xeC_UnknownRegion : PySem.W.subIn K (.ref a_UnknownRegion) (.type "BaseException") = some true)
    (xhd_UnknownRegion : PySem.W.hasDictIn K a_UnknownRegion = true)
    (xca_UnknownRegion : PySem.W.findIn K (.ref a_UnknownRegion) "__class__" = some (some (.builtin "object.__class__")))
    (xmo_UnknownRegion : PySem.W.mroIn K a_UnknownRegion (.type "object") = some true)
    (xo_UnknownRegion : K.lookup a_UnknownRegion = some (excClassObj nm_UnknownRegion q_UnknownRegion a_UnknownRegion N_UnknownRegion bs_UnknownRegion bm_UnknownRegion true sn_UnknownRegion sub_UnknownRegion ab_UnknownRegion col_UnknownRegion dd_UnknownRegion k0_UnknownRegion k1_UnknownRegion k2_UnknownRegion k3_UnknownRegion k5_UnknownRegion "ValueError.__new__"))
    (xr_UnknownRegion : PySem.HandSPX.refsVE bm_UnknownRegion = true)
    (xsa_UnknownRegion : PySem.W.findIn K (.ref a_UnknownRegion) "__setattr__" = some (some (.builtin "object.__setattr__")))
    (xty_UnknownRegion : PySem.W.typeIn K (.ref a_UnknownRegion) = some (.type "type"))
    (xk_UnknownRegion : PySem.W.keepIn K (.ref a_UnknownRegion) = true)
    (xit_UnknownRegion : PySem.W.typeIn K (.ref f_UnknownRegion___init__) = some (.type "function"))
    (xf_UnknownRegion_region : PySem.W.findIn K (.ref a_UnknownRegion) "region" = some none)
    (xga_InvalidMap : PySem.W.findIn K (.ref a_InvalidMap) "__getattribute__" = some (some (.builtin "BaseException.__getattribute__")))
    (xgg_InvalidMap : PySem.W.findIn K (.ref a_InvalidMap) "__getattr__" = some none)
    (xeC_InvalidMap : PySem.W.subIn K (.ref a_InvalidMap) (.type "BaseException") = some true)
    (xhd_InvalidMap : PySem.W.hasDictIn K a_InvalidMap = true)
    (xca_InvalidMap : PySem.W.findIn K (.ref a_InvalidMap) "__class__" = some (some (.builtin "object.__class__")))
    (xmo_InvalidMap : PySem.W.mroIn K a_InvalidMap (.type "object") = some true)
    (xo_InvalidMap : K.lookup a_InvalidMap = some (excClassObj nm_InvalidMap q_InvalidMap a_InvalidMap N_InvalidMap bs_InvalidMap bm_InvalidMap true sn_InvalidMap sub_InvalidMap ab_InvalidMap col_InvalidMap dd_InvalidMap k0_InvalidMap k1_InvalidMap k2_InvalidMap k3_InvalidMap k5_InvalidMap "ValueError.__new__"))
    (xr_InvalidMap : PySem.HandSPX.refsVE bm_InvalidMap = true)
    (xsa_InvalidMap : PySem.W.findIn K (.ref a_InvalidMap) "__setattr__" = some (some (.builtin "object.__setattr__")))
    (xty_InvalidMap : PySem.W.typeIn K (.ref a_InvalidMap) = some (.type "type"))
    (xk_InvalidMap : PySem.W.keepIn K (.ref a_InvalidMap) = true)
    (xit_InvalidMap : PySem.W.typeIn K (.ref f_InvalidMap___init__) = some (.type "function"))
    (xf_InvalidMap_index : PySem.W.findIn K (.ref a_InvalidMap) "index" = some none)
    (xga_InvalidText : PySem.W.findIn K (.ref a_InvalidText) "__getattribute__" = some (some (.builtin "BaseException.__getattribute__")))
    (xgg_InvalidText : PySem.W.findIn K (.ref a_InvalidText) "__getattr__" = some none)
    (xeC_InvalidText : PySem.W.subIn K (.ref a_InvalidText) (.type "BaseException") = some true)
    (xhd_InvalidText : PySem.W.hasDictIn K a_InvalidText = true)
    (xca_InvalidText : PySem.W.findIn K (.ref a_InvalidText) "__class__" = some (some (.builtin "object.__class__")))
    (xmo_InvalidText : PySem.W.mroIn K a_InvalidText (.type "object") = some true)
    (xo_InvalidText : K.lookup a_InvalidText = some (excClassObj nm_InvalidText q_InvalidText a_InvalidText N_InvalidText bs_InvalidText bm_InvalidText true sn_InvalidText sub_InvalidText ab_InvalidText col_InvalidText dd_InvalidText k0_InvalidText k1_InvalidText k2_InvalidText k3_InvalidText k5_InvalidText "ValueError.__new__"))
    (xr_InvalidText : PySem.HandSPX.refsVE bm_InvalidText = true)
    (xsa_InvalidText : PySem.W.findIn K (.ref a_InvalidText) "__setattr__" = some (some (.builtin "object.__setattr__")))
    (xty_InvalidText : PySem.W.typeIn K (.ref a_InvalidText) = some (.type "type"))
    (xk_InvalidText : PySem.W.keepIn K (.ref a_InvalidText) = true)
    (xit_InvalidText : PySem.W.typeIn K (.ref f_InvalidText___init__) = some (.type "function"))
    (xf_InvalidText_column : PySem.W.findIn K (.ref a_InvalidText) "column" = some none)
    (xga_Contradiction : PySem.W.findIn K (.ref a_Contradiction) "__getattribute__" = some (some (.builtin "BaseException.__getattribute__")))
    (xgg_Contradiction : PySem.W.findIn K (.ref a_Contradiction) "__getattr__" = some none)
    (xeC_Contradiction : PySem.W.subIn K (.ref a_Contradiction) (.type "BaseException") = some true)
    (xhd_Contradiction : PySem.W.hasDictIn K a_Contradiction = true)
    (xca_Contradiction : PySem.W.findIn K (.ref a_Contradiction) "__class__" = some (some (.builtin "object.__class__")))
    (xmo_Contradiction : PySem.W.mroIn K a_Contradiction (.type "object") = some true)
    (xo_Contradiction : K.lookup a_Contradiction = some (excClassObj nm_Contradiction q_Contradiction a_Contradiction N_Contradiction bs_Contradiction bm_Contradiction true sn_Contradiction sub_Contradiction ab_Contradiction col_Contradiction dd_Contradiction k0_Contradiction k1_Contradiction k2_Contradiction k3_Contradiction k5_Contradiction "ValueError.__new__"))
    (xr_Contradiction : PySem.HandSPX.refsVE bm_Contradiction = true)
    (xsa_Contradiction : PySem.W.findIn K (.ref a_Contradiction) "__setattr__" = some (some (.builtin "object.__setattr__")))
    (xty_Contradiction : PySem.W.typeIn K (.ref a_Contradiction) = some (.type "type"))
    (xk_Contradiction : PySem.W.keepIn K (.ref a_Contradiction) = true)
    (xit_Contradiction : PySem.W.typeIn K (.ref f_Contradiction___init__) = some (.type "function"))
    (xf_Contradiction_there : PySem.W.findIn K (.ref a_Contradiction) "there" = some none)
    (xf_Contradiction_back : PySem.W.findIn K (.ref a_Contradiction) "back" = some none)
    (xga_TooMany : PySem.W.findIn K (.ref a_TooMany) "__getattribute__" = some (some (.builtin "BaseException.__getattribute__")))
    (xgg_TooMany : PySem.W.findIn K (.ref a_TooMany) "__getattr__" = some none)
    (xeC_TooMany : PySem.W.subIn K (.ref a_TooMany) (.type "BaseException") = some true)
    (xhd_TooMany : PySem.W.hasDictIn K a_TooMany = true)
    (xca_TooMany : PySem.W.findIn K (.ref a_TooMany) "__class__" = some (some (.builtin "object.__class__")))
    (xmo_TooMany : PySem.W.mroIn K a_TooMany (.type "object") = some true)
    (xo_TooMany : K.lookup a_TooMany = some (excClassObj nm_TooMany q_TooMany a_TooMany N_TooMany bs_TooMany bm_TooMany true sn_TooMany sub_TooMany ab_TooMany col_TooMany dd_TooMany k0_TooMany k1_TooMany k2_TooMany k3_TooMany k5_TooMany "ValueError.__new__"))
    (xr_TooMany : PySem.HandSPX.refsVE bm_TooMany = true)
    (xsa_TooMany : PySem.W.findIn K (.ref a_TooMany) "__setattr__" = some (some (.builtin "object.__setattr__")))
    (xty_TooMany : PySem.W.typeIn K (.ref a_TooMany) = some (.type "type"))
    (xk_TooMany : PySem.W.keepIn K (.ref a_TooMany) = true)
    (xit_TooMany : PySem.W.typeIn K (.ref f_TooMany___init__) = some (.type "function"))
    (xf_TooMany_limit : PySem.W.findIn K (.ref a_TooMany) "limit" = some none)
    (xga_NothingToUndo : PySem.W.findIn K (.ref a_NothingToUndo) "__getattribute__" = some (some (.builtin "BaseException.__getattribute__")))
    (xgg_NothingToUndo : PySem.W.findIn K (.ref a_NothingToUndo) "__getattr__" = some none)
    (xeC_NothingToUndo : PySem.W.subIn K (.ref a_NothingToUndo) (.type "BaseException") = some true)
    (xhd_NothingToUndo : PySem.W.hasDictIn K a_NothingToUndo = true)
    (xca_NothingToUndo : PySem.W.findIn K (.ref a_NothingToUndo) "__class__" = some (some (.builtin "object.__class__")))
    (xmo_NothingToUndo : PySem.W.mroIn K a_NothingToUndo (.type "object") = some true)
    (xe_NothingToUndo : PySem.W.excIn K a_NothingToUndo [.type "ValueError", .type "Exception", .type "BaseException", .type "object"] "ValueError.__new__" = true)
    (xk_NothingToUndo : PySem.W.keepIn K (.ref a_NothingToUndo) = true)
    (sn_ : PySem.W.specialIn K (.builtin "object.__class__") "__get__" = some (some (.builtin "getset_descriptor.__get__")))
    (tk_ : PySem.W.takesIn K (.builtin "object.__class__") = some true)
    (z_int : PySem.W.nsIn K mainGlobals "int" = some none)
    (z_len : PySem.W.nsIn K mainGlobals "len" = some none)
    (z_abs : PySem.W.nsIn K mainGlobals "abs" = some none)
    (z_range : PySem.W.nsIn K mainGlobals "range" = some none)
    (z_enumerate : PySem.W.nsIn K mainGlobals "enumerate" = some none)
    (z_list : PySem.W.nsIn K mainGlobals "list" = some none)
    (z_isinstance : PySem.W.nsIn K mainGlobals "isinstance" = some none)
    (z_ValueError : PySem.W.nsIn K mainGlobals "ValueError" = some none)
    (z_LookupError : PySem.W.nsIn K mainGlobals "LookupError" = some none)
    (z_TypeError : PySem.W.nsIn K mainGlobals "TypeError" = some none)
    (z_ArithmeticError : PySem.W.nsIn K mainGlobals "ArithmeticError" = some none)
    (kits_ : Ox.kitTab K [a_InvalidRegion, a_InvalidFact, a_InvalidPatch, a_InvalidClaim, a_InvalidDeed, a_InvalidColour, a_InvalidNumber, a_UnknownRegion, a_InvalidMap, a_InvalidText, a_Contradiction, a_TooMany, a_NothingToUndo] a_CoatError = true) :
    ∃ fd : FuncData, (∀ (s : Shared) (v : Value), BindsTo s fd ⟨[v], []⟩ [("_law_script", v)]) ∧ ∀ base : Heap, K.In base → base.Ns mainGlobals mg → FnOk l.prog w K mg base CX0 4 fa fd ["_law_script"] (spLaw K) := by
  have e := hfa.symm.trans (PySem.W.mg_of X G g_law)
  have e : f_law = fa := by
    cases e
    rfl
  subst e
  have F_InvalidRegion___init__ := fun_mk (st := s_InvalidRegion___init__) l_InvalidRegion___init__ c_InvalidRegion___init__ k_InvalidRegion___init__
  have F_InvalidFact___init__ := fun_mk (st := s_InvalidFact___init__) l_InvalidFact___init__ c_InvalidFact___init__ k_InvalidFact___init__
  have F_InvalidPatch___init__ := fun_mk (st := s_InvalidPatch___init__) l_InvalidPatch___init__ c_InvalidPatch___init__ k_InvalidPatch___init__
  have F_InvalidClaim___init__ := fun_mk (st := s_InvalidClaim___init__) l_InvalidClaim___init__ c_InvalidClaim___init__ k_InvalidClaim___init__
  have F_InvalidDeed___init__ := fun_mk (st := s_InvalidDeed___init__) l_InvalidDeed___init__ c_InvalidDeed___init__ k_InvalidDeed___init__
  have F_InvalidColour___init__ := fun_mk (st := s_InvalidColour___init__) l_InvalidColour___init__ c_InvalidColour___init__ k_InvalidColour___init__
  have F_InvalidNumber___init__ := fun_mk (st := s_InvalidNumber___init__) l_InvalidNumber___init__ c_InvalidNumber___init__ k_InvalidNumber___init__
  have F_UnknownRegion___init__ := fun_mk (st := s_UnknownRegion___init__) l_UnknownRegion___init__ c_UnknownRegion___init__ k_UnknownRegion___init__
  have F_InvalidMap___init__ := fun_mk (st := s_InvalidMap___init__) l_InvalidMap___init__ c_InvalidMap___init__ k_InvalidMap___init__
  have F_InvalidText___init__ := fun_mk (st := s_InvalidText___init__) l_InvalidText___init__ c_InvalidText___init__ k_InvalidText___init__
  have F_Contradiction___init__ := fun_mk (st := s_Contradiction___init__) l_Contradiction___init__ c_Contradiction___init__ k_Contradiction___init__
  have F_TooMany___init__ := fun_mk (st := s_TooMany___init__) l_TooMany___init__ c_TooMany___init__ k_TooMany___init__
  have F_l_mixed := fun_mk (st := s_l_mixed) l_l_mixed c_l_mixed k_l_mixed
  have F_l_pile := fun_mk (st := s_l_pile) l_l_pile c_l_pile k_l_pile
  have F_l_take := fun_mk (st := s_l_take) l_l_take c_l_take k_l_take
  have F_l_names := fun_mk (st := s_l_names) l_l_names c_l_names k_l_names
  have F_l_classes := fun_mk (st := s_l_classes) l_l_classes c_l_classes k_l_classes
  have F_l_ways_right := fun_mk (st := s_l_ways_right) l_l_ways_right c_l_ways_right k_l_ways_right
  have F_law := fun_mk (st := s_law) l_law c_law k_law
  let T : Tx K mg := {
    a_InvalidRegion := a_InvalidRegion
    m_InvalidRegion := PySem.W.mg_of X G g_InvalidRegion
    a_InvalidFact := a_InvalidFact
    m_InvalidFact := PySem.W.mg_of X G g_InvalidFact
    a_InvalidPatch := a_InvalidPatch
    m_InvalidPatch := PySem.W.mg_of X G g_InvalidPatch
    a_InvalidClaim := a_InvalidClaim
    m_InvalidClaim := PySem.W.mg_of X G g_InvalidClaim
    a_InvalidDeed := a_InvalidDeed
    m_InvalidDeed := PySem.W.mg_of X G g_InvalidDeed
    a_InvalidColour := a_InvalidColour
    m_InvalidColour := PySem.W.mg_of X G g_InvalidColour
    a_InvalidNumber := a_InvalidNumber
    m_InvalidNumber := PySem.W.mg_of X G g_InvalidNumber
    a_UnknownRegion := a_UnknownRegion
    m_UnknownRegion := PySem.W.mg_of X G g_UnknownRegion
    a_InvalidMap := a_InvalidMap
    m_InvalidMap := PySem.W.mg_of X G g_InvalidMap
    a_InvalidText := a_InvalidText
    m_InvalidText := PySem.W.mg_of X G g_InvalidText
    a_Contradiction := a_Contradiction
    m_Contradiction := PySem.W.mg_of X G g_Contradiction
    a_TooMany := a_TooMany
    m_TooMany := PySem.W.mg_of X G g_TooMany
    a_NothingToUndo := a_NothingToUndo
    m_NothingToUndo := PySem.W.mg_of X G g_NothingToUndo
    a_CoatError := a_CoatError
    m_CoatError := PySem.W.mg_of X G g_CoatError
    f_InvalidRegion___init__ := f_InvalidRegion___init__
    d_InvalidRegion___init__ := (PySem.W.fnOf "__init__" "InvalidRegion.__init__" (defArgs s_InvalidRegion___init__) (defBody s_InvalidRegion___init__) (defScope s_InvalidRegion___init__) .none kV_InvalidRegion___init__ dc_InvalidRegion___init__ pm_InvalidRegion___init__ an_InvalidRegion___init__ cd_InvalidRegion___init__ ct_InvalidRegion___init__)
    F_InvalidRegion___init__ := F_InvalidRegion___init__
    b_InvalidRegion___init__ := F_InvalidRegion___init__.binds (ps := ["self", "index"]) fun _ _ _ _ _ _ us hl => match us, hl with | [_, _], _ => rfl
    f_InvalidFact___init__ := f_InvalidFact___init__
    d_InvalidFact___init__ := (PySem.W.fnOf "__init__" "InvalidFact.__init__" (defArgs s_InvalidFact___init__) (defBody s_InvalidFact___init__) (defScope s_InvalidFact___init__) .none kV_InvalidFact___init__ dc_InvalidFact___init__ pm_InvalidFact___init__ an_InvalidFact___init__ cd_InvalidFact___init__ ct_InvalidFact___init__)
    F_InvalidFact___init__ := F_InvalidFact___init__
    b_InvalidFact___init__ := F_InvalidFact___init__.binds (ps := ["self", "index"]) fun _ _ _ _ _ _ us hl => match us, hl with | [_, _], _ => rfl
    f_InvalidPatch___init__ := f_InvalidPatch___init__
    d_InvalidPatch___init__ := (PySem.W.fnOf "__init__" "InvalidPatch.__init__" (defArgs s_InvalidPatch___init__) (defBody s_InvalidPatch___init__) (defScope s_InvalidPatch___init__) .none kV_InvalidPatch___init__ dc_InvalidPatch___init__ pm_InvalidPatch___init__ an_InvalidPatch___init__ cd_InvalidPatch___init__ ct_InvalidPatch___init__)
    F_InvalidPatch___init__ := F_InvalidPatch___init__
    b_InvalidPatch___init__ := F_InvalidPatch___init__.binds (ps := ["self", "index"]) fun _ _ _ _ _ _ us hl => match us, hl with | [_, _], _ => rfl
    f_InvalidClaim___init__ := f_InvalidClaim___init__
    d_InvalidClaim___init__ := (PySem.W.fnOf "__init__" "InvalidClaim.__init__" (defArgs s_InvalidClaim___init__) (defBody s_InvalidClaim___init__) (defScope s_InvalidClaim___init__) .none kV_InvalidClaim___init__ dc_InvalidClaim___init__ pm_InvalidClaim___init__ an_InvalidClaim___init__ cd_InvalidClaim___init__ ct_InvalidClaim___init__)
    F_InvalidClaim___init__ := F_InvalidClaim___init__
    b_InvalidClaim___init__ := F_InvalidClaim___init__.binds (ps := ["self", "index"]) fun _ _ _ _ _ _ us hl => match us, hl with | [_, _], _ => rfl
    f_InvalidDeed___init__ := f_InvalidDeed___init__
    d_InvalidDeed___init__ := (PySem.W.fnOf "__init__" "InvalidDeed.__init__" (defArgs s_InvalidDeed___init__) (defBody s_InvalidDeed___init__) (defScope s_InvalidDeed___init__) .none kV_InvalidDeed___init__ dc_InvalidDeed___init__ pm_InvalidDeed___init__ an_InvalidDeed___init__ cd_InvalidDeed___init__ ct_InvalidDeed___init__)
    F_InvalidDeed___init__ := F_InvalidDeed___init__
    b_InvalidDeed___init__ := F_InvalidDeed___init__.binds (ps := ["self", "index"]) fun _ _ _ _ _ _ us hl => match us, hl with | [_, _], _ => rfl
    f_InvalidColour___init__ := f_InvalidColour___init__
    d_InvalidColour___init__ := (PySem.W.fnOf "__init__" "InvalidColour.__init__" (defArgs s_InvalidColour___init__) (defBody s_InvalidColour___init__) (defScope s_InvalidColour___init__) .none kV_InvalidColour___init__ dc_InvalidColour___init__ pm_InvalidColour___init__ an_InvalidColour___init__ cd_InvalidColour___init__ ct_InvalidColour___init__)
    F_InvalidColour___init__ := F_InvalidColour___init__
    b_InvalidColour___init__ := F_InvalidColour___init__.binds (ps := ["self", "colour"]) fun _ _ _ _ _ _ us hl => match us, hl with | [_, _], _ => rfl
    f_InvalidNumber___init__ := f_InvalidNumber___init__
    d_InvalidNumber___init__ := (PySem.W.fnOf "__init__" "InvalidNumber.__init__" (defArgs s_InvalidNumber___init__) (defBody s_InvalidNumber___init__) (defScope s_InvalidNumber___init__) .none kV_InvalidNumber___init__ dc_InvalidNumber___init__ pm_InvalidNumber___init__ an_InvalidNumber___init__ cd_InvalidNumber___init__ ct_InvalidNumber___init__)
    F_InvalidNumber___init__ := F_InvalidNumber___init__
    b_InvalidNumber___init__ := F_InvalidNumber___init__.binds (ps := ["self", "number"]) fun _ _ _ _ _ _ us hl => match us, hl with | [_, _], _ => rfl
    f_UnknownRegion___init__ := f_UnknownRegion___init__
    d_UnknownRegion___init__ := (PySem.W.fnOf "__init__" "UnknownRegion.__init__" (defArgs s_UnknownRegion___init__) (defBody s_UnknownRegion___init__) (defScope s_UnknownRegion___init__) .none kV_UnknownRegion___init__ dc_UnknownRegion___init__ pm_UnknownRegion___init__ an_UnknownRegion___init__ cd_UnknownRegion___init__ ct_UnknownRegion___init__)
    F_UnknownRegion___init__ := F_UnknownRegion___init__
    b_UnknownRegion___init__ := F_UnknownRegion___init__.binds (ps := ["self", "region"]) fun _ _ _ _ _ _ us hl => match us, hl with | [_, _], _ => rfl
    f_InvalidMap___init__ := f_InvalidMap___init__
    d_InvalidMap___init__ := (PySem.W.fnOf "__init__" "InvalidMap.__init__" (defArgs s_InvalidMap___init__) (defBody s_InvalidMap___init__) (defScope s_InvalidMap___init__) .none kV_InvalidMap___init__ dc_InvalidMap___init__ pm_InvalidMap___init__ an_InvalidMap___init__ cd_InvalidMap___init__ ct_InvalidMap___init__)
    F_InvalidMap___init__ := F_InvalidMap___init__
    b_InvalidMap___init__ := F_InvalidMap___init__.binds (ps := ["self", "index"]) fun _ _ _ _ _ _ us hl => match us, hl with | [_, _], _ => rfl
    f_InvalidText___init__ := f_InvalidText___init__
    d_InvalidText___init__ := (PySem.W.fnOf "__init__" "InvalidText.__init__" (defArgs s_InvalidText___init__) (defBody s_InvalidText___init__) (defScope s_InvalidText___init__) .none kV_InvalidText___init__ dc_InvalidText___init__ pm_InvalidText___init__ an_InvalidText___init__ cd_InvalidText___init__ ct_InvalidText___init__)
    F_InvalidText___init__ := F_InvalidText___init__
    b_InvalidText___init__ := F_InvalidText___init__.binds (ps := ["self", "column"]) fun _ _ _ _ _ _ us hl => match us, hl with | [_, _], _ => rfl
    f_Contradiction___init__ := f_Contradiction___init__
    d_Contradiction___init__ := (PySem.W.fnOf "__init__" "Contradiction.__init__" (defArgs s_Contradiction___init__) (defBody s_Contradiction___init__) (defScope s_Contradiction___init__) .none kV_Contradiction___init__ dc_Contradiction___init__ pm_Contradiction___init__ an_Contradiction___init__ cd_Contradiction___init__ ct_Contradiction___init__)
    F_Contradiction___init__ := F_Contradiction___init__
    b_Contradiction___init__ := F_Contradiction___init__.binds (ps := ["self", "there", "back"]) fun _ _ _ _ _ _ us hl => match us, hl with | [_, _, _], _ => rfl
    f_TooMany___init__ := f_TooMany___init__
    d_TooMany___init__ := (PySem.W.fnOf "__init__" "TooMany.__init__" (defArgs s_TooMany___init__) (defBody s_TooMany___init__) (defScope s_TooMany___init__) .none kV_TooMany___init__ dc_TooMany___init__ pm_TooMany___init__ an_TooMany___init__ cd_TooMany___init__ ct_TooMany___init__)
    F_TooMany___init__ := F_TooMany___init__
    b_TooMany___init__ := F_TooMany___init__.binds (ps := ["self", "limit"]) fun _ _ _ _ _ _ us hl => match us, hl with | [_, _], _ => rfl
    f_l_mixed := f_l_mixed
    d_l_mixed := (PySem.W.fnOf "_law_mixed" "_law_mixed" (defArgs s_l_mixed) (defBody s_l_mixed) (defScope s_l_mixed) .none kV_l_mixed dc_l_mixed pm_l_mixed an_l_mixed cd_l_mixed ct_l_mixed)
    F_l_mixed := F_l_mixed
    b_l_mixed := F_l_mixed.binds (ps := ["_law_cell", "_law_k"]) fun _ _ _ _ _ _ us hl => match us, hl with | [_, _], _ => rfl
    m_l_mixed := PySem.W.mg_of X G g_l_mixed
    f_l_pile := f_l_pile
    d_l_pile := (PySem.W.fnOf "_law_pile" "_law_pile" (defArgs s_l_pile) (defBody s_l_pile) (defScope s_l_pile) .none kV_l_pile dc_l_pile pm_l_pile an_l_pile cd_l_pile ct_l_pile)
    F_l_pile := F_l_pile
    b_l_pile := F_l_pile.binds (ps := ["_law_script", "_law_k"]) fun _ _ _ _ _ _ us hl => match us, hl with | [_, _], _ => rfl
    m_l_pile := PySem.W.mg_of X G g_l_pile
    f_l_take := f_l_take
    d_l_take := (PySem.W.fnOf "_law_take" "_law_take" (defArgs s_l_take) (defBody s_l_take) (defScope s_l_take) .none kV_l_take dc_l_take pm_l_take an_l_take cd_l_take ct_l_take)
    F_l_take := F_l_take
    b_l_take := F_l_take.binds (ps := ["_law_pile_here", "_law_many"]) fun _ _ _ _ _ _ us hl => match us, hl with | [_, _], _ => rfl
    m_l_take := PySem.W.mg_of X G g_l_take
    f_l_names := f_l_names
    d_l_names := (PySem.W.fnOf "_law_names" "_law_names" (defArgs s_l_names) (defBody s_l_names) (defScope s_l_names) .none kV_l_names dc_l_names pm_l_names an_l_names cd_l_names ct_l_names)
    F_l_names := F_l_names
    b_l_names := F_l_names.binds (ps := ["_law_pile_here", "_law_many"]) fun _ _ _ _ _ _ us hl => match us, hl with | [_, _], _ => rfl
    m_l_names := PySem.W.mg_of X G g_l_names
    f_l_classes := f_l_classes
    d_l_classes := (PySem.W.fnOf "_law_classes" "_law_classes" (defArgs s_l_classes) (defBody s_l_classes) (defScope s_l_classes) .none kV_l_classes dc_l_classes pm_l_classes an_l_classes cd_l_classes ct_l_classes)
    F_l_classes := F_l_classes
    b_l_classes := F_l_classes.binds (ps := ["_law_error"]) fun _ _ _ _ _ _ us hl => match us, hl with | [_], _ => rfl
    m_l_classes := PySem.W.mg_of X G g_l_classes
    f_l_ways_right := f_l_ways_right
    d_l_ways_right := (PySem.W.fnOf "_law_ways_right" "_law_ways_right" (defArgs s_l_ways_right) (defBody s_l_ways_right) (defScope s_l_ways_right) .none kV_l_ways_right dc_l_ways_right pm_l_ways_right an_l_ways_right cd_l_ways_right ct_l_ways_right)
    F_l_ways_right := F_l_ways_right
    b_l_ways_right := F_l_ways_right.binds (ps := ["_law_names_here"]) fun _ _ _ _ _ _ us hl => match us, hl with | [_], _ => rfl
    m_l_ways_right := PySem.W.mg_of X G g_l_ways_right
    f_law := f_law
    d_law := (PySem.W.fnOf "law" "law" (defArgs s_law) (defBody s_law) (defScope s_law) .none kV_law dc_law pm_law an_law cd_law ct_law)
    F_law := F_law
    b_law := F_law.binds (ps := ["_law_script"]) fun _ _ _ _ _ _ us hl => match us, hl with | [_], _ => rfl
    m_law := PySem.W.mg_of X G g_law
    e_InvalidRegion := ⟨Ox.cl_of xhd_InvalidRegion, xga_InvalidRegion, xgg_InvalidRegion, xeC_InvalidRegion, xhd_InvalidRegion, xca_InvalidRegion, sn_, tk_, xmo_InvalidRegion⟩
    x_InvalidRegion := ⟨⟨⟨nm_InvalidRegion, q_InvalidRegion, N_InvalidRegion, bs_InvalidRegion, bm_InvalidRegion, sn_InvalidRegion, sub_InvalidRegion, ab_InvalidRegion, col_InvalidRegion, dd_InvalidRegion, k0_InvalidRegion, k1_InvalidRegion, k2_InvalidRegion, k3_InvalidRegion, k5_InvalidRegion, xo_InvalidRegion, xr_InvalidRegion⟩, xsa_InvalidRegion, xeC_InvalidRegion, xty_InvalidRegion, xk_InvalidRegion⟩, g_InvalidRegion___init__, xit_InvalidRegion⟩
    xf_InvalidRegion_index := xf_InvalidRegion_index
    e_InvalidFact := ⟨Ox.cl_of xhd_InvalidFact, xga_InvalidFact, xgg_InvalidFact, xeC_InvalidFact, xhd_InvalidFact, xca_InvalidFact, sn_, tk_, xmo_InvalidFact⟩
    x_InvalidFact := ⟨⟨⟨nm_InvalidFact, q_InvalidFact, N_InvalidFact, bs_InvalidFact, bm_InvalidFact, sn_InvalidFact, sub_InvalidFact, ab_InvalidFact, col_InvalidFact, dd_InvalidFact, k0_InvalidFact, k1_InvalidFact, k2_InvalidFact, k3_InvalidFact, k5_InvalidFact, xo_InvalidFact, xr_InvalidFact⟩, xsa_InvalidFact, xeC_InvalidFact, xty_InvalidFact, xk_InvalidFact⟩, g_InvalidFact___init__, xit_InvalidFact⟩
    xf_InvalidFact_index := xf_InvalidFact_index
    e_InvalidPatch := ⟨Ox.cl_of xhd_InvalidPatch, xga_InvalidPatch, xgg_InvalidPatch, xeC_InvalidPatch, xhd_InvalidPatch, xca_InvalidPatch, sn_, tk_, xmo_InvalidPatch⟩
    x_InvalidPatch := ⟨⟨⟨nm_InvalidPatch, q_InvalidPatch, N_InvalidPatch, bs_InvalidPatch, bm_InvalidPatch, sn_InvalidPatch, sub_InvalidPatch, ab_InvalidPatch, col_InvalidPatch, dd_InvalidPatch, k0_InvalidPatch, k1_InvalidPatch, k2_InvalidPatch, k3_InvalidPatch, k5_InvalidPatch, xo_InvalidPatch, xr_InvalidPatch⟩, xsa_InvalidPatch, xeC_InvalidPatch, xty_InvalidPatch, xk_InvalidPatch⟩, g_InvalidPatch___init__, xit_InvalidPatch⟩
    xf_InvalidPatch_index := xf_InvalidPatch_index
    e_InvalidClaim := ⟨Ox.cl_of xhd_InvalidClaim, xga_InvalidClaim, xgg_InvalidClaim, xeC_InvalidClaim, xhd_InvalidClaim, xca_InvalidClaim, sn_, tk_, xmo_InvalidClaim⟩
    x_InvalidClaim := ⟨⟨⟨nm_InvalidClaim, q_InvalidClaim, N_InvalidClaim, bs_InvalidClaim, bm_InvalidClaim, sn_InvalidClaim, sub_InvalidClaim, ab_InvalidClaim, col_InvalidClaim, dd_InvalidClaim, k0_InvalidClaim, k1_InvalidClaim, k2_InvalidClaim, k3_InvalidClaim, k5_InvalidClaim, xo_InvalidClaim, xr_InvalidClaim⟩, xsa_InvalidClaim, xeC_InvalidClaim, xty_InvalidClaim, xk_InvalidClaim⟩, g_InvalidClaim___init__, xit_InvalidClaim⟩
    xf_InvalidClaim_index := xf_InvalidClaim_index
    e_InvalidDeed := ⟨Ox.cl_of xhd_InvalidDeed, xga_InvalidDeed, xgg_InvalidDeed, xeC_InvalidDeed, xhd_InvalidDeed, xca_InvalidDeed, sn_, tk_, xmo_InvalidDeed⟩
    x_InvalidDeed := ⟨⟨⟨nm_InvalidDeed, q_InvalidDeed, N_InvalidDeed, bs_InvalidDeed, bm_InvalidDeed, sn_InvalidDeed, sub_InvalidDeed, ab_InvalidDeed, col_InvalidDeed, dd_InvalidDeed, k0_InvalidDeed, k1_InvalidDeed, k2_InvalidDeed, k3_InvalidDeed, k5_InvalidDeed, xo_InvalidDeed, xr_InvalidDeed⟩, xsa_InvalidDeed, xeC_InvalidDeed, xty_InvalidDeed, xk_InvalidDeed⟩, g_InvalidDeed___init__, xit_InvalidDeed⟩
    xf_InvalidDeed_index := xf_InvalidDeed_index
    e_InvalidColour := ⟨Ox.cl_of xhd_InvalidColour, xga_InvalidColour, xgg_InvalidColour, xeC_InvalidColour, xhd_InvalidColour, xca_InvalidColour, sn_, tk_, xmo_InvalidColour⟩
    x_InvalidColour := ⟨⟨⟨nm_InvalidColour, q_InvalidColour, N_InvalidColour, bs_InvalidColour, bm_InvalidColour, sn_InvalidColour, sub_InvalidColour, ab_InvalidColour, col_InvalidColour, dd_InvalidColour, k0_InvalidColour, k1_InvalidColour, k2_InvalidColour, k3_InvalidColour, k5_InvalidColour, xo_InvalidColour, xr_InvalidColour⟩, xsa_InvalidColour, xeC_InvalidColour, xty_InvalidColour, xk_InvalidColour⟩, g_InvalidColour___init__, xit_InvalidColour⟩
    xf_InvalidColour_colour := xf_InvalidColour_colour
    e_InvalidNumber := ⟨Ox.cl_of xhd_InvalidNumber, xga_InvalidNumber, xgg_InvalidNumber, xeC_InvalidNumber, xhd_InvalidNumber, xca_InvalidNumber, sn_, tk_, xmo_InvalidNumber⟩
    x_InvalidNumber := ⟨⟨⟨nm_InvalidNumber, q_InvalidNumber, N_InvalidNumber, bs_InvalidNumber, bm_InvalidNumber, sn_InvalidNumber, sub_InvalidNumber, ab_InvalidNumber, col_InvalidNumber, dd_InvalidNumber, k0_InvalidNumber, k1_InvalidNumber, k2_InvalidNumber, k3_InvalidNumber, k5_InvalidNumber, xo_InvalidNumber, xr_InvalidNumber⟩, xsa_InvalidNumber, xeC_InvalidNumber, xty_InvalidNumber, xk_InvalidNumber⟩, g_InvalidNumber___init__, xit_InvalidNumber⟩
    xf_InvalidNumber_number := xf_InvalidNumber_number
    e_UnknownRegion := ⟨Ox.cl_of xhd_UnknownRegion, xga_UnknownRegion, xgg_UnknownRegion, xeC_UnknownRegion, xhd_UnknownRegion, xca_UnknownRegion, sn_, tk_, xmo_UnknownRegion⟩
    x_UnknownRegion := ⟨⟨⟨nm_UnknownRegion, q_UnknownRegion, N_UnknownRegion, bs_UnknownRegion, bm_UnknownRegion, sn_UnknownRegion, sub_UnknownRegion, ab_UnknownRegion, col_UnknownRegion, dd_UnknownRegion, k0_UnknownRegion, k1_UnknownRegion, k2_UnknownRegion, k3_UnknownRegion, k5_UnknownRegion, xo_UnknownRegion, xr_UnknownRegion⟩, xsa_UnknownRegion, xeC_UnknownRegion, xty_UnknownRegion, xk_UnknownRegion⟩, g_UnknownRegion___init__, xit_UnknownRegion⟩
    xf_UnknownRegion_region := xf_UnknownRegion_region
    e_InvalidMap := ⟨Ox.cl_of xhd_InvalidMap, xga_InvalidMap, xgg_InvalidMap, xeC_InvalidMap, xhd_InvalidMap, xca_InvalidMap, sn_, tk_, xmo_InvalidMap⟩
    x_InvalidMap := ⟨⟨⟨nm_InvalidMap, q_InvalidMap, N_InvalidMap, bs_InvalidMap, bm_InvalidMap, sn_InvalidMap, sub_InvalidMap, ab_InvalidMap, col_InvalidMap, dd_InvalidMap, k0_InvalidMap, k1_InvalidMap, k2_InvalidMap, k3_InvalidMap, k5_InvalidMap, xo_InvalidMap, xr_InvalidMap⟩, xsa_InvalidMap, xeC_InvalidMap, xty_InvalidMap, xk_InvalidMap⟩, g_InvalidMap___init__, xit_InvalidMap⟩
    xf_InvalidMap_index := xf_InvalidMap_index
    e_InvalidText := ⟨Ox.cl_of xhd_InvalidText, xga_InvalidText, xgg_InvalidText, xeC_InvalidText, xhd_InvalidText, xca_InvalidText, sn_, tk_, xmo_InvalidText⟩
    x_InvalidText := ⟨⟨⟨nm_InvalidText, q_InvalidText, N_InvalidText, bs_InvalidText, bm_InvalidText, sn_InvalidText, sub_InvalidText, ab_InvalidText, col_InvalidText, dd_InvalidText, k0_InvalidText, k1_InvalidText, k2_InvalidText, k3_InvalidText, k5_InvalidText, xo_InvalidText, xr_InvalidText⟩, xsa_InvalidText, xeC_InvalidText, xty_InvalidText, xk_InvalidText⟩, g_InvalidText___init__, xit_InvalidText⟩
    xf_InvalidText_column := xf_InvalidText_column
    e_Contradiction := ⟨Ox.cl_of xhd_Contradiction, xga_Contradiction, xgg_Contradiction, xeC_Contradiction, xhd_Contradiction, xca_Contradiction, sn_, tk_, xmo_Contradiction⟩
    x_Contradiction := ⟨⟨⟨nm_Contradiction, q_Contradiction, N_Contradiction, bs_Contradiction, bm_Contradiction, sn_Contradiction, sub_Contradiction, ab_Contradiction, col_Contradiction, dd_Contradiction, k0_Contradiction, k1_Contradiction, k2_Contradiction, k3_Contradiction, k5_Contradiction, xo_Contradiction, xr_Contradiction⟩, xsa_Contradiction, xeC_Contradiction, xty_Contradiction, xk_Contradiction⟩, g_Contradiction___init__, xit_Contradiction⟩
    xf_Contradiction_there := xf_Contradiction_there
    xf_Contradiction_back := xf_Contradiction_back
    e_TooMany := ⟨Ox.cl_of xhd_TooMany, xga_TooMany, xgg_TooMany, xeC_TooMany, xhd_TooMany, xca_TooMany, sn_, tk_, xmo_TooMany⟩
    x_TooMany := ⟨⟨⟨nm_TooMany, q_TooMany, N_TooMany, bs_TooMany, bm_TooMany, sn_TooMany, sub_TooMany, ab_TooMany, col_TooMany, dd_TooMany, k0_TooMany, k1_TooMany, k2_TooMany, k3_TooMany, k5_TooMany, xo_TooMany, xr_TooMany⟩, xsa_TooMany, xeC_TooMany, xty_TooMany, xk_TooMany⟩, g_TooMany___init__, xit_TooMany⟩
    xf_TooMany_limit := xf_TooMany_limit
    e_NothingToUndo := ⟨Ox.cl_of xhd_NothingToUndo, xga_NothingToUndo, xgg_NothingToUndo, xeC_NothingToUndo, xhd_NothingToUndo, xca_NothingToUndo, sn_, tk_, xmo_NothingToUndo⟩
    x_NothingToUndo := ⟨xe_NothingToUndo, xk_NothingToUndo⟩
    n_int := PySem.W.mg_none_of X G z_int
    n_len := PySem.W.mg_none_of X G z_len
    n_abs := PySem.W.mg_none_of X G z_abs
    n_range := PySem.W.mg_none_of X G z_range
    n_enumerate := PySem.W.mg_none_of X G z_enumerate
    n_list := PySem.W.mg_none_of X G z_list
    n_isinstance := PySem.W.mg_none_of X G z_isinstance
    n_ValueError := PySem.W.mg_none_of X G z_ValueError
    n_LookupError := PySem.W.mg_none_of X G z_LookupError
    n_TypeError := PySem.W.mg_none_of X G z_TypeError
    n_ArithmeticError := PySem.W.mg_none_of X G z_ArithmeticError
    kits := Ox.kits_of kits_ }
  exact ⟨T.d_law, fun s v => .of_eq rfl, fun base _ _ => ok_law T⟩
end K19
open PySem PySem.W PyProof.Rows
set_option maxRecDepth 100000 in
set_option maxHeartbeats 0 in
theorem PySem.Challenge.cw_coatrows_k19_errors_made_holds : PySem.Challenge.rw_coatrows_k19_errors_made.Holds := by
  refine hd19 ?_
  k_fill
  refine L2.walk_of (l := PySem.Challenge.rw_coatrows_k19_errors_made) (n := 63) (k := 4) (x := "_law_script") (CX := fun _ => L2.CX0) (sp := fun w => K19.spLaw _) rfl (by decide) rfl ⟨rfl, by decide, by decide⟩ (fun w h Y => PySem.W.kIn_of Y) ?F (fun _ _ a ns hl _ hS => ⟨a, ns, rfl, hS, hl, fun _ => rfl⟩) (fun _ _ _ _ _ h => h)
  case F =>
    intro w mg fa h KX G hmg
    refine' K19.all_mk KX G hmg ?g_InvalidRegion ?g_InvalidFact ?g_InvalidPatch ?g_InvalidClaim ?g_InvalidDeed ?g_InvalidColour ?g_InvalidNumber ?g_UnknownRegion ?g_InvalidMap ?g_InvalidText ?g_Contradiction ?g_TooMany ?g_NothingToUndo ?g_CoatError ?g_InvalidRegion___init__ ?l_InvalidRegion___init__ ?c_InvalidRegion___init__ ?k_InvalidRegion___init__ ?g_InvalidFact___init__ ?l_InvalidFact___init__ ?c_InvalidFact___init__ ?k_InvalidFact___init__ ?g_InvalidPatch___init__ ?l_InvalidPatch___init__ ?c_InvalidPatch___init__ ?k_InvalidPatch___init__ ?g_InvalidClaim___init__ ?l_InvalidClaim___init__ ?c_InvalidClaim___init__ ?k_InvalidClaim___init__ ?g_InvalidDeed___init__ ?l_InvalidDeed___init__ ?c_InvalidDeed___init__ ?k_InvalidDeed___init__ ?g_InvalidColour___init__ ?l_InvalidColour___init__ ?c_InvalidColour___init__ ?k_InvalidColour___init__ ?g_InvalidNumber___init__ ?l_InvalidNumber___init__ ?c_InvalidNumber___init__ ?k_InvalidNumber___init__ ?g_UnknownRegion___init__ ?l_UnknownRegion___init__ ?c_UnknownRegion___init__ ?k_UnknownRegion___init__ ?g_InvalidMap___init__ ?l_InvalidMap___init__ ?c_InvalidMap___init__ ?k_InvalidMap___init__ ?g_InvalidText___init__ ?l_InvalidText___init__ ?c_InvalidText___init__ ?k_InvalidText___init__ ?g_Contradiction___init__ ?l_Contradiction___init__ ?c_Contradiction___init__ ?k_Contradiction___init__ ?g_TooMany___init__ ?l_TooMany___init__ ?c_TooMany___init__ ?k_TooMany___init__ ?g_l_mixed ?l_l_mixed ?c_l_mixed ?k_l_mixed ?g_l_pile ?l_l_pile ?c_l_pile ?k_l_pile ?g_l_take ?l_l_take ?c_l_take ?k_l_take ?g_l_names ?l_l_names ?c_l_names ?k_l_names ?g_l_classes ?l_l_classes ?c_l_classes ?k_l_classes ?g_l_ways_right ?l_l_ways_right ?c_l_ways_right ?k_l_ways_right ?g_law ?l_law ?c_law ?k_law ?xga_InvalidRegion ?xgg_InvalidRegion ?xeC_InvalidRegion ?xhd_InvalidRegion ?xca_InvalidRegion ?xmo_InvalidRegion ?xo_InvalidRegion ?xr_InvalidRegion ?xsa_InvalidRegion ?xty_InvalidRegion ?xk_InvalidRegion ?xit_InvalidRegion ?xf_InvalidRegion_index ?xga_InvalidFact ?xgg_InvalidFact ?xeC_InvalidFact ?xhd_InvalidFact ?xca_InvalidFact ?xmo_InvalidFact ?xo_InvalidFact ?xr_InvalidFact ?xsa_InvalidFact ?xty_InvalidFact ?xk_InvalidFact ?xit_InvalidFact ?xf_InvalidFact_index ?xga_InvalidPatch ?xgg_InvalidPatch ?xeC_InvalidPatch ?xhd_InvalidPatch ?xca_InvalidPatch ?xmo_InvalidPatch ?xo_InvalidPatch ?xr_InvalidPatch ?xsa_InvalidPatch ?xty_InvalidPatch ?xk_InvalidPatch ?xit_InvalidPatch ?xf_InvalidPatch_index ?xga_InvalidClaim ?xgg_InvalidClaim ?xeC_InvalidClaim ?xhd_InvalidClaim ?xca_InvalidClaim ?xmo_InvalidClaim ?xo_InvalidClaim ?xr_InvalidClaim ?xsa_InvalidClaim ?xty_InvalidClaim ?xk_InvalidClaim ?xit_InvalidClaim ?xf_InvalidClaim_index ?xga_InvalidDeed ?xgg_InvalidDeed ?xeC_InvalidDeed ?xhd_InvalidDeed ?xca_InvalidDeed ?xmo_InvalidDeed ?xo_InvalidDeed ?xr_InvalidDeed ?xsa_InvalidDeed ?xty_InvalidDeed ?xk_InvalidDeed ?xit_InvalidDeed ?xf_InvalidDeed_index ?xga_InvalidColour ?xgg_InvalidColour ?xeC_InvalidColour ?xhd_InvalidColour ?xca_InvalidColour ?xmo_InvalidColour ?xo_InvalidColour ?xr_InvalidColour ?xsa_InvalidColour ?xty_InvalidColour ?xk_InvalidColour ?xit_InvalidColour ?xf_InvalidColour_colour ?xga_InvalidNumber ?xgg_InvalidNumber ?xeC_InvalidNumber ?xhd_InvalidNumber ?xca_InvalidNumber ?xmo_InvalidNumber ?xo_InvalidNumber ?xr_InvalidNumber ?xsa_InvalidNumber ?xty_InvalidNumber ?xk_InvalidNumber ?xit_InvalidNumber ?xf_InvalidNumber_number ?xga_UnknownRegion ?xgg_UnknownRegion ?xeC_UnknownRegion ?xhd_UnknownRegion ?xca_UnknownRegion ?xmo_UnknownRegion ?xo_UnknownRegion ?xr_UnknownRegion ?xsa_UnknownRegion ?xty_UnknownRegion ?xk_UnknownRegion ?xit_UnknownRegion ?xf_UnknownRegion_region ?xga_InvalidMap ?xgg_InvalidMap ?xeC_InvalidMap ?xhd_InvalidMap ?xca_InvalidMap ?xmo_InvalidMap ?xo_InvalidMap ?xr_InvalidMap ?xsa_InvalidMap ?xty_InvalidMap ?xk_InvalidMap ?xit_InvalidMap ?xf_InvalidMap_index ?xga_InvalidText ?xgg_InvalidText ?xeC_InvalidText ?xhd_InvalidText ?xca_InvalidText ?xmo_InvalidText ?xo_InvalidText ?xr_InvalidText ?xsa_InvalidText ?xty_InvalidText ?xk_InvalidText ?xit_InvalidText ?xf_InvalidText_column ?xga_Contradiction ?xgg_Contradiction ?xeC_Contradiction ?xhd_Contradiction ?xca_Contradiction ?xmo_Contradiction ?xo_Contradiction ?xr_Contradiction ?xsa_Contradiction ?xty_Contradiction ?xk_Contradiction ?xit_Contradiction ?xf_Contradiction_there ?xf_Contradiction_back ?xga_TooMany ?xgg_TooMany ?xeC_TooMany ?xhd_TooMany ?xca_TooMany ?xmo_TooMany ?xo_TooMany ?xr_TooMany ?xsa_TooMany ?xty_TooMany ?xk_TooMany ?xit_TooMany ?xf_TooMany_limit ?xga_NothingToUndo ?xgg_NothingToUndo ?xeC_NothingToUndo ?xhd_NothingToUndo ?xca_NothingToUndo ?xmo_NothingToUndo ?xe_NothingToUndo ?xk_NothingToUndo ?sn_ ?tk_ ?z_int ?z_len ?z_abs ?z_range ?z_enumerate ?z_list ?z_isinstance ?z_ValueError ?z_LookupError ?z_TypeError ?z_ArithmeticError ?kits_
    (case g_InvalidRegion => k_is)
    (case g_InvalidFact => k_is)
    (case g_InvalidPatch => k_is)
    (case g_InvalidClaim => k_is)
    (case g_InvalidDeed => k_is)
    (case g_InvalidColour => k_is)
    (case g_InvalidNumber => k_is)
    (case g_UnknownRegion => k_is)
    (case g_InvalidMap => k_is)
    (case g_InvalidText => k_is)
    (case g_Contradiction => k_is)
    (case g_TooMany => k_is)
    (case g_NothingToUndo => k_is)
    (case g_CoatError => k_is)
    (case g_InvalidRegion___init__ => k_is)
    (case l_InvalidRegion___init__ => k_is)
    (case c_InvalidRegion___init__ => k_is)
    (case k_InvalidRegion___init__ => k_is)
    (case g_InvalidFact___init__ => k_is)
    (case l_InvalidFact___init__ => k_is)
    (case c_InvalidFact___init__ => k_is)
    (case k_InvalidFact___init__ => k_is)
    (case g_InvalidPatch___init__ => k_is)
    (case l_InvalidPatch___init__ => k_is)
    (case c_InvalidPatch___init__ => k_is)
    (case k_InvalidPatch___init__ => k_is)
    (case g_InvalidClaim___init__ => k_is)
    (case l_InvalidClaim___init__ => k_is)
    (case c_InvalidClaim___init__ => k_is)
    (case k_InvalidClaim___init__ => k_is)
    (case g_InvalidDeed___init__ => k_is)
    (case l_InvalidDeed___init__ => k_is)
    (case c_InvalidDeed___init__ => k_is)
    (case k_InvalidDeed___init__ => k_is)
    (case g_InvalidColour___init__ => k_is)
    (case l_InvalidColour___init__ => k_is)
    (case c_InvalidColour___init__ => k_is)
    (case k_InvalidColour___init__ => k_is)
    (case g_InvalidNumber___init__ => k_is)
    (case l_InvalidNumber___init__ => k_is)
    (case c_InvalidNumber___init__ => k_is)
    (case k_InvalidNumber___init__ => k_is)
    (case g_UnknownRegion___init__ => k_is)
    (case l_UnknownRegion___init__ => k_is)
    (case c_UnknownRegion___init__ => k_is)
    (case k_UnknownRegion___init__ => k_is)
    (case g_InvalidMap___init__ => k_is)
    (case l_InvalidMap___init__ => k_is)
    (case c_InvalidMap___init__ => k_is)
    (case k_InvalidMap___init__ => k_is)
    (case g_InvalidText___init__ => k_is)
    (case l_InvalidText___init__ => k_is)
    (case c_InvalidText___init__ => k_is)
    (case k_InvalidText___init__ => k_is)
    (case g_Contradiction___init__ => k_is)
    (case l_Contradiction___init__ => k_is)
    (case c_Contradiction___init__ => k_is)
    (case k_Contradiction___init__ => k_is)
    (case g_TooMany___init__ => k_is)
    (case l_TooMany___init__ => k_is)
    (case c_TooMany___init__ => k_is)
    (case k_TooMany___init__ => k_is)
    (case g_l_mixed => k_is)
    (case l_l_mixed => k_is)
    (case c_l_mixed => k_is)
    (case k_l_mixed => k_is)
    (case g_l_pile => k_is)
    (case l_l_pile => k_is)
    (case c_l_pile => k_is)
    (case k_l_pile => k_is)
    (case g_l_take => k_is)
    (case l_l_take => k_is)
    (case c_l_take => k_is)
    (case k_l_take => k_is)
    (case g_l_names => k_is)
    (case l_l_names => k_is)
    (case c_l_names => k_is)
    (case k_l_names => k_is)
    (case g_l_classes => k_is)
    (case l_l_classes => k_is)
    (case c_l_classes => k_is)
    (case k_l_classes => k_is)
    (case g_l_ways_right => k_is)
    (case l_l_ways_right => k_is)
    (case c_l_ways_right => k_is)
    (case k_l_ways_right => k_is)
    (case g_law => k_is)
    (case l_law => k_is)
    (case c_law => k_is)
    (case k_law => k_is)
    (case xga_InvalidRegion => k_is)
    (case xgg_InvalidRegion => k_is)
    (case xeC_InvalidRegion => k_is)
    (case xhd_InvalidRegion => k_is)
    (case xca_InvalidRegion => k_is)
    (case xmo_InvalidRegion => k_is)
    (case xo_InvalidRegion => k_is)
    (case xr_InvalidRegion => decide +kernel)
    (case xsa_InvalidRegion => k_is)
    (case xty_InvalidRegion => k_is)
    (case xk_InvalidRegion => k_is)
    (case xit_InvalidRegion => k_is)
    (case xf_InvalidRegion_index => k_is)
    (case xga_InvalidFact => k_is)
    (case xgg_InvalidFact => k_is)
    (case xeC_InvalidFact => k_is)
    (case xhd_InvalidFact => k_is)
    (case xca_InvalidFact => k_is)
    (case xmo_InvalidFact => k_is)
    (case xo_InvalidFact => k_is)
    (case xr_InvalidFact => decide +kernel)
    (case xsa_InvalidFact => k_is)
    (case xty_InvalidFact => k_is)
    (case xk_InvalidFact => k_is)
    (case xit_InvalidFact => k_is)
    (case xf_InvalidFact_index => k_is)
    (case xga_InvalidPatch => k_is)
    (case xgg_InvalidPatch => k_is)
    (case xeC_InvalidPatch => k_is)
    (case xhd_InvalidPatch => k_is)
    (case xca_InvalidPatch => k_is)
    (case xmo_InvalidPatch => k_is)
    (case xo_InvalidPatch => k_is)
    (case xr_InvalidPatch => decide +kernel)
    (case xsa_InvalidPatch => k_is)
    (case xty_InvalidPatch => k_is)
    (case xk_InvalidPatch => k_is)
    (case xit_InvalidPatch => k_is)
    (case xf_InvalidPatch_index => k_is)
    (case xga_InvalidClaim => k_is)
    (case xgg_InvalidClaim => k_is)
    (case xeC_InvalidClaim => k_is)
    (case xhd_InvalidClaim => k_is)
    (case xca_InvalidClaim => k_is)
    (case xmo_InvalidClaim => k_is)
    (case xo_InvalidClaim => k_is)
    (case xr_InvalidClaim => decide +kernel)
    (case xsa_InvalidClaim => k_is)
    (case xty_InvalidClaim => k_is)
    (case xk_InvalidClaim => k_is)
    (case xit_InvalidClaim => k_is)
    (case xf_InvalidClaim_index => k_is)
    (case xga_InvalidDeed => k_is)
    (case xgg_InvalidDeed => k_is)
    (case xeC_InvalidDeed => k_is)
    (case xhd_InvalidDeed => k_is)
    (case xca_InvalidDeed => k_is)
    (case xmo_InvalidDeed => k_is)
    (case xo_InvalidDeed => k_is)
    (case xr_InvalidDeed => decide +kernel)
    (case xsa_InvalidDeed => k_is)
    (case xty_InvalidDeed => k_is)
    (case xk_InvalidDeed => k_is)
    (case xit_InvalidDeed => k_is)
    (case xf_InvalidDeed_index => k_is)
    (case xga_InvalidColour => k_is)
    (case xgg_InvalidColour => k_is)
    (case xeC_InvalidColour => k_is)
    (case xhd_InvalidColour => k_is)
    (case xca_InvalidColour => k_is)
    (case xmo_InvalidColour => k_is)
    (case xo_InvalidColour => k_is)
    (case xr_InvalidColour => decide +kernel)
    (case xsa_InvalidColour => k_is)
    (case xty_InvalidColour => k_is)
    (case xk_InvalidColour => k_is)
    (case xit_InvalidColour => k_is)
    (case xf_InvalidColour_colour => k_is)
    (case xga_InvalidNumber => k_is)
    (case xgg_InvalidNumber => k_is)
    (case xeC_InvalidNumber => k_is)
    (case xhd_InvalidNumber => k_is)
    (case xca_InvalidNumber => k_is)
    (case xmo_InvalidNumber => k_is)
    (case xo_InvalidNumber => k_is)
    (case xr_InvalidNumber => decide +kernel)
    (case xsa_InvalidNumber => k_is)
    (case xty_InvalidNumber => k_is)
    (case xk_InvalidNumber => k_is)
    (case xit_InvalidNumber => k_is)
    (case xf_InvalidNumber_number => k_is)
    (case xga_UnknownRegion => k_is)
    (case xgg_UnknownRegion => k_is)
    (case xeC_UnknownRegion => k_is)
    (case xhd_UnknownRegion => k_is)
    (case xca_UnknownRegion => k_is)
    (case xmo_UnknownRegion => k_is)
    (case xo_UnknownRegion => k_is)
    (case xr_UnknownRegion => decide +kernel)
    (case xsa_UnknownRegion => k_is)
    (case xty_UnknownRegion => k_is)
    (case xk_UnknownRegion => k_is)
    (case xit_UnknownRegion => k_is)
    (case xf_UnknownRegion_region => k_is)
    (case xga_InvalidMap => k_is)
    (case xgg_InvalidMap => k_is)
    (case xeC_InvalidMap => k_is)
    (case xhd_InvalidMap => k_is)
    (case xca_InvalidMap => k_is)
    (case xmo_InvalidMap => k_is)
    (case xo_InvalidMap => k_is)
    (case xr_InvalidMap => decide +kernel)
    (case xsa_InvalidMap => k_is)
    (case xty_InvalidMap => k_is)
    (case xk_InvalidMap => k_is)
    (case xit_InvalidMap => k_is)
    (case xf_InvalidMap_index => k_is)
    (case xga_InvalidText => k_is)
    (case xgg_InvalidText => k_is)
    (case xeC_InvalidText => k_is)
    (case xhd_InvalidText => k_is)
    (case xca_InvalidText => k_is)
    (case xmo_InvalidText => k_is)
    (case xo_InvalidText => k_is)
    (case xr_InvalidText => decide +kernel)
    (case xsa_InvalidText => k_is)
    (case xty_InvalidText => k_is)
    (case xk_InvalidText => k_is)
    (case xit_InvalidText => k_is)
    (case xf_InvalidText_column => k_is)
    (case xga_Contradiction => k_is)
    (case xgg_Contradiction => k_is)
    (case xeC_Contradiction => k_is)
    (case xhd_Contradiction => k_is)
    (case xca_Contradiction => k_is)
    (case xmo_Contradiction => k_is)
    (case xo_Contradiction => k_is)
    (case xr_Contradiction => decide +kernel)
    (case xsa_Contradiction => k_is)
    (case xty_Contradiction => k_is)
    (case xk_Contradiction => k_is)
    (case xit_Contradiction => k_is)
    (case xf_Contradiction_there => k_is)
    (case xf_Contradiction_back => k_is)
    (case xga_TooMany => k_is)
    (case xgg_TooMany => k_is)
    (case xeC_TooMany => k_is)
    (case xhd_TooMany => k_is)
    (case xca_TooMany => k_is)
    (case xmo_TooMany => k_is)
    (case xo_TooMany => k_is)
    (case xr_TooMany => decide +kernel)
    (case xsa_TooMany => k_is)
    (case xty_TooMany => k_is)
    (case xk_TooMany => k_is)
    (case xit_TooMany => k_is)
    (case xf_TooMany_limit => k_is)
    (case xga_NothingToUndo => k_is)
    (case xgg_NothingToUndo => k_is)
    (case xeC_NothingToUndo => k_is)
    (case xhd_NothingToUndo => k_is)
    (case xca_NothingToUndo => k_is)
    (case xmo_NothingToUndo => k_is)
    (case xe_NothingToUndo => k_exc)
    (case xk_NothingToUndo => k_is)
    (case sn_ => k_is)
    (case tk_ => k_is)
    (case z_int => k_is)
    (case z_len => k_is)
    (case z_abs => k_is)
    (case z_range => k_is)
    (case z_enumerate => k_is)
    (case z_list => k_is)
    (case z_isinstance => k_is)
    (case z_ValueError => k_is)
    (case z_LookupError => k_is)
    (case z_TypeError => k_is)
    (case z_ArithmeticError => k_is)
    (case kits_ => kernel_rfl)

