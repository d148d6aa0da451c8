import PyProof.Rows.All
import Wide.All
import OpenK.AllK
import Wide.FinOn
import HandS.ForMost
import HandS.Exc
import HandS.ExcCtx
import HandS.ExcField
import HandS.ExcIs
import HandS.IsInst
import HandS.HotCalls
import HandS.Wide
import HandS.Style
import KE.KExcIs
import HandS.Evl
import HandS.Conv
import PyProof.LongRange
import HandS.TupAny
import HandS.TupMul
import HandS.TupLe
import HandS.StrMore
import HandS.StrSplit
import HandS.FStr
import PySem.Challenge.RW_sumtalk_k02_powers_and_remainders
set_option Elab.async false
set_option linter.all false
set_option maxRecDepth 100000
set_option maxHeartbeats 4000000
/-! an own error with one field, value: what the written part says of its class, and its making -/
namespace PySem
namespace Lowvalue
open PySem.W PySem.Calls PyProof.Rows PySem.HandSPX
def iA (p1 p2 : Pos) : Arguments := { posonlyargs := [], args := [{ arg := "self", annotation := none, pos := p1 }, { arg := "value", annotation := none, pos := p2 }], vararg := none, kwonlyargs := [], kw_defaults := [], kwarg := none, defaults := [] }
def iB (q1 q2 q3 q4 : Pos) : List Stmt := [.Assign [.Attribute (.Name "self" q1) "value" q2] (.Name "value" q3) q4]
def iS : Scope := { kind := .function, names := [(PySem.Str.ofString "self", .local), (PySem.Str.ofString "value", .local)], isGenerator := false, isCoroutine := false, more := [] }
/-- the class x at C, its __init__ (qn) at fI -/
structure LowTxt (K : Frag) (mg : Str → Option Value) (x qn : Str) (C fI : Addr) : Prop where
  g : mg x = some (.ref C)
  cls : ∃ nm q N bs bm sn sub ab col dd k0 k1 k2 k3 k5, K.lookup C = some (excClassObj nm q C N bs bm true sn sub ab col dd k0 k1 k2 k3 k5 "ValueError.__new__") ∧ refsVE bm = true
  sa : findIn K (.ref C) "__setattr__" = some (some (.builtin "object.__setattr__"))
  noN : findIn K (.ref C) "value" = some none
  iC : findIn K (.ref C) "__init__" = some (some (.ref fI))
  tC : typeIn K (.ref fI) = some (.type "function")
  kC : keepIn K (.ref C) = true
  exC : subIn K (.ref C) (.type "BaseException") = some true
  tyC : typeIn K (.ref C) = some (.type "type")
  fn : ∃ (oc : Value) (od : Option Addr) (kV doc pm : Value) (an : Option Addr) (cdv ct : Value) (osl : Array (Option Value)) (p1 p2 q1 q2 q3 q4 : Pos),
    K.lookup fI = some ⟨oc, od, .func (fnOf "__init__" qn (iA p1 p2) (iB q1 q2 q3 q4) iS .none kV doc pm an cdv ct), osl⟩ ∧ codeIn K cdv qn = true
theorem one_size (v : Value) : [v].length ≤ sizeLine := by
  rw [sizeLine_eq]
  exact (by decide : 1 ≤ 16777216)
theorem ldC {M : Model} {s : Shared} {name : Str} {scope : Scope} {L a : Addr} {cd : Value} {m : Str → Option Value} {x : Str} {pos : Pos} {v : Value} {Q : Value → Shared → Prop} {A : Around} {E : Value → Shared → Prop} (hn : s.heap.Ns L m) (hv : m x = some v) (h : Q v s)
    (hk : scope.kind = .function := by rfl) (hl : (envOfC name scope L a cd).kindOf x = some .local := by rfl) (hd : (x == ("__debug__" : Str)) = false := by decide) :
    wpAny M A (eval (.Name x pos) (envOfC name scope L a cd)) Q E s := wpAny_Name (wpAny_loadName_local hk hl hn hv h) hd
/-- what __init__ leaves of a fresh exception at x -/
structure InitEnd (h h' : Heap) (x C dx t1 : Addr) (v : Value) : Prop where
  keep : ∀ b o, b ≠ x → h.get? b = some o → h'.get? b = some o
  obj : h'.get? x = some { cls := .ref C, dict := some dx, data := .fields #[.ref t1, .none, .none, .none, .bool false, .none] }
  dbig : h.objs.size ≤ dx
  dne : dx ≠ x
  ns : h'.Ns1 dx (fun y => if y = "value" then some v else none)
/-- a made one -/
structure OwnMade (h h' : Heap) (e C d : Addr) (v : Value) : Prop where
  keep : ∀ b o, h.get? b = some o → h'.get? b = some o
  new : h.objs.size ≤ e
  obj : ∃ oe vs, h'.get? e = some oe ∧ oe.cls = .ref C ∧ oe.dict = some d ∧ oe.data = .fields vs ∧ vs[1]? = some .none ∧ vs[2]? = some .none
  dbig : h.objs.size ≤ d
  dne : d ≠ e
  ns : h'.Ns1 d (fun y => if y = "value" then some v else none)
section
variable {prog : Program} {w : World} {A : Around} {E : Value → Shared → Prop} {R : Result → Shared → Prop} {s : Shared} {K : Frag} {mg : Str → Option Value} {C fI : Addr} {xn qn : Str}
theorem low_init (T : LowTxt K mg xn qn C fI) {x t0 : Addr} {v : Value} (X : K.In s.heap) (hlim : s.heap.NoLimit) (hx : s.heap.get? x = some (excO C t0)) (hnx : K.lookup x = none) (hroom : A.depth < recursionLimit)
    (hq : ∀ h' tk dx, InitEnd s.heap h' x C dx t0 v → R (.ok (.ret .none)) { s with heap := h', toks := tk }) :
    codeAny (model prog w) A (.call (.ref fI) ⟨[.ref x, v], []⟩) R s := by
  obtain ⟨oc, od, kV, doc, pm, an, cdv, ct, osl, p1, p2, q1, q2, q3, q4, ho, hcd⟩ := T.fn
  obtain ⟨nm, q, N, bs, bm, sn, sub, ab, col, dd, k0, k1, k2, k3, k5, hC, hbm⟩ := T.cls
  have hcl : clsIn K C = some { name := nm, bases := bs, mro := .ref C :: bm, ns := N, qualname := q, hasDict := true, slotNames := sn, subclasses := sub, abstract := ab, collection := col, hasDel := false } := by unfold clsIn; rw [hC] <;> rfl
  refine Att.call_fn (binds := [("self", .ref x), ("value", v)]) X hlim ho hcd hroom (BindsTo.of_eq (by first | rfl | with_unfolding_all rfl)) (by first | rfl | decide | with_unfolding_all rfl) (fun s₁ IC => ?_) rfl rfl rfl
  obtain ⟨h₁, tk₁, rfl⟩ := IC.toInCall.same
  have k : ∀ b o, s.heap.get? b = some o → h₁.get? b = some o := IC.toInCall.keep
  have hn := IC.toInCall.ns
  have hxL : s.heap.objs.size ≠ x := Nat.ne_of_gt (Heap.lt_size hx)
  have X₁ : K.In h₁ := X.keeps k
  have hx₁ := k _ _ hx
  -- self.value = value
  show wpAny _ _ (execs _ _) _ _ _
  refine wpAny_execs_cons (plainObj_wpAny_Assign_Attribute ?_)
  refine ldC (v := v) hn (by first | rfl | with_unfolding_all rfl | kernel_rfl) (ldC (v := .ref x) hn (by first | rfl | with_unfolding_all rfl | kernel_rfl) ?_)
  refine set_plain X₁ (ox := excO C t0) (od := none) ⟨hx₁, rfl, rfl, trivial⟩ T.sa ?_
  refine exc_osa X₁ hx₁ hcl (show refsVE (.ref C :: bm) = true from hbm) rfl T.noN (fun h₃ tk₃ dx k₃ dn dne hx₃ hn₃ => ?_)
  show wpAny _ _ (execs _ _) _ _ _
  have z : s.heap.objs.size < h₁.objs.size := hn.lt
  exact wpAny_execs_nil (hq h₃ tk₃ dx ⟨fun b o hb e => k₃ b o hb (k b o e), hx₃, Nat.le_of_lt (Nat.lt_of_lt_of_le z dn), dne, hn₃⟩)
theorem low_made (T : LowTxt K mg xn qn C fI) {v : Value} (X : K.In s.heap) (hlim : s.heap.NoLimit) (hroom : A.depth + 1 < recursionLimit)
    (hq : ∀ h' tk e d, OwnMade s.heap h' e C d v → R (.ok (.ret (.ref e))) { s with heap := h', toks := tk }) :
    codeAny (model prog w) A (.call (.ref C) ⟨[v], []⟩) R s := by
  obtain ⟨nm, q, N, bs, bm, sn, sub, ab, col, dd, k0, k1, k2, k3, k5, hC, hbm⟩ := T.cls
  obtain ⟨hp, g, dr, tk, os⟩ := s
  have k : ∀ b o, hp.get? b = some o → ((hp.push (kdv_tup [v])).push (excO C hp.objs.size)).get? b = some o := fun b o e => Heap.get?_push_of_some _ (Heap.get?_push_of_some _ e)
  have hget : ((hp.push (kdv_tup [v])).push (excO C hp.objs.size)).get? (hp.objs.size + 1) = some (excO C hp.objs.size) := by heap_get
  have hnx : K.lookup (hp.objs.size + 1) = none := by
    cases e : K.lookup (hp.objs.size + 1) with
    | none => rfl
    | some o =>
      have z : hp.get? (hp.objs.size + 1) = some o := X _ _ e
      exact absurd (Nat.lt_of_succ_lt (Heap.lt_size z)) (Nat.lt_irrefl _)
  refine call_own F.excBase_ValueError (fun X => refsVE_contains X bm hbm) (X _ _ hC) (looks_findIn X T.iC) (fun self => bind_fn X self T.tC) (one_size v) ?_
  refine low_init (s := ⟨(hp.push (kdv_tup [v])).push (excO C hp.objs.size), g, dr, tk, os⟩) T (X.keeps k) (hlim.keeps k) hget hnx ?_ fun h' tk' dx ⟨k', hx, dn, dne, hns⟩ => ?_
  · show A.depth + 1 < recursionLimit
    exact hroom
  · have old : ∀ b o, hp.get? b = some o → h'.get? b = some o := fun b o e => k' b o (Nat.ne_of_lt (Nat.lt_succ_of_lt (Heap.lt_size e))) (k b o e)
    have z : hp.objs.size + 1 + 1 ≤ dx := by
      first
        | (simpa only [Heap.size_push] using dn)
        | exact dn
        | (have q := dn; rw [Heap.size_push, Heap.size_push] at q; exact q)
    exact ⟨rfl, hq h' tk' (hp.objs.size + 1) dx ⟨old, Nat.le_succ _, ⟨_, _, hx, rfl, rfl, rfl, rfl, rfl⟩, Nat.le_trans (Nat.le_trans (Nat.le_succ _) (Nat.le_succ _)) z, dne, hns⟩⟩
end
end Lowvalue
end PySem
namespace L2
open PySem PySem.Spec PyProof.Rows
theorem relO_value {v : V} {v' : Value} (r : RelV v v') (f : Str) : RelO (List.lookup f [(("value" : Str), v)]) (if f = "value" then some v' else none) := by
  by_cases hw : f = "value"
  · subst hw
    rw [if_pos rfl]
    have q : List.lookup ("value" : Str) [(("value" : Str), v)] = some v := by simp [List.lookup]
    rw [q]
    exact r
  · rw [if_neg hw]
    have qw : (f == ("value" : Str)) = false := by simpa using hw
    have q2 : List.lookup f [(("value" : Str), v)] = none := by simp [List.lookup, qw]
    rw [q2]
    trivial
section
variable {X : Cx} {C fI : Addr} {xn qn : Str}
/-- Low(e) -/
def tMkvalue (C : Addr) (ta : TA) : St → Hp → XK → Prop := fun σ H Q => ta σ H fun vs H1 => ∃ v, vs = [v] ∧ ∀ d, H1 d = none → Q (.ref C) (some d) (upd H1 d (.xd [(("value" : Str), v)]))
theorem pmk_value {a : Expr} {ta : TA} {p pos : Pos} {k : Nat} (T : PySem.Lowvalue.LowTxt X.K X.mg xn qn C fI) (hr : Room k X.A) (ha : PA X [a] ta) (hg : Gl X xn) (hdb : (xn == ("__debug__" : Str)) = false := by decide)
    (he : starEach (a :: []) X.env = (false, eval a X.env) :: starEach [] X.env := by rfl) (hpl : (backTo pos (starEach [] X.env)).any (·.1) = false := by rfl) :
    L2N.PMk X (.Call (.Name xn p) [a] [] pos) (tMkvalue C ta) := by
  intro pins s σ H Q I h
  refine wpAny_Call_Name_kw (ld_glob I hg T.g ?_ hdb)
  refine PySem.W.callWith_K (h₀ := X.base) I.ok.mod.kin T.kC (thn (ha.run pos pins s σ H _ I h) fun us s1 hh => ?_) he hpl
  obtain ⟨vs, H1, I1, r1, v, ev, q1⟩ := hh
  subst ev
  refine ⟨I1.kIn, ?_⟩
  cases r1 with
  | cons rv rn =>
    rename_i v' us'
    cases rn
    show wpAny _ _ (call (.ref C) [v']) _ _ _
    have hlim := I1.nolimit
    obtain ⟨hp, g, dr, tk, os⟩ := s1
    refine wpAny_call (PySem.Lowvalue.low_made T I1.kIn hlim (by have := hr.dp; omega) fun h' tk' e d M => ?_)
    show L2N.MkP X pins σ Q (.ref e) ⟨h', g, dr, tk', os⟩
    obtain ⟨oe, fv, hoe, hc, hd, hdat, h1, h2⟩ := M.obj
    have hns := M.ns
    obtain ⟨G', g1, g2⟩ := restrict h' fun b => decide (b ≠ e)
    have gk : ∀ b, b ≠ e → G'.get? b = h'.get? b := fun b hb => g1 b (decide_eq_true hb)
    have ge : G'.get? e = none := g2 e (by simp)
    have old : ∀ b o, hp.get? b = some o → G'.get? b = some o := fun b o q => (gk b (Nat.ne_of_lt (Nat.lt_of_lt_of_le (Heap.lt_size q) M.new))).trans (M.keep b o q)
    have ob : ObjOk X.prog X.w (upd H1 d (.xd [(("value" : Str), v)])) G' d (.xd [(("value" : Str), v)]) :=
      ⟨_, hns.at (fun o q => (gk d M.dne).trans q), fun f => relO_value rv f⟩
    have J : Inv X pins σ (upd H1 d (.xd [(("value" : Str), v)])) ⟨G', g, dr, tk', os⟩ := I1.laid (t' := tk') old M.dbig ob
    refine ⟨e, oe, fv, ⟨G', g, dr, tk', os⟩, _, .ref C, some d, rfl, J, fun b o q => ?_, ge, hoe, ⟨hc, hd, fun vs z => by rw [hdat] at z; cases z; exact h2⟩, hdat, h1, ?_, rfl, I1.bare, raises_own T.exC T.tyC, q1 d (I1.hok.fresh M.dbig)⟩
    · by_cases hb : b = e
      · have q' : G'.get? b = some o := q
        rw [hb, ge] at q'; cases q'
      · exact (gk b hb).symm.trans q
    · rw [upd_ne (Ne.symm M.dne)]
      exact I1.hok.fresh M.new
end
end L2
namespace Vb
open PySem PySem.Spec PyProof.Rows L2
section
variable {P : Program} {w : World} {K : PySem.W.Frag} {mg : Str → Option Value} {base : Heap}
/-- a def that may raise, its exceptions' context told -/
theorem okN {x qual : Str} {st : Stmt} {f : Addr} {fd : FuncData} {N ps : List Str} {k : Nat} {sp : Sp} (F : Fun K x qual st f fd) (S : FnScope N ps (defScope st)) (len : ∀ vs H Q E, sp vs H Q E → vs.length = ps.length)
    (hbody : ∀ (cdv : Value) (A : Around) (outer : List Env) (s : Shared) (H : Hp) (vs : List V) (Q : VK) (E : XK), Room k (A.deeper (envOfC qual (defScope st) s.heap.objs.size f cdv)) → sp vs H Q E →
      ∃ t, PSs (cxOf (L2N.CX P w) P w K mg base N qual (defScope st) f cdv A outer s H E) (defBody st) t ∧ t (Ends.mk (fun _ H' => Q .non H') Q (fun _ _ => False) (fun _ _ => False)) (start N vs) H) : FnOk P w K mg base (L2N.CX P w) (k + 1) f fd ps sp := by
  obtain ⟨oc, od, kV, doc, pm, an, cdv, ct, osl, rfl, lk, hcd⟩ := F.ex
  exact fn_of lk hcd S len fun A outer s H vs Q E hr hsp => hbody cdv A outer s H vs Q E hr hsp
/-- the same, called while an exception is handled -/
theorem okH {x qual : Str} {st : Stmt} {f : Addr} {fd : FuncData} {N ps : List Str} {k : Nat} {sp : Sp} (F : Fun K x qual st f fd) (S : FnScope N ps (defScope st)) (len : ∀ vs H Q E, sp vs H Q E → vs.length = ps.length)
    (hbody : ∀ (cdv : Value) (A : Around) (outer : List Env) (s : Shared) (H : Hp) (vs : List V) (Q : VK) (E : XK) (p : Addr × Obj), L2H.Hot1 A p → L2H.RoomH k (A.deeper (envOfC qual (defScope st) s.heap.objs.size f cdv)) → sp vs H Q E →
      ∃ t, PSs (L2H.cxH CX0 P w K mg base N qual (defScope st) f cdv A outer s H E p) (defBody st) t ∧ t (Ends.mk (fun _ H' => Q .non H') Q (fun _ _ => False) (fun _ _ => False)) (start N vs) H) : L2H.FnH P w K mg base CX0 (k + 1) f fd ps sp := by
  obtain ⟨oc, od, kV, doc, pm, an, cdv, ct, osl, rfl, lk, hcd⟩ := F.ex
  exact L2H.fn_ofH lk hcd S len fun A outer s H vs Q E p hot hr hsp => hbody cdv A outer s H vs Q E p hot hr hsp
/-- a def of the text, by its name -/
structure Dn (K : PySem.W.Frag) (mg : Str → Option Value) (x : Str) (st : Stmt) (ps : List Str) (f : Addr) (fd : FuncData) : Prop where
  F : Fun K x x st f fd
  g : mg x = some (.ref f)
  b : Binds K fd ps []
/-- an own error's class without an __init__ -/
structure Xn (K : PySem.W.Frag) (mg : Str → Option Value) (x : Str) (C : Addr) : Prop where
  g : mg x = some (.ref C)
  q : PySem.W.excIn K C [.type "ValueError", .type "Exception", .type "BaseException", .type "object"] "ValueError.__new__" = true
  kC : PySem.W.keepIn K (.ref C) = true
  exC : PySem.W.subIn K (.ref C) (.type "BaseException") = some true
  tyC : PySem.W.typeIn K (.ref C) = some (.type "type")
/-- what isinstance asks of a caught error's class -/
structure Xk (K : PySem.W.Frag) (C : Addr) : Prop where
  cl : PySem.W.isClsIn K C = true
  ga : PySem.W.findIn K (.ref C) "__getattribute__" = some (some (.builtin "BaseException.__getattribute__"))
  gg : PySem.W.findIn K (.ref C) "__getattr__" = some none
  sb : PySem.W.subIn K (.ref C) (.type "BaseException") = some true
  ca : PySem.W.findIn K (.ref C) "__class__" = some (some (.builtin "object.__class__"))
  sp : PySem.W.specialIn K (.builtin "object.__class__") "__get__" = some (some (.builtin "getset_descriptor.__get__"))
  tk : PySem.W.takesIn K (.builtin "object.__class__") = some true
  mo : PySem.W.mroIn K C (.type "object") = some true
  hd : PySem.W.hasDictIn K C = true
  ss : PySem.W.subIn K (.ref C) (.ref C) = some true
  ty : PySem.W.typeIn K (.ref C) = some (.type "type")
theorem Xk.ex {C : Addr} (k : Xk K C) : PySem.W.exmOne K (.ref C) (.ref C) = some true := PySem.W.exm_ref k.sb k.hd k.ty k.ss
theorem Xk.xf {C : Addr} (k : Xk K C) : XfC K C := ⟨k.ga, k.gg, k.sb, k.hd⟩
theorem kit_yes {D C : Addr} (h1 : PySem.W.isClsIn K C = true) (h2 : PySem.W.typeIn K (.ref C) = some (.type "type")) (h3 : PySem.W.subIn K (.ref D) (.ref C) = some true) : PySem.W.kitOne K (.ref D) (.ref C) = some true := by
  have h1' : (PySem.W.clsIn K C).isSome = true := h1
  unfold PySem.W.kitOne
  split
  · rfl
  · show (if ((PySem.W.clsIn K C).isSome && PySem.W.typeIn K (.ref C) == some (.type "type")) = true then PySem.W.subIn K (.ref D) (.ref C) else none) = _
    rw [h1', h2, if_pos (by decide)]
    exact h3
theorem kit_no {D C : Addr} (h1 : PySem.W.isClsIn K C = true) (h2 : PySem.W.typeIn K (.ref C) = some (.type "type")) (h3 : PySem.W.subIn K (.ref D) (.ref C) = some false) (ne : D ≠ C) : PySem.W.kitOne K (.ref D) (.ref C) = some false := by
  have h1' : (PySem.W.clsIn K C).isSome = true := h1
  unfold PySem.W.kitOne
  split
  · rename_i h
    have e := beq_iff_eq.mp h
    cases e
    exact absurd rfl ne
  · show (if ((PySem.W.clsIn K C).isSome && PySem.W.typeIn K (.ref C) == some (.type "type")) = true then PySem.W.subIn K (.ref D) (.ref C) else none) = _
    rw [h1', h2, if_pos (by decide)]
    exact h3
theorem kit_blt {D : Addr} {T : String} {b : Bool} (h1 : PySem.W.kitMeta T = true) (h3 : PySem.W.subIn K (.ref D) (.type T) = some b) : PySem.W.kitOne K (.ref D) (.type T) = some b := by
  unfold PySem.W.kitOne
  rw [if_neg (by intro h; cases beq_iff_eq.mp h)]
  show (if PySem.W.kitMeta T = true then PySem.W.subIn K (.ref D) (.type T) else none) = _
  rw [h1, if_pos rfl]
  exact h3
end
theorem pass5 {X : Cx} : Passes (L2N.CX X.prog X.w) X E0 := fun _ _ _ _ _ _ _ h => by
  obtain ⟨_, _, _, _, _, _, _, _, _, _, _, _, z⟩ := h
  exact z.elim
theorem roomH_mark {k : Nat} {A : Around} (r : Room k A) (h : Option Value) : L2H.RoomH k (A.mark h) := ⟨r.dp, r.un⟩
theorem passH {X : Cx} {σ : L2.St} : PassesAt CX0 X σ E0 := fun _ _ _ _ _ _ h => h.elim
theorem takesF {X : Cx} : L2N.Takes X (fun _ _ _ _ => False) := fun _ _ x => by
  obtain ⟨_, _, _, _, _, _, _, _, _, _, _, _, _, _, _, _, z⟩ := x
  exact z.elim
section
variable {X : Cx}
theorem hotN {a : Addr} {oe : Obj} {cls : Value} {d : Option Addr} {pn : List (Addr × Obj)} (hz : L2N.Zn cls d oe) (hf : ∃ vs, oe.data = .fields vs) : L2H.HotC (X.suite a ((a, oe) :: pn)) := by
  obtain ⟨vs, e⟩ := hf
  exact ⟨(a, oe), ⟨rfl, vs, e, hz.2.2 vs e⟩, List.mem_cons_self⟩
/-- X() of such a class -/
theorem pmk0 {x : Str} {C : Addr} {p pos : Pos} (T : Xn X.K X.mg x C) (hg : Gl X x) (hdb : (x == ("__debug__" : Str)) = false := by decide) : L2N.PMk X (.Call (.Name x p) [] [] pos) (fun _ H Q => Q (.ref C) none H) := by
  intro pins s σ H Q I h
  refine wpAny_Call_Name_kw (ld_glob I hg T.g ?_ hdb)
  refine PySem.W.callWith_K0 I.kIn T.kC ?_
  obtain ⟨bm, N, nm, qn, bs, hdct, sn, sub, ab, col, dd, k0, k1, k2, k3, k5, mN, hC, hN, hni, T5⟩ := exc_obj I.kIn T.q
  refine wpAny_call_exc_subT PySem.F.excBase_ValueError T5 hC hN hni (fun h' e hm => ?_) (Nat.zero_le _)
  exact L2N.mk_of I hm (raises_own T.exC T.tyC) h (I.hok.gone hm.new)
/-- isinstance(e, c), e the caught error: its class D, its own dict d -/
def rIsX (K : PySem.W.Frag) (D a : Addr) (cls : Value) (d : Option Addr) : List V → Hp → VK → Prop := fun xs H Q => ∃ (c : V) (cv : Value) (b : Bool), xs = [.ref a, c] ∧ cls = .ref D ∧ (∀ u, RelV c u → u = cv) ∧ PySem.W.kitOne K (.ref D) cv = some b ∧ (d = none ∨ ∃ dd fs, d = some dd ∧ H dd = some (.xd fs)) ∧ Q (.bl b) H
theorem call_isX {a D : Addr} {oe : Obj} {cls : Value} {d : Option Addr} {pn : List (Addr × Obj)} (C : Xk X.K D) (hz : L2N.Zn cls d oe) (hf : ∃ vs, oe.data = .fields vs) : CallR (X.suite a ((a, oe) :: pn)) (.builtin "isinstance") (rIsX X.K D a cls d) := by
  intro pins s σ H xs us Q I r h
  obtain ⟨c, cv, b, rfl, ec, hcv, e, hd, q⟩ := h
  obtain ⟨u1, u2, rfl, r1, r2⟩ := vals2 r
  cases (show u1 = Value.ref a from r1)
  have e2 := hcv _ r2
  subst e2
  obtain ⟨hget, _⟩ := I.pin (a, oe) (List.mem_append.mpr (.inl List.mem_cons_self))
  obtain ⟨vs, hv⟩ := hf
  have J : ∃ od, PySem.W.InstAt s.heap a oe D od := by
    rcases hd with hd | ⟨dd, fs, hd, ho⟩
    · refine ⟨none, hget, hz.1.trans ec, by unfold PySem.W.notCls; rw [hv] <;> rfl, ?_⟩
      rw [hz.2.1, hd]
      trivial
    · have hx : ObjOk X.prog X.w H s.heap dd (.xd fs) := I.hok dd _ ho
      obtain ⟨mA, hns, _⟩ := hx
      obtain ⟨od, ho, _⟩ := lookIn_ns hns
      refine ⟨some od, hget, hz.1.trans ec, by unfold PySem.W.notCls; rw [hv] <;> rfl, ?_⟩
      rw [hz.2.1, hd]
      exact ho
  obtain ⟨od, J⟩ := J
  exact PySem.W.kia_one (PySem.W.kitx_exc C.cl C.ga C.gg C.sb C.ca C.sp C.tk C.mo) I.kIn J e (fun z => nomatch z) fun tk => ⟨.bl b, H, I.kept (t' := tk) fun _ _ z => z, rfl, q⟩
/-- a power of a greater number -/
def CPowB (i j : Int) : Prop := 0 ≤ j ∧ (PySem.Builtin.Int.intBits i : Int) * j ≤ 2 ^ 27
theorem op_powB : OpR X (binaryOp .Pow) (rI CPowB fun i j => .int (i ^ j.toNat)) := opI fun _ _ _ _ _ _ _ hc q => PyProof.Rows.pow_int hc.1 hc.2 q
end

/-! ### a reading, step by step -/
section
variable {K : PySem.W.Frag} {σ : L2.St} {H : Hp} {Q : VK} {QT : Bool → Hp → Prop} {QA : List V → Hp → Prop} {ta tb te tc : TE} {t u : TT} {ts tu tw : TS} {x y v : V} {r r' : R2} {nx bk ct : L2.St → Hp → Prop} {rt : VK} {i j : Nat}
theorem r_var (h : σ[i]? = some (some v)) (q : Q v H) : tVar i σ H Q := ⟨v, h, q⟩
theorem r_c (q : Q v H) : tC v σ H Q := q
theorem r_op (h : ta σ H fun x H1 => tb σ H1 fun y H2 => r x y H2 Q) : tOp r ta tb σ H Q := h
theorem r_un {ru : V → Hp → VK → Prop} (h : ta σ H fun x H1 => ru x H1 Q) : tUn ru ta σ H Q := h
theorem r_I0 {g : Int → Int → V} {a b : Int} (q : Q (g a b) H) : rI0 g (.int a) (.int b) H Q := ⟨a, b, rfl, rfl, q⟩
theorem r_I {C : Int → Int → Prop} {g : Int → Int → V} {a b : Int} (c : C a b) (q : Q (g a b) H) : rI C g (.int a) (.int b) H Q := ⟨a, b, rfl, rfl, c, q⟩
theorem r_U {g : Int → V} {a : Int} (q : Q (g a) H) : rU g (.int a) H Q := ⟨a, rfl, q⟩
theorem r_eqI {a b : Int} (q : Q (.bl (decide (a = b))) H) : rEq (.int a) (.int b) H Q := ⟨rfl, by
  have e : decide (V.int a = V.int b) = decide (a = b) := by
    by_cases h : a = b
    · rw [decide_eq_true h, decide_eq_true (congrArg V.int h)]
    · rw [decide_eq_false h, decide_eq_false (fun z => h (V.int.inj z))]
  rw [e]
  exact q⟩
theorem r_neI {a b : Int} (q : Q (.bl (!decide (a = b))) H) : rNe (.int a) (.int b) H Q := ⟨rfl, by
  have e : decide (V.int a = V.int b) = decide (a = b) := by
    by_cases h : a = b
    · rw [decide_eq_true h, decide_eq_true (congrArg V.int h)]
    · rw [decide_eq_false h, decide_eq_false (fun z => h (V.int.inj z))]
  rw [e]
  exact q⟩
theorem r_test (h : te σ H fun x H' => ∃ k, x = .bl k ∧ QT k H') : tTest te σ H QT := h
theorem r_tB (h : te σ H fun x H' => ∃ k, x = .bl k ∧ QT k H') : tB te σ H QT := h
theorem r_bl {k : Bool} {C : Bool → Prop} (q : C k) : ∃ k', V.bl k = .bl k' ∧ C k' := ⟨k, rfl, q⟩
theorem r_and (h : t σ H fun c H1 => if c = true then u σ H1 QT else QT false H1) : tAnd t u σ H QT := h
theorem r_or (h : t σ H fun c H1 => if c = true then QT true H1 else u σ H1 QT) : tOr t u σ H QT := h
theorem r_not (h : t σ H fun c H1 => QT (!c) H1) : tNot t σ H QT := h
theorem r_andV (h : ta σ H fun x H1 => ∃ c, x = .bl c ∧ if c = true then tb σ H1 Q else Q (.bl false) H1) : tAndV ta tb σ H Q := h
theorem r_orV (h : ta σ H fun x H1 => ∃ c, x = .bl c ∧ if c = true then Q (.bl true) H1 else tb σ H1 Q) : tOrV ta tb σ H Q := h
theorem r_notV (h : ta σ H fun x H1 => ∃ c, x = .bl c ∧ Q (.bl (!c)) H1) : tNotV ta σ H Q := h
theorem r_if (h : t σ H fun c H1 => if c = true then ta σ H1 Q else tb σ H1 Q) : tIf t ta tb σ H Q := h
theorem r_chain (h : ta σ H fun x H1 => tb σ H1 fun y H2 => r x y H2 fun z H3 => ∃ k, z = .bl k ∧ (if k = true then tc σ H3 fun w H4 => r' y w H4 Q else Q (.bl false) H3)) : tChain r r' ta tb tc σ H Q := h
theorem r_ite {C : Prop} [Decidable C] {A B : Prop} (h1 : C → A) (h2 : ¬ C → B) : if decide C = true then A else B := by
  by_cases h : C
  · rw [if_pos (decide_eq_true h)]; exact h1 h
  · rw [if_neg (by rw [decide_eq_false h]; decide)]; exact h2 h
theorem r_iteN {C : Prop} [Decidable C] {A B : Prop} (h1 : ¬ C → A) (h2 : C → B) : if (!decide C) = true then A else B := by
  by_cases h : C
  · rw [if_neg (by rw [decide_eq_true h]; decide)]; exact h2 h
  · rw [if_pos (by rw [decide_eq_false h]; decide)]; exact h1 h
theorem r_iteb {b : Bool} {A B : Prop} (h1 : b = true → A) (h2 : b = false → B) : if b = true then A else B := by
  cases b with
  | true => rw [if_pos rfl]; exact h1 rfl
  | false => rw [if_neg (by decide)]; exact h2 rfl
theorem r_iteNb {b : Bool} {A B : Prop} (h1 : b = false → A) (h2 : b = true → B) : if (!b) = true then A else B := by
  cases b with
  | true => rw [if_neg (by decide)]; exact h2 rfl
  | false => rw [if_pos (by decide)]; exact h1 rfl
theorem r_iteT {A B : Prop} (h : A) : if true = true then A else B := by rw [if_pos rfl]; exact h
theorem r_iteF {A B : Prop} (h : B) : if false = true then A else B := by rw [if_neg (by decide)]; exact h
theorem r_iteNT {A B : Prop} (h : B) : if (!true) = true then A else B := by rw [if_neg (by decide)]; exact h
theorem r_iteNF {A B : Prop} (h : A) : if (!false) = true then A else B := by rw [if_pos (by decide)]; exact h
-- arguments, displays
theorem r_nil (q : QA [] H) : tNil σ H QA := q
theorem r_cons {tr : TA} (h : te σ H fun x H1 => tr σ H1 fun xs H2 => QA (x :: xs) H2) : tCons te tr σ H QA := h
theorem r_tup {t : TA} (h : t σ H fun xs H1 => xs.length ≤ sizeLine ∧ ∀ p, H1 p = none → Q (.ref p) (upd H1 p (.tup xs))) : tTup t σ H Q := h
theorem r_lst {t : TA} (h : t σ H fun xs H1 => xs.length ≤ sizeLine ∧ ∀ p, H1 p = none → Q (.ref p) (upd H1 p (.lst xs))) : tLst t σ H Q := h
theorem r_CB {r : List V → Hp → VK → Prop} {t : TA} (h : t σ H fun vs H1 => r vs H1 Q) : tCB r t σ H Q := h
theorem r_callS {sp : Sp} {E : L2.St → XK} {t : TA} (h : t σ H fun vs H1 => sp vs H1 Q (E σ)) : tCallS sp E t σ H Q := h
theorem r_call {sp : Sp} {E : XK} {t : TA} (h : t σ H fun vs H1 => sp vs H1 Q E) : tCall sp [] E t σ H Q := by
  show t σ H fun vs H1 => sp (vs ++ []) H1 Q E
  have e : (fun (vs : List V) (H1 : Hp) => sp (vs ++ []) H1 Q E) = fun vs H1 => sp vs H1 Q E := by
    funext vs H1
    rw [List.append_nil]
  rw [e]
  exact h
def rAbs : List V → Hp → VK → Prop := fun xs H Q => ∃ i, xs = [.int i] ∧ Q (.int (if i < 0 then -i else i)) H
theorem r_abs {a : Int} (q : Q (.int (if a < 0 then -a else a)) H) : rAbs [.int a] H Q := ⟨a, rfl, q⟩
def rMax2 : List V → Hp → VK → Prop := fun xs H Q => ∃ i j, xs = [.int i, .int j] ∧ Q (.int (if j > i then j else i)) H
theorem r_max2 {a b : Int} (q : Q (.int (if b > a then b else a)) H) : rMax2 [.int a, .int b] H Q := ⟨a, b, rfl, q⟩
def rMin2 : List V → Hp → VK → Prop := fun xs H Q => ∃ i j, xs = [.int i, .int j] ∧ Q (.int (if j < i then j else i)) H
theorem r_min2 {a b : Int} (q : Q (.int (if b < a then b else a)) H) : rMin2 [.int a, .int b] H Q := ⟨a, b, rfl, q⟩
def rInt : List V → Hp → VK → Prop := fun xs H Q => (∃ i, xs = [.int i] ∧ Q (.int i) H) ∨ ∃ k, xs = [.bl k] ∧ Q (.int (if k then 1 else 0)) H
theorem r_int {a : Int} (q : Q (.int a) H) : rInt [.int a] H Q := .inl ⟨a, rfl, q⟩
theorem r_intB {b : Bool} (q : Q (.int (if b then 1 else 0)) H) : rInt [.bl b] H Q := .inr ⟨b, rfl, q⟩
def rLenS (K : PySem.W.Frag) : List V → Hp → VK → Prop := fun xs H Q => ∃ p ys, xs = [.ref p] ∧ (SqL K H p ys ∨ SqT K H p ys) ∧ Q (.int ys.length) H
theorem r_len {a : Addr} {xs : List V} (h : SqL K H a xs) (q : Q (.int xs.length) H) : rLenS K [.ref a] H Q := ⟨a, xs, rfl, .inl h, q⟩
theorem r_lenT {a : Addr} {xs : List V} (h : SqT K H a xs) (q : Q (.int xs.length) H) : rLenS K [.ref a] H Q := ⟨a, xs, rfl, .inr h, q⟩
def rList (K : PySem.W.Frag) : List V → Hp → VK → Prop := fun xs H Q => ∃ p ys, xs = [.ref p] ∧ (SqL K H p ys ∨ SqT K H p ys) ∧ ∀ l, H l = none → Q (.ref l) (upd H l (.lst ys))
theorem r_list {a : Addr} {xs : List V} (h : SqL K H a xs) (q : ∀ l, H l = none → Q (.ref l) (upd H l (.lst xs))) : rList K [.ref a] H Q := ⟨a, xs, rfl, .inl h, q⟩
theorem r_ixL {a : Addr} {xs : List V} {z : Int} (h : SqL K H a xs) (e : atI xs z = some v) (q : Q v H) : rIxL K (.ref a) (.int z) H Q := ⟨a, xs, z, v, rfl, rfl, h, e, q⟩
theorem r_ixT {a : Addr} {xs : List V} {z : Int} (h : SqT K H a xs) (e : atI xs z = some v) (q : Q v H) : rIxT K (.ref a) (.int z) H Q := ⟨a, xs, z, v, rfl, rfl, h, e, q⟩
theorem r_setL {a : Addr} {xs : List V} {z : Int} {k : Nat} {C : Hp → Prop} (h : H a = some (.lst xs)) (e : ixN xs.length z = some k) (q : C (upd H a (.lst (xs.set k v)))) : rSetL (.ref a) (.int z) v H C := ⟨a, xs, z, k, rfl, rfl, h, e, q⟩
theorem r_BM0 {T : String} {r : V → List V → Hp → VK → Prop} {to : TE} (h : to σ H fun x H1 => tyV K T x H1 ∧ r x [] H1 Q) : tBM0 K T r to σ H Q := h
theorem r_rev {a : Addr} {xs : List V} (h : H a = some (.lst xs)) (q : Q .non (upd H a (.lst xs.reverse))) : rReverse (.ref a) [] H Q := ⟨a, xs, rfl, rfl, h, q⟩
theorem r_BM {T : String} {r : V → List V → Hp → VK → Prop} {to : TE} {t : TA} (h : to σ H fun x H1 => tyV K T x H1 ∧ t σ H1 fun xs H2 => r x xs H2 Q) : tBM K T r to t σ H Q := h
theorem r_app {a : Addr} {xs : List V} (h : H a = some (.lst xs)) (l : xs.length < sizeLine) (q : Q .non (upd H a (.lst (xs ++ [v])))) : rAppend (.ref a) [v] H Q := ⟨a, xs, v, rfl, rfl, h, l, q⟩
theorem tyL {a : Addr} {xs : List V} (h : H a = some (.lst xs)) : tyV K "list" (.ref a) H := .inl ⟨rfl, _, .inl (.inl h)⟩
theorem r_ty {a : Addr} {xs : List V} {B : Prop} (h : H a = some (.lst xs)) (q : B) : tyV K "list" (.ref a) H ∧ B := ⟨tyL h, q⟩
-- statements, something behind
theorem r_seq_set (h : te σ H fun x H1 => tu (Ends.mk nx rt bk ct) (σ.set i (some x)) H1) : tSeq (tAsg te (gName i)) tu (Ends.mk nx rt bk ct) σ H := h
theorem r_seq_sub {to ti : TE} {tt : TSet} (h : te σ H fun x H1 => to σ H1 fun o H2 => ti σ H2 fun k H3 => tt o k x H3 fun H4 => tu (Ends.mk nx rt bk ct) σ H4) : tSeq (tAsg te (gSub to ti tt)) tu (Ends.mk nx rt bk ct) σ H := h
theorem r_seq_when (h : t σ H fun b H1 => if b = true then ts (Ends.mk (tu (Ends.mk nx rt bk ct)) rt bk ct) σ H1 else tu (Ends.mk nx rt bk ct) σ H1) : tSeq (tIfS t ts tNext) tu (Ends.mk nx rt bk ct) σ H := h
theorem r_seq_if (h : t σ H fun b H1 => if b = true then ts (Ends.mk (tu (Ends.mk nx rt bk ct)) rt bk ct) σ H1 else tw (Ends.mk (tu (Ends.mk nx rt bk ct)) rt bk ct) σ H1) : tSeq (tIfS t ts tw) tu (Ends.mk nx rt bk ct) σ H := h
theorem r_seq_drop (h : te σ H fun _ H1 => tu (Ends.mk nx rt bk ct) σ H1) : tSeq (tDrop te) tu (Ends.mk nx rt bk ct) σ H := h
theorem r_seq (h : ts (Ends.mk (tu (Ends.mk nx rt bk ct)) rt bk ct) σ H) : tSeq ts tu (Ends.mk nx rt bk ct) σ H := h
-- the last one
theorem r_set (h : te σ H fun x H1 => nx (σ.set i (some x)) H1) : tAsg te (gName i) (Ends.mk nx rt bk ct) σ H := h
theorem r_sub {to ti : TE} {tt : TSet} (h : te σ H fun x H1 => to σ H1 fun o H2 => ti σ H2 fun k H3 => tt o k x H3 fun H4 => nx σ H4) : tAsg te (gSub to ti tt) (Ends.mk nx rt bk ct) σ H := h
theorem r_when (h : t σ H fun b H1 => if b = true then ts (Ends.mk nx rt bk ct) σ H1 else nx σ H1) : tIfS t ts tNext (Ends.mk nx rt bk ct) σ H := h
theorem r_ifs (h : t σ H fun b H1 => if b = true then ts (Ends.mk nx rt bk ct) σ H1 else tw (Ends.mk nx rt bk ct) σ H1) : tIfS t ts tw (Ends.mk nx rt bk ct) σ H := h
theorem r_drop (h : te σ H fun _ H1 => nx σ H1) : tDrop te (Ends.mk nx rt bk ct) σ H := h
theorem r_ret (h : te σ H rt) : tRet te (Ends.mk nx rt bk ct) σ H := h
theorem r_brk (h : bk σ H) : tBreak (Ends.mk nx rt bk ct) σ H := h
theorem r_cnt (h : ct σ H) : tCont (Ends.mk nx rt bk ct) σ H := h
theorem r_nxt (h : nx σ H) : tNext (Ends.mk nx rt bk ct) σ H := h
-- loops
def ForW (J : It) (g : TG) (tb : TS) (nx : L2.St → Hp → Prop) (rt : VK) (σ : L2.St) (H : Hp) : Prop := ∃ W : Nat → Nat → L2.St → Hp → Prop, (∃ m, W 0 m σ H) ∧ ∀ i m σ H, W i m σ H →
  (J.stop i H ∧ nx σ H) ∨ (J.go i H ∧ ∃ N : L2.St → Hp → Prop, (∀ σ' H', N σ' H' → ∃ m', m' < m ∧ W (i + 1) m' σ' H') ∧ ∀ x H', J.yld i H x H' → g x σ H' fun σ2 H2 => tb (Ends.mk N rt nx N) σ2 H2)
theorem r_for {wi : TI} {g : TG} (h : wi σ H fun J H1 => ForW J g ts nx rt σ H1) : tFor wi g ts (Ends.mk nx rt bk ct) σ H := h
theorem r_rng1 {ta : TA} {R : It → Hp → Prop} (h : ta σ H fun vs H1 => ∃ j : Int, vs = [.int j] ∧ -(2 ^ 62) ≤ j ∧ j < 2 ^ 62 ∧ R (Itr 0 j.toNat) H1) : iRng1 ta σ H R := h
theorem r_rng2 {ta : TA} {R : It → Hp → Prop} (h : ta σ H fun vs H1 => ∃ i j : Int, vs = [.int i, .int j] ∧ (-(2 ^ 62) ≤ i ∧ i < 2 ^ 62 ∧ -(2 ^ 62) ≤ j ∧ j < 2 ^ 62) ∧ R (Itr i (j - i).toNat) H1) : iRng2 ta σ H R := h
theorem r_iList {tl : TE} {R : It → Hp → Prop} (h : tl σ H fun x H1 => ∃ a, x = .ref a ∧ (∃ xs, SqL K H1 a xs) ∧ R (Itl K a) H1) : iList K tl σ H R := h
theorem f_rng1 {n : Int} {g : TG} (b1 : -(2 ^ 62) ≤ n) (b2 : n < 2 ^ 62) (q : ForW (Itr 0 n.toNat) g ts nx rt σ H) : ∃ j : Int, [V.int n] = [.int j] ∧ -(2 ^ 62) ≤ j ∧ j < 2 ^ 62 ∧ ForW (Itr 0 j.toNat) g ts nx rt σ H := ⟨n, rfl, b1, b2, q⟩
theorem f_rng2 {lo hi : Int} {g : TG} (b : -(2 ^ 62) ≤ lo ∧ lo < 2 ^ 62 ∧ -(2 ^ 62) ≤ hi ∧ hi < 2 ^ 62) (q : ForW (Itr lo (hi - lo).toNat) g ts nx rt σ H) : ∃ i j : Int, [V.int lo, V.int hi] = [.int i, .int j] ∧ (-(2 ^ 62) ≤ i ∧ i < 2 ^ 62 ∧ -(2 ^ 62) ≤ j ∧ j < 2 ^ 62) ∧ ForW (Itr i (j - i).toNat) g ts nx rt σ H := ⟨lo, hi, rfl, b, q⟩
theorem f_rng3 {i j c : Int} {n : Nat} {g : TG} (b : RgC i j c n) (q : ForW (Itc i c n) g ts nx rt σ H) : ∃ (i' j' c' : Int) (n' : Nat), [V.int i, V.int j, V.int c] = [.int i', .int j', .int c'] ∧ RgC i' j' c' n' ∧ ForW (Itc i' c' n') g ts nx rt σ H := ⟨i, j, c, n, rfl, b, q⟩
theorem f_list {a : Addr} {xs : List V} {g : TG} (h : SqL K H a xs) (q : ForW (Itl K a) g ts nx rt σ H) : ∃ b, V.ref a = .ref b ∧ (∃ xs, SqL K H b xs) ∧ ForW (Itl K b) g ts nx rt σ H := ⟨a, rfl, ⟨xs, h⟩, q⟩
theorem f_tup {a : Addr} {xs : List V} {g : TG} (h : SqT K H a xs) (q : ForW (Itt K a) g ts nx rt σ H) : ∃ b, V.ref a = .ref b ∧ (∃ xs, SqT K H b xs) ∧ ForW (Itt K b) g ts nx rt σ H := ⟨a, rfl, ⟨xs, h⟩, q⟩
theorem lp_range {lo : Int} {n : Nat} {g : TG} (Pv : Nat → L2.St → Hp → Prop) (h0 : Pv 0 σ H) (hs : ∀ i σ H, i < n → Pv i σ H → g (.int (lo + i)) σ H fun σ2 H2 => ts (Ends.mk (Pv (i + 1)) rt nx (Pv (i + 1))) σ2 H2) (hd : ∀ σ H, Pv n σ H → nx σ H) : ForW (Itr lo n) g ts nx rt σ H :=
  for_range (D := Ends.mk nx rt nx nx) Pv h0 hs hd
theorem lp_list {a : Addr} {xs : List V} {g : TG} (Pv : Nat → L2.St → Hp → Prop) (h0 : Pv 0 σ H) (hl : ∀ i σ H, i ≤ xs.length → Pv i σ H → SqL K H a xs)
    (hs : ∀ i x σ H, xs[i]? = some x → Pv i σ H → g x σ H fun σ2 H2 => ts (Ends.mk (Pv (i + 1)) rt nx (Pv (i + 1))) σ2 H2) (hd : ∀ σ H, Pv xs.length σ H → nx σ H) : ForW (Itl K a) g ts nx rt σ H :=
  for_list (D := Ends.mk nx rt nx nx) Pv h0 hl hs hd
theorem r_gName {C : L2.St → Hp → Prop} (h : C (σ.set i (some v)) H) : gName i v σ H C := h
/-- a turn's body, from measure m -/
def WhB (W : Nat → L2.St → Hp → Prop) (m : Nat) (tb : TS) (nx : L2.St → Hp → Prop) (rt : VK) (σ : L2.St) (H : Hp) : Prop := ∃ N : L2.St → Hp → Prop, (∀ σ' H', N σ' H' → ∃ m', m' < m ∧ W m' σ' H') ∧ tb (Ends.mk N rt nx N) σ H
theorem wh_body {W : Nat → L2.St → Hp → Prop} {m : Nat} {tb : TS} (h : tb (Ends.mk (fun σ' H' => ∃ m', m' < m ∧ W m' σ' H') rt nx (fun σ' H' => ∃ m', m' < m ∧ W m' σ' H')) σ H) : WhB W m tb nx rt σ H := ⟨_, fun _ _ z => z, h⟩
theorem r_while {tb : TS} (W : Nat → L2.St → Hp → Prop) (m : Nat) (h0 : W m σ H) (hs : ∀ m σ H, W m σ H → t σ H fun b H1 => if b = true then WhB W m tb nx rt σ H1 else nx σ H1) : tWhile t tb (Ends.mk nx rt bk ct) σ H := ⟨W, ⟨m, h0⟩, hs⟩
theorem r_iTup {tl : TE} {R : It → Hp → Prop} (h : tl σ H fun x H1 => ∃ a, x = .ref a ∧ (∃ xs, SqT K H1 a xs) ∧ R (Itt K a) H1) : iTup K tl σ H R := h
theorem lp_tup {a : Addr} {xs : List V} {g : TG} (Pv : Nat → L2.St → Hp → Prop) (h0 : Pv 0 σ H) (hl : ∀ i σ H, i ≤ xs.length → Pv i σ H → SqT K H a xs)
    (hs : ∀ i x σ H, xs[i]? = some x → Pv i σ H → g x σ H fun σ2 H2 => ts (Ends.mk (Pv (i + 1)) rt nx (Pv (i + 1))) σ2 H2) (hd : ∀ σ H, Pv xs.length σ H → nx σ H) : ForW (Itt K a) g ts nx rt σ H :=
  for_tup (D := Ends.mk nx rt nx nx) Pv h0 hl hs hd
theorem lp_rangeC {lo c : Int} {n : Nat} {g : TG} (Pv : Nat → L2.St → Hp → Prop) (h0 : Pv 0 σ H) (hs : ∀ i σ H, i < n → Pv i σ H → g (.int (lo + (i : Nat) * c)) σ H fun σ2 H2 => ts (Ends.mk (Pv (i + 1)) rt nx (Pv (i + 1))) σ2 H2) (hd : ∀ σ H, Pv n σ H → nx σ H) : ForW (Itc lo c n) g ts nx rt σ H :=
  for_rangeC (D := Ends.mk nx rt nx nx) Pv h0 hs hd
theorem r_rng3 {ta : TA} {R : It → Hp → Prop} (h : ta σ H fun vs H1 => ∃ (i j c : Int) (n : Nat), vs = [.int i, .int j, .int c] ∧ RgC i j c n ∧ R (Itc i c n) H1) : iRng3 ta σ H R := h
-- comprehensions
def LcW (J : It) (g : TG) (tt : TT) (te : TE) (vs : List Nat) (σ : L2.St) (H1 : Hp) (D : Addr) (Qd : Hp → Prop) : Prop := ∃ W : Nat → Nat → Hp → Prop, (∃ m, W 0 m (upd H1 D (.lst []))) ∧ ∀ i m H, W i m H →
  (J.stop i H ∧ Qd H) ∨ (J.go i H ∧ ∃ Nx : Hp → Prop, (∀ H', Nx H' → ∃ m', m' < m ∧ W (i + 1) m' H') ∧ ∀ x H', J.yld i H x H' → g x (wipe σ vs) H' fun σ2 H2 => wipe σ2 vs = wipe σ vs ∧ tt σ2 H2 fun b H3 =>
    if b = true then te σ2 H3 fun y H4 => ∃ acc, H4 D = some (.lst acc) ∧ acc.length < sizeLine ∧ Nx (upd H4 D (.lst (acc ++ [y]))) else Nx H3)
theorem r_lc {wi : TI} {g : TG} {tt : TT} {vs : List Nat} (h : wi σ H fun J H1 => ∀ D, H1 D = none → LcW J g tt te vs σ H1 D fun H' => Q (.ref D) H') : tLc wi g tt te vs σ H Q := h
theorem c_rng1 {n : Int} {g : TG} {tt : TT} {vs : List Nat} {σ' : L2.St} {Q' : Addr → Hp → Prop} (b1 : -(2 ^ 62) ≤ n) (b2 : n < 2 ^ 62) (q : ∀ D, H D = none → LcW (Itr 0 n.toNat) g tt te vs σ' H D (Q' D)) : ∃ j : Int, [V.int n] = [.int j] ∧ -(2 ^ 62) ≤ j ∧ j < 2 ^ 62 ∧ ∀ D, H D = none → LcW (Itr 0 j.toNat) g tt te vs σ' H D (Q' D) := ⟨n, rfl, b1, b2, q⟩
theorem c_rng2 {lo hi : Int} {g : TG} {tt : TT} {vs : List Nat} {σ' : L2.St} {Q' : Addr → Hp → Prop} (b : -(2 ^ 62) ≤ lo ∧ lo < 2 ^ 62 ∧ -(2 ^ 62) ≤ hi ∧ hi < 2 ^ 62) (q : ∀ D, H D = none → LcW (Itr lo (hi - lo).toNat) g tt te vs σ' H D (Q' D)) : ∃ i j : Int, [V.int lo, V.int hi] = [.int i, .int j] ∧ (-(2 ^ 62) ≤ i ∧ i < 2 ^ 62 ∧ -(2 ^ 62) ≤ j ∧ j < 2 ^ 62) ∧ ∀ D, H D = none → LcW (Itr i (j - i).toNat) g tt te vs σ' H D (Q' D) := ⟨lo, hi, rfl, b, q⟩
theorem c_list {a : Addr} {xs : List V} {g : TG} {tt : TT} {vs : List Nat} {σ' : L2.St} {Q' : Addr → Hp → Prop} (h : SqL K H a xs) (q : ∀ D, H D = none → LcW (Itl K a) g tt te vs σ' H D (Q' D)) : ∃ b, V.ref a = .ref b ∧ (∃ xs, SqL K H b xs) ∧ ∀ D, H D = none → LcW (Itl K b) g tt te vs σ' H D (Q' D) := ⟨a, rfl, ⟨xs, h⟩, q⟩
theorem c_tup {a : Addr} {xs : List V} {g : TG} {tt : TT} {vs : List Nat} {σ' : L2.St} {Q' : Addr → Hp → Prop} (h : SqT K H a xs) (q : ∀ D, H D = none → LcW (Itt K a) g tt te vs σ' H D (Q' D)) : ∃ b, V.ref a = .ref b ∧ (∃ xs, SqT K H b xs) ∧ ∀ D, H D = none → LcW (Itt K b) g tt te vs σ' H D (Q' D) := ⟨a, rfl, ⟨xs, h⟩, q⟩
/-- a turn of a comprehension over a name: the test, the item -/
def LcT (tt : TT) (te : TE) (D : Addr) (N : Hp → Prop) (σ : L2.St) (H : Hp) : Prop := tt σ H fun b H3 => if b = true then te σ H3 fun y H4 => ∃ acc, H4 D = some (.lst acc) ∧ acc.length < sizeLine ∧ N (upd H4 D (.lst (acc ++ [y]))) else N H3
theorem lcw_range {lo : Int} {n : Nat} {tt : TT} {vs : List Nat} {H1 : Hp} {D : Addr} {Qd : Hp → Prop} (Pv : Nat → Hp → Prop) (h0 : Pv 0 (upd H1 D (.lst []))) (hw : ∀ x, wipe ((wipe σ vs).set j (some x)) vs = wipe σ vs)
    (hs : ∀ i H, i < n → Pv i H → LcT tt te D (Pv (i + 1)) ((wipe σ vs).set j (some (.int (lo + i)))) H) (hd : ∀ H, Pv n H → Qd H) : LcW (Itr lo n) (gName j) tt te vs σ H1 D Qd :=
  lc_range Pv h0 (fun i H hi p => ⟨hw _, hs i H hi p⟩) hd
theorem lcw_list {a : Addr} {xs : List V} {tt : TT} {vs : List Nat} {H1 : Hp} {D : Addr} {Qd : Hp → Prop} (Pv : Nat → Hp → Prop) (h0 : Pv 0 (upd H1 D (.lst []))) (hw : ∀ x, wipe ((wipe σ vs).set j (some x)) vs = wipe σ vs) (hl : ∀ i H, i ≤ xs.length → Pv i H → SqL K H a xs)
    (hs : ∀ i x H, xs[i]? = some x → Pv i H → LcT tt te D (Pv (i + 1)) ((wipe σ vs).set j (some x)) H) (hd : ∀ H, Pv xs.length H → Qd H) : LcW (Itl K a) (gName j) tt te vs σ H1 D Qd :=
  lc_list Pv h0 hl (fun i x H hi p => ⟨hw _, hs i x H hi p⟩) hd
theorem lcw_tup {a : Addr} {xs : List V} {tt : TT} {vs : List Nat} {H1 : Hp} {D : Addr} {Qd : Hp → Prop} (Pv : Nat → Hp → Prop) (h0 : Pv 0 (upd H1 D (.lst []))) (hw : ∀ x, wipe ((wipe σ vs).set j (some x)) vs = wipe σ vs) (hl : ∀ i H, i ≤ xs.length → Pv i H → SqT K H a xs)
    (hs : ∀ i x H, xs[i]? = some x → Pv i H → LcT tt te D (Pv (i + 1)) ((wipe σ vs).set j (some x)) H) (hd : ∀ H, Pv xs.length H → Qd H) : LcW (Itt K a) (gName j) tt te vs σ H1 D Qd :=
  lc_tup Pv h0 hl (fun i x H hi p => ⟨hw _, hs i x H hi p⟩) hd
theorem lct_yes {D : Addr} {N : Hp → Prop} (h : te σ H fun y H4 => ∃ acc, H4 D = some (.lst acc) ∧ acc.length < sizeLine ∧ N (upd H4 D (.lst (acc ++ [y])))) : LcT tYes te D N σ H := r_iteT (B := N H) h
theorem lct_if {tt : TT} {D : Addr} {N : Hp → Prop} (h : tt σ H fun b H3 => if b = true then te σ H3 fun y H4 => ∃ acc, H4 D = some (.lst acc) ∧ acc.length < sizeLine ∧ N (upd H4 D (.lst (acc ++ [y]))) else N H3) : LcT tt te D N σ H := h
end
section
variable {X : Cx}
theorem call_int : CallR X (.type "int") rInt := call_int1
theorem call_abs : CallR X (.builtin "abs") rAbs := L2.call_abs
theorem call_max2 (hc : X.calm = true) : CallR X (.builtin "max") rMax2 := L2.call_max2 hc
theorem call_min2 (hc : X.calm = true) : CallR X (.builtin "min") rMin2 := L2.call_min2 hc
theorem call_len : CallR X (.builtin "len") (rLenS X.K) := L2.call_len_seq
theorem call_list : CallR X (.type "list") (rList X.K) := L2.call_list_of
def rTup (K : PySem.W.Frag) : List V → Hp → VK → Prop := fun xs H Q => ∃ p ys, xs = [.ref p] ∧ ((SqL K H p ys ∧ ∀ l, H l = none → Q (.ref l) (upd H l (.tup ys))) ∨ (SqT K H p ys ∧ Q (.ref p) H))
theorem call_tuple : CallR X (.type "tuple") (rTup X.K) := L2.call_tuple_of
theorem r_tupL {K : PySem.W.Frag} {H : Hp} {Q : VK} {a : Addr} {xs : List V} (h : SqL K H a xs) (q : ∀ l, H l = none → Q (.ref l) (upd H l (.tup xs))) : rTup K [.ref a] H Q := ⟨a, xs, rfl, .inl ⟨h, q⟩⟩
theorem r_tupT {K : PySem.W.Frag} {H : Hp} {Q : VK} {a : Addr} {xs : List V} (h : SqT K H a xs) (q : Q (.ref a) H) : rTup K [.ref a] H Q := ⟨a, xs, rfl, .inr ⟨h, q⟩⟩
def rBool : List V → Hp → VK → Prop := fun xs H Q => (∃ i, xs = [.int i] ∧ Q (.bl (i != 0)) H) ∨ ∃ k, xs = [.bl k] ∧ Q (.bl k) H
theorem call_bool : CallR X (.type "bool") rBool := L2.call_bool1
theorem r_ixSL {K : PySem.W.Frag} {H : Hp} {Q : VK} {a : Addr} {xs : List V} {z : Int} {v : V} (h : SqL K H a xs) (e : atI xs z = some v) (q : Q v H) : rIx K (.ref a) (.int z) H Q := .inl ⟨a, xs, z, v, rfl, rfl, h, e, q⟩
theorem r_ixST {K : PySem.W.Frag} {H : Hp} {Q : VK} {a : Addr} {xs : List V} {z : Int} {v : V} (h : SqT K H a xs) (e : atI xs z = some v) (q : Q v H) : rIx K (.ref a) (.int z) H Q := .inr (.inl ⟨a, xs, z, v, rfl, rfl, h, e, q⟩)
def rIsN : R2 := fun x y H Q => y = .non ∧ Q (.bl (decide (x = .non))) H
def rNotN : R2 := fun x y H Q => y = .non ∧ Q (.bl (!decide (x = .non))) H
theorem op_isN : OpR X (compareOp .Is) rIsN := L2.op_isN
theorem op_notN : OpR X (compareOp .IsNot) rNotN := L2.op_notN
theorem r_isN {x : V} {H : Hp} {Q : VK} (q : Q (.bl (decide (x = .non))) H) : rIsN x .non H Q := ⟨rfl, q⟩
theorem r_notN {x : V} {H : Hp} {Q : VK} (q : Q (.bl (!decide (x = .non))) H) : rNotN x .non H Q := ⟨rfl, q⟩
end
section
variable {K : PySem.W.Frag} {σ : L2.St} {H : Hp} {Q : VK} {nx bk ct : L2.St → Hp → Prop} {rt : VK} {te : TE}
/-- into an except suite -/
theorem r_as {C : Addr} {d : Option Addr} {i : Nat} {ts : Addr → Value → Option Addr → TS} {Wo : WX} (k : Xk K C) (h : ∀ a, H a = none → ts a (.ref C) d (Ends.mk (fun σ' H' => nx (σ'.set i none) H') rt (fun σ' H' => bk (σ'.set i none) H') (fun σ' H' => ct (σ'.set i none) H')) (σ.set i (some (.ref a))) H) :
    WE (wAs K (.ref C) i ts Wo (Ends.mk nx rt bk ct)) σ (.ref C) d H := ⟨true, k.ex, fun _ => h, fun z => Bool.noConfusion z⟩
theorem r_isXr {D a C : Addr} {d : Option Addr} {b : Bool} (e : PySem.W.kitOne K (.ref D) (.ref C) = some b) (hd : d = none ∨ ∃ dd fs, d = some dd ∧ H dd = some (.xd fs)) (q : Q (.bl b) H) : rIsX K D a (.ref D) d [.ref a, .ref C] H Q := ⟨.ref C, .ref C, b, rfl, rfl, fun _ h => h, e, hd, q⟩
theorem r_isXt {D a : Addr} {n : String} {d : Option Addr} {b : Bool} (e : PySem.W.kitOne K (.ref D) (.type n) = some b) (hd : d = none ∨ ∃ dd fs, d = some dd ∧ H dd = some (.xd fs)) (q : Q (.bl b) H) : rIsX K D a (.ref D) d [.ref a, .ty n] H Q := ⟨.ty n, .type n, b, rfl, rfl, fun _ h => h, e, hd, q⟩
theorem r_xf {a C : Addr} {cls : Value} {d : Option Addr} {f : Str} (h : te σ H fun x H1 => x = .ref a ∧ cls = .ref C ∧ ∃ (dd : Addr) (fs : List (Str × V)) (v : V), d = some dd ∧ H1 dd = some (.xd fs) ∧ fs.lookup f = some v ∧ Q v H1) : tXf a cls d C f te σ H Q := h
theorem r_xfv {a C dd : Addr} {f : Str} {fs : List (Str × V)} {v : V} {R : V → Prop} (h : H dd = some (.xd fs)) (l : fs.lookup f = some v) (q : R v) : V.ref a = .ref a ∧ Value.ref C = .ref C ∧ ∃ (dd' : Addr) (fs : List (Str × V)) (v : V), some dd = some dd' ∧ H dd' = some (.xd fs) ∧ fs.lookup f = some v ∧ R v := ⟨rfl, rfl, dd, fs, v, rfl, h, l, q⟩
end
end Vb
namespace Vb
open PySem PySem.Spec PyProof.Rows L2
/-! ### what stands, carried on -/
theorem h_new {H : Hp} {p q : Addr} {o u : HO} (n : H p = none) (h : H q = some u) : upd H p o q = some u := by
  rw [upd_ne (ne_of_none h n)]
  exact h
theorem h_ne {H : Hp} {p q : Addr} {o u : HO} (n : q ≠ p) (h : H q = some u) : upd H p o q = some u := by
  rw [upd_ne n]
  exact h
theorem h_no {H : Hp} {p q : Addr} {o : HO} (n : q ≠ p) (h : H q = none) : upd H p o q = none := by
  rw [upd_ne n]
  exact h
theorem sq_of {K : PySem.W.Frag} {H : Hp} {a : Addr} {xs : List V} (h : H a = some (.lst xs)) : SqL K H a xs := .inl (.inl h)
theorem st_of {K : PySem.W.Frag} {H : Hp} {a : Addr} {xs : List V} (h : H a = some (.tup xs)) : SqT K H a xs := .inl (.inl h)
theorem same_new {H : Hp} {p : Addr} {o : HO} (n : H p = none) : Same H (upd H p o) := fun _ _ h => h_new n h
/-- an object that H does not know may change -/
theorem same_mut {H H' : Hp} {p : Addr} {o : HO} (e : Same H H') (h : H p = none) : Same H (upd H' p o) := fun a u ha => h_ne (ne_of_none ha h) (e a u ha)
/-- all but st is as it was -/
structure Fr (st : Addr) (H H' : Hp) : Prop where
  k : ∀ b o, b ≠ st → H b = some o → H' b = some o
  hd : ∀ l r, H st = some (.lst (.ref l :: r)) → ∃ r', H' st = some (.lst (.ref l :: r'))
theorem Fr.refl (st : Addr) (H : Hp) : Fr st H H := ⟨fun _ _ _ h => h, fun _ r h => ⟨r, h⟩⟩
theorem Fr.trans {st : Addr} {H H1 H2 : Hp} (a : Fr st H H1) (b : Fr st H1 H2) : Fr st H H2 := ⟨fun c o n h => b.k c o n (a.k c o n h), fun l r h => (a.hd l r h).elim fun r' h' => b.hd l r' h'⟩
theorem Fr.of {st : Addr} {H H' : Hp} (a : Same H H') : Fr st H H' := ⟨fun c o _ h => a c o h, fun _ r h => ⟨r, a _ _ h⟩⟩
theorem Fr.seq {K : PySem.W.Frag} {st : Addr} {H H' : Hp} {a : Addr} {xs : List V} (e : Fr st H H') (n : a ≠ st) (h : SqL K H a xs) : SqL K H' a xs := by
  rcases h with (h | ⟨o, h⟩) | h
  · exact .inl (.inl (e.k _ _ n h))
  · exact .inl (.inr ⟨o, e.k _ _ n h⟩)
  · exact .inr h
theorem Fr.mut {st p : Addr} {H H' : Hp} {o : HO} (e : Fr st H H') (h : H p = none) : Fr st H (upd H' p o) := ⟨fun a u n ha => h_ne (ne_of_none ha h) (e.k a u n ha), fun l r ha => (e.hd l r ha).elim fun r' h' => ⟨r', h_ne (ne_of_none ha h) h'⟩⟩
/-- the law's store at st: what is left of the script, a great number that is being used up, a count, a seed -/
def StoreAt (H : Hp) (st : Addr) : Prop := ∃ (l : Addr) (ns : List Int) (pos rest turn seed : Int), l ≠ st ∧ H st = some (.lst [.ref l, .int pos, .int rest, .int turn, .int seed]) ∧ H l = some (.lst (ns.map V.int)) ∧ 0 ≤ pos ∧ 0 ≤ rest
theorem StoreAt.same {H H' : Hp} {st : Addr} (s : StoreAt H st) (e : Same H H') : StoreAt H' st := by
  obtain ⟨l, ns, a, b, c, d, n, h1, h2, h3⟩ := s
  exact ⟨l, ns, a, b, c, d, n, e _ _ h1, e _ _ h2, h3⟩
theorem StoreAt.ne {H : Hp} {st p : Addr} (s : StoreAt H st) (h : H p = none) : p ≠ st := by
  obtain ⟨l, ns, a, b, c, d, n, h1, _⟩ := s
  exact fun z => by rw [z, h1] at h; cases h
/-- the script's list is not the one that H did not know -/
theorem StoreAt.mut {H H' : Hp} {st p : Addr} {o : HO} (s : StoreAt H st) (n : H p = none) (f : Fr st H H') (s' : StoreAt H' st) : StoreAt (upd H' p o) st := by
  obtain ⟨l, ns, a, b, c, d, n1, h1, h2, h3, h4⟩ := s
  obtain ⟨m, ms, a', b', c', d', m1, g1, g2, g3, g4⟩ := s'
  obtain ⟨r', e⟩ := f.hd _ _ h1
  rw [g1] at e
  cases e
  exact ⟨_, ms, a', b', c', d', m1, h_ne (ne_of_none h1 n) g1, h_ne (ne_of_none h2 n) g2, g3, g4⟩
theorem at_i {xs : List V} {j : Nat} {v : V} (h : xs[j]? = some v) : atI xs (j : Int) = some v := atI_nat h
theorem at_lit {xs : List V} {z : Int} {v : V} (j : Nat) (e : z = (j : Int)) (h : xs[j]? = some v) : atI xs z = some v := by
  rw [e]
  exact atI_nat h
theorem ix_lit {n : Nat} {z : Int} (j : Nat) (e : z = (j : Int)) (h0 : Nat.ble (j + 1) n = true) : ixN n z = some j := by
  have h := Nat.le_of_ble_eq_true h0
  subst e
  unfold ixN
  rw [if_pos (Int.natCast_nonneg j), if_pos (by omega)]
  rfl
theorem getV {ns : List Int} {i : Nat} (h : i < ns.length) : (ns.map V.int)[i]? = some (.int ns[i]) := by
  rw [List.getElem?_map, List.getElem?_eq_getElem h]
  rfl
theorem getV' {ns : List Int} {i : Nat} {x : V} (h : (ns.map V.int)[i]? = some x) : ∃ z, ns[i]? = some z ∧ x = .int z := by
  rw [List.getElem?_map] at h
  cases e : ns[i]? with
  | none => rw [e] at h; cases h
  | some z => rw [e] at h; exact ⟨z, rfl, (Option.some.inj h).symm⟩
theorem size_ok {n : Nat} (h : n ≤ 16777216) : n ≤ sizeLine := by rw [sizeLine_eq]; exact h
theorem size_lt {n : Nat} (h : n < 16777216) : n < sizeLine := by rw [sizeLine_eq]; exact h
end Vb
namespace Vb
open PySem PySem.Spec PyProof.Rows L2
/-! ### data -/
mutual
theorem dp_same {K : PySem.W.Frag} {H H' : Hp} (e : Same H H') : ∀ (d : PyData) (v : V), Dp K H v d → Dp K H' v d
  | .none, _, h => by cases h; exact .non
  | .bool b, _, h => by cases h; exact .bl b
  | .int i, _, h => by cases h; exact .int i
  | .str x, _, h => by cases h; exact .str x
  | .list ds, _, h => by
    cases h with
    | lst hs ha => exact .lst (e.seq hs) (dpa_same e ds _ ha)
  | .tuple ds, _, h => by
    cases h with
    | tup hs ha =>
      refine .tup ?_ (dpa_same e ds _ ha)
      rcases hs with (h | ⟨o, h⟩) | h
      · exact .inl (.inl (e _ _ h))
      · exact .inl (.inr ⟨o, e _ _ h⟩)
      · exact .inr h
  | .dict _, _, h => by cases h
theorem dpa_same {K : PySem.W.Frag} {H H' : Hp} (e : Same H H') : ∀ (ds : List PyData) (vs : List V), DpAll K H vs ds → DpAll K H' vs ds
  | [], _, h => by cases h; exact .nil
  | d :: ds, _, h => by
    cases h with
    | cons h1 h2 => exact .cons (dp_same e d _ h1) (dpa_same e ds _ h2)
end
theorem same_sqt {K : PySem.W.Frag} {H H' : Hp} {a : Addr} {xs : List V} (e : Same H H') (h : SqT K H a xs) : SqT K H' a xs := by
  rcases h with (h | ⟨o, h⟩) | h
  · exact .inl (.inl (e _ _ h))
  · exact .inl (.inr ⟨o, e _ _ h⟩)
  · exact .inr h
theorem dpa_len {K : PySem.W.Frag} {H : Hp} : ∀ {ds : List PyData} {vs : List V}, DpAll K H vs ds → vs.length = ds.length
  | [], _, h => by cases h; rfl
  | d :: ds, _, h => by
    cases h with
    | cons h1 h2 => rw [List.length_cons, List.length_cons, dpa_len h2]
theorem dpa_get {K : PySem.W.Frag} {H : Hp} : ∀ {ds : List PyData} {vs : List V} {i : Nat} {v : V}, DpAll K H vs ds → vs[i]? = some v → ∃ d, ds[i]? = some d ∧ Dp K H v d
  | [], _, i, v, h, e => by cases h; simp at e
  | d :: ds, _, 0, v, h, e => by
    cases h with
    | cons h1 h2 =>
      cases (Option.some.inj e)
      exact ⟨d, rfl, h1⟩
  | d :: ds, _, i + 1, v, h, e => by
    cases h with
    | cons h1 h2 =>
      obtain ⟨x, a, b⟩ := dpa_get (i := i) h2 (by simpa using e)
      exact ⟨x, by simpa using a, b⟩
theorem dpa_at {K : PySem.W.Frag} {H : Hp} : ∀ {ds : List PyData} {vs : List V} {i : Nat} {d : PyData}, DpAll K H vs ds → ds[i]? = some d → ∃ v, vs[i]? = some v ∧ Dp K H v d
  | [], _, i, d, h, e => by simp at e
  | x :: ds, _, 0, d, h, e => by
    cases h with
    | @cons v vs _ _ h1 h2 =>
      cases (Option.some.inj e)
      exact ⟨v, rfl, h1⟩
  | x :: ds, _, i + 1, d, h, e => by
    cases h with
    | cons h1 h2 =>
      obtain ⟨v, a, b⟩ := dpa_at (i := i) h2 (by simpa using e)
      exact ⟨v, by simpa using a, b⟩
theorem dpa_app {K : PySem.W.Frag} {H : Hp} : ∀ {ds es : List PyData} {vs us : List V}, DpAll K H vs ds → DpAll K H us es → DpAll K H (vs ++ us) (ds ++ es)
  | [], _, _, _, h, g => by cases h; exact g
  | d :: ds, es, _, us, h, g => by
    cases h with
    | cons h1 h2 => exact .cons h1 (dpa_app h2 g)
/-- ints as data -/
theorem dpa_ints {K : PySem.W.Frag} {H : Hp} : ∀ ns : List Int, DpAll K H (ns.map V.int) (ns.map PyData.int)
  | [] => .nil
  | n :: ns => .cons (.int n) (dpa_ints ns)
theorem dp_ints {K : PySem.W.Frag} {H : Hp} {a : Addr} {ns : List Int} (h : SqL K H a (ns.map V.int)) : Dp K H (.ref a) (.list (ns.map PyData.int)) := .lst h (dpa_ints ns)
/-- nested less than n deep, no list too long, no dicts -/
def DOk : Nat → PyData → Prop
  | 0, _ => False
  | n + 1, .list ds => ds.length ≤ 1000000 ∧ ∀ d ∈ ds, DOk n d
  | n + 1, .tuple ds => ds.length ≤ 1000000 ∧ ∀ d ∈ ds, DOk n d
  | _ + 1, .dict _ => False
  | _ + 1, _ => True
theorem dok_up : ∀ (n : Nat) (d : PyData), DOk n d → DOk (n + 1) d
  | 0, _, h => h.elim
  | n + 1, .list ds, h => ⟨h.1, fun d m => dok_up n d (h.2 d m)⟩
  | n + 1, .tuple ds, h => ⟨h.1, fun d m => dok_up n d (h.2 d m)⟩
  | n + 1, .dict _, h => h
  | n + 1, .none, _ => trivial
  | n + 1, .bool _, _ => trivial
  | n + 1, .int _, _ => trivial
  | n + 1, .str _, _ => trivial
theorem dok_ints {n : Nat} {ns : List Int} (h : ns.length ≤ 1000000) : DOk (n + 2) (.list (ns.map PyData.int)) := ⟨by rw [List.length_map]; exact h, fun d m => by
  obtain ⟨z, _, rfl⟩ := List.mem_map.mp m
  trivial⟩
/-- the type of a piece of data -/
def tyN : PyData → String
  | .none => "NoneType"
  | .bool _ => "bool"
  | .int _ => "int"
  | .str _ => "str"
  | .list _ => "list"
  | .tuple _ => "tuple"
  | .dict _ => "dict"
theorem dp_ty {K : PySem.W.Frag} {H : Hp} {v : V} {d : PyData} (h : Dp K H v d) : TyX K H v (.type (tyN d)) := by
  cases h with
  | non => exact .base .non
  | bl b => exact .base (.bl b)
  | int i => exact .base (.int i)
  | str x => exact .base (.str x)
  | lst hs _ =>
    rcases hs with (h | ⟨o, h⟩) | h
    · exact .base (.lst h)
    · exact .base (.frz h)
    · obtain ⟨o, its, n, h, c, _⟩ := h
      exact .kList h c
  | tup hs _ =>
    rcases hs with (h | ⟨o, h⟩) | h
    · exact .base (.tup h)
    · exact .fTuple h
    · obtain ⟨o, its, n, h, c, _⟩ := h
      exact .kTuple h c
def isB : PyData → Bool | .bool _ => true | _ => false
def isI : PyData → Bool | .bool _ => true | .int _ => true | _ => false
def isS : PyData → Bool | .str _ => true | _ => false
def isL : PyData → Bool | .list _ => true | _ => false
def isT : PyData → Bool | .tuple _ => true | _ => false
theorem r_isi {K : PySem.W.Frag} {H : Hp} {v : V} {d : PyData} {Q : VK} {n : String} {b : Bool} (h : Dp K H v d) (e : kitB (tyN d) n = some b) (q : Q (.bl b) H) : rIsi K [v, .ty n] H Q := ⟨v, .ty n, _, _, b, rfl, .ty n, dp_ty h, kit_ty e, q⟩
theorem r_isB {K : PySem.W.Frag} {H : Hp} {v : V} {d : PyData} {Q : VK} {b : Bool} (h : Dp K H v d) (e : isB d = b) (q : Q (.bl b) H) : rIsi K [v, .ty "bool"] H Q := r_isi h (by subst e; cases h <;> (simp only [tyN, isB]; decide +kernel)) q
theorem r_isI {K : PySem.W.Frag} {H : Hp} {v : V} {d : PyData} {Q : VK} {b : Bool} (h : Dp K H v d) (e : isI d = b) (q : Q (.bl b) H) : rIsi K [v, .ty "int"] H Q := r_isi h (by subst e; cases h <;> (simp only [tyN, isI]; decide +kernel)) q
theorem r_isS {K : PySem.W.Frag} {H : Hp} {v : V} {d : PyData} {Q : VK} {b : Bool} (h : Dp K H v d) (e : isS d = b) (q : Q (.bl b) H) : rIsi K [v, .ty "str"] H Q := r_isi h (by subst e; cases h <;> (simp only [tyN, isS]; decide +kernel)) q
theorem r_isL {K : PySem.W.Frag} {H : Hp} {v : V} {d : PyData} {Q : VK} {b : Bool} (h : Dp K H v d) (e : isL d = b) (q : Q (.bl b) H) : rIsi K [v, .ty "list"] H Q := r_isi h (by subst e; cases h <;> (simp only [tyN, isL]; decide +kernel)) q
theorem r_isT {K : PySem.W.Frag} {H : Hp} {v : V} {d : PyData} {Q : VK} {b : Bool} (h : Dp K H v d) (e : isT d = b) (q : Q (.bl b) H) : rIsi K [v, .ty "tuple"] H Q := r_isi h (by subst e; cases h <;> (simp only [tyN, isT]; decide +kernel)) q
theorem not_non {K : PySem.W.Frag} {H : Hp} {v : V} {d : PyData} (h : Dp K H v d) (hd : d ≠ .none) : ¬ v = .non := by
  cases h with
  | non => exact absurd rfl hd
  | _ => exact fun c => nomatch c
theorem is_non {K : PySem.W.Frag} {H : Hp} {v : V} (h : Dp K H v .none) : v = .non := by
  cases h
  rfl
/-! ### all but some objects -/
def offs (Z : List Addr) (H : Hp) : Hp := fun b => if b ∈ Z then none else H b
theorem offs_of {Z : List Addr} {H : Hp} {b : Addr} {o : HO} (n : b ∉ Z) (h : H b = some o) : offs Z H b = some o := by
  unfold offs
  rw [if_neg n]
  exact h
theorem offs_some {Z : List Addr} {H : Hp} {b : Addr} {o : HO} (h : offs Z H b = some o) : b ∉ Z ∧ H b = some o := by
  unfold offs at h
  split at h
  · cases h
  · exact ⟨‹_›, h⟩
theorem offs_sub {Z : List Addr} {H : Hp} : Same (offs Z H) H := fun _ _ h => (offs_some h).2
theorem offs_nil {H : Hp} : Same H (offs [] H) := fun _ _ h => offs_of (by simp) h
theorem offs_same {Z : List Addr} {H H' : Hp} (e : Same H H') : Same (offs Z H) (offs Z H') := fun _ _ h => offs_of (offs_some h).1 (e _ _ (offs_some h).2)
theorem offs_more {Z : List Addr} {H : Hp} {D : Addr} : Same (offs (D :: Z) H) (offs Z H) := fun _ _ h => offs_of (fun m => (offs_some h).1 (List.mem_cons_of_mem _ m)) (offs_some h).2
theorem offs_new {Z : List Addr} {H : Hp} {D : Addr} (n : H D = none) : Same (offs Z H) (offs (D :: Z) H) := fun b o h => by
  have ⟨h1, h2⟩ := offs_some h
  refine offs_of (fun m => ?_) h2
  rcases List.mem_cons.mp m with e | m
  · rw [e, n] at h2; cases h2
  · exact h1 m
theorem offs_upd {Z : List Addr} {H : Hp} {D : Addr} {o : HO} : Same (offs (D :: Z) H) (offs (D :: Z) (upd H D o)) := fun b u h => by
  have ⟨h1, h2⟩ := offs_some h
  exact offs_of h1 (h_ne (fun e => h1 (by rw [e]; exact List.mem_cons_self)) h2)
theorem offs_fr {Z : List Addr} {st : Addr} {H H' : Hp} (e : Fr st H H') (m : st ∈ Z) : Same (offs Z H) (offs Z H') := fun b o h => by
  have ⟨h1, h2⟩ := offs_some h
  exact offs_of h1 (e.k b o (fun z => h1 (by rw [z]; exact m)) h2)
/-- all of Z is tracked -/
def Trk (Z : List Addr) (H : Hp) : Prop := ∀ z ∈ Z, ∃ o, H z = some o
theorem Trk.same {Z : List Addr} {H H' : Hp} (t : Trk Z H) (e : Same H H') : Trk Z H' := fun z m => by
  obtain ⟨o, h⟩ := t z m
  exact ⟨o, e _ _ h⟩
theorem Trk.new {Z : List Addr} {H : Hp} {D : Addr} (t : Trk Z H) (n : H D = none) : D ∉ Z := fun m => by
  obtain ⟨o, h⟩ := t D m
  rw [n] at h
  cases h
theorem Trk.nil {H : Hp} : Trk [] H := fun _ m => by cases m
theorem Trk.one {H : Hp} {a : Addr} {o : HO} (h : H a = some o) : Trk [a] H := fun z m => by
  cases List.mem_singleton.mp m
  exact ⟨o, h⟩
theorem dp_off {K : PySem.W.Frag} {Z : List Addr} {H : Hp} {v : V} {d : PyData} (h : Dp K (offs Z H) v d) : Dp K H v d := dp_same offs_sub _ _ h
theorem dp_lst {K : PySem.W.Frag} {H : Hp} {a : Addr} {xs : List V} {ds : List PyData} (h : H a = some (.lst xs)) (g : DpAll K H xs ds) : Dp K H (.ref a) (.list ds) := .lst (sq_of h) g
theorem dp_tup {K : PySem.W.Frag} {H : Hp} {a : Addr} {xs : List V} {ds : List PyData} (h : H a = some (.tup xs)) (g : DpAll K H xs ds) : Dp K H (.ref a) (.tuple ds) := .tup (st_of h) g
end Vb
namespace Vb
open PySem PySem.Spec PyProof.Rows L2
/-! ### range(a, b) of any size that has no turn -/
theorem turn_none {P : Program} {w : World} {K : PySem.W.Frag} {tg : Expr} (it : Addr) (lo : Int) : Turn P w K tg (Itr lo 0) [it] it (fun _ h => ∃ x left step, left ≤ 0 ∧ IsLongIter h it x left step) where
  mem := List.mem_singleton.mpr rfl
  obj := fun i h ⟨x, l, c, _, st⟩ b hb => by
    cases List.mem_singleton.mp hb
    exact ⟨_, st, fun v z => by cases (show Data.fields _ = Data.cell v from z)⟩
  keep := fun i h h' ⟨x, l, c, hl, st⟩ k => ⟨x, l, c, hl, k it (List.mem_singleton.mpr rfl) _ st⟩
  item := fun X _ _ _ _ i pins s σ H E _ _ _ hg => absurd (show i < 0 from hg) (Nat.not_lt_zero i)
  done := by
    intro X hP hw hK hc i pins s σ H E I hf st _
    obtain ⟨x, l, c, hl, st⟩ := st
    subst hP hw hK
    have q := hf it (List.mem_singleton.mpr rfl)
    exact wpAny_pyNext_long_end (I.ok.hd hc) st hl fun h' eb => ⟨rfl, I.turned (t' := s.toks) (fun b o hb e => eb b o hb e) q.1 q.2.1 q.2.2.2.1 q.2.2.2.2.1 q.2.2.2.2.2⟩
  self := fun _ _ _ _ _ ⟨_, _, _, _, st⟩ h => wpAny_pyIter_longiter st h
def iRngW (ta : TA) : TI := fun σ H R => ta σ H fun vs H1 => ∃ i j : Int, vs = [.int i, .int j] ∧ ((-(2 ^ 62) ≤ i ∧ i < 2 ^ 62 ∧ -(2 ^ 62) ≤ j ∧ j < 2 ^ 62) ∨ j ≤ i) ∧ R (Itr i (j - i).toNat) H1
section
variable {X : Cx} {tg : Expr}
theorem range_none {pins : List (Addr × Obj)} {σ : L2.St} {H : Hp} {s : Shared} {R : It → Hp → Prop} {E : Value → Shared → Prop} {lo hi : Int} {t u v : Tok} {tk : Nat} (I : Inv X pins σ H s) (hle : hi ≤ lo) (hs : Builtin.Range.small lo hi 1 = false)
    (q : R (Itr lo 0) H) : wpAny (model X.prog X.w) X.A (pyIter (.ref s.heap.objs.size)) (PIE X pins σ tg R) E { s with heap := s.heap.push { cls := .type "range", data := .fields #[.int lo t, .int hi u, .int 1 v] }, toks := tk } := by
  refine wpAny_pyIter_longrange (IsRange.new ..) hs ?_
  have I1 : Inv X pins σ H { s with heap := s.heap.push { cls := .type "range", data := .fields #[.int lo t, .int hi u, .int 1 v] }, toks := tk } := I.kept fun b o e => Heap.get?_push_of_some _ e
  have z : Builtin.Range.rangeSize lo hi 1 ≤ 0 := by rw [rangeSize_one, if_neg (by omega)]; exact Int.le_refl 0
  refine ⟨_, [_], _, Itr lo 0, H, rfl, I1.kept (t' := tk) fun b o e => Heap.get?_push_of_some _ e, turn_none _ lo, ⟨_, _, _, z, Heap.get?_push_size _ rfl⟩, fun b hb => ?_, q⟩
  cases List.mem_singleton.mp hb
  exact I1.fpOk (Nat.le_refl _) (I1.hok.fresh (Nat.le_refl _))
theorem pi_rangeW {a b : Expr} {ta : TA} {p pos : Pos} (hg : Gl X "range") (hm : X.mg "range" = none) (ha : PA X [a, b] ta) (hs : starEach [a, b] X.env = [(false, eval a X.env), (false, eval b X.env)] := by rfl) (hs2 : starEach [b] X.env = [(false, eval b X.env)] := by rfl) :
    PI X tg (.Call (.Name "range" p) [a, b] [] pos) (iRngW ta) := by
  refine ⟨fun pins s σ H R I h => ?_⟩
  refine Call_ (ld_blt I hg hm boot_range (PyProof.Rows.callWith_type1 (thn (ha.run pos pins s σ H _ I h) fun us s1 hh => ?_) (by rw [hs, hs2]) (by rw [hs2]; rfl)))
  obtain ⟨vs, H1, I1, r1, i, j, ev, hb, q⟩ := hh
  subst ev
  obtain ⟨u1, u2, rfl, ⟨t1, rfl⟩, ⟨t2, rfl⟩⟩ := vals2 r1
  refine call_range_2 ?_
  rcases hb with hb | hb
  · exact range_it I1 hb.1 hb.2.1 hb.2.2.1 hb.2.2.2 q
  · have e : (j - i).toNat = 0 := by omega
    rw [e] at q
    cases hsm : Builtin.Range.small i j 1 with
    | false => exact range_none I1 hb hsm q
    | true =>
      refine wpAny_pyIter_range (IsRange.new ..) hsm ?_
      have I2 := I1.kept (h' := s1.heap.push { cls := .type "range", data := .fields #[.int i t1, .int j t2, .int 1 s1.toks] }) (t' := s1.toks + 1) fun b o e => Heap.get?_push_of_some _ e
      have z : Builtin.Range.rangeSize i j 1 = 0 := by rw [rangeSize_one, if_neg (by omega)]
      refine ⟨_, [_], _, Itr i 0, H1, rfl, I2.kept fun b o e => Heap.get?_push_of_some _ e, turn_range _ i 0, ?_, fun b hb => ?_, q⟩
      · show IsRangeIter _ _ (i + ((0 : Nat) : Int) * 1) (((0 : Nat) : Int) - ((0 : Nat) : Int)) 1
        rw [show i + ((0 : Nat) : Int) * 1 = i by omega, show ((0 : Nat) : Int) - ((0 : Nat) : Int) = Builtin.Range.rangeSize i j 1 by omega]
        exact Heap.get?_push_size _ rfl
      · cases List.mem_singleton.mp hb
        exact I2.fpOk (Nat.le_refl _) (I2.hok.fresh (Nat.le_refl _))
end
section
variable {K : PySem.W.Frag} {σ : L2.St} {H : Hp} {te : TE} {ts : TS} {nx : L2.St → Hp → Prop} {rt : VK}
theorem r_rngW {ta : TA} {R : It → Hp → Prop} (h : ta σ H fun vs H1 => ∃ i j : Int, vs = [.int i, .int j] ∧ ((-(2 ^ 62) ≤ i ∧ i < 2 ^ 62 ∧ -(2 ^ 62) ≤ j ∧ j < 2 ^ 62) ∨ j ≤ i) ∧ R (Itr i (j - i).toNat) H1) : iRngW ta σ H R := h
theorem f_rngW {lo hi : Int} {g : TG} (b : (-(2 ^ 62) ≤ lo ∧ lo < 2 ^ 62 ∧ -(2 ^ 62) ≤ hi ∧ hi < 2 ^ 62) ∨ hi ≤ lo) (q : ForW (Itr lo (hi - lo).toNat) g ts nx rt σ H) : ∃ i j : Int, [V.int lo, V.int hi] = [.int i, .int j] ∧ ((-(2 ^ 62) ≤ i ∧ i < 2 ^ 62 ∧ -(2 ^ 62) ≤ j ∧ j < 2 ^ 62) ∨ j ≤ i) ∧ ForW (Itr i (j - i).toNat) g ts nx rt σ H := ⟨lo, hi, rfl, b, q⟩
theorem c_rngW {lo hi : Int} {g : TG} {tt : TT} {vs : List Nat} {σ' : L2.St} {Q' : Addr → Hp → Prop} (b : (-(2 ^ 62) ≤ lo ∧ lo < 2 ^ 62 ∧ -(2 ^ 62) ≤ hi ∧ hi < 2 ^ 62) ∨ hi ≤ lo) (q : ∀ D, H D = none → LcW (Itr lo (hi - lo).toNat) g tt te vs σ' H D (Q' D)) : ∃ i j : Int, [V.int lo, V.int hi] = [.int i, .int j] ∧ ((-(2 ^ 62) ≤ i ∧ i < 2 ^ 62 ∧ -(2 ^ 62) ≤ j ∧ j < 2 ^ 62) ∨ j ≤ i) ∧ ∀ D, H D = none → LcW (Itr i (j - i).toNat) g tt te vs σ' H D (Q' D) := ⟨lo, hi, rfl, b, q⟩
end
/-! ### primes -/
def isP (n : Int) : Bool := decide (2 ≤ n) && (List.range n.toNat).all fun d => decide (d < 2) || decide (n % (d : Int) ≠ 0)
def Prm (n : Int) : Prop := 2 ≤ n ∧ ∀ d : Int, 2 ≤ d → d < n → n % d ≠ 0
theorem isP_iff (n : Int) : isP n = true ↔ Prm n := by
  unfold isP Prm
  rw [Bool.and_eq_true, decide_eq_true_eq, List.all_eq_true]
  refine ⟨fun ⟨h1, h2⟩ => ⟨h1, fun d a b => ?_⟩, fun ⟨h1, h2⟩ => ⟨h1, fun d m => ?_⟩⟩
  · have z := h2 d.toNat (List.mem_range.mpr (by omega))
    rw [Bool.or_eq_true, decide_eq_true_eq, decide_eq_true_eq] at z
    rcases z with z | z
    · omega
    · rwa [show ((d.toNat : Nat) : Int) = d by omega] at z
  · have m := List.mem_range.mp m
    rw [Bool.or_eq_true, decide_eq_true_eq, decide_eq_true_eq]
    by_cases c : d < 2
    · exact .inl c
    · exact .inr (h2 d (by omega) (by omega))
/-- no divisor up to the root: none at all -/
theorem prm_root {n D : Int} (h2 : 2 ≤ n) (hD : 2 ≤ D) (hs : n < D * D) (h : ∀ d : Int, 2 ≤ d → d < D → n % d ≠ 0) : Prm n := by
  refine ⟨h2, fun d a b z => ?_⟩
  have hd : d * (n / d) = n := Int.mul_ediv_cancel' (Int.dvd_of_emod_eq_zero z)
  by_cases c : d < D
  · exact h d a c z
  · have e1 : n / d < D := by
      by_cases c2 : n / d < D
      · exact c2
      · exact absurd (Int.mul_le_mul (show D ≤ d by omega) (show D ≤ n / d by omega) (by omega) (by omega)) (by omega)
    have e2 : 2 ≤ n / d := by
      have p : 1 ≤ n / d := by
        by_cases c3 : n / d ≤ 0
        · have := Int.mul_nonpos_of_nonneg_of_nonpos (show 0 ≤ d by omega) c3
          omega
        · omega
      by_cases c4 : n / d = 1
      · rw [c4] at hd; omega
      · omega
    refine h (n / d) e2 e1 ?_
    have e3 : n % (n / d) = 0 := by
      have : (d * (n / d)) % (n / d) = 0 := Int.mul_emod_left ..
      rwa [hd] at this
    exact e3
theorem not_prm {n d : Int} (h2 : 2 ≤ d) (h : d < n) (z : n % d = 0) : ¬ Prm n := fun p => p.2 d h2 h z
/-- the primes up to a limit -/
def upto (n : Int) : List Int := ((List.range (n + 1).toNat).map Int.ofNat).filter isP
theorem mem_upto {n p : Int} : p ∈ upto n ↔ Prm p ∧ p ≤ n := by
  unfold upto
  rw [List.mem_filter, isP_iff, List.mem_map]
  refine ⟨fun ⟨⟨k, m, e⟩, q⟩ => ⟨q, ?_⟩, fun ⟨q, l⟩ => ⟨⟨p.toNat, ?_, ?_⟩, q⟩⟩
  · have := List.mem_range.mp m
    have e' : (k : Int) = p := e
    omega
  · exact List.mem_range.mpr (by have := q.1; omega)
  · show ((p.toNat : Nat) : Int) = p
    have := q.1
    omega
theorem upto_low {n : Int} (h : n < 2) : upto n = [] := by
  refine List.eq_nil_iff_forall_not_mem.mpr fun p m => ?_
  obtain ⟨q, l⟩ := mem_upto.mp m
  have := q.1
  omega
theorem upto_next {n : Int} (h : 0 ≤ n + 1) : upto (n + 1) = upto n ++ (if isP (n + 1) then [n + 1] else []) := by
  unfold upto
  rw [show (n + 1 + 1).toNat = (n + 1).toNat + 1 by omega, List.range_succ, List.map_append, List.filter_append]
  congr 1
  rw [List.map_cons, List.map_nil, show Int.ofNat (n + 1).toNat = n + 1 by show (((n + 1).toNat : Nat) : Int) = n + 1; omega]
  rw [List.filter_cons, List.filter_nil]
theorem upto_len {n : Int} : (upto n).length ≤ (n + 1).toNat := by
  unfold upto
  refine Nat.le_trans (List.length_filter_le _ _) ?_
  rw [List.length_map, List.length_range]
  exact Nat.le_refl _
end Vb
namespace Vb
open PySem PySem.Spec PyProof.Rows L2
theorem least_prime : ∀ (k : Nat) (n d : Int), d.toNat ≤ k → 2 ≤ d → n % d = 0 → ∃ q, Prm q ∧ q ≤ d ∧ n % q = 0
  | 0, n, d, h, h2, _ => by omega
  | k + 1, n, d, h, h2, z => by
    by_cases p : Prm d
    · exact ⟨d, p, Int.le_refl _, z⟩
    · have ⟨e, e1, e2, e3⟩ : ∃ e : Int, 2 ≤ e ∧ e < d ∧ d % e = 0 := by
        refine Classical.byContradiction fun c => p ⟨h2, fun e a b y => c ⟨e, a, b, y⟩⟩
      have z2 : n % e = 0 := Int.emod_eq_zero_of_dvd (Int.dvd_trans (Int.dvd_of_emod_eq_zero e3) (Int.dvd_of_emod_eq_zero z))
      obtain ⟨q, a, b, c⟩ := least_prime k n e (by omega) e1 z2
      exact ⟨q, a, by omega, c⟩
/-- a number that no smaller prime divides is one -/
theorem prm_of {n : Int} (h2 : 2 ≤ n) (h : ∀ q, Prm q → q < n → n % q ≠ 0) : Prm n := ⟨h2, fun d a b z => by
  obtain ⟨q, p, l, y⟩ := least_prime d.toNat n d (Nat.le_refl _) a z
  exact h q p (by omega) y⟩
theorem upto_sorted (n : Int) : (upto n).Pairwise (· < ·) := by
  unfold upto
  refine List.Pairwise.filter _ (List.pairwise_map.mpr ?_)
  refine List.Pairwise.imp (fun {a b} h => ?_) List.pairwise_lt_range
  show (a : Int) < (b : Int)
  omega
theorem sorted_ahead : ∀ {xs : List Int} {j : Nat} {p q : Int}, xs.Pairwise (· < ·) → xs[j]? = some p → q ∈ xs → q < p → ∃ k, k < j ∧ xs[k]? = some q
  | [], j, p, q, _, _, m, _ => by cases m
  | x :: xs, 0, p, q, s, e, m, l => by
    cases (Option.some.inj e)
    rcases List.mem_cons.mp m with rfl | m
    · omega
    · have := (List.pairwise_cons.mp s).1 q m
      omega
  | x :: xs, j + 1, p, q, s, e, m, l => by
    rcases List.mem_cons.mp m with rfl | m
    · exact ⟨0, by omega, rfl⟩
    · obtain ⟨k, a, b⟩ := sorted_ahead (List.pairwise_cons.mp s).2 (by simpa using e) m l
      exact ⟨k + 1, by omega, by simpa using b⟩
theorem rgc_pos {i j c : Int} (hc : 0 < c) (hc2 : c < 1073741824) (hi : -1000000000 ≤ i ∧ i ≤ 1000000000) (hj : -1000000000 ≤ j ∧ j ≤ 1000000000) : RgC i j c (Builtin.Range.rangeSize i j c).toNat := by
  have hr : Builtin.Range.rangeSize i j c = if i < j then (j - i - 1) / c + 1 else 0 := by
    unfold Builtin.Range.rangeSize
    rw [if_pos (by omega)]
  have h0 : 0 ≤ Builtin.Range.rangeSize i j c := by
    rw [hr]
    split
    · have := Int.ediv_nonneg (show 0 ≤ j - i - 1 by omega) (show 0 ≤ c by omega)
      omega
    · omega
  have h1 : Builtin.Range.rangeSize i j c ≤ 2000000001 := by
    rw [hr]
    split
    · have := Int.ediv_le_self c (show 0 ≤ j - i - 1 by omega)
      omega
    · omega
  refine ⟨by omega, by omega, ?_, by omega⟩
  unfold Builtin.Range.small
  simp only [Builtin.Range.rangeFitsLong, Bool.and_eq_true, Bool.or_eq_true, decide_eq_true_eq, beq_iff_eq, hc, if_true]
  exact ⟨⟨⟨⟨⟨by omega, by omega⟩, by omega, by omega⟩, by omega, by omega⟩, by omega, by omega⟩, .inr ⟨by omega, by omega⟩⟩
section
variable {K : PySem.W.Frag} {σ : L2.St} {H : Hp} {Q : VK} {te ta tb : TE} {ts tu : TS} {nx bk ct : L2.St → Hp → Prop} {rt : VK}
/-- what stands behind ts is shown once, from Mid -/
theorem r_cut (Mid : L2.St → Hp → Prop) (h : ts (Ends.mk Mid rt bk ct) σ H) (k : ∀ σ' H', Mid σ' H' → tu (Ends.mk nx rt bk ct) σ' H') : Evl.tCut ts tu (Ends.mk nx rt bk ct) σ H := ⟨Mid, h, k⟩
theorem r_eqB {a b : Bool} (q : Q (.bl (a == b)) H) : rEq (.bl a) (.bl b) H Q := ⟨rfl, by
  have e : decide (V.bl a = V.bl b) = (a == b) := by cases a <;> cases b <;> rfl
  rw [e]
  exact q⟩
theorem r_eqBs {a : Bool} (q : Q (.bl true) H) : rEq (.bl a) (.bl a) H Q := r_eqB (by rw [beq_self_eq_true]; exact q)
theorem r_neB {a b : Bool} (q : Q (.bl (!(a == b))) H) : rNe (.bl a) (.bl b) H Q := ⟨rfl, by
  have e : decide (V.bl a = V.bl b) = (a == b) := by cases a <;> cases b <;> rfl
  rw [e]
  exact q⟩
theorem r_eqS {a b : Str} (q : Q (.bl (decide (a = b))) H) : rEq (.str a) (.str b) H Q := ⟨rfl, by
  have e : decide (V.str a = V.str b) = decide (a = b) := by
    by_cases h : a = b
    · rw [decide_eq_true h, decide_eq_true (congrArg V.str h)]
    · rw [decide_eq_false h, decide_eq_false (fun z => h (V.str.inj z))]
  rw [e]
  exact q⟩
theorem r_neS {a b : Str} (q : Q (.bl (!decide (a = b))) H) : rNe (.str a) (.str b) H Q := ⟨rfl, by
  have e : decide (V.str a = V.str b) = decide (a = b) := by
    by_cases h : a = b
    · rw [decide_eq_true h, decide_eq_true (congrArg V.str h)]
    · rw [decide_eq_false h, decide_eq_false (fun z => h (V.str.inj z))]
  rw [e]
  exact q⟩
theorem r_revL (h : te σ H fun x H1 => ∃ a xs, x = .ref a ∧ SqL K H1 a xs ∧ ∀ p, H1 p = none → Q (.ref p) (upd H1 p (.lst xs.reverse))) : tRevL K te σ H Q := h
theorem r_revv {a : Addr} {xs : List V} {R : Addr → Hp → Prop} (h : SqL K H a xs) (q : ∀ p, H p = none → R p (upd H p (.lst xs.reverse))) : ∃ b ys, V.ref a = .ref b ∧ SqL K H b ys ∧ ∀ p, H p = none → R p (upd H p (.lst ys.reverse)) := ⟨a, xs, rfl, h, q⟩
theorem r_sl {r : V → Option Int → Option Int → Hp → VK → Prop} {tl th : TO} (h : te σ H fun x H1 => tl σ H1 fun l H2 => th σ H2 fun u H3 => r x l u H3 Q) : tSl r te tl th σ H Q := h
theorem r_noP {QO : Option Int → Hp → Prop} (h : QO none H) : tNoPart σ H QO := h
theorem r_part {QO : Option Int → Hp → Prop} (h : te σ H fun x H1 => ∃ i, x = .int i ∧ QO (some i) H1) : tPart te σ H QO := h
theorem r_partv {i : Int} {R : Option Int → Hp → Prop} (h : R (some i) H) : ∃ j, V.int i = .int j ∧ R (some j) H := ⟨i, rfl, h⟩
theorem r_slL {a : Addr} {xs : List V} {lo hi : Option Int} (h : SqL K H a xs) (q : ∀ p, H p = none → Q (.ref p) (upd H p (.lst (cutV xs lo hi)))) : rSlL K (.ref a) lo hi H Q := ⟨a, xs, rfl, h, q⟩
theorem r_rep {a : Addr} {xs : List V} {k : Int} (h : H a = some (.lst xs)) (b1 : -(2 ^ 63) ≤ k) (b2 : k < 2 ^ 63) (b3 : xs.length * k.toNat ≤ sizeLine) (q : ∀ p, H p = none → Q (.ref p) (upd H p (.lst ((List.replicate k.toNat xs).flatten)))) : rRep (.ref a) (.int k) H Q := by
  refine ⟨a, k, xs, rfl, rfl, h, b1, b2, b3, ?_⟩
  exact q
end
theorem ix_of {n : Nat} {z : Int} (j : Nat) (e : z = (j : Int)) (h : j < n) : ixN n z = some j := by
  subst e
  unfold ixN
  rw [if_pos (Int.natCast_nonneg j), if_pos (by omega)]
  rfl
theorem rs_lt {i j c : Int} (hc : 0 < c) {k : Nat} (h : k < (Builtin.Range.rangeSize i j c).toNat) : i + (k : Int) * c < j := by
  unfold Builtin.Range.rangeSize at h
  rw [if_pos (by omega)] at h
  split at h
  · have h1 : (k : Int) ≤ (j - i - 1) / c := by omega
    have h2 := (Int.le_ediv_iff_mul_le hc).mp h1
    omega
  · exact absurd h (Nat.not_lt_zero k)
theorem rs_end {i j c : Int} (hc : 0 < c) : j ≤ i + ((Builtin.Range.rangeSize i j c).toNat : Int) * c := by
  unfold Builtin.Range.rangeSize
  rw [if_pos (by omega)]
  split
  · have h0 := Int.ediv_nonneg (show 0 ≤ j - i - 1 by omega) (show 0 ≤ c by omega)
    have h1 : ((((j - i - 1) / c + 1).toNat : Nat) : Int) = (j - i - 1) / c + 1 := by omega
    rw [h1, Int.add_mul, Int.one_mul]
    have h2 := Int.lt_ediv_add_one_mul_self (j - i - 1) hc
    rw [Int.add_mul, Int.one_mul] at h2
    omega
  · show j ≤ i + ((0 : Nat) : Int) * c
    omega
/-- a row of marks -/
def marks (N : Nat) (f : Nat → Bool) : List V := (List.range N).map fun m => V.bl (f m)
theorem marks_len (N : Nat) (f : Nat → Bool) : (marks N f).length = N := by
  unfold marks
  rw [List.length_map, List.length_range]
theorem marks_get {N : Nat} {f : Nat → Bool} {j : Nat} (h : j < N) : (marks N f)[j]? = some (.bl (f j)) := by
  unfold marks
  rw [List.getElem?_map, List.getElem?_range h]
  rfl
theorem marks_set {N : Nat} {f : Nat → Bool} {j : Nat} {b : Bool} : (marks N f).set j (.bl b) = marks N (fun m => if m = j then b else f m) := by
  refine List.ext_getElem? fun k => ?_
  by_cases hk : k < N
  · by_cases e : k = j
    · subst e
      rw [List.getElem?_set_self (by rw [marks_len]; exact hk), marks_get hk, if_pos rfl]
    · rw [List.getElem?_set_ne (Ne.symm e), marks_get hk, marks_get hk, if_neg e]
  · rw [List.getElem?_eq_none (by rw [List.length_set, marks_len]; omega), List.getElem?_eq_none (by rw [marks_len]; omega)]
theorem marks_rep (k : Nat) (b : Bool) : (List.replicate k [V.bl b]).flatten = marks k (fun _ => b) := by
  refine List.ext_getElem? fun j => ?_
  have e : (List.replicate k [V.bl b]).flatten = List.replicate k (V.bl b) := by
    induction k with
    | zero => rfl
    | succ k ih => rw [List.replicate_succ, List.flatten_cons, ih]; rfl
  rw [e]
  by_cases hk : j < k
  · rw [List.getElem?_replicate, if_pos hk, marks_get hk]
  · rw [List.getElem?_eq_none (by rw [List.length_replicate]; omega), List.getElem?_eq_none (by rw [marks_len]; omega)]
theorem mul_up {m n : Int} (hn : 0 < n) (h : n < m) (z : m % n = 0) : 2 * n ≤ m := by
  have e : n * (m / n) = m := Int.mul_ediv_cancel' (Int.dvd_of_emod_eq_zero z)
  have h2 : 2 ≤ m / n := by
    refine Int.not_lt.mp fun h3 => ?_
    have h4 : n * (m / n) ≤ n * 1 := Int.mul_le_mul_of_nonneg_left (by omega) (by omega)
    omega
  have h5 : n * 2 ≤ n * (m / n) := Int.mul_le_mul_of_nonneg_left h2 (by omega)
  omega
/-- a multiple below the next one but some -/
theorem mul_between {n m : Int} {k : Nat} (hn : 0 < n) (z : m % n = 0) : m < 2 * n + ((k + 1 : Nat) : Int) * n ↔ m < 2 * n + (k : Int) * n ∨ m = 2 * n + (k : Int) * n := by
  have e : n * (m / n) = m := Int.mul_ediv_cancel' (Int.dvd_of_emod_eq_zero z)
  have ek : ((k + 1 : Nat) : Int) * n = (k : Int) * n + n := by
    rw [show ((k + 1 : Nat) : Int) = (k : Int) + 1 by omega, Int.add_mul, Int.one_mul]
  rw [ek]
  refine ⟨fun h => ?_, fun h => by omega⟩
  by_cases c : m < 2 * n + (k : Int) * n
  · exact .inl c
  · refine .inr ?_
    have h1 : m / n < (k : Int) + 3 := by
      refine Int.not_le.mp fun h3 => ?_
      have h4 : n * ((k : Int) + 3) ≤ n * (m / n) := Int.mul_le_mul_of_nonneg_left h3 (by omega)
      have h5 : n * ((k : Int) + 3) = (k : Int) * n + 3 * n := by rw [Int.mul_add, Int.mul_comm n (k : Int), Int.mul_comm n 3]
      omega
    have h2 : (k : Int) + 2 ≤ m / n := by
      refine Int.not_lt.mp fun h3 => ?_
      have h4 : n * (m / n) ≤ n * ((k : Int) + 1) := Int.mul_le_mul_of_nonneg_left (by omega) (by omega)
      have h5 : n * ((k : Int) + 1) = (k : Int) * n + n := by rw [Int.mul_add, Int.mul_comm n (k : Int), Int.mul_one]
      omega
    have h6 : m / n = (k : Int) + 2 := by omega
    rw [h6, Int.mul_add, Int.mul_comm n (k : Int)] at e
    omega
theorem upto_all (n : Int) : upto (n + 1) = upto n ++ (if isP (n + 1) then [n + 1] else []) := by
  by_cases h : 0 ≤ n + 1
  · exact upto_next h
  · have e : isP (n + 1) = false := by
      cases y : isP (n + 1) with
      | false => rfl
      | true => exact absurd ((isP_iff _).mp y).1 (by omega)
    rw [upto_low (by omega), upto_low (by omega), e]
    rfl
theorem cut_last (xs : List V) (v : V) : cutV (xs ++ [v]) none (some (-1)) = xs := by
  unfold cutV
  have e : HT.sIx (xs ++ [v]).length (xs ++ [v]).length (some (-1)) = xs.length := by
    show (if (-1 : Int) < 0 then ((-1 : Int) + ((xs ++ [v]).length : Int)).toNat else min (-1 : Int).toNat (xs ++ [v]).length) = xs.length
    rw [if_pos (show (-1 : Int) < 0 by decide), List.length_append]
    show ((-1 : Int) + ((xs.length + 1 : Nat) : Int)).toNat = xs.length
    omega
  rw [e, HT.sIx_none, List.drop_zero, Nat.sub_zero, List.take_left]
section
variable {K : PySem.W.Frag} {σ : L2.St} {H : Hp} {Q : VK}
theorem r_isBl {a b : Bool} (q : Q (.bl (decide (a = b))) H) : rIsB (.bl a) (.bl b) H Q := ⟨a, b, rfl, rfl, q⟩
theorem r_notBl {a b : Bool} (q : Q (.bl (!decide (a = b))) H) : rNotB (.bl a) (.bl b) H Q := ⟨a, b, rfl, rfl, q⟩
/-- an int among ints -/
theorem inV_ints (z : Int) (ns : List Int) : inV (.int z) (ns.map V.int) = decide (z ∈ ns) := by
  unfold inV
  rw [List.any_map]
  by_cases h : z ∈ ns
  · rw [decide_eq_true h, List.any_eq_true]
    exact ⟨z, h, by show eqV (.int z) (.int z) = true; simp [eqV]⟩
  · rw [decide_eq_false h, Bool.eq_false_iff]
    intro c
    obtain ⟨y, m, e⟩ := List.any_eq_true.mp c
    have e' : eqV (.int y) (.int z) = true := e
    have : y = z := by simpa [eqV] using e'
    exact h (this ▸ m)
theorem r_inL {a : Addr} {z : Int} {ns : List Int} (h : SqL K H a (ns.map V.int)) (q : Q (.bl (decide (z ∈ ns))) H) : rIn K false (.int z) (.ref a) H Q := by
  refine ⟨a, _, rfl, .inl h, rfl, ?_, ?_⟩
  · rw [List.all_eq_true]
    intro v m
    obtain ⟨y, _, rfl⟩ := List.mem_map.mp m
    rfl
  · rw [if_neg (by decide), inV_ints]
    exact q
theorem r_niL {a : Addr} {z : Int} {ns : List Int} (h : SqL K H a (ns.map V.int)) (q : Q (.bl (!decide (z ∈ ns))) H) : rIn K true (.int z) (.ref a) H Q := by
  refine ⟨a, _, rfl, .inl h, rfl, ?_, ?_⟩
  · rw [List.all_eq_true]
    intro v m
    obtain ⟨y, _, rfl⟩ := List.mem_map.mp m
    rfl
  · rw [if_pos rfl, inV_ints]
    exact q
end
theorem dn_mk {K : PySem.W.Frag} {mg : Str → Option Value} {x : Str} {st : Stmt} {ps : List Str} {f : Addr} {oc : Value} {od an : Option Addr} {osl : Array (Option Value)} {kV doc pm cdv ct : Value} (g : mg x = some (.ref f))
    (l : K.lookup f = some ⟨oc, od, .func (PySem.W.fnOf x x (defArgs st) (defBody st) (defScope st) .none kV doc pm an cdv ct), osl⟩) (c : PySem.W.codeIn K cdv x = true) (k : PySem.W.keepIn K (.ref f) = true)
    (b : ∀ (kV doc pm : Value) (an : Option Addr) (cdv ct : Value) (us : List Value), us.length = ps.length → bindArgs (PySem.W.fnOf x x (defArgs st) (defBody st) (defScope st) .none kV doc pm an cdv ct) ⟨us, []⟩ = pure (ps.zip us)) : Dn K mg x st ps f (PySem.W.fnOf x x (defArgs st) (defBody st) (defScope st) .none kV doc pm an cdv ct) :=
  ⟨fun_mk l c k, g, (fun_mk l c k).binds b⟩
theorem tok_mk {K : PySem.W.Frag} {h : Heap} {mg : Str → Option Value} {x : Str} {n : Int} {t : Tok} (KX : K.In h) (G : h.Ns mainGlobals mg) (a : PySem.W.nsIn K mainGlobals x = some (some (.int n t))) : ∃ t, mg x = some (.int n t) := ⟨t, PySem.W.mg_of KX G a⟩
end Vb
namespace Vb
open PySem PySem.Spec PyProof.Rows L2
/-! ### methods and makings that may raise: what they let out is taken at this state -/
section
variable {X : Cx} {CX : CXT} {k : Nat} {f C : Addr} {fd : FuncData} {ps : List Str} {sp : Sp} {E : L2.St → XK} {x m : Str} {p pos apos : Pos} {e o : Expr} {es : List Expr} {ta : TE} {t : TA}
def tMethP (C : Addr) (m : Str) (sp : Sp) (E : L2.St → XK) (ta : TE) (t : TA) : TE := fun σ H Q => ta σ H fun x H1 => ∃ a dx fs, x = .ref a ∧ H1 a = some (.ins C dx fs) ∧ fs.lookup m = none ∧ t σ H1 fun vs H2 => sp (x :: vs) H2 Q (E σ)
theorem pe_methP {pl : Sem Bool} (ho : PE X o ta) (c : Cls X.K C) (hm : Meth X.K C m f) (F : FnOk X.prog X.w X.K X.mg X.base CX k f fd ps sp) (hr : Room k X.A) (hb : Binds X.K fd ps []) (hx : ∀ σ, PassesAt CX X σ (E σ)) (ha : PA X (e :: es) t) (hst : starEach (e :: es) X.env = (false, eval e X.env) :: starEach es X.env := by rfl) (hpl : (backTo pos (starEach es X.env)).any (·.1) = false := by rfl)
    (ht : eval (.Call (.Attribute o m apos) (e :: es) [] pos) X.env = (do let ov ← eval o X.env; standAt apos.atName; let (f, first) ← holding [ov] (getMethod ov m pl); callWith pos f first (backTo pos (starEach (e :: es) X.env)) (backToKw pos (keywordEach [] X.env))) := by rfl) : PE X (.Call (.Attribute o m apos) (e :: es) [] pos) (tMethP C m sp E ta t) := ⟨fun pins s σ H Q I h => PySem.W.methodCall_KW (pl := pl) (thn (ho.run pins s σ H _ I h) fun u s1 z => by
    obtain ⟨x, H1, I1, rx, a, dx, fs, ex, ea, l, q⟩ := z
    subst ex
    obtain rfl : u = Value.ref a := rx
    exact getmeth_ok I1 ea c hm l (PySem.W.callWith_K (first := [.ref a]) (h₀ := X.base) I1.ok.mod.kin hm.kp (thn (ha.run pos pins s1 σ H1 _ I1 q) fun us s2 ⟨vs, H2, I2, r, q2⟩ => ⟨I2.kIn, run_fnS (us := .ref a :: us) (vs := .ref a :: vs) F hr hb (hx σ) I2 (.cons rfl r) q2⟩) hst hpl)) ht⟩
theorem pe_methP0 {pl : Sem Bool} (ho : PE X o ta) (c : Cls X.K C) (hm : Meth X.K C m f) (F : FnOk X.prog X.w X.K X.mg X.base CX k f fd ps sp) (hr : Room k X.A) (hb : Binds X.K fd ps []) (hx : ∀ σ, PassesAt CX X σ (E σ))
    (ht : eval (.Call (.Attribute o m apos) [] [] pos) X.env = (do let ov ← eval o X.env; standAt apos.atName; let (f, first) ← holding [ov] (getMethod ov m pl); callWith pos f first (backTo pos (starEach [] X.env)) (backToKw pos (keywordEach [] X.env))) := by rfl) : PE X (.Call (.Attribute o m apos) [] [] pos) (tMethP C m sp E ta tNil) := ⟨fun pins s σ H Q I h => PySem.W.methodCall_KW (pl := pl) (thn (ho.run pins s σ H _ I h) fun u s1 z => by
    obtain ⟨x, H1, I1, rx, a, dx, fs, ex, ea, l, q⟩ := z
    subst ex
    obtain rfl : u = Value.ref a := rx
    exact getmeth_ok I1 ea c hm l (PySem.W.callWith_K0 (first := [.ref a]) I1.kIn hm.kp (run_fnS (us := [.ref a]) (vs := [.ref a]) F hr hb (hx σ) I1 (.cons rfl .nil) q))) ht⟩
def tMakeP (C : Addr) (sp : Sp) (E : L2.St → XK) (t : TA) : TE := fun σ H Q => t σ H fun vs H1 => ∀ x dx, H1 x = none → H1 dx = none → dx ≠ x → sp (.ref x :: vs) (upd (upd H1 dx (.own x)) x (.ins C dx [])) (fun v H2 => v = .non ∧ Q (.ref x) H2) (E σ)
theorem run_makeP {pins : List (Addr × Obj)} {σ : L2.St} {H : Hp} {s : Shared} {Q : VK} {us : List Value} {vs : List V} {E' : XK} (M : Mk X.K C f) (F : FnOk X.prog X.w X.K X.mg X.base CX k f fd ps sp) (hr : Room (k + 1) X.A) (hb : Binds X.K fd ps []) (hx : PassesAt CX X σ E') (I : Inv X pins σ H s) (r : Vals vs us)
    (h : ∀ x dx, H x = none → H dx = none → dx ≠ x → sp (.ref x :: vs) (upd (upd H dx (.own x)) x (.ins C dx [])) (fun v H2 => v = .non ∧ Q (.ref x) H2) E') : wpAny (model X.prog X.w) X.A (call (.ref C) us) (EP X pins σ Q) X.xe s := by
  have I2 := Inv.made (C := C) I
  have hq := h (s.heap.objs.size + 1) s.heap.objs.size (I.hok.fresh (Nat.le_succ _)) (I.hok.fresh (Nat.le_refl _)) (Nat.ne_of_lt (Nat.lt_succ_self _))
  have r2 : Vals (V.ref (s.heap.objs.size + 1) :: vs) (Value.ref (s.heap.objs.size + 1) :: us) := .cons rfl r
  have hl : (Value.ref (s.heap.objs.size + 1) :: us).length = ps.length := by
    rw [← r2.length]
    exact F.len _ _ _ _ hq
  have b := hb _ (Value.ref (s.heap.objs.size + 1) :: us) I2.kIn (by rw [List.append_nil]; exact hl)
  rw [List.append_nil] at b
  refine wpAny_call (make_map (f := f) I.kIn M.makes M.init (beq_iff_eq.mp M.fn) (codeAny_mono (F.run _ X.stack _ _ ⟨Value.ref (s.heap.objs.size + 1) :: us, []⟩ _ _ _ E' (hr.make C us []) (I2.env0.make C us []) b r2 hq) fun r s' hq' => ?_))
  cases r with
  | error e => exact hx pins _ _ e s' I2 hq'
  | ok fl =>
    cases fl with
    | ret u =>
      have z := I2.after hq'
      obtain ⟨v, H', I3, rv, ev, q3⟩ := z
      subst ev
      exact ⟨rv, V.ref (s.heap.objs.size + 1), _, I3, rfl, q3⟩
    | next => exact hq'.elim
    | brk => exact hq'.elim
    | cont => exact hq'.elim
theorem pe_makeP (M : Mk X.K C f) (F : FnOk X.prog X.w X.K X.mg X.base CX k f fd ps sp) (hr : Room (k + 1) X.A) (hg : Gl X x) (hm : X.mg x = some (.ref C)) (hb : Binds X.K fd ps []) (hx : ∀ σ, PassesAt CX X σ (E σ)) (ha : PA X (e :: es) t) (hdb : (x == ("__debug__" : Str)) = false := by decide)
    (he : starEach (e :: es) X.env = (false, eval e X.env) :: starEach es X.env := by rfl) (hpl : (backTo pos (starEach es X.env)).any (·.1) = false := by rfl) : PE X (.Call (.Name x p) (e :: es) [] pos) (tMakeP C sp E t) :=
  ⟨fun pins s σ H Q I h => wpAny_Call_Name_kw (ld_glob I hg hm (PySem.W.callWith_K (h₀ := X.base) I.ok.mod.kin M.kp (thn (ha.run pos pins s σ H _ I h) fun us s1 ⟨vs, H1, I1, r, q⟩ => ⟨I1.kIn, run_makeP M F hr hb (hx σ) I1 r q⟩) he hpl) hdb)⟩
end
/-- a method of the text -/
structure Dm (K : PySem.W.Frag) (x qual : Str) (st : Stmt) (ps : List Str) (f : Addr) (fd : FuncData) : Prop where
  F : Fun K x qual st f fd
  b : Binds K fd ps []
theorem dm_mk {K : PySem.W.Frag} {x qual : Str} {st : Stmt} {ps : List Str} {f : Addr} {oc : Value} {od an : Option Addr} {osl : Array (Option Value)} {kV doc pm cdv ct : Value}
    (l : K.lookup f = some ⟨oc, od, .func (PySem.W.fnOf x qual (defArgs st) (defBody st) (defScope st) .none kV doc pm an cdv ct), osl⟩) (c : PySem.W.codeIn K cdv qual = true) (k : PySem.W.keepIn K (.ref f) = true)
    (b : ∀ (kV doc pm : Value) (an : Option Addr) (cdv ct : Value) (us : List Value), us.length = ps.length → bindArgs (PySem.W.fnOf x qual (defArgs st) (defBody st) (defScope st) .none kV doc pm an cdv ct) ⟨us, []⟩ = pure (ps.zip us)) : Dm K x qual st ps f (PySem.W.fnOf x qual (defArgs st) (defBody st) (defScope st) .none kV doc pm an cdv ct) :=
  ⟨fun_mk l c k, (fun_mk l c k).binds b⟩
/-! readings -/
theorem r_fld {K : PySem.W.Frag} {σ : L2.St} {H : Hp} {Q : VK} {a C dx : Addr} {fs : List (Str × V)} {f : Str} {v : V} (h : H a = some (.ins C dx fs)) (c : Cls K C) (n : PySem.W.findIn K (.ref C) f = some none) (l : fs.lookup f = some v) (q : Q v H) : ∃ a' C' dx' fs' v', V.ref a = .ref a' ∧ H a' = some (.ins C' dx' fs') ∧ Cls K C' ∧ NoAttr K C' f ∧ fs'.lookup f = some v' ∧ Q v' H := ⟨a, C, dx, fs, v, rfl, h, c, n, l, q⟩
theorem r_sfld {K : PySem.W.Frag} {σ : L2.St} {H : Hp} {ta tv : TE} {f : Str} {D : L2.Ends} (h : tv σ H fun y H1 => ta σ H1 fun x H2 => ∃ a C dx fs, x = .ref a ∧ H2 a = some (.ins C dx fs) ∧ Cls K C ∧ NoAttr K C f ∧ fs.length < 1000 ∧ D.nx σ (upd H2 a (.ins C dx (putF f y fs)))) : sFld K ta tv f D σ H := h
theorem r_tfld {K : PySem.W.Frag} {σ : L2.St} {H : Hp} {Q : VK} {ta : TE} {f : Str} (h : ta σ H fun x H1 => ∃ a C dx fs v, x = .ref a ∧ H1 a = some (.ins C dx fs) ∧ Cls K C ∧ NoAttr K C f ∧ fs.lookup f = some v ∧ Q v H1) : tFld K ta f σ H Q := h
theorem r_meth {σ : L2.St} {H : Hp} {Q : VK} {C : Addr} {m : Str} {sp : Sp} {E : L2.St → XK} {ta : TE} {t : TA} (h : ta σ H fun x H1 => ∃ a dx fs, x = .ref a ∧ H1 a = some (.ins C dx fs) ∧ fs.lookup m = none ∧ t σ H1 fun vs H2 => sp (x :: vs) H2 Q (E σ)) : tMethP C m sp E ta t σ H Q := h
theorem r_make {σ : L2.St} {H : Hp} {Q : VK} {C : Addr} {sp : Sp} {E : L2.St → XK} {t : TA} (h : t σ H fun vs H1 => ∀ x dx, H1 x = none → H1 dx = none → dx ≠ x → sp (.ref x :: vs) (upd (upd H1 dx (.own x)) x (.ins C dx [])) (fun v H2 => v = .non ∧ Q (.ref x) H2) (E σ)) : tMakeP C sp E t σ H Q := h
theorem r_listRg {σ : L2.St} {H : Hp} {Q : VK} {te : L2.St → Hp → (Int → Int → Hp → Prop) → Prop} (h : te σ H fun a b H1 => RgOk a b ∧ ∀ q, H1 q = none → Q (.ref q) (upd H1 q (.lst (rgV a b)))) : tLstRg te σ H Q := h
theorem r_rg1 {σ : L2.St} {H : Hp} {ta : TE} {Q : Int → Int → Hp → Prop} (h : ta σ H fun x H1 => ∃ n, x = .int n ∧ Q 0 n H1) : tRg1 ta σ H Q := h
theorem r_rg2 {σ : L2.St} {H : Hp} {ta tb : TE} {Q : Int → Int → Hp → Prop} (h : ta σ H fun x H1 => tb σ H1 fun y H2 => ∃ i j, x = .int i ∧ y = .int j ∧ Q i j H2) : tRg2 ta tb σ H Q := h
section
variable {X : Cx} {CX : CXT} {k : Nat} {f C : Addr} {fd : FuncData} {ps ks : List Str} {sp : Sp} {E : XK} {m : Str} {pos apos : Pos} {e o : Expr} {es : List Expr} {kws : List Keyword} {ta : TE} {t tk : TA} {g : List Value → List Value → List Value} {gV : List V → List V → List V}
/-- o.m(e, .., k = v, ..) -/
def tMethK (C : Addr) (m : Str) (sp : Sp) (gV : List V → List V → List V) (E : XK) (ta : TE) (t tk : TA) : TE := fun σ H Q => ta σ H fun x H1 => ∃ a dx fs, x = .ref a ∧ H1 a = some (.ins C dx fs) ∧ fs.lookup m = none ∧ t σ H1 fun vs H2 => tk σ H2 fun zs H3 => sp (gV (x :: vs) zs) H3 Q E
theorem pe_methK {pl : Sem Bool} (ho : PE X o ta) (c : Cls X.K C) (hm : Meth X.K C m f) (F : FnOk X.prog X.w X.K X.mg X.base CX k f fd ps sp) (hr : Room k X.A) (hb : KBinds X.K fd ps ks g gV) (hx : Passes CX X E) (ha : PA X (e :: es) t) (hkw : PK X kws tk)
    (hall : (backToKw pos (keywordEach kws X.env)).all (·.1.isSome) = true := by rfl) (hks : (backToKw pos (keywordEach kws X.env)).filterMap (·.1) = ks := by rfl) (hst : starEach (e :: es) X.env = (false, eval e X.env) :: starEach es X.env := by rfl) (hpl : ((backTo pos (starEach (e :: es) X.env)).any (·.1) || (backToKw pos (keywordEach kws X.env)).any (·.1.isNone)) = false := by rfl)
    (ht : eval (.Call (.Attribute o m apos) (e :: es) kws pos) X.env = (do let ov ← eval o X.env; standAt apos.atName; let (f, first) ← holding [ov] (getMethod ov m pl); callWith pos f first (backTo pos (starEach (e :: es) X.env)) (backToKw pos (keywordEach kws X.env))) := by rfl) : PE X (.Call (.Attribute o m apos) (e :: es) kws pos) (tMethK C m sp gV E ta t tk) := ⟨fun pins s σ H Q I h => PySem.W.methodCall_KW (pl := pl) (thn (ho.run pins s σ H _ I h) fun u s1 z => by
    obtain ⟨x, H1, I1, rx, a, dx, fs, ex, ea, l, q⟩ := z
    subst ex
    obtain rfl : u = Value.ref a := rx
    refine getmeth_ok I1 ea c hm l (PySem.W.callWith_KW (first := [.ref a]) (h₀ := X.base) I1.ok.mod.kin hm.kp hall (thn (ha.run pos pins s1 σ H1 _ I1 q) fun us s2 ⟨vs, H2, I2, r, q2⟩ => ?_) hpl hst)
    refine thn (hkw.run pos pins s2 σ H2 _ I2 q2) fun ws s3 ⟨zs, H3, I3, rz, q3⟩ => ⟨I3.kIn, ?_⟩
    rw [hks]
    exact run_fnk (us := .ref a :: us) (vs := .ref a :: vs) F hr hb hx I3 (.cons rfl r) rz q3) ht⟩
theorem r_methK {σ : L2.St} {H : Hp} {Q : VK} (h : ta σ H fun x H1 => ∃ a dx fs, x = .ref a ∧ H1 a = some (.ins C dx fs) ∧ fs.lookup m = none ∧ t σ H1 fun vs H2 => tk σ H2 fun zs H3 => sp (gV (x :: vs) zs) H3 Q E) : tMethK C m sp gV E ta t tk σ H Q := h
end
/-- two by place, one by its name -/
def g21 {α : Type} : List α → List α → List α
  | [a, b], [c] => [a, b, c]
  | _, _ => []
theorem kb21 {K : PySem.W.Frag} {x qual kn : Str} {st : Stmt} {f : Addr} {fd : FuncData} {ps : List Str} (F : Fun K x qual st f fd) (hp : ps.length = 3)
    (h : ∀ (kV doc pm : Value) (an : Option Addr) (cdv ct a b c : Value), bindArgs (PySem.W.fnOf x qual (defArgs st) (defBody st) (defScope st) .none kV doc pm an cdv ct) ⟨[a, b], [(kn, c)]⟩ = pure (ps.zip [a, b, c])) : KBinds K fd ps [kn] g21 g21 := by
  obtain ⟨oc, od, kV, doc, pm, an, cdv, ct, osl, rfl, lk, hcd⟩ := F.ex
  refine ⟨fun s us ws _ hl => ?_, fun {vs us zs ws} r z => ?_⟩
  · rcases us with _ | ⟨a, _ | ⟨b, _ | ⟨d, us⟩⟩⟩ <;> rcases ws with _ | ⟨c, _ | ⟨e, ws⟩⟩ <;> first | exact .of_eq (h kV doc pm an cdv ct a b c) | (rw [hp] at hl; cases hl)
  · rcases r with _ | ⟨r1, _ | ⟨r2, _ | ⟨r3, r⟩⟩⟩ <;> rcases z with _ | ⟨z1, _ | ⟨z2, z⟩⟩ <;> first | exact .cons r1 (.cons r2 (.cons z1 .nil)) | exact .nil
end Vb
namespace Vb
open PySem PySem.Spec PyProof.Rows L2
/-! ### a try with several clauses, each of which keeps a name -/
/-- what the clauses wish of an error, in their order -/
def wAll (K : PySem.W.Frag) (Wo : WX) (D : L2.Ends) : List (Value × Nat × (Addr → Value → Option Addr → TS)) → WX
  | [] => Wo
  | (c, i, ts) :: r => wAs K c i ts (wAll K Wo D r) D
inductive Clauses (X : Cx) : List ExceptHandler → List (Value × Nat × (Addr → Value → Option Addr → TS)) → Prop
  | nil : Clauses X [] []
  | cons {x n : Str} {c : Value} {i : Nat} {ts : Addr → Value → Option Addr → TS} {b0 : Stmt} {su : List Stmt} {np po : Pos} {hs : List ExceptHandler} {l : List (Value × Nat × (Addr → Value → Option Addr → TS))} (hi : X.N[i]? = some n) (hl : X.env.kindOf n = some .local) (hc : Names X x c)
      (hsu : ∀ (a : Addr) (oe : Obj) (cls : Value) (d : Option Addr) (pn : List (Addr × Obj)), L2N.Zn cls d oe → (∃ vs, oe.data = .fields vs) → PSs (X.suite a ((a, oe) :: pn)) (b0 :: su) (ts a cls d)) (r : Clauses X hs l) : Clauses X (.ExceptHandler (some (.Name x np)) (some n) (b0 :: su) po :: hs) ((c, i, ts) :: l)
section
variable {X : Cx} {body : List Stmt} {c0 : ExceptHandler} {cs : List ExceptHandler} {l : List (Value × Nat × (Addr → Value → Option Addr → TS))} {pos : Pos} {tb : WX → TS} {Wo : WX}
theorem ps_try_all (st : X.stack = X.env :: X.outer) (fr : X.env.frame = some X.env.locals) (nd : X.N.Nodup) (tk : L2N.Takes X Wo)
    (hb : ∀ (W : WX) (pn : List (Addr × Obj)) (xe : Value → Shared → Prop), L2N.Takes (X.tr pn xe) W → PassesOwn (model X.prog X.w) X.A X.env xe → PSs (X.tr pn xe) body (tb W))
    (hh : Clauses X (c0 :: cs) l) : PS X (.Try body (c0 :: cs) [] [] pos) (fun D σ H => tb (wAll X.K Wo D l) D σ H) := by
  refine ⟨fun pins s σ H D I h => ?_⟩
  have iok := I.ok
  have afr : X.A.frames = some (X.env :: X.outer) := by rw [iok.frames, st]
  refine wpAny_Try_except (wpAny_mono ((hb (wAll X.K Wo D l) (X.pn ++ pins) (fun e z1 => wpAny (model X.prog X.w) X.A (noteFrame e X.env) (fun _ z2 => wpAny (model X.prog X.w) X.A (setFlight e none) (fun _ z3 =>
    wpAny (model X.prog X.w) X.A (handleBy e X.env (c0 :: cs)) (SP X pins D) X.xe z3) X.xe z2) X.xe z1) (fun u s' z => ?caught) PassesOwn.looking).run [] s σ H D (I.toTry _) h) (fun f s1 z => ?thru) (fun _ _ z => z))
  case thru =>
    cases f with
    | ret u =>
      obtain ⟨v, σ1, H1, J1, r1, q1⟩ := z
      exact ⟨v, σ1, H1, J1.ofTry iok, r1, q1⟩
    | next =>
      obtain ⟨σ1, H1, J1, q1⟩ := z
      exact wpAny_execs_nil ⟨σ1, H1, J1.ofTry iok, q1⟩
    | brk =>
      obtain ⟨σ1, H1, J1, q1⟩ := z
      exact ⟨σ1, H1, J1.ofTry iok, q1⟩
    | cont =>
      obtain ⟨σ1, H1, J1, q1⟩ := z
      exact ⟨σ1, H1, J1.ofTry iok, q1⟩
  case caught =>
    obtain ⟨a, B, sI, pins1, σ1, H1, cls, d, rfl, J0, nb, up, sky0, na, os, ag, w⟩ := z
    have J : Inv X pins σ1 H1 sI := J0.ofTry iok
    have sky1 : Sky B (X.env :: X.outer) a (L2N.Zn cls d) X.env.locals s'.heap := by rw [← st]; exact sky0
    refine L2N.Sky.land L2N.Zn.steady afr fr sky1 fun h3 fl3 up3 => ?_
    have J3 : Inv X pins σ1 H1 { s' with heap := h3 } := J.landed nb fl3.1 (up.trans up3) os ag
    obtain ⟨oe3, vs3, he3, hz3, hd3⟩ := fl3.there
    have nfr : a ∉ frs (X.env :: X.outer) := fun hm => by
      obtain ⟨_, o', e', hnf⟩ := fl3.2.2.1.mem hm
      rw [he3] at e'
      cases e'
      exact hnf _ hd3
    have nL : a ≠ X.env.locals := fun z => nfr (List.mem_filterMap.mpr ⟨X.env, List.mem_cons_self, by rw [fr, z]⟩)
    have nF : a ∉ X.fs := fun hm => by
      obtain ⟨e, he, q⟩ := List.mem_filterMap.mp hm
      exact nfr (List.mem_filterMap.mpr ⟨e, List.mem_cons_of_mem _ he, q⟩)
    have S3 := J3.suite he3 hd3 na nL nF
    have go : ∀ {cs1 : List ExceptHandler} {l1 : List (Value × Nat × (Addr → Value → Option Addr → TS))}, Clauses X cs1 l1 → wAll X.K Wo D l1 cls d σ1 H1 → wpAny (model X.prog X.w) X.A (handleBy (.ref a) X.env cs1) (SP X pins D) X.xe { s' with heap := h3 } := by
      intro cs1 l1 hk
      induction hk with
      | nil =>
        intro w1
        refine wpAny_handleBy_nil ?_
        obtain ⟨k1, k2, k3, oe, vs, T, oT, ts1, he, hz, hd, h1, hr⟩ := id fl3
        unfold PySem.passOn
        refine wpAny_bind (wpAny_field he hd h1 ?_)
        rw [if_neg (show ¬ ((Value.ref T == Value.none) = true) by simp)]
        have last : wpAny (model X.prog X.w) X.A (setFlight (.ref a) X.env.frame) (fun _ z4 => wpAny (model X.prog X.w) X.A (throw (.ref a) : Sem Flow) (SP X pins D) X.xe z4) X.xe { s' with heap := h3 } := by
          rw [fr]
          exact HandSPX.setFlight_upZ fl3 fun h4 hh4 up4 => wpAny_throw (tk _ _ ⟨a, B, sI, pins, σ1, H1, cls, d, rfl, J, nb, (up.trans up3).trans up4, .inr (.inr (by rw [st]; exact hh4)), na, os, ag, w1⟩)
        first
          | exact wpAny_bind (wpAny_pure (wpAny_bind last))
          | exact wpAny_bind last
      | @cons x n c i ts b0 su np po hs2 l2 hi hln hc hsu r ih =>
        intro w1
        obtain ⟨b, hb1, hyes, hno⟩ := w1
        refine wpAny_handleBy_cons (codeAny_handlers_test ?_) (fun q => by cases q)
        have LT : PySem.W.Looks (model X.prog X.w) h3 (typeOf (.ref a)) cls := fun _ _ _ _ k q => wpAny_typeOf_ref (k _ _ he3) (by rw [hz3.1]; exact q)
        have LM := PySem.W.exm_one (M := model X.prog X.w) J3.kIn LT hb1
        have look : ∀ {Q E : Value → Shared → Prop}, Q c { s' with heap := h3 } → wpAny (model X.prog X.w) (X.A.mark (some (.ref a))) (eval (.Name x np) X.env) Q E { s' with heap := h3 } := fun {Q E} q => by
          rcases hc with ⟨hg, hdb, hm | ⟨hm, hv, hnn⟩⟩
          · exact ld_glob (X := X.suite a ((a, oe3) :: (X.pn ++ pins))) S3 hg hm q hdb
          · exact ld_blt (X := X.suite a ((a, oe3) :: (X.pn ++ pins))) S3 hg hm hv q hnn hdb
        refine look (LM.here ?_)
        cases b with
        | false => exact ih (hno rfl)
        | true =>
          refine codeAny_handlers_suite_as (HandSPX.lands_againZ fl3 fun h4 fl4 up4 => ?_)
          have J4 : Inv X pins σ1 H1 { s' with heap := h4 } := J.landed nb fl4.1 ((up.trans up3).trans up4) os ag
          obtain ⟨oe4, vs4, he4, hz4, hd4⟩ := fl4.there
          have S4 := J4.suite he4 hd4 na nL nF
          refine store_ok (X := X.suite a ((a, oe4) :: (X.pn ++ pins))) (v := .ref a) S4 nd hi (.inl hln) rfl (fun s5 S5 => ?_) (.inr hln)
          refine wpAny_mono ((hsu a oe4 cls d (X.pn ++ pins) hz4 ⟨_, hd4⟩).run [] s5 _ H1 _ S5 (hyes rfl a na)) (fun f s6 hsp => ?_) (fun _ _ z => z.elim)
          have over : ∀ {σ6 : L2.St} {H6 : Hp} {Q : Shared → Prop}, Inv (X.suite a ((a, oe4) :: (X.pn ++ pins))) [] σ6 H6 s6 → (∀ s7, Inv X pins (σ6.set i none) H6 s7 → Q s7) →
              wpAny (model X.prog X.w) X.A (do bindName X.env n .none; unbindBehindTheSuite X.env n po) (fun _ s7 => Q s7) X.xe s6 := fun S6 hq => gone_ok (S6.unsuite iok) nd hi hln hq
          cases f with
          | ret u =>
            obtain ⟨v6, σ6, H6, S6, r6, q6⟩ := hsp
            exact over S6 fun _ J7 => ⟨_, _, _, J7, r6, q6⟩
          | next =>
            obtain ⟨σ6, H6, S6, q6⟩ := hsp
            exact over S6 fun _ J7 => ⟨_, _, J7, q6⟩
          | brk =>
            obtain ⟨σ6, H6, S6, q6⟩ := hsp
            exact over S6 fun _ J7 => ⟨_, _, J7, q6⟩
          | cont =>
            obtain ⟨σ6, H6, S6, q6⟩ := hsp
            exact over S6 fun _ J7 => ⟨_, _, J7, q6⟩
    exact go hh w
end
/-- a clause that is not meant -/
theorem r_pass {K : PySem.W.Frag} {c : Value} {i : Nat} {ts : Addr → Value → Option Addr → TS} {Wo : WX} {D : L2.Ends} {cls : Value} {d : Option Addr} {σ : L2.St} {H : Hp} (e : PySem.W.exmOne K cls c = some false) (h : Wo cls d σ H) : wAs K c i ts Wo D cls d σ H := ⟨false, e, fun z => Bool.noConfusion z, fun _ => h⟩
theorem Xk.no {K : PySem.W.Frag} {C D : Addr} (k : Xk K C) (s : PySem.W.subIn K (.ref D) (.ref C) = some false) : PySem.W.exmOne K (.ref D) (.ref C) = some false := PySem.W.exm_ref k.sb k.hd k.ty s
/-! ### x in o, o == x by the text's own defs -/
section
variable {X : Cx} {CX : CXT} {k : Nat} {f C : Addr} {fd : FuncData} {ps : List Str} {sp : Sp} {E : XK}
/-- what x in o asks -/
def rInOwn (neg : Bool) (C : Addr) (sp : Sp) (E : XK) : R2 := fun x y H Q => ∃ a dx fs, y = .ref a ∧ H a = some (.ins C dx fs) ∧ sp [y, x] H (fun v H' => ∃ b, v = .bl b ∧ Q (.bl (if neg then !b else b)) H') E
theorem cont_own {pins : List (Addr × Obj)} {s : Shared} {σ : L2.St} {H : Hp} {x : V} {v : Value} {a dx : Addr} {fs : List (Str × V)} {Q : Bool → Shared → Prop} (hs : PySem.W.findIn X.K (.ref C) "__contains__" = some (some (.ref f))) (hf : PySem.W.isFn X.K (.ref f) = true)
    (F : FnOk X.prog X.w X.K X.mg X.base CX k f fd ps sp) (hr : Room k X.A) (hb : Binds X.K fd ps []) (hx : PassesAt CX X σ E) (I : Inv X pins σ H s) (rx : RelV x v) (ha : H a = some (.ins C dx fs)) {Qv : VK} (q : sp [.ref a, x] H Qv E)
    (hq : ∀ u s', EP X pins σ Qv u s' → ∃ b, u = Value.bool b ∧ Q b s') : wpAny (model X.prog X.w) X.A (contains (.ref a) v) Q X.xe s := by
  obtain ⟨mA, J, _⟩ := ins_get I.hok ha
  obtain ⟨od, J, _⟩ := J.look
  have kx := I.kIn
  have spec : PySem.W.Looks (model X.prog X.w) s.heap (specialOf (.ref a) "__contains__") (some (.ref f)) := fun A Q E s' k' q' => by
    unfold specialOf
    exact wpAny_bind (J.type A _ _ _ k' ((PySem.W.looks_findIn kx hs) A _ _ _ k' q'))
  unfold contains
  refine wpAny_holding ?_
  rw [PySem.stdlibNamesSay?_ref]
  refine wpAny_bind (spec.here ?_)
  show wpAny _ X.A (if (some (Value.ref f) == some Value.none) = true then _ else _) Q X.xe s
  rw [if_neg (by simp)]
  refine wpAny_bind ?_
  unfold callSpecialUnlessNone?
  refine wpAny_bind (spec.here (wpAny_holding (wpAny_bind ((PySem.W.bind_fn kx _ (beq_iff_eq.mp hf)).here ?_))))
  show wpAny _ X.A (if (Value.ref f == Value.none) = true then _ else _) _ X.xe s
  rw [if_neg (by simp)]
  refine wpAny_bind (wpAny_mono (run_fnS (E := fun _ => E) (us := [.ref a, v]) (vs := [.ref a, x]) F hr hb hx I (.cons rfl (.cons rx .nil)) q) (fun u s' z => ?_) fun _ _ z => z)
  obtain ⟨b, rfl, q'⟩ := hq u s' z
  exact wpAny_pure (wpAny_truthy_bool q')
theorem op_inOwn (hs : PySem.W.findIn X.K (.ref C) "__contains__" = some (some (.ref f))) (hf : PySem.W.isFn X.K (.ref f) = true) (F : FnOk X.prog X.w X.K X.mg X.base CX k f fd ps sp) (hr : Room k X.A) (hb : Binds X.K fd ps []) (hx : ∀ σ, PassesAt CX X σ E) : OpR X (compareOp .In) (rInOwn false C sp E) := by
  intro pins s σ H x y v u Q I rx ry h
  obtain ⟨a, dx, fs, rfl, ha, q⟩ := h
  obtain rfl : u = Value.ref a := ry
  show wpAny (model X.prog X.w) X.A (do let b ← contains (.ref a) v; pure (Value.bool b)) (EP X pins σ Q) X.xe s
  refine wpAny_bind (cont_own hs hf F hr hb (hx σ) I rx ha q fun u s' z => ?_)
  obtain ⟨w, H', I', rw', b, rfl, q'⟩ := z
  exact ⟨b, rw', wpAny_pure ⟨.bl b, H', I', rfl, q'⟩⟩
theorem op_notInOwn (hs : PySem.W.findIn X.K (.ref C) "__contains__" = some (some (.ref f))) (hf : PySem.W.isFn X.K (.ref f) = true) (F : FnOk X.prog X.w X.K X.mg X.base CX k f fd ps sp) (hr : Room k X.A) (hb : Binds X.K fd ps []) (hx : ∀ σ, PassesAt CX X σ E) : OpR X (compareOp .NotIn) (rInOwn true C sp E) := by
  intro pins s σ H x y v u Q I rx ry h
  obtain ⟨a, dx, fs, rfl, ha, q⟩ := h
  obtain rfl : u = Value.ref a := ry
  show wpAny (model X.prog X.w) X.A (do let b ← contains (.ref a) v; pure (Value.bool (!b))) (EP X pins σ Q) X.xe s
  refine wpAny_bind (cont_own hs hf F hr hb (hx σ) I rx ha q fun u s' z => ?_)
  obtain ⟨w, H', I', rw', b, rfl, q'⟩ := z
  exact ⟨b, rw', wpAny_pure ⟨.bl (!b), H', I', rfl, q'⟩⟩
/-- what o == x asks -/
def rEqOwn (K : PySem.W.Frag) (C : Addr) (sp : Sp) (E : XK) : R2 := fun x y H Q => ∃ a dx fs tb, x = .ref a ∧ H a = some (.ins C dx fs) ∧ TyX K H y tb ∧ PySem.W.notFirst K C tb = true ∧ sp [x, y] H (fun v H' => ∃ b, v = .bl b ∧ Q (.bl b) H') E
theorem op_eqOwn (hs : PySem.W.findIn X.K (.ref C) "__eq__" = some (some (.ref f))) (hf : PySem.W.isFn X.K (.ref f) = true) (F : FnOk X.prog X.w X.K X.mg X.base CX k f fd ps sp) (hr : Room k X.A) (hb : Binds X.K fd ps []) (hx : ∀ σ, PassesAt CX X σ E) : OpR X (compareOp .Eq) (rEqOwn X.K C sp E) := by
  intro pins s σ H x y v u Q I rx ry h
  obtain ⟨a, dx, fs, tb, rfl, ha, ty, nf, q⟩ := h
  obtain rfl : v = Value.ref a := rx
  obtain ⟨P, Z, p, _⟩ := kit_of I ry ty
  obtain ⟨mA, J, _⟩ := ins_get I.hok ha
  obtain ⟨od, J, _⟩ := J.look
  obtain ⟨m, hF⟩ := I.fr
  show wpAny (model X.prog X.w) X.A (richCompare .Eq (.ref a) u) (EP X pins σ Q) X.xe s
  refine PySem.W.cmp_K (op := .Eq) (tb := tb) hr.units0 hF I.ok.mod.kin J (Z.ty _ _ I.kIn p) nf hs hf ?_
  refine wpAny_mono (run_fnS (E := fun _ => E) (us := [.ref a, u]) (vs := [.ref a, y]) F hr hb (hx σ) I (.cons rfl (.cons ry .nil)) q) (fun w s' z => ?_) fun _ _ z => z
  obtain ⟨w', H', I', rw', b, rfl, q'⟩ := z
  cases (show w = Value.bool b from rw')
  exact ⟨.bl b, H', I', rfl, q'⟩
end
theorem pass5A {X : Cx} : ∀ σ, PassesAt (L2N.CX X.prog X.w) X σ E0 := fun σ pins H s e s' I c => pass5 pins σ H s e s' I c
/-- an own class: what isinstance asks of its objects and of itself -/
structure Ki (K : PySem.W.Frag) (C : Addr) : Prop where
  ha : PySem.W.findIn K (.ref C) "__class__" = some (some (.builtin "object.__class__"))
  hn : PySem.W.specialIn K (.builtin "object.__class__") "__get__" = some (some (.builtin "getset_descriptor.__get__"))
  htk : PySem.W.takesIn K (.builtin "object.__class__") = some true
  hm : PySem.W.mroIn K C (.type "object") = some true
  ic : PySem.W.isClsIn K C = true
  ty : PySem.W.typeIn K (.ref C) = some (.type "type")
theorem Ki.tyx {K : PySem.W.Frag} {C a dx : Addr} {H : Hp} {fs : List (Str × V)} (k : Ki K C) (c : Cls K C) (h : H a = some (.ins C dx fs)) : TyX K H (.ref a) (.ref C) := .base (.ins h c k.ha k.hn k.htk k.hm)
theorem Ki.me {K : PySem.W.Frag} {C : Addr} (k : Ki K C) : PySem.W.kitOne K (.ref C) (.ref C) = some true := by
  unfold PySem.W.kitOne
  rw [if_pos (by simp)]
theorem Ki.of {K : PySem.W.Frag} {C : Addr} {T : String} (k : Ki K C) (s : PySem.W.subIn K (.type T) (.ref C) = some false) : PySem.W.kitOne K (.type T) (.ref C) = some false := by
  have h1' : (PySem.W.clsIn K C).isSome = true := k.ic
  unfold PySem.W.kitOne
  rw [if_neg (by intro h; cases beq_iff_eq.mp h)]
  show (if ((PySem.W.clsIn K C).isSome && PySem.W.typeIn K (.ref C) == some (.type "type")) = true then PySem.W.subIn K (.type T) (.ref C) else none) = _
  rw [h1', k.ty, if_pos (by decide)]
  exact s
theorem nf_me {K : PySem.W.Frag} {C : Addr} : PySem.W.notFirst K C (.ref C) = true := by simp [PySem.W.notFirst]
theorem nf_ty {K : PySem.W.Frag} {C : Addr} {T : String} (s : PySem.W.subIn K (.type T) (.ref C) = some false) : PySem.W.notFirst K C (.type T) = true := by simp [PySem.W.notFirst, s]
/-! ### further readings -/
theorem r_atM {H : Hp} {a C dx : Addr} {fs : List (Str × V)} {m : Str} {R : Prop} (h : H a = some (.ins C dx fs)) (l : fs.lookup m = none) (q : R) : ∃ a' dx' fs', V.ref a = .ref a' ∧ H a' = some (.ins C dx' fs') ∧ fs'.lookup m = none ∧ R := ⟨a, dx, fs, rfl, h, l, q⟩
theorem h_same {H H' : Hp} {a : Addr} {o : HO} (e : Same H H') (h : H a = some o) : H' a = some o := e a o h
theorem h_fr {H H' : Hp} {st a : Addr} {o : HO} (e : Fr st H H') (n : a ≠ st) (h : H a = some o) : H' a = some o := e.k a o n h
theorem r_newO {xs : List V} {H : Hp} {R : Addr → Prop} (hs : xs.length ≤ sizeLine) (h : ∀ p, H p = none → R p) : xs.length ≤ sizeLine ∧ ∀ p, H p = none → R p := ⟨hs, h⟩
theorem fr_new {H H' : Hp} {st p : Addr} {o : HO} (f : Fr st H H') (n : H' p = none) : Fr st H (upd H' p o) := f.trans (Fr.of (same_new n))
theorem fr_same {H H' H2 : Hp} {st : Addr} (f : Fr st H H') (e : Same H' H2) : Fr st H H2 := f.trans (Fr.of e)
theorem sm_new {H H' : Hp} {p : Addr} {o : HO} (f : Same H H') (n : H' p = none) : Same H (upd H' p o) := f.trans (same_new n)
theorem st_new {H : Hp} {st p : Addr} {o : HO} (s : StoreAt H st) (n : H p = none) : StoreAt (upd H p o) st := s.same (same_new n)
theorem r_fldV {K : PySem.W.Frag} {H : Hp} {a C dx : Addr} {fs : List (Str × V)} {f : Str} {v : V} {R : V → Prop} (h : H a = some (.ins C dx fs)) (c : Cls K C) (n : NoAttr K C f) (l : fs.lookup f = some v) (q : R v) : ∃ a' C' dx' fs' v', V.ref a = .ref a' ∧ H a' = some (.ins C' dx' fs') ∧ Cls K C' ∧ NoAttr K C' f ∧ fs'.lookup f = some v' ∧ R v' := ⟨a, C, dx, fs, v, rfl, h, c, n, l, q⟩
end Vb
namespace K
open PySem PySem.Spec PyProof.Rows L2
def topS (i : Nat) : Stmt := PySem.Challenge.pw_sumtalk_k02_powers_and_remainders.main.body.getD i (.Pass ⟨0, 0, 0, 0⟩)
abbrev s__wall : Stmt := topS 0
abbrev s_NotPrime___init__ : Stmt := inClass (topS 3) 0
abbrev s_NotInField___init__ : Stmt := inClass (topS 4) 0
abbrev s_is_whole : Stmt := topS 10
abbrev s_is_number : Stmt := topS 11
abbrev s_check_number : Stmt := topS 12
abbrev s_check_range : Stmt := topS 13
abbrev s_check_figures : Stmt := topS 14
abbrev s_is_prime : Stmt := topS 19
abbrev s_check_prime : Stmt := topS 20
abbrev s_power_modulo : Stmt := topS 21
abbrev s_Field___init__ : Stmt := inClass (topS 22) 0
abbrev s_Field___contains__ : Stmt := inClass (topS 22) 1
abbrev s_Field___eq__ : Stmt := inClass (topS 22) 2
abbrev s_Field_add : Stmt := inClass (topS 22) 3
abbrev s_Field_subtract : Stmt := inClass (topS 22) 4
abbrev s_Field_multiply : Stmt := inClass (topS 22) 5
abbrev s_Field_divide : Stmt := inClass (topS 22) 6
abbrev s_Field_negate : Stmt := inClass (topS 22) 7
abbrev s_Field_invert : Stmt := inClass (topS 22) 8
abbrev s_Field_power : Stmt := inClass (topS 22) 9
abbrev s_Field_reduce : Stmt := inClass (topS 22) 10
abbrev s_Field_members : Stmt := inClass (topS 22) 11
abbrev s__law_mix : Stmt := topS 24
abbrev s__law_store : Stmt := topS 25
abbrev s__law_take : Stmt := topS 26
abbrev s__law_edge : Stmt := topS 27
abbrev s__law_pick : Stmt := topS 28
abbrev s__law_big : Stmt := topS 29
abbrev s__law_signed : Stmt := topS 30
abbrev s__law_other_kind : Stmt := topS 31
abbrev s__law_bad_integer : Stmt := topS 32
abbrev s__law_primes : Stmt := topS 33
abbrev s__law_prime : Stmt := topS 34
abbrev s__law_small_prime : Stmt := topS 35
abbrev s__law_number : Stmt := topS 36
abbrev s__law_bad_number : Stmt := topS 37
abbrev s__law_same : Stmt := topS 38
abbrev s__law_integer : Stmt := topS 39
abbrev s__law_field_power : Stmt := topS 40
abbrev s__law_raised : Stmt := topS 41
abbrev s__law_too_large : Stmt := topS 42
abbrev s__law_exponents : Stmt := topS 43
abbrev s__law_powers_hold : Stmt := topS 44
abbrev s__law_refusals : Stmt := topS 45
abbrev s__law_remains : Stmt := topS 46
abbrev s__law_integers : Stmt := topS 47
abbrev s_law : Stmt := topS 48
/-! what the top has written -/
structure Txt (K : PySem.W.Frag) (mg : Str → Option Value) where
  C_TalkError : Addr
  x_TalkError : Vb.Xn K mg "TalkError" C_TalkError
  C_NotPrime : Addr
  I_NotPrime : Addr
  i_NotPrime : PySem.Lowvalue.LowTxt K mg "NotPrime" "NotPrime.__init__" C_NotPrime I_NotPrime
  C_NotInField : Addr
  I_NotInField : Addr
  i_NotInField : PySem.Lowvalue.LowTxt K mg "NotInField" "NotInField.__init__" C_NotInField I_NotInField
  C_DivisionByZero : Addr
  x_DivisionByZero : Vb.Xn K mg "DivisionByZero" C_DivisionByZero
  C_OutOfRange : Addr
  x_OutOfRange : Vb.Xn K mg "OutOfRange" C_OutOfRange
  C_TooLarge : Addr
  x_TooLarge : Vb.Xn K mg "TooLarge" C_TooLarge
  xk_NotInField : Vb.Xk K C_NotInField
  xk_OutOfRange : Vb.Xk K C_OutOfRange
  xk_TooLarge : Vb.Xk K C_TooLarge
  k_NotInField_TalkError : PySem.W.kitOne K (.ref C_NotInField) (.ref C_TalkError) = some true
  k_NotInField_ValueError : PySem.W.kitOne K (.ref C_NotInField) (.type "ValueError") = some true
  k_NotInField_DivisionByZero : PySem.W.kitOne K (.ref C_NotInField) (.ref C_DivisionByZero) = some false
  k_NotInField_OutOfRange : PySem.W.kitOne K (.ref C_NotInField) (.ref C_OutOfRange) = some false
  k_NotInField_NotPrime : PySem.W.kitOne K (.ref C_NotInField) (.ref C_NotPrime) = some false
  k_NotInField_TooLarge : PySem.W.kitOne K (.ref C_NotInField) (.ref C_TooLarge) = some false
  k_OutOfRange_TalkError : PySem.W.kitOne K (.ref C_OutOfRange) (.ref C_TalkError) = some true
  k_OutOfRange_ValueError : PySem.W.kitOne K (.ref C_OutOfRange) (.type "ValueError") = some true
  k_OutOfRange_DivisionByZero : PySem.W.kitOne K (.ref C_OutOfRange) (.ref C_DivisionByZero) = some false
  k_OutOfRange_NotPrime : PySem.W.kitOne K (.ref C_OutOfRange) (.ref C_NotPrime) = some false
  k_OutOfRange_TooLarge : PySem.W.kitOne K (.ref C_OutOfRange) (.ref C_TooLarge) = some false
  k_TooLarge_TalkError : PySem.W.kitOne K (.ref C_TooLarge) (.ref C_TalkError) = some true
  k_TooLarge_ValueError : PySem.W.kitOne K (.ref C_TooLarge) (.type "ValueError") = some true
  k_TooLarge_OutOfRange : PySem.W.kitOne K (.ref C_TooLarge) (.ref C_OutOfRange) = some false
  k_TooLarge_NotPrime : PySem.W.kitOne K (.ref C_TooLarge) (.ref C_NotPrime) = some false
  k_TooLarge_DivisionByZero : PySem.W.kitOne K (.ref C_TooLarge) (.ref C_DivisionByZero) = some false
  k_TooLarge_NotInField : PySem.W.kitOne K (.ref C_TooLarge) (.ref C_NotInField) = some false
  f__wall : Addr
  fd__wall : FuncData
  d__wall : Vb.Dn K mg "_wall" s__wall ["k"] f__wall fd__wall
  f_is_whole : Addr
  fd_is_whole : FuncData
  d_is_whole : Vb.Dn K mg "is_whole" s_is_whole ["value"] f_is_whole fd_is_whole
  f_is_number : Addr
  fd_is_number : FuncData
  d_is_number : Vb.Dn K mg "is_number" s_is_number ["prime", "value"] f_is_number fd_is_number
  f_check_number : Addr
  fd_check_number : FuncData
  d_check_number : Vb.Dn K mg "check_number" s_check_number ["prime", "value"] f_check_number fd_check_number
  f_check_range : Addr
  fd_check_range : FuncData
  d_check_range : Vb.Dn K mg "check_range" s_check_range ["value", "least", "most"] f_check_range fd_check_range
  f_check_figures : Addr
  fd_check_figures : FuncData
  d_check_figures : Vb.Dn K mg "check_figures" s_check_figures ["integer"] f_check_figures fd_check_figures
  f_is_prime : Addr
  fd_is_prime : FuncData
  d_is_prime : Vb.Dn K mg "is_prime" s_is_prime ["value"] f_is_prime fd_is_prime
  f_check_prime : Addr
  fd_check_prime : FuncData
  d_check_prime : Vb.Dn K mg "check_prime" s_check_prime ["prime"] f_check_prime fd_check_prime
  f_power_modulo : Addr
  fd_power_modulo : FuncData
  d_power_modulo : Vb.Dn K mg "power_modulo" s_power_modulo ["prime", "number", "exponent"] f_power_modulo fd_power_modulo
  f__law_mix : Addr
  fd__law_mix : FuncData
  d__law_mix : Vb.Dn K mg "_law_mix" s__law_mix ["number", "turn"] f__law_mix fd__law_mix
  f__law_store : Addr
  fd__law_store : FuncData
  d__law_store : Vb.Dn K mg "_law_store" s__law_store ["script"] f__law_store fd__law_store
  f__law_take : Addr
  fd__law_take : FuncData
  d__law_take : Vb.Dn K mg "_law_take" s__law_take ["store", "many"] f__law_take fd__law_take
  f__law_edge : Addr
  fd__law_edge : FuncData
  d__law_edge : Vb.Dn K mg "_law_edge" s__law_edge ["store", "low", "high"] f__law_edge fd__law_edge
  f__law_pick : Addr
  fd__law_pick : FuncData
  d__law_pick : Vb.Dn K mg "_law_pick" s__law_pick ["store", "row"] f__law_pick fd__law_pick
  f__law_big : Addr
  fd__law_big : FuncData
  d__law_big : Vb.Dn K mg "_law_big" s__law_big ["store", "figures"] f__law_big fd__law_big
  f__law_signed : Addr
  fd__law_signed : FuncData
  d__law_signed : Vb.Dn K mg "_law_signed" s__law_signed ["store"] f__law_signed fd__law_signed
  f__law_other_kind : Addr
  fd__law_other_kind : FuncData
  d__law_other_kind : Vb.Dn K mg "_law_other_kind" s__law_other_kind ["store"] f__law_other_kind fd__law_other_kind
  f__law_bad_integer : Addr
  fd__law_bad_integer : FuncData
  d__law_bad_integer : Vb.Dn K mg "_law_bad_integer" s__law_bad_integer ["store", "low", "high"] f__law_bad_integer fd__law_bad_integer
  f__law_primes : Addr
  fd__law_primes : FuncData
  d__law_primes : Vb.Dn K mg "_law_primes" s__law_primes ["limit"] f__law_primes fd__law_primes
  f__law_prime : Addr
  fd__law_prime : FuncData
  d__law_prime : Vb.Dn K mg "_law_prime" s__law_prime ["store"] f__law_prime fd__law_prime
  f__law_small_prime : Addr
  fd__law_small_prime : FuncData
  d__law_small_prime : Vb.Dn K mg "_law_small_prime" s__law_small_prime ["store"] f__law_small_prime fd__law_small_prime
  f__law_number : Addr
  fd__law_number : FuncData
  d__law_number : Vb.Dn K mg "_law_number" s__law_number ["store", "prime"] f__law_number fd__law_number
  f__law_bad_number : Addr
  fd__law_bad_number : FuncData
  d__law_bad_number : Vb.Dn K mg "_law_bad_number" s__law_bad_number ["store", "prime"] f__law_bad_number fd__law_bad_number
  f__law_same : Addr
  fd__law_same : FuncData
  d__law_same : Vb.Dn K mg "_law_same" s__law_same ["actual", "expected"] f__law_same fd__law_same
  f__law_integer : Addr
  fd__law_integer : FuncData
  d__law_integer : Vb.Dn K mg "_law_integer" s__law_integer ["actual"] f__law_integer fd__law_integer
  f__law_field_power : Addr
  fd__law_field_power : FuncData
  d__law_field_power : Vb.Dn K mg "_law_field_power" s__law_field_power ["prime", "base", "exponent"] f__law_field_power fd__law_field_power
  f__law_raised : Addr
  fd__law_raised : FuncData
  d__law_raised : Vb.Dn K mg "_law_raised" s__law_raised ["field", "number", "exponent"] f__law_raised fd__law_raised
  f__law_too_large : Addr
  fd__law_too_large : FuncData
  d__law_too_large : Vb.Dn K mg "_law_too_large" s__law_too_large ["field", "number"] f__law_too_large fd__law_too_large
  f__law_exponents : Addr
  fd__law_exponents : FuncData
  d__law_exponents : Vb.Dn K mg "_law_exponents" s__law_exponents ["store", "prime"] f__law_exponents fd__law_exponents
  f__law_powers_hold : Addr
  fd__law_powers_hold : FuncData
  d__law_powers_hold : Vb.Dn K mg "_law_powers_hold" s__law_powers_hold ["prime", "field", "number", "one", "two"] f__law_powers_hold fd__law_powers_hold
  f__law_refusals : Addr
  fd__law_refusals : FuncData
  d__law_refusals : Vb.Dn K mg "_law_refusals" s__law_refusals ["store", "prime", "field", "number"] f__law_refusals fd__law_refusals
  f__law_remains : Addr
  fd__law_remains : FuncData
  d__law_remains : Vb.Dn K mg "_law_remains" s__law_remains ["prime", "field", "integer"] f__law_remains fd__law_remains
  f__law_integers : Addr
  fd__law_integers : FuncData
  d__law_integers : Vb.Dn K mg "_law_integers" s__law_integers ["store", "prime"] f__law_integers fd__law_integers
  f_law : Addr
  fd_law : FuncData
  d_law : Vb.Dn K mg "law" s_law ["script"] f_law fd_law
  C_Field : Addr
  g_Field : mg "Field" = some (.ref C_Field)
  c_Field : Cls K C_Field
  f_Field___init__ : Addr
  fd_Field___init__ : FuncData
  m_Field___init__ : Meth K C_Field "__init__" f_Field___init__
  d_Field___init__ : Vb.Dm K "__init__" "Field.__init__" s_Field___init__ ["self", "prime"] f_Field___init__ fd_Field___init__
  f_Field___contains__ : Addr
  fd_Field___contains__ : FuncData
  m_Field___contains__ : Meth K C_Field "__contains__" f_Field___contains__
  d_Field___contains__ : Vb.Dm K "__contains__" "Field.__contains__" s_Field___contains__ ["self", "value"] f_Field___contains__ fd_Field___contains__
  f_Field___eq__ : Addr
  fd_Field___eq__ : FuncData
  m_Field___eq__ : Meth K C_Field "__eq__" f_Field___eq__
  d_Field___eq__ : Vb.Dm K "__eq__" "Field.__eq__" s_Field___eq__ ["self", "other"] f_Field___eq__ fd_Field___eq__
  f_Field_add : Addr
  fd_Field_add : FuncData
  m_Field_add : Meth K C_Field "add" f_Field_add
  d_Field_add : Vb.Dm K "add" "Field.add" s_Field_add ["self", "number", "other_number"] f_Field_add fd_Field_add
  f_Field_subtract : Addr
  fd_Field_subtract : FuncData
  m_Field_subtract : Meth K C_Field "subtract" f_Field_subtract
  d_Field_subtract : Vb.Dm K "subtract" "Field.subtract" s_Field_subtract ["self", "number", "other_number"] f_Field_subtract fd_Field_subtract
  f_Field_multiply : Addr
  fd_Field_multiply : FuncData
  m_Field_multiply : Meth K C_Field "multiply" f_Field_multiply
  d_Field_multiply : Vb.Dm K "multiply" "Field.multiply" s_Field_multiply ["self", "number", "other_number"] f_Field_multiply fd_Field_multiply
  f_Field_divide : Addr
  fd_Field_divide : FuncData
  m_Field_divide : Meth K C_Field "divide" f_Field_divide
  d_Field_divide : Vb.Dm K "divide" "Field.divide" s_Field_divide ["self", "number", "other_number"] f_Field_divide fd_Field_divide
  f_Field_negate : Addr
  fd_Field_negate : FuncData
  m_Field_negate : Meth K C_Field "negate" f_Field_negate
  d_Field_negate : Vb.Dm K "negate" "Field.negate" s_Field_negate ["self", "number"] f_Field_negate fd_Field_negate
  f_Field_invert : Addr
  fd_Field_invert : FuncData
  m_Field_invert : Meth K C_Field "invert" f_Field_invert
  d_Field_invert : Vb.Dm K "invert" "Field.invert" s_Field_invert ["self", "number"] f_Field_invert fd_Field_invert
  f_Field_power : Addr
  fd_Field_power : FuncData
  m_Field_power : Meth K C_Field "power" f_Field_power
  d_Field_power : Vb.Dm K "power" "Field.power" s_Field_power ["self", "number", "exponent"] f_Field_power fd_Field_power
  f_Field_reduce : Addr
  fd_Field_reduce : FuncData
  m_Field_reduce : Meth K C_Field "reduce" f_Field_reduce
  d_Field_reduce : Vb.Dm K "reduce" "Field.reduce" s_Field_reduce ["self", "integer"] f_Field_reduce fd_Field_reduce
  f_Field_members : Addr
  fd_Field_members : FuncData
  m_Field_members : Meth K C_Field "members" f_Field_members
  d_Field_members : Vb.Dm K "members" "Field.members" s_Field_members ["self"] f_Field_members fd_Field_members
  mk_Field : Mk K C_Field f_Field___init__
  a_Field_prime : PySem.W.findIn K (.ref C_Field) "prime" = some none
  xs_OutOfRange_NotInField : PySem.W.subIn K (.ref C_OutOfRange) (.ref C_NotInField) = some false
  ki_Field : Vb.Ki K C_Field
  sb_Field_int : PySem.W.subIn K (.type "int") (.ref C_Field) = some false
  sb_Field_str : PySem.W.subIn K (.type "str") (.ref C_Field) = some false
  sb_Field_NoneType : PySem.W.subIn K (.type "NoneType") (.ref C_Field) = some false
  sb_Field_bool : PySem.W.subIn K (.type "bool") (.ref C_Field) = some false
  sb_Field_list : PySem.W.subIn K (.type "list") (.ref C_Field) = some false
  sb_Field_tuple : PySem.W.subIn K (.type "tuple") (.ref C_Field) = some false
  t_TEN_TO_300 : Tok
  c_TEN_TO_300 : mg "TEN_TO_300" = some (.int 1000000000000000000000000000000000000000000000000000000000000000000000000000000000000000000000000000000000000000000000000000000000000000000000000000000000000000000000000000000000000000000000000000000000000000000000000000000000000000000000000000000000000000000000000000000000000000000000000000000000000 t_TEN_TO_300)
  t_MAX_PRIME : Tok
  c_MAX_PRIME : mg "MAX_PRIME" = some (.int 101 t_MAX_PRIME)
  t_MAX_TESTED : Tok
  c_MAX_TESTED : mg "MAX_TESTED" = some (.int 10000 t_MAX_TESTED)
  t_MAX_EXPONENT : Tok
  c_MAX_EXPONENT : mg "MAX_EXPONENT" = some (.int 10000 t_MAX_EXPONENT)
  n_ValueError : mg "ValueError" = none
  n_max : mg "max" = none
  n_range : mg "range" = none
  n_isinstance : mg "isinstance" = none
  n_int : mg "int" = none
  n_str : mg "str" = none
  n_list : mg "list" = none
  n_len : mg "len" = none
  n_bool : mg "bool" = none
  n_abs : mg "abs" = none
  n_min : mg "min" = none
  n_tuple : mg "tuple" = none
end K
local macro_rules | `(tactic| walk_at "rd1") => `(tactic| first
  | (with_reducible refine' Vb.r_var ?h_ ?k_); (case h_ => exact rfl)
  | with_reducible refine Vb.r_c ?_
  | with_reducible refine Vb.r_op ?_
  | with_reducible refine Vb.r_un ?_
  | with_reducible refine Vb.r_I0 ?_
  | (with_reducible refine Vb.r_I ?h_ ?_); (case h_ => walk_at "side")
  | with_reducible refine Vb.r_U ?_
  | with_reducible refine Vb.r_eqI ?_
  | with_reducible refine Vb.r_neI ?_
  | with_reducible refine Vb.r_test ?_
  | with_reducible refine Vb.r_tB ?_
  | with_reducible refine Vb.r_bl ?_
  | with_reducible refine Vb.r_and ?_
  | with_reducible refine Vb.r_or ?_
  | with_reducible refine Vb.r_not ?_
  | with_reducible refine Vb.r_andV ?_
  | with_reducible refine Vb.r_orV ?_
  | with_reducible refine Vb.r_notV ?_
  | with_reducible refine Vb.r_if ?_
  | with_reducible refine Vb.r_chain ?_
  | with_reducible refine Vb.r_iteT ?_
  | with_reducible refine Vb.r_iteF ?_
  | with_reducible refine Vb.r_iteNT ?_
  | with_reducible refine Vb.r_iteNF ?_
  | with_reducible refine Vb.r_nil ?_
  | with_reducible refine Vb.r_cons ?_
  | with_reducible refine Vb.r_tup ?_
  | with_reducible refine Vb.r_lst ?_
  | with_reducible refine Vb.r_CB ?_
  | with_reducible refine Vb.r_callS ?_
  | with_reducible refine Vb.r_call ?_
  | with_reducible refine Vb.r_BM ?_
  | with_reducible refine Vb.r_seq_set ?_
  | with_reducible refine Vb.r_seq_sub ?_
  | with_reducible refine Vb.r_seq_when ?_
  | with_reducible refine Vb.r_seq_if ?_
  | with_reducible refine Vb.r_seq_drop ?_
  | with_reducible refine Vb.r_seq ?_
  | with_reducible refine Vb.r_set ?_
  | with_reducible refine Vb.r_sub ?_
  | with_reducible refine Vb.r_when ?_
  | with_reducible refine Vb.r_ifs ?_
  | with_reducible refine Vb.r_drop ?_
  | with_reducible refine Vb.r_ret ?_
  | with_reducible refine Vb.r_brk ?_
  | with_reducible refine Vb.r_cnt ?_
  | with_reducible refine Vb.r_nxt ?_
  | with_reducible refine Vb.r_for ?_
  | with_reducible refine Vb.r_rng1 ?_
  | with_reducible refine Vb.r_rng2 ?_
  | with_reducible refine Vb.r_iList ?_
  | with_reducible refine Vb.r_gName ?_
  | with_reducible refine Vb.r_lc ?_
  | with_reducible refine Vb.lct_yes ?_
  | with_reducible refine Vb.lct_if ?_
  | with_reducible refine Vb.r_rng3 ?_
  | with_reducible refine Vb.r_rngW ?_
  | with_reducible refine Vb.r_eqBs ?_
  | with_reducible refine Vb.r_eqB ?_
  | with_reducible refine Vb.r_neB ?_
  | with_reducible refine Vb.r_eqS ?_
  | with_reducible refine Vb.r_neS ?_
  | with_reducible refine Vb.r_revL ?_
  | with_reducible refine Vb.r_isBl ?_
  | with_reducible refine Vb.r_notBl ?_
  | with_reducible refine Vb.r_sl ?_
  | with_reducible refine Vb.r_noP ?_
  | with_reducible refine Vb.r_part ?_
  | with_reducible refine Vb.r_iTup ?_
  | with_reducible refine Vb.r_isN ?_
  | with_reducible refine Vb.r_sfld ?_
  | with_reducible refine Vb.r_tfld ?_
  | with_reducible refine Vb.r_meth ?_
  | with_reducible refine Vb.r_make ?_
  | with_reducible refine Vb.r_methK ?_
  | with_reducible refine Vb.r_listRg ?_
  | with_reducible refine Vb.r_rg1 ?_
  | with_reducible refine Vb.r_rg2 ?_
  | with_reducible refine Vb.r_notN ?_
  | with_reducible refine Vb.r_BM0 ?_
  | with_reducible refine Vb.r_abs ?_
  | with_reducible refine Vb.r_max2 ?_
  | with_reducible refine Vb.r_min2 ?_
  | with_reducible refine Vb.r_int ?_
  | with_reducible refine Vb.r_intB ?_
  | (with_reducible refine' Vb.r_ixL ?h1_ ?h2_ ?k_); (case h1_ => walk_at "hp"); (case h2_ => walk_at "at")
  | (with_reducible refine' Vb.r_ixT ?h1_ ?h2_ ?k_); (case h1_ => walk_at "hp"); (case h2_ => walk_at "at")
  | (with_reducible refine' Vb.r_len ?h1_ ?k_); (case h1_ => walk_at "hp")
  | (with_reducible refine' Vb.r_lenT ?h1_ ?k_); (case h1_ => walk_at "hp")
  | (with_reducible refine' Vb.r_setL ?h1_ ?h2_ ?k_); (case h1_ => walk_at "hp"); (case h2_ => walk_at "at")
  | (with_reducible refine' Vb.r_rev ?h1_ ?k_); (case h1_ => walk_at "hp")
  | (with_reducible refine' Vb.r_isB ?h1_ ?h2_ ?k_); (case h1_ => assumption); (case h2_ => first | exact (rfl : _ = true) | exact (rfl : _ = false) | exact rfl)
  | (with_reducible refine' Vb.r_isI ?h1_ ?h2_ ?k_); (case h1_ => assumption); (case h2_ => first | exact (rfl : _ = true) | exact (rfl : _ = false) | exact rfl)
  | (with_reducible refine' Vb.r_isS ?h1_ ?h2_ ?k_); (case h1_ => assumption); (case h2_ => first | exact (rfl : _ = true) | exact (rfl : _ = false) | exact rfl)
  | (with_reducible refine' Vb.r_isL ?h1_ ?h2_ ?k_); (case h1_ => assumption); (case h2_ => first | exact (rfl : _ = true) | exact (rfl : _ = false) | exact rfl)
  | (with_reducible refine' Vb.r_isT ?h1_ ?h2_ ?k_); (case h1_ => assumption); (case h2_ => first | exact (rfl : _ = true) | exact (rfl : _ = false) | exact rfl)
  | (with_reducible refine Vb.f_rng1 ?h1_ ?h2_ ?_); (case h1_ => walk_at "side"); (case h2_ => walk_at "side")
  | (with_reducible refine Vb.f_rng2 ?h1_ ?_); (case h1_ => walk_at "side4")
  | (with_reducible refine Vb.c_rng1 ?h1_ ?h2_ ?_); (case h1_ => walk_at "side"); (case h2_ => walk_at "side")
  | (with_reducible refine Vb.c_rng2 ?h1_ ?_); (case h1_ => walk_at "side4")
  | (with_reducible refine' Vb.f_list ?h1_ ?k_); (case h1_ => walk_at "hp")
  | (with_reducible refine' Vb.f_tup ?h1_ ?k_); (case h1_ => walk_at "hp")
  | (with_reducible refine' Vb.c_list ?h1_ ?k_); (case h1_ => walk_at "hp")
  | (with_reducible refine' Vb.c_tup ?h1_ ?k_); (case h1_ => walk_at "hp")
  | (with_reducible refine Vb.f_rngW ?h1_ ?_); (case h1_ => walk_at "sideW")
  | (with_reducible refine Vb.c_rngW ?h1_ ?_); (case h1_ => walk_at "sideW")
  | (with_reducible refine' Vb.r_ty ?h1_ ?k_); (case h1_ => walk_at "hp")
  | (with_reducible refine' Vb.r_isXr ?h1_ ?h2_ ?k_); (case h1_ => assumption); (case h2_ => walk_at "xd")
  | (with_reducible refine' Vb.r_isXt ?h1_ ?h2_ ?k_); (case h1_ => assumption); (case h2_ => walk_at "xd")
  | (with_reducible refine Vb.r_xf ?_)
  | (with_reducible refine' Vb.r_atM ?h1_ ?h2_ ?k_); (case h1_ => walk_at "hp"); (case h2_ => exact rfl)
  | (with_reducible refine' Vb.r_fldV ?h1_ ?h2_ ?h3_ ?h4_ ?k_); (case h1_ => walk_at "hp"); (case h2_ => assumption); (case h3_ => assumption); (case h4_ => exact rfl)
  | (with_reducible refine' Vb.r_app ?h1_ ?h2_ ?k_); (case h1_ => walk_at "hp"); (case h2_ => walk_at "side"))
local macro_rules | `(tactic| walk_at "rd") => `(tactic| repeat walk_at "rd1")
local macro_rules | `(tactic| walk_at "side") => `(tactic| first | decide | omega | assumption | (refine Vb.size_lt ?_; (try simp only [List.length_map, List.length_append, List.length_cons, List.length_nil]); omega) | (refine Vb.size_ok ?_; (try simp only [List.length_map, List.length_append, List.length_cons, List.length_nil]); omega) | exact ⟨by decide, by decide +kernel⟩ | (constructor <;> omega) | (refine Or.inl ⟨?_, ?_⟩ <;> omega) | (refine Or.inr ⟨?_, ?_⟩ <;> omega) | (refine Or.inr ⟨?_, ?_⟩ <;> decide) | (refine Or.inl ⟨?_, ?_⟩ <;> decide))
local macro_rules | `(tactic| walk_at "hp") => `(tactic| first
  | assumption
  | exact L2.upd_same
  | ((with_reducible apply Vb.sq_of); walk_at "hp")
  | ((with_reducible apply Vb.st_of); walk_at "hp")
  | ((with_reducible refine' Vb.h_new ?n1_ ?k_); (case n1_ => assumption); (case k_ => walk_at "hp"))
  | ((with_reducible refine' Vb.h_ne ?n1_ ?k_); (case n1_ => assumption); (case k_ => walk_at "hp"))
  | ((with_reducible refine' Vb.h_ne ?n1_ ?k_); (case n1_ => exact Ne.symm (by assumption)); (case k_ => walk_at "hp"))
  | ((with_reducible refine' Vb.h_same ?n1_ ?k_); (case n1_ => assumption); (case k_ => walk_at "hp"))
  | ((with_reducible refine' Vb.h_fr ?n1_ ?n2_ ?k_); (case n1_ => assumption); (case n2_ => assumption); (case k_ => walk_at "hp")))
local macro_rules | `(tactic| walk_at "at") => `(tactic| first | exact Vb.at_lit 0 rfl rfl | exact Vb.at_lit 1 rfl rfl | exact Vb.at_lit 2 rfl rfl | exact Vb.at_lit 3 rfl rfl | exact Vb.at_lit 4 rfl rfl | exact Vb.ix_lit 1 rfl rfl | exact Vb.ix_lit 2 rfl rfl | exact Vb.ix_lit 3 rfl rfl | exact Vb.ix_lit 0 rfl rfl | exact Vb.ix_lit 4 rfl rfl | exact Vb.at_lit _ (by omega) (by assumption))
local macro_rules | `(tactic| walk_at "side4") => `(tactic| (refine ⟨?_, ?_, ?_, ?_⟩ <;> omega))
local macro_rules | `(tactic| walk_at "sideW") => `(tactic| first | (refine Or.inl ⟨?_, ?_, ?_, ?_⟩ <;> omega) | (refine Or.inr ?_; omega) | omega)
local macro_rules | `(tactic| walk_at "xd") => `(tactic| first | exact Or.inl rfl | exact Or.inr ⟨_, _, rfl, by walk_at "hp"⟩)
local macro_rules | `(tactic| walk_at "sm") => `(tactic| first
  | exact L2.Same.refl _
  | assumption
  | ((with_reducible refine' Vb.sm_new ?k_ ?n1_); (case n1_ => assumption); (case k_ => walk_at "sm"))
  | ((with_reducible refine' L2.Same.trans ?k_ ?n1_); (case n1_ => assumption); (case k_ => walk_at "sm"))
  | ((with_reducible refine' Vb.same_mut ?k_ ?n1_); (case n1_ => assumption); (case k_ => walk_at "sm")))
local macro_rules | `(tactic| walk_at "fr") => `(tactic| first
  | exact Vb.Fr.refl _ _
  | assumption
  | ((with_reducible refine' Vb.fr_new ?k_ ?n1_); (case n1_ => assumption); (case k_ => walk_at "fr"))
  | ((with_reducible refine' Vb.Fr.trans ?k_ ?n1_); (case n1_ => assumption); (case k_ => walk_at "fr"))
  | ((with_reducible refine' Vb.fr_same ?k_ ?n1_); (case n1_ => assumption); (case k_ => walk_at "fr")))
local macro_rules | `(tactic| walk_at "st") => `(tactic| first
  | assumption
  | ((with_reducible refine' Vb.st_new ?k_ ?n1_); (case n1_ => assumption); (case k_ => walk_at "st"))
  | ((with_reducible refine' Vb.StoreAt.same ?k_ ?n1_); (case n1_ => assumption); (case k_ => walk_at "st")))
local macro_rules | `(tactic| walk_at "rx1") => `(tactic| first
  | walk_at "rd1"
  | ((with_reducible refine' Vb.r_newO ?h1_ (fun l_ n_ => ?k_)); (case h1_ => exact Vb.size_ok (Nat.le_of_ble_eq_true rfl))))
local macro_rules | `(tactic| walk_at "rx") => `(tactic| repeat walk_at "rx1")

namespace K
open PySem PySem.Spec PyProof.Rows L2
abbrev N__law_mix : List Str := ["number", "turn", "one", "two", "three"]
theorem sc__law_mix : FnScope N__law_mix ["number", "turn"] (defScope s__law_mix) := ⟨rfl, rfl, rfl, by decide +kernel, rfl, by decide +kernel, by decide +kernel⟩
section
variable {P : Program} {w : World} {K : PySem.W.Frag} {mg : Str → Option Value} {base : Heap}
def sp_mix (K : PySem.W.Frag) : Sp := fun vs H Q _ => ∃ a b : Int, vs = [.int a, .int b] ∧ ∀ r : Int, Q (.int r) H
theorem ok_mix (T : Txt K mg) : FnOk P w K mg base (L2N.CX P w) 1 T.f__law_mix T.fd__law_mix ["number", "turn"] (sp_mix K) := by
  refine Vb.okN T.d__law_mix.F sc__law_mix (fun vs H Q E h => ?_) (fun cdv A outer s H vs Q E hr h => ?_)
  · obtain ⟨a, b, rfl, _⟩ := h
    rfl
  · obtain ⟨a, b, rfl, q⟩ := h
    refine ⟨_, (pss_cons (ps_set (i := 2) sc__law_mix.nd rfl (by first | exact Or.inl rfl | exact Or.inr rfl) (pe_op op_mod (pe_callTy Vb.call_int (by rfl) T.n_int (by decide +kernel) (pa_cons (pe_op op_add (pe_op op_add (pe_op op_mul (pv 0) pe_int) (pe_op op_mul (pv 1) pe_int)) pe_int) pa_nil)) pe_int))
      (pss_cons (ps_set (i := 3) sc__law_mix.nd rfl (by first | exact Or.inl rfl | exact Or.inr rfl) (pe_op op_mod (pe_callTy Vb.call_int (by rfl) T.n_int (by decide +kernel) (pa_cons (pe_op op_add (pe_op op_add (pe_op op_mul (pv 2) (pv 2)) (pe_op op_mul (pv 1) pe_int)) pe_int) pa_nil)) pe_int))
      (pss_cons (ps_set (i := 4) sc__law_mix.nd rfl (by first | exact Or.inl rfl | exact Or.inr rfl) (pe_op op_mod (pe_callTy Vb.call_int (by rfl) T.n_int (by decide +kernel) (pa_cons (pe_op op_add (pe_op op_mul (pv 3) (pe_op op_add (pe_op op_fdiv (pv 3) pe_int) pe_int)) (pv 2)) pa_nil)) pe_int))
      (pss_one (ps_ret (pe_op op_fdiv (pv 4) pe_int)))))), ?_⟩
    (change (_ : L2.TS) _ ([some (.int a), some (.int b), none, none, none] : L2.St) _); try dsimp only [L2.cxOf, L2H.cxH]
    walk_at "rd"
    exact q _
theorem use_mix {K : PySem.W.Frag} {a b : Int} {H : Hp} {Q : VK} {E : XK} (h : ∀ r : Int, Q (.int r) H) : sp_mix K [.int a, .int b] H Q E := ⟨a, b, rfl, h⟩
end
end K
namespace K
open PySem PySem.Spec PyProof.Rows L2
abbrev N__law_take : List Str := ["store", "many", "cell", "rest"]
theorem sc__law_take : FnScope N__law_take ["store", "many"] (defScope s__law_take) := ⟨rfl, rfl, rfl, by decide +kernel, rfl, by decide +kernel, by decide +kernel⟩
section
variable {P : Program} {w : World} {K : PySem.W.Frag} {mg : Str → Option Value} {base : Heap}
def sp_take (K : PySem.W.Frag) : Sp := fun vs H Q _ => ∃ (st : Addr) (m : Int), vs = [.ref st, .int m] ∧ Vb.StoreAt H st ∧ m < 1073741824 ∧ ∀ (v : Int) (H' : Hp), 0 ≤ v → (1 < m → v < m) → (m ≤ 1 → v = 0) → Vb.Fr st H H' → Vb.StoreAt H' st → Q (.int v) H'
theorem ok_take (T : Txt K mg) : FnOk P w K mg base (L2N.CX P w) 2 T.f__law_take T.fd__law_take ["store", "many"] (sp_take K) := by
  have G__law_mix := ok_mix (P := P) (w := w) (base := base) T
  refine Vb.okN T.d__law_take.F sc__law_take (fun vs H Q E h => ?_) (fun cdv A outer s H vs Q E hr h => ?_)
  · obtain ⟨a, b, rfl, _⟩ := h
    rfl
  · obtain ⟨st, m, rfl, ⟨l, ns, pos, rest, turn, seed, hl, h1, h2, h3, h4⟩, hm, q⟩ := h
    refine ⟨_, (pss_cons (ps_set (i := 1) sc__law_take.nd rfl (by first | exact Or.inl rfl | exact Or.inr rfl) (pe_callB (Vb.call_max2 rfl) (by rfl) T.n_max (by decide +kernel) (pa_cons pe_int (pa_cons (pv 1) pa_nil))))
      (pss_cons (ps_asg (pe_op op_add (pe_callTy Vb.call_int (by rfl) T.n_int (by decide +kernel) (pa_cons (pe_ix ix_list (pv 0) pe_int (fun _ _ => rfl)) pa_nil)) pe_int) (pg_sub (pv 0) pe_int set_list))
      (pss_cons (ps_if (PW.pt (pw_and (pt_cmpR op_eq (pe_ix ix_list (pv 0) pe_int (fun _ _ => rfl)) pe_int (nomark _)) (pw_and1 (pt_cmpR op_lt (pe_ix ix_list (pv 0) pe_int (fun _ _ => rfl)) (pe_callB Vb.call_len (by rfl) T.n_len (by decide +kernel) (pa_cons (pe_ix ix_list (pv 0) pe_int (fun _ _ => rfl)) pa_nil)) (nomark _))))) (pss_cons (ps_set (i := 2) sc__law_take.nd rfl (by first | exact Or.inl rfl | exact Or.inr rfl) (pe_callTy Vb.call_int (by rfl) T.n_int (by decide +kernel) (pa_cons (pe_ix ix_list (pe_ix ix_list (pv 0) pe_int (fun _ _ => rfl)) (pe_ix ix_list (pv 0) pe_int (fun _ _ => rfl)) (fun _ _ => rfl)) pa_nil)))
      (pss_cons (ps_asg (pe_op op_add (pe_ix ix_list (pv 0) pe_int (fun _ _ => rfl)) pe_int) (pg_sub (pv 0) pe_int set_list))
      (pss_cons (ps_if (pt_cmpR op_lt (pe_callB Vb.call_abs (by rfl) T.n_abs (by decide +kernel) (pa_cons (pv 2) pa_nil)) (pe_op Vb.op_powB pe_int pe_int) (nomark _)) (pss_one (ps_ret (pe_op op_mod (pe_callTy Vb.call_int (by rfl) T.n_int (by decide +kernel) (pa_cons (pe_callS G__law_mix (hr.mono (by first | decide | omega)) (by rfl) T.d__law_mix.g T.d__law_mix.F.kp T.d__law_mix.b (fun σ => L2N.passAt (L2N.takes_of rfl rfl rfl rfl) σ) (pa_cons (pv 2) (pa_cons (pe_ix ix_list (pv 0) pe_int (fun _ _ => rfl)) pa_nil))) pa_nil)) (pv 1)))) pss_nil)
      (pss_one (ps_asg (pe_op op_mod (pe_callB Vb.call_abs (by rfl) T.n_abs (by decide +kernel) (pa_cons (pv 2) pa_nil)) (pe_op Vb.op_powB (pe_op Vb.op_powB pe_int pe_int) pe_int)) (pg_sub (pv 0) pe_int set_list)))))) pss_nil)
      (pss_cons (ps_if (pt_cmpR op_gt (pe_ix ix_list (pv 0) pe_int (fun _ _ => rfl)) pe_int (nomark _)) (pss_cons (ps_set (i := 3) sc__law_take.nd rfl (by first | exact Or.inl rfl | exact Or.inr rfl) (pe_callTy Vb.call_int (by rfl) T.n_int (by decide +kernel) (pa_cons (pe_ix ix_list (pv 0) pe_int (fun _ _ => rfl)) pa_nil)))
      (pss_cons (ps_asg (pe_op op_fdiv (pv 3) (pv 1)) (pg_sub (pv 0) pe_int set_list))
      (pss_one (ps_ret (pe_op op_mod (pv 3) (pv 1)))))) pss_nil)
      (pss_one (ps_ret (pe_op op_mod (pe_callTy Vb.call_int (by rfl) T.n_int (by decide +kernel) (pa_cons (pe_callS G__law_mix (hr.mono (by first | decide | omega)) (by rfl) T.d__law_mix.g T.d__law_mix.F.kp T.d__law_mix.b (fun σ => L2N.passAt (L2N.takes_of rfl rfl rfl rfl) σ) (pa_cons (pe_ix ix_list (pv 0) pe_int (fun _ _ => rfl)) (pa_cons (pe_ix ix_list (pv 0) pe_int (fun _ _ => rfl)) pa_nil))) pa_nil)) (pv 1)))))))), ?_⟩
    (change (_ : L2.TS) _ ([some (.ref st), some (.int m), none, none] : L2.St) _); try dsimp only [L2.cxOf, L2H.cxH]
    walk_at "rd"
    have hd : ∀ {H' : Hp} {t : List V}, H' st = some (.lst (.ref l :: t)) → ∀ (l' : Addr) (r : List V), H st = some (.lst (.ref l' :: r)) → ∃ r', H' st = some (.lst (.ref l' :: r')) := fun e l' r h => by
      rw [h1] at h
      cases h
      exact ⟨_, e⟩
    have hmm : 0 < (if m > 1 then m else 1) := by split <;> omega
    have hm2 : (if m > 1 then m else 1) < 1073741824 := by split <;> omega
    have out : ∀ (z : Int) (H' : Hp), Vb.Fr st H H' → Vb.StoreAt H' st → Q (.int (z % (if m > 1 then m else 1))) H' := fun z H' f1 f2 => by
      have e1 := Int.emod_nonneg z (show (if m > 1 then m else 1) ≠ 0 by omega)
      have e2 := Int.emod_lt_of_pos z hmm
      generalize z % (if m > 1 then m else 1) = r at e1 e2 ⊢
      refine q _ _ e1 (fun h => ?_) (fun h => ?_) f1 f2
      · rw [if_pos h] at e2; exact e2
      · rw [if_neg (by omega)] at e2; omega
    have nz : ∀ z : Int, 0 ≤ z → 0 ≤ z / (if m > 1 then m else 1) := fun z h => Int.ediv_nonneg h (by omega)
    generalize (if m > 1 then m else 1) = mm at hmm hm2 out nz ⊢
    refine Vb.r_ite (fun c1 => ?_) (fun c1 => ?_)
    · walk_at "rd"
      refine Vb.r_ite (fun c2 => ?_) (fun c2 => ?_)
      · walk_at "rd"
        rw [List.length_map] at c2
        have hz : (ns.map V.int)[pos.toNat]? = some (.int ns[pos.toNat]) := Vb.getV (by omega)
        refine Vb.r_ixL (by walk_at "hp") (Vb.at_lit pos.toNat (by omega) hz) ?_
        generalize ns[pos.toNat] = cell
        walk_at "rd"
        refine Vb.r_ite (fun c3 => ?_) (fun c3 => ?_)
        · walk_at "rd"
          refine use_mix fun r => ?_
          walk_at "rd"
          refine out _ _ ⟨fun b o n h => by walk_at "hp", hd L2.upd_same⟩ ⟨l, ns, pos + 1, rest, turn + 1, seed, hl, L2.upd_same, by walk_at "hp", by omega, h4⟩
        · walk_at "rd"
          have hg : 0 ≤ (if cell < 0 then -cell else cell) % (10 ^ Int.toNat 60) ^ Int.toNat 20 := Int.emod_nonneg _ (by decide +kernel)
          generalize (if cell < 0 then -cell else cell) % (10 ^ Int.toNat 60) ^ Int.toNat 20 = gr at hg ⊢
          refine Vb.r_ite (fun c4 => ?_) (fun c4 => ?_)
          · walk_at "rd"
            refine out _ _ ⟨fun b o n h => by walk_at "hp", hd L2.upd_same⟩ ⟨l, ns, pos + 1, gr / mm, turn + 1, seed, hl, L2.upd_same, by walk_at "hp", by omega, nz _ hg⟩
          · walk_at "rd"
            refine use_mix fun r => ?_
            walk_at "rd"
            refine out _ _ ⟨fun b o n h => by walk_at "hp", hd L2.upd_same⟩ ⟨l, ns, pos + 1, gr, turn + 1, seed, hl, L2.upd_same, by walk_at "hp", by omega, hg⟩
      · walk_at "rd"
        refine Vb.r_ite (fun c3 => absurd c3 (by omega)) (fun c3 => ?_)
        walk_at "rd"
        refine use_mix fun r => ?_
        walk_at "rd"
        refine out _ _ ⟨fun b o n h => by walk_at "hp", hd L2.upd_same⟩ ⟨l, ns, pos, rest, turn + 1, seed, hl, L2.upd_same, by walk_at "hp", by omega, h4⟩
    · walk_at "rd"
      refine Vb.r_ite (fun c3 => ?_) (fun c3 => absurd c3 (by omega))
      walk_at "rd"
      refine out _ _ ⟨fun b o n h => by walk_at "hp", hd L2.upd_same⟩ ⟨l, ns, pos, rest / mm, turn + 1, seed, hl, L2.upd_same, by walk_at "hp", h3, nz _ h4⟩
theorem use_take {st : Addr} {m : Int} {H : Hp} {Q : VK} {E : XK} (h1 : Vb.StoreAt H st) (h2 : m < 1073741824) (h : ∀ (v : Int) (H' : Hp), 0 ≤ v → (1 < m → v < m) → (m ≤ 1 → v = 0) → Vb.Fr st H H' → Vb.StoreAt H' st → Q (.int v) H') : sp_take K [.ref st, .int m] H Q E := ⟨st, m, rfl, h1, h2, h⟩
end
end K
namespace K
open PySem PySem.Spec PyProof.Rows L2


abbrev N__law_same : List Str := ["actual", "expected", "fitting", "k"]
theorem sc__law_same : FnScope N__law_same ["actual", "expected"] (defScope s__law_same) := ⟨rfl, rfl, rfl, by decide +kernel, rfl, by decide +kernel, by decide +kernel⟩
section
variable {P : Program} {w : World} {K : PySem.W.Frag} {mg : Str → Option Value} {base : Heap}
/-- two values of one piece of data are told to be the same; n: how deep it is -/
def sp_same (K : PySem.W.Frag) : Nat → Sp
  | 0 => fun _ _ _ _ => False
  | n + 1 => fun vs H Q _ => ∃ (v u : V) (d : PyData), vs = [v, u] ∧ Dp K H v d ∧ Dp K H u d ∧ Vb.DOk (n + 1) d ∧ Q (.bl true) H
theorem use_same {n : Nat} {v u : V} {H : Hp} {Q : VK} {E : XK} (d : PyData) (h1 : Dp K H v d) (h2 : Dp K H u d) (h3 : Vb.DOk (n + 1) d) (q : Q (.bl true) H) : sp_same K (n + 1) [v, u] H Q E := ⟨v, u, d, rfl, h1, h2, h3, q⟩
/-- the loop over the items -/
theorem same_items {n : Nat} {H : Hp} {xs ys : List V} {ds : List PyData} (a : DpAll K H xs ds) (b : DpAll K H ys ds) (h : ∀ d ∈ ds, Vb.DOk n d) {i : Nat} (hi : i < ds.length) : ∃ x y d, xs[i]? = some x ∧ ys[i]? = some y ∧ Dp K H x d ∧ Dp K H y d ∧ Vb.DOk n d := by
  obtain ⟨x, e1, h1⟩ := Vb.dpa_at a (List.getElem?_eq_getElem hi)
  obtain ⟨y, e2, h2⟩ := Vb.dpa_at b (List.getElem?_eq_getElem hi)
  exact ⟨x, y, ds[i], e1, e2, h1, h2, h _ (List.getElem_mem hi)⟩
theorem not_non {H : Hp} {v : V} {d : PyData} (h : Dp K H v d) (hd : d ≠ .none) : decide (v = .non) = false := by
  cases h with
  | non => exact absurd rfl hd
  | _ => rfl
theorem ok_same (T : Txt K mg) : ∀ n, FnOk P w K mg base (L2N.CX P w) (n + 1) T.f__law_same T.fd__law_same ["actual", "expected"] (sp_same K n)
  | 0 => ⟨fun _ _ _ _ h => h.elim, fun _ _ _ _ _ _ _ _ _ _ _ _ _ h => h.elim⟩
  | n + 1 => by
    have G__law_same := ok_same T n
    refine Vb.okN T.d__law_same.F sc__law_same (fun vs H Q E h => ?_) (fun cdv A outer s H vs Q E hr h => ?_)
    · obtain ⟨v, u, d, rfl, _⟩ := h
      rfl
    · obtain ⟨v, u, d, rfl, h1, h2, h3, q⟩ := h
      refine ⟨_, (pss_cons (ps_if (PW.pt (pw_or (pt_cmpR Vb.op_isN (pv 1) pe_non (nomark _)) (pw_or1 (pt_cmpR Vb.op_isN (pv 0) pe_non (nomark _))))) (pss_one (ps_ret (pe_and (pe_cmpR Vb.op_isN (pv 1) pe_non (nomark _)) (pe_one (pe_cmpR Vb.op_isN (pv 0) pe_non (nomark _)))))) pss_nil)
      (pss_cons (ps_if (PW.pt (pw_or (pt_val (pe_callB call_isi (by rfl) T.n_isinstance (by decide +kernel) (pa_cons (pv 1) (pa_cons (pe_bltn (v := .ty "bool") (by rfl) T.n_bool (by decide +kernel) rfl) pa_nil)))) (pw_or1 (pt_val (pe_callB call_isi (by rfl) T.n_isinstance (by decide +kernel) (pa_cons (pv 0) (pa_cons (pe_bltn (v := .ty "bool") (by rfl) T.n_bool (by decide +kernel) rfl) pa_nil))))))) (pss_one (ps_ret (pe_and (pe_callB call_isi (by rfl) T.n_isinstance (by decide +kernel) (pa_cons (pv 1) (pa_cons (pe_bltn (v := .ty "bool") (by rfl) T.n_bool (by decide +kernel) rfl) pa_nil))) (pe_and (pe_callB call_isi (by rfl) T.n_isinstance (by decide +kernel) (pa_cons (pv 0) (pa_cons (pe_bltn (v := .ty "bool") (by rfl) T.n_bool (by decide +kernel) rfl) pa_nil))) (pe_one (pe_cmpR op_eq (pv 0) (pv 1) (nomark _))))))) pss_nil)
      (pss_cons (ps_if (pt_val (pe_callB call_isi (by rfl) T.n_isinstance (by decide +kernel) (pa_cons (pv 1) (pa_cons (pe_bltn (v := .ty "int") (by rfl) T.n_int (by decide +kernel) rfl) pa_nil)))) (pss_one (ps_ret (pe_and (pe_callB call_isi (by rfl) T.n_isinstance (by decide +kernel) (pa_cons (pv 0) (pa_cons (pe_bltn (v := .ty "int") (by rfl) T.n_int (by decide +kernel) rfl) pa_nil))) (pe_one (pe_cmpR op_eq (pv 0) (pv 1) (nomark _)))))) pss_nil)
      (pss_cons (ps_if (pt_val (pe_callB call_isi (by rfl) T.n_isinstance (by decide +kernel) (pa_cons (pv 1) (pa_cons (pe_bltn (v := .ty "str") (by rfl) T.n_str (by decide +kernel) rfl) pa_nil)))) (pss_one (ps_ret (pe_and (pe_callB call_isi (by rfl) T.n_isinstance (by decide +kernel) (pa_cons (pv 0) (pa_cons (pe_bltn (v := .ty "str") (by rfl) T.n_str (by decide +kernel) rfl) pa_nil))) (pe_one (pe_cmpR op_eq (pv 0) (pv 1) (nomark _)))))) pss_nil)
      (pss_cons (ps_if (pt_val (pe_callB call_isi (by rfl) T.n_isinstance (by decide +kernel) (pa_cons (pv 1) (pa_cons (pe_bltn (v := .ty "list") (by rfl) T.n_list (by decide +kernel) rfl) pa_nil)))) (pss_one (ps_set (i := 2) sc__law_same.nd rfl (by first | exact Or.inl rfl | exact Or.inr rfl) (pe_callB call_isi (by rfl) T.n_isinstance (by decide +kernel) (pa_cons (pv 0) (pa_cons (pe_bltn (v := .ty "list") (by rfl) T.n_list (by decide +kernel) rfl) pa_nil))))) (pss_one (ps_set (i := 2) sc__law_same.nd rfl (by first | exact Or.inl rfl | exact Or.inr rfl) (pe_and (pe_callB call_isi (by rfl) T.n_isinstance (by decide +kernel) (pa_cons (pv 1) (pa_cons (pe_bltn (v := .ty "tuple") (by rfl) T.n_tuple (by decide +kernel) rfl) pa_nil))) (pe_one (pe_callB call_isi (by rfl) T.n_isinstance (by decide +kernel) (pa_cons (pv 0) (pa_cons (pe_bltn (v := .ty "tuple") (by rfl) T.n_tuple (by decide +kernel) rfl) pa_nil))))))))
      (pss_cons (ps_if (PW.pt (pw_or (pt_not (pt_val (pv 2))) (pw_or1 (pt_cmpR op_ne (pe_callB Vb.call_len (by rfl) T.n_len (by decide +kernel) (pa_cons (pv 0) pa_nil)) (pe_callB Vb.call_len (by rfl) T.n_len (by decide +kernel) (pa_cons (pv 1) pa_nil)) (nomark _))))) (pss_one (ps_ret pe_bl)) pss_nil)
      (pss_cons (ps_for (L2.passes_of rfl) rfl (pi_range1 rfl T.n_range (pa_cons (pe_callB Vb.call_len (by rfl) T.n_len (by decide +kernel) (pa_cons (pv 1) pa_nil)) pa_nil)) (pg_name (i := 3) sc__law_same.nd rfl (by first | exact Or.inl rfl | exact Or.inr rfl))
        (pss_one (ps_if (pt_not (pt_val (pe_callS G__law_same (hr.mono (by first | decide | omega)) (by rfl) T.d__law_same.g T.d__law_same.F.kp T.d__law_same.b (fun σ => L2N.passAt (L2N.takes_of rfl rfl rfl rfl) σ) (pa_cons (pe_ix ix_seq (pv 0) (pv 3) (fun _ _ => rfl)) (pa_cons (pe_ix ix_seq (pv 1) (pv 3) (fun _ _ => rfl)) pa_nil))))) (pss_one (ps_ret pe_bl)) pss_nil)))
      (pss_one (ps_ret pe_bl))))))))), ?_⟩
      (change (_ : L2.TS) _ ([some (v), some (u), none, none] : L2.St) _); try dsimp only [L2.cxOf, L2H.cxH]
      walk_at "rd"
      by_cases hn : d = .none
      · subst hn
        refine Vb.r_ite (fun _ => ?_) (fun c => absurd (Vb.is_non h2) c)
        walk_at "rd"
        refine Vb.r_ite (fun _ => ?_) (fun c => absurd (Vb.is_non h2) c)
        walk_at "rd"
        rw [decide_eq_true (Vb.is_non h1)]
        exact q
      refine Vb.r_ite (fun c => absurd c (Vb.not_non h2 hn)) (fun _ => ?_)
      walk_at "rd"
      refine Vb.r_ite (fun c => absurd c (Vb.not_non h1 hn)) (fun _ => ?_)
      cases d with
      | none => exact absurd rfl hn
      | bool b =>
        walk_at "rd"
        cases h1; cases h2
        refine ⟨rfl, ?_⟩
        rw [decide_eq_true rfl]
        exact q
      | int i =>
        walk_at "rd"
        cases h1; cases h2
        walk_at "rd"
        rw [decide_eq_true rfl]
        exact q
      | str x =>
        walk_at "rd"
        cases h1; cases h2
        refine ⟨rfl, ?_⟩
        rw [decide_eq_true rfl]
        exact q
      | list ds =>
        walk_at "rd"
        cases h1 with
        | @lst a xs _ s1 a1 =>
        cases h2 with
        | @lst b ys _ s2 a2 =>
        have l1 := Vb.dpa_len a1
        have l2 := Vb.dpa_len a2
        have hl := h3.1
        walk_at "rd"
        refine Vb.r_iteN (fun c => absurd (by omega) c) (fun _ => ?_)
        walk_at "rd"
        refine Vb.lp_range (fun i σ H' => i ≤ ds.length ∧ H' = H ∧ ∃ y, σ = [some (.ref a), some (.ref b), some (.bl true), y]) ⟨Nat.zero_le _, rfl, none, rfl⟩ ?_ ?_
        · rintro i σ H' hi ⟨_, rfl, y, rfl⟩
          have hi' : i < ds.length := by omega
          obtain ⟨x1, y1, d1, e1, e2, g1, g2, g3⟩ := same_items a1 a2 h3.2 hi'
          walk_at "rd"
          refine Vb.r_ixSL s1 (Vb.at_lit i (by omega) e1) ?_
          walk_at "rd"
          refine Vb.r_ixSL s2 (Vb.at_lit i (by omega) e2) ?_
          walk_at "rd"
          cases n with
          | zero => exact g3.elim
          | succ n =>
            refine use_same d1 g1 g2 g3 ?_
            walk_at "rd"
            exact ⟨by omega, rfl, _, rfl⟩
        · rintro σ H' ⟨_, rfl, y, rfl⟩
          walk_at "rd"
          exact q
      | tuple ds =>
        walk_at "rd"
        cases h1 with
        | @tup a xs _ s1 a1 =>
        cases h2 with
        | @tup b ys _ s2 a2 =>
        have l1 := Vb.dpa_len a1
        have l2 := Vb.dpa_len a2
        have hl := h3.1
        walk_at "rd"
        refine Vb.r_iteN (fun c => absurd (by omega) c) (fun _ => ?_)
        walk_at "rd"
        refine Vb.lp_range (fun i σ H' => i ≤ ds.length ∧ H' = H ∧ ∃ y, σ = [some (.ref a), some (.ref b), some (.bl true), y]) ⟨Nat.zero_le _, rfl, none, rfl⟩ ?_ ?_
        · rintro i σ H' hi ⟨_, rfl, y, rfl⟩
          have hi' : i < ds.length := by omega
          obtain ⟨x1, y1, d1, e1, e2, g1, g2, g3⟩ := same_items a1 a2 h3.2 hi'
          walk_at "rd"
          refine Vb.r_ixST s1 (Vb.at_lit i (by omega) e1) ?_
          walk_at "rd"
          refine Vb.r_ixST s2 (Vb.at_lit i (by omega) e2) ?_
          walk_at "rd"
          cases n with
          | zero => exact g3.elim
          | succ n =>
            refine use_same d1 g1 g2 g3 ?_
            walk_at "rd"
            exact ⟨by omega, rfl, _, rfl⟩
        · rintro σ H' ⟨_, rfl, y, rfl⟩
          walk_at "rd"
          exact q
      | dict kvs => cases h1
theorem okh_same (T : Txt K mg) : ∀ n, L2H.FnH P w K mg base CX0 (n + 1) T.f__law_same T.fd__law_same ["actual", "expected"] (sp_same K n)
  | 0 => ⟨fun _ _ _ _ h => h.elim, fun _ _ _ _ _ _ _ _ _ _ _ _ _ _ _ _ h => h.elim⟩
  | n + 1 => by
    have GH__law_same := okh_same T n
    refine Vb.okH T.d__law_same.F sc__law_same (fun vs H Q E h => ?_) (fun cdv A outer s H vs Q E p hot hr h => ?_)
    · obtain ⟨v, u, d, rfl, _⟩ := h
      rfl
    · obtain ⟨v, u, d, rfl, h1, h2, h3, q⟩ := h
      have hotc : L2H.HotC (L2H.cxH CX0 P w K mg base N__law_same "_law_same" (defScope s__law_same) T.f__law_same cdv A outer s H E p) := ⟨p, hot, List.mem_singleton.mpr rfl⟩
      refine ⟨_, (pss_cons (ps_if (PW.pt (pw_or (pt_cmpR Vb.op_isN (pv 1) pe_non (nomark _)) (pw_or1 (pt_cmpR Vb.op_isN (pv 0) pe_non (nomark _))))) (pss_one (ps_ret (pe_and (pe_cmpR Vb.op_isN (pv 1) pe_non (nomark _)) (pe_one (pe_cmpR Vb.op_isN (pv 0) pe_non (nomark _)))))) pss_nil)
      (pss_cons (ps_if (PW.pt (pw_or (pt_val (pe_callB call_isi (by rfl) T.n_isinstance (by decide +kernel) (pa_cons (pv 1) (pa_cons (pe_bltn (v := .ty "bool") (by rfl) T.n_bool (by decide +kernel) rfl) pa_nil)))) (pw_or1 (pt_val (pe_callB call_isi (by rfl) T.n_isinstance (by decide +kernel) (pa_cons (pv 0) (pa_cons (pe_bltn (v := .ty "bool") (by rfl) T.n_bool (by decide +kernel) rfl) pa_nil))))))) (pss_one (ps_ret (pe_and (pe_callB call_isi (by rfl) T.n_isinstance (by decide +kernel) (pa_cons (pv 1) (pa_cons (pe_bltn (v := .ty "bool") (by rfl) T.n_bool (by decide +kernel) rfl) pa_nil))) (pe_and (pe_callB call_isi (by rfl) T.n_isinstance (by decide +kernel) (pa_cons (pv 0) (pa_cons (pe_bltn (v := .ty "bool") (by rfl) T.n_bool (by decide +kernel) rfl) pa_nil))) (pe_one (pe_cmpR op_eq (pv 0) (pv 1) (nomark _))))))) pss_nil)
      (pss_cons (ps_if (pt_val (pe_callB call_isi (by rfl) T.n_isinstance (by decide +kernel) (pa_cons (pv 1) (pa_cons (pe_bltn (v := .ty "int") (by rfl) T.n_int (by decide +kernel) rfl) pa_nil)))) (pss_one (ps_ret (pe_and (pe_callB call_isi (by rfl) T.n_isinstance (by decide +kernel) (pa_cons (pv 0) (pa_cons (pe_bltn (v := .ty "int") (by rfl) T.n_int (by decide +kernel) rfl) pa_nil))) (pe_one (pe_cmpR op_eq (pv 0) (pv 1) (nomark _)))))) pss_nil)
      (pss_cons (ps_if (pt_val (pe_callB call_isi (by rfl) T.n_isinstance (by decide +kernel) (pa_cons (pv 1) (pa_cons (pe_bltn (v := .ty "str") (by rfl) T.n_str (by decide +kernel) rfl) pa_nil)))) (pss_one (ps_ret (pe_and (pe_callB call_isi (by rfl) T.n_isinstance (by decide +kernel) (pa_cons (pv 0) (pa_cons (pe_bltn (v := .ty "str") (by rfl) T.n_str (by decide +kernel) rfl) pa_nil))) (pe_one (pe_cmpR op_eq (pv 0) (pv 1) (nomark _)))))) pss_nil)
      (pss_cons (ps_if (pt_val (pe_callB call_isi (by rfl) T.n_isinstance (by decide +kernel) (pa_cons (pv 1) (pa_cons (pe_bltn (v := .ty "list") (by rfl) T.n_list (by decide +kernel) rfl) pa_nil)))) (pss_one (ps_set (i := 2) sc__law_same.nd rfl (by first | exact Or.inl rfl | exact Or.inr rfl) (pe_callB call_isi (by rfl) T.n_isinstance (by decide +kernel) (pa_cons (pv 0) (pa_cons (pe_bltn (v := .ty "list") (by rfl) T.n_list (by decide +kernel) rfl) pa_nil))))) (pss_one (ps_set (i := 2) sc__law_same.nd rfl (by first | exact Or.inl rfl | exact Or.inr rfl) (pe_and (pe_callB call_isi (by rfl) T.n_isinstance (by decide +kernel) (pa_cons (pv 1) (pa_cons (pe_bltn (v := .ty "tuple") (by rfl) T.n_tuple (by decide +kernel) rfl) pa_nil))) (pe_one (pe_callB call_isi (by rfl) T.n_isinstance (by decide +kernel) (pa_cons (pv 0) (pa_cons (pe_bltn (v := .ty "tuple") (by rfl) T.n_tuple (by decide +kernel) rfl) pa_nil))))))))
      (pss_cons (ps_if (PW.pt (pw_or (pt_not (pt_val (pv 2))) (pw_or1 (pt_cmpR op_ne (pe_callB Vb.call_len (by rfl) T.n_len (by decide +kernel) (pa_cons (pv 0) pa_nil)) (pe_callB Vb.call_len (by rfl) T.n_len (by decide +kernel) (pa_cons (pv 1) pa_nil)) (nomark _))))) (pss_one (ps_ret pe_bl)) pss_nil)
      (pss_cons (L2H.ps_forH (L2.passes_of rfl) hotc (L2H.pi_range1H rfl T.n_range (pa_cons (pe_callB Vb.call_len (by rfl) T.n_len (by decide +kernel) (pa_cons (pv 1) pa_nil)) pa_nil)) (pg_name (i := 3) sc__law_same.nd rfl (by first | exact Or.inl rfl | exact Or.inr rfl))
        (pss_one (ps_if (pt_not (pt_val (L2H.pe_callH GH__law_same (hr.mono (by first | decide | omega)) hotc rfl T.d__law_same.g T.d__law_same.F.kp T.d__law_same.b (fun σ => Vb.passH) (pa_cons (pe_ix ix_seq (pv 0) (pv 3) (fun _ _ => rfl)) (pa_cons (pe_ix ix_seq (pv 1) (pv 3) (fun _ _ => rfl)) pa_nil))))) (pss_one (ps_ret pe_bl)) pss_nil)))
      (pss_one (ps_ret pe_bl))))))))), ?_⟩
      (change (_ : L2.TS) _ ([some (v), some (u), none, none] : L2.St) _); try dsimp only [L2.cxOf, L2H.cxH]
      walk_at "rd"
      by_cases hn : d = .none
      · subst hn
        refine Vb.r_ite (fun _ => ?_) (fun c => absurd (Vb.is_non h2) c)
        walk_at "rd"
        refine Vb.r_ite (fun _ => ?_) (fun c => absurd (Vb.is_non h2) c)
        walk_at "rd"
        rw [decide_eq_true (Vb.is_non h1)]
        exact q
      refine Vb.r_ite (fun c => absurd c (Vb.not_non h2 hn)) (fun _ => ?_)
      walk_at "rd"
      refine Vb.r_ite (fun c => absurd c (Vb.not_non h1 hn)) (fun _ => ?_)
      cases d with
      | none => exact absurd rfl hn
      | bool b =>
        walk_at "rd"
        cases h1; cases h2
        refine ⟨rfl, ?_⟩
        rw [decide_eq_true rfl]
        exact q
      | int i =>
        walk_at "rd"
        cases h1; cases h2
        walk_at "rd"
        rw [decide_eq_true rfl]
        exact q
      | str x =>
        walk_at "rd"
        cases h1; cases h2
        refine ⟨rfl, ?_⟩
        rw [decide_eq_true rfl]
        exact q
      | list ds =>
        walk_at "rd"
        cases h1 with
        | @lst a xs _ s1 a1 =>
        cases h2 with
        | @lst b ys _ s2 a2 =>
        have l1 := Vb.dpa_len a1
        have l2 := Vb.dpa_len a2
        have hl := h3.1
        walk_at "rd"
        refine Vb.r_iteN (fun c => absurd (by omega) c) (fun _ => ?_)
        walk_at "rd"
        refine Vb.lp_range (fun i σ H' => i ≤ ds.length ∧ H' = H ∧ ∃ y, σ = [some (.ref a), some (.ref b), some (.bl true), y]) ⟨Nat.zero_le _, rfl, none, rfl⟩ ?_ ?_
        · rintro i σ H' hi ⟨_, rfl, y, rfl⟩
          have hi' : i < ds.length := by omega
          obtain ⟨x1, y1, d1, e1, e2, g1, g2, g3⟩ := same_items a1 a2 h3.2 hi'
          walk_at "rd"
          refine Vb.r_ixSL s1 (Vb.at_lit i (by omega) e1) ?_
          walk_at "rd"
          refine Vb.r_ixSL s2 (Vb.at_lit i (by omega) e2) ?_
          walk_at "rd"
          cases n with
          | zero => exact g3.elim
          | succ n =>
            refine use_same d1 g1 g2 g3 ?_
            walk_at "rd"
            exact ⟨by omega, rfl, _, rfl⟩
        · rintro σ H' ⟨_, rfl, y, rfl⟩
          walk_at "rd"
          exact q
      | tuple ds =>
        walk_at "rd"
        cases h1 with
        | @tup a xs _ s1 a1 =>
        cases h2 with
        | @tup b ys _ s2 a2 =>
        have l1 := Vb.dpa_len a1
        have l2 := Vb.dpa_len a2
        have hl := h3.1
        walk_at "rd"
        refine Vb.r_iteN (fun c => absurd (by omega) c) (fun _ => ?_)
        walk_at "rd"
        refine Vb.lp_range (fun i σ H' => i ≤ ds.length ∧ H' = H ∧ ∃ y, σ = [some (.ref a), some (.ref b), some (.bl true), y]) ⟨Nat.zero_le _, rfl, none, rfl⟩ ?_ ?_
        · rintro i σ H' hi ⟨_, rfl, y, rfl⟩
          have hi' : i < ds.length := by omega
          obtain ⟨x1, y1, d1, e1, e2, g1, g2, g3⟩ := same_items a1 a2 h3.2 hi'
          walk_at "rd"
          refine Vb.r_ixST s1 (Vb.at_lit i (by omega) e1) ?_
          walk_at "rd"
          refine Vb.r_ixST s2 (Vb.at_lit i (by omega) e2) ?_
          walk_at "rd"
          cases n with
          | zero => exact g3.elim
          | succ n =>
            refine use_same d1 g1 g2 g3 ?_
            walk_at "rd"
            exact ⟨by omega, rfl, _, rfl⟩
        · rintro σ H' ⟨_, rfl, y, rfl⟩
          walk_at "rd"
          exact q
      | dict kvs => cases h1
end
end K
namespace K
open PySem PySem.Spec PyProof.Rows L2
abbrev N__law_store : List Str := ["script", "seed", "cell"]
theorem sc__law_store : FnScope N__law_store ["script"] (defScope s__law_store) := ⟨rfl, rfl, rfl, by decide +kernel, rfl, by decide +kernel, by decide +kernel⟩
section
variable {P : Program} {w : World} {K : PySem.W.Frag} {mg : Str → Option Value} {base : Heap}
def sp_store (K : PySem.W.Frag) : Sp := fun vs H Q _ => ∃ (a : Addr) (ns : List Int), vs = [.ref a] ∧ SqL K H a (ns.map V.int) ∧ ns.length ≤ 1000000 ∧ ∀ (st : Addr) (H' : Hp), H st = none → Same H H' → Vb.StoreAt H' st → Q (.ref st) H'
theorem ok_store (T : Txt K mg) : FnOk P w K mg base (L2N.CX P w) 1 T.f__law_store T.fd__law_store ["script"] (sp_store K) := by
  refine Vb.okN T.d__law_store.F sc__law_store (fun vs H Q E h => ?_) (fun cdv A outer s H vs Q E hr h => ?_)
  · obtain ⟨a, b, rfl, _⟩ := h
    rfl
  · obtain ⟨a, ns, rfl, hs, hl, q⟩ := h
    refine ⟨_, (pss_cons (ps_set (i := 1) sc__law_store.nd rfl (by first | exact Or.inl rfl | exact Or.inr rfl) pe_int)
      (pss_cons (ps_for (L2.passes_of rfl) rfl (pi_list (pv 0)) (pg_name (i := 2) sc__law_store.nd rfl (by first | exact Or.inl rfl | exact Or.inr rfl))
        (pss_one (ps_set (i := 1) sc__law_store.nd rfl (by first | exact Or.inl rfl | exact Or.inr rfl) (pe_op op_mod (pe_callTy Vb.call_int (by rfl) T.n_int (by decide +kernel) (pa_cons (pe_op op_add (pe_op op_add (pe_op op_mul (pv 1) pe_int) (pe_op op_mod (pe_callTy Vb.call_int (by rfl) T.n_int (by decide +kernel) (pa_cons (pv 2) pa_nil)) pe_int)) pe_int) pa_nil)) pe_int))))
      (pss_one (ps_ret (pe_lst (pa_cons (pe_callTy Vb.call_list (by rfl) T.n_list (by decide +kernel) (pa_cons (pv 0) pa_nil)) (pa_cons pe_int (pa_cons pe_int (pa_cons pe_int (pa_cons (pv 1) pa_nil)))))))))), ?_⟩
    (change (_ : L2.TS) _ ([some (.ref a), none, none] : L2.St) _); try dsimp only [L2.cxOf, L2H.cxH]
    walk_at "rd"
    refine Vb.lp_list (xs := ns.map V.int) (fun i σ H' => H' = H ∧ ∃ (z : Int) (y : Option V), σ = [some (.ref a), some (.int z), y]) ⟨rfl, 1, none, rfl⟩ (fun i σ H' _ p => by rw [p.1]; exact hs) ?_ ?_
    · rintro i x σ H' hi ⟨rfl, z, y, rfl⟩
      obtain ⟨c, _, rfl⟩ := Vb.getV' hi
      walk_at "rd"
      exact ⟨rfl, _, _, rfl⟩
    · rintro σ H' ⟨rfl, z, y, rfl⟩
      walk_at "rd"
      refine Vb.r_list hs fun l hn => ?_
      walk_at "rd"
      refine ⟨Vb.size_ok (by show 5 ≤ 16777216; decide), fun st hst => ?_⟩
      have hlst : l ≠ st := fun e => by rw [e, upd_same] at hst; cases hst
      have hst' : H' st = none := by rw [← hst, upd_ne hlst.symm]
      refine q st _ hst' (Same.trans (Vb.same_new hn) (Vb.same_new hst)) ⟨l, ns, 0, 0, 0, z, hlst, upd_same, by walk_at "hp", by omega, by omega⟩
end
end K
namespace K
open PySem PySem.Spec PyProof.Rows L2
abbrev N__law_edge : List Str := ["store", "low", "high", "many", "way"]
theorem sc__law_edge : FnScope N__law_edge ["store", "low", "high"] (defScope s__law_edge) := ⟨rfl, rfl, rfl, by decide +kernel, rfl, by decide +kernel, by decide +kernel⟩
section
variable {P : Program} {w : World} {K : PySem.W.Frag} {mg : Str → Option Value} {base : Heap}
def sp_edge (K : PySem.W.Frag) : Sp := fun vs H Q _ => ∃ (st : Addr) (lo hi : Int), vs = [.ref st, .int lo, .int hi] ∧ Vb.StoreAt H st ∧ hi - lo < 1073741823 ∧ ∀ (v : Int) (H' : Hp), lo ≤ v → (lo ≤ hi → v ≤ hi) → (hi ≤ lo → v = lo) → Vb.Fr st H H' → Vb.StoreAt H' st → Q (.int v) H'
theorem use_edge {st : Addr} {lo hi : Int} {H : Hp} {Q : VK} {E : XK} (h1 : Vb.StoreAt H st) (h2 : hi - lo < 1073741823) (h : ∀ (v : Int) (H' : Hp), lo ≤ v → (lo ≤ hi → v ≤ hi) → (hi ≤ lo → v = lo) → Vb.Fr st H H' → Vb.StoreAt H' st → Q (.int v) H') : sp_edge K [.ref st, .int lo, .int hi] H Q E := ⟨st, lo, hi, rfl, h1, h2, h⟩
theorem ok_edge (T : Txt K mg) : FnOk P w K mg base (L2N.CX P w) 3 T.f__law_edge T.fd__law_edge ["store", "low", "high"] (sp_edge K) := by
  have G__law_take := ok_take (P := P) (w := w) (base := base) T
  refine Vb.okN T.d__law_edge.F sc__law_edge (fun vs H Q E h => ?_) (fun cdv A outer s H vs Q E hr h => ?_)
  · obtain ⟨a, b, c, rfl, _⟩ := h
    rfl
  · obtain ⟨st, lo, hi, rfl, hS, hb, q⟩ := h
    refine ⟨_, (pss_cons (ps_set (i := 3) sc__law_edge.nd rfl (by first | exact Or.inl rfl | exact Or.inr rfl) (pe_op op_add (pe_callB (Vb.call_max2 rfl) (by rfl) T.n_max (by decide +kernel) (pa_cons pe_int (pa_cons (pe_op op_sub (pv 2) (pv 1)) pa_nil))) pe_int))
      (pss_cons (ps_set (i := 4) sc__law_edge.nd rfl (by first | exact Or.inl rfl | exact Or.inr rfl) (pe_callS G__law_take (hr.mono (by first | decide | omega)) (by rfl) T.d__law_take.g T.d__law_take.F.kp T.d__law_take.b (fun σ => L2N.passAt (L2N.takes_of rfl rfl rfl rfl) σ) (pa_cons (pv 0) (pa_cons pe_int pa_nil))))
      (pss_cons (ps_if (pt_cmpR op_eq (pv 4) pe_int (nomark _)) (pss_one (ps_ret (pv 1))) pss_nil)
      (pss_cons (ps_if (pt_cmpR op_eq (pv 4) pe_int (nomark _)) (pss_one (ps_ret (pe_op op_sub (pe_op op_add (pv 1) (pv 3)) pe_int))) pss_nil)
      (pss_cons (ps_if (pt_cmpR op_eq (pv 4) pe_int (nomark _)) (pss_one (ps_ret (pe_op op_add (pv 1) (pe_callB (Vb.call_min2 rfl) (by rfl) T.n_min (by decide +kernel) (pa_cons (pe_op op_sub (pv 3) pe_int) (pa_cons pe_int pa_nil)))))) pss_nil)
      (pss_one (ps_ret (pe_op op_add (pv 1) (pe_callS G__law_take (hr.mono (by first | decide | omega)) (by rfl) T.d__law_take.g T.d__law_take.F.kp T.d__law_take.b (fun σ => L2N.passAt (L2N.takes_of rfl rfl rfl rfl) σ) (pa_cons (pv 0) (pa_cons (pv 3) pa_nil))))))))))), ?_⟩
    (change (_ : L2.TS) _ ([some (.ref st), some (.int lo), some (.int hi), none, none] : L2.St) _); try dsimp only [L2.cxOf, L2H.cxH]
    walk_at "rd"
    have hm : 0 < (if hi - lo > 0 then hi - lo else 0) + 1 ∧ (if hi - lo > 0 then hi - lo else 0) + 1 < 1073741824 ∧ (lo ≤ hi → (if hi - lo > 0 then hi - lo else 0) + 1 = hi - lo + 1) ∧ (hi ≤ lo → (if hi - lo > 0 then hi - lo else 0) + 1 = 1) := by
      split <;> omega
    generalize (if hi - lo > 0 then hi - lo else 0) + 1 = m at hm ⊢
    obtain ⟨m1, m2, m3, m4⟩ := hm
    refine use_take hS (by decide) fun v1 H1 a1 a2 _ f1 S1 => ?_
    walk_at "rd"
    refine Vb.r_ite (fun c1 => ?_) (fun c1 => ?_)
    · walk_at "rd"
      exact q _ _ (by omega) (by omega) (by omega) f1 S1
    · walk_at "rd"
      refine Vb.r_ite (fun c2 => ?_) (fun c2 => ?_)
      · walk_at "rd"
        exact q _ _ (by omega) (by omega) (by omega) f1 S1
      · walk_at "rd"
        refine Vb.r_ite (fun c3 => ?_) (fun c3 => ?_)
        · walk_at "rd"
          refine q _ _ ?_ ?_ ?_ f1 S1 <;> split <;> omega
        · walk_at "rd"
          refine use_take S1 (by omega) fun v2 H2 b1 b2 b3 f2 S2 => ?_
          walk_at "rd"
          exact q _ _ (by omega) (by omega) (by omega) (f1.trans f2) S2
end
end K
namespace K
open PySem PySem.Spec PyProof.Rows L2
abbrev N__law_pick : List Str := ["store", "row"]
theorem sc__law_pick : FnScope N__law_pick ["store", "row"] (defScope s__law_pick) := ⟨rfl, rfl, rfl, by decide +kernel, rfl, by decide +kernel, by decide +kernel⟩
section
variable {P : Program} {w : World} {K : PySem.W.Frag} {mg : Str → Option Value} {base : Heap}
def sp_pick (K : PySem.W.Frag) : Sp := fun vs H Q _ => ∃ (st a : Addr) (xs : List V), vs = [.ref st, .ref a] ∧ Vb.StoreAt H st ∧ a ≠ st ∧ SqL K H a xs ∧ xs.length < 1000000 ∧ (xs = [] → Q .non H) ∧ ∀ (i : Nat) (v : V) (H' : Hp), xs[i]? = some v → Vb.Fr st H H' → Vb.StoreAt H' st → Q v H'
theorem use_pick {st a : Addr} {H : Hp} {Q : VK} {E : XK} (xs : List V) (h1 : Vb.StoreAt H st) (h2 : a ≠ st) (h3 : SqL K H a xs) (h4 : xs.length < 1000000) (h5 : xs ≠ []) (h : ∀ (i : Nat) (v : V) (H' : Hp), xs[i]? = some v → Vb.Fr st H H' → Vb.StoreAt H' st → Q v H') : sp_pick K [.ref st, .ref a] H Q E := ⟨st, a, xs, rfl, h1, h2, h3, h4, fun e => absurd e h5, h⟩
theorem ok_pick (T : Txt K mg) : FnOk P w K mg base (L2N.CX P w) 3 T.f__law_pick T.fd__law_pick ["store", "row"] (sp_pick K) := by
  have G__law_take := ok_take (P := P) (w := w) (base := base) T
  refine Vb.okN T.d__law_pick.F sc__law_pick (fun vs H Q E h => ?_) (fun cdv A outer s H vs Q E hr h => ?_)
  · obtain ⟨a, b, c, rfl, _⟩ := h
    rfl
  · obtain ⟨st, a, xs, rfl, hS, hne, hx, hb, q0, q⟩ := h
    refine ⟨_, (pss_cons (ps_if (pt_cmpR op_eq (pe_callB Vb.call_len (by rfl) T.n_len (by decide +kernel) (pa_cons (pv 1) pa_nil)) pe_int (nomark _)) (pss_one (ps_ret pe_non)) pss_nil)
      (pss_one (ps_ret (pe_ix ix_list (pv 1) (pe_callS G__law_take (hr.mono (by first | decide | omega)) (by rfl) T.d__law_take.g T.d__law_take.F.kp T.d__law_take.b (fun σ => L2N.passAt (L2N.takes_of rfl rfl rfl rfl) σ) (pa_cons (pv 0) (pa_cons (pe_callB Vb.call_len (by rfl) T.n_len (by decide +kernel) (pa_cons (pv 1) pa_nil)) pa_nil))) (fun _ _ => rfl))))), ?_⟩
    (change (_ : L2.TS) _ ([some (.ref st), some (.ref a)] : L2.St) _); try dsimp only [L2.cxOf, L2H.cxH]
    walk_at "rd"
    refine Vb.r_ite (fun c1 => ?_) (fun c1 => ?_)
    · walk_at "rd"
      exact q0 (List.eq_nil_of_length_eq_zero (by omega))
    · walk_at "rd"
      refine use_take hS (by omega) fun v H1 a1 a2 a3 f1 S1 => ?_
      have hlt : v.toNat < xs.length := by omega
      refine Vb.r_ixL (f1.seq hne hx) (Vb.at_lit v.toNat (by omega) (List.getElem?_eq_getElem hlt)) ?_
      exact q _ _ _ (List.getElem?_eq_getElem hlt) f1 S1
end
end K
namespace K
open PySem PySem.Spec PyProof.Rows L2
abbrev N__law_other_kind : List Str := ["store"]
theorem sc__law_other_kind : FnScope N__law_other_kind ["store"] (defScope s__law_other_kind) := ⟨rfl, rfl, rfl, by decide +kernel, rfl, by decide +kernel, by decide +kernel⟩
section
variable {P : Program} {w : World} {K : PySem.W.Frag} {mg : Str → Option Value} {base : Heap}
/-- a value that is no integer -/
def oddKinds : List PyData := [.bool true, .bool false, .none, .str "", .str "0", .str "1", .str "a", .tuple [], .tuple [.int 0]]
def sp_kind (K : PySem.W.Frag) : Sp := fun vs H Q _ => ∃ (st : Addr), vs = [.ref st] ∧ Vb.StoreAt H st ∧ ∀ (v : V) (d : PyData) (H' : Hp), d ∈ oddKinds → Vb.Fr st H H' → Vb.StoreAt H' st → (∀ Z, Vb.Trk Z H → Dp K (Vb.offs (st :: Z) H') v d) → Q v H'
theorem use_kind {st : Addr} {H : Hp} {Q : VK} {E : XK} (h1 : Vb.StoreAt H st) (h : ∀ (v : V) (d : PyData) (H' : Hp), d ∈ oddKinds → Vb.Fr st H H' → Vb.StoreAt H' st → (∀ Z, Vb.Trk Z H → Dp K (Vb.offs (st :: Z) H') v d) → Q v H') : sp_kind K [.ref st] H Q E := ⟨st, rfl, h1, h⟩
theorem ok_kind (T : Txt K mg) : FnOk P w K mg base (L2N.CX P w) 4 T.f__law_other_kind T.fd__law_other_kind ["store"] (sp_kind K) := by
  have G__law_pick := ok_pick (P := P) (w := w) (base := base) T
  refine Vb.okN T.d__law_other_kind.F sc__law_other_kind (fun vs H Q E h => ?_) (fun cdv A outer s H vs Q E hr h => ?_)
  · obtain ⟨a, rfl, _⟩ := h
    rfl
  · obtain ⟨st, rfl, hS, q⟩ := h
    refine ⟨_, (pss_one (ps_ret (pe_callS G__law_pick (hr.mono (by first | decide | omega)) (by rfl) T.d__law_pick.g T.d__law_pick.F.kp T.d__law_pick.b (fun σ => L2N.passAt (L2N.takes_of rfl rfl rfl rfl) σ) (pa_cons (pv 0) (pa_cons (pe_lst (pa_cons pe_bl (pa_cons pe_bl (pa_cons pe_non (pa_cons pe_str (pa_cons pe_str (pa_cons pe_str (pa_cons pe_str (pa_cons (pe_tup pa_nil) (pa_cons (pe_tup (pa_cons pe_int pa_nil)) pa_nil)))))))))) pa_nil))))), ?_⟩
    (change (_ : L2.TS) _ ([some (.ref st)] : L2.St) _); try dsimp only [L2.cxOf, L2H.cxH]
    walk_at "rd"
    refine ⟨Vb.size_ok (by decide), fun p hp => ?_⟩
    walk_at "rd"
    refine ⟨Vb.size_ok (by show 1 ≤ 16777216; decide), fun r hr => ?_⟩
    walk_at "rd"
    refine ⟨Vb.size_ok (by show 9 ≤ 16777216; decide), fun l hl => ?_⟩
    walk_at "rd"
    have e1 := Vb.same_new (o := .tup []) hp
    have e2 := Vb.same_new (o := .tup [.int 0]) hr
    have e3 := Vb.same_new (o := .lst [.bl true, .bl false, .non, .str "", .str "0", .str "1", .str "a", .ref p, .ref r]) hl
    have e := (e1.trans e2).trans e3
    have n1 := hS.ne hp
    have n2 := (hS.same e1).ne hr
    have n3 := (hS.same (e1.trans e2)).ne hl
    refine use_pick _ (hS.same e) n3 (Vb.sq_of upd_same) (by show 9 < 1000000; decide) (by simp) fun i v H' hv f S => ?_
    have hp' : H' p = some (.tup []) := f.k _ _ n1 (e3 _ _ (e2 _ _ upd_same))
    have hr' : H' r = some (.tup [.int 0]) := f.k _ _ n2 (e3 _ _ upd_same)
    have f' : Vb.Fr st H H' := (Vb.Fr.of e).trans f
    obtain ⟨d, hd⟩ : ∃ d, oddKinds[i]? = some d := by
      have h9 : i < 9 := (List.getElem?_eq_some_iff.mp hv).1
      exact ⟨_, List.getElem?_eq_getElem (show i < oddKinds.length from h9)⟩
    refine q _ _ _ (List.mem_of_getElem? hd) f' S fun Z t => ?_
    have m1 : p ∉ st :: Z := fun m => (List.mem_cons.mp m).elim n1 (t.new hp)
    have m2 : r ∉ st :: Z := fun m => (List.mem_cons.mp m).elim n2 ((t.same e1).new hr)
    have all : DpAll K (Vb.offs (st :: Z) H') [.bl true, .bl false, .non, .str "", .str "0", .str "1", .str "a", .ref p, .ref r] oddKinds :=
      .cons (.bl _) (.cons (.bl _) (.cons .non (.cons (.str _) (.cons (.str _) (.cons (.str _) (.cons (.str _) (.cons (Vb.dp_tup (Vb.offs_of m1 hp') .nil) (.cons (Vb.dp_tup (Vb.offs_of m2 hr') (.cons (.int 0) .nil)) .nil))))))))
    obtain ⟨d', hd', g⟩ := Vb.dpa_get all hv
    rw [hd] at hd'
    cases hd'
    exact g
end
end K
namespace K
open PySem PySem.Spec PyProof.Rows L2
abbrev N_is_whole : List Str := ["value"]
theorem sc_is_whole : FnScope N_is_whole ["value"] (defScope s_is_whole) := ⟨rfl, rfl, rfl, by decide +kernel, rfl, by decide +kernel, by decide +kernel⟩
section
variable {P : Program} {w : World} {K : PySem.W.Frag} {mg : Str → Option Value} {base : Heap}
def whole : PyData → Bool | .int _ => true | _ => false
def sp_whole (K : PySem.W.Frag) : Sp := fun vs H Q _ => ∃ (v : V) (d : PyData), vs = [v] ∧ Dp K H v d ∧ Q (.bl (whole d)) H
theorem use_whole {v : V} {d : PyData} {b : Bool} {H : Hp} {Q : VK} {E : XK} (h : Dp K H v d) (e : whole d = b) (q : Q (.bl b) H) : sp_whole K [v] H Q E := ⟨v, d, rfl, h, by rw [e]; exact q⟩
theorem ok_whole (T : Txt K mg) : FnOk P w K mg base (L2N.CX P w) 1 T.f_is_whole T.fd_is_whole ["value"] (sp_whole K) := by
  refine Vb.okN T.d_is_whole.F sc_is_whole (fun vs H Q E h => ?_) (fun cdv A outer s H vs Q E hr h => ?_)
  · obtain ⟨a, b, rfl, _⟩ := h
    rfl
  · obtain ⟨v, d, rfl, hd, q⟩ := h
    refine ⟨_, (pss_one (ps_ret (pe_and (pe_callB call_isi (by rfl) T.n_isinstance (by decide +kernel) (pa_cons (pv 0) (pa_cons (pe_bltn (v := .ty "int") (by rfl) T.n_int (by decide +kernel) rfl) pa_nil))) (pe_one (pe_not (pe_callB call_isi (by rfl) T.n_isinstance (by decide +kernel) (pa_cons (pv 0) (pa_cons (pe_bltn (v := .ty "bool") (by rfl) T.n_bool (by decide +kernel) rfl) pa_nil)))))))), ?_⟩
    (change (_ : L2.TS) _ ([some (v)] : L2.St) _); try dsimp only [L2.cxOf, L2H.cxH]
    cases d <;> (walk_at "rd"; exact q)
end
end K
namespace K
open PySem PySem.Spec PyProof.Rows L2
abbrev N_is_prime : List Str := ["value", "divisor"]
theorem sc_is_prime : FnScope N_is_prime ["value"] (defScope s_is_prime) := ⟨rfl, rfl, rfl, by decide +kernel, rfl, by decide +kernel, by decide +kernel⟩
section
variable {P : Program} {w : World} {K : PySem.W.Frag} {mg : Str → Option Value} {base : Heap}
/-- is_prime -/
def sp_isprime (K : PySem.W.Frag) (C : Addr) : Sp := fun vs H Q E => ∃ (v : V) (d : PyData), vs = [v] ∧ Dp K H v d ∧ (∀ n, d = .int n → (10000 < n → E (.ref C) none H) ∧ (n ≤ 10000 → Q (.bl (Vb.isP n)) H)) ∧ (whole d = false → Q (.bl false) H)
theorem use_isprime {C : Addr} {n : Int} {b : Bool} {H : Hp} {Q : VK} {E : XK} (h : n ≤ 10000) (e : Vb.isP n = b) (q : Q (.bl b) H) : sp_isprime K C [.int n] H Q E := ⟨.int n, .int n, rfl, .int n, fun m z => by cases z; exact ⟨fun h' => absurd h (by omega), fun _ => by rw [e]; exact q⟩, fun z => by cases z⟩
theorem ok_isprime (T : Txt K mg) : FnOk P w K mg base (L2N.CX P w) 2 T.f_is_prime T.fd_is_prime ["value"] (sp_isprime K T.C_TooLarge) := by
  have G_is_whole := ok_whole (P := P) (w := w) (base := base) T
  refine Vb.okN T.d_is_prime.F sc_is_prime (fun vs H Q E h => ?_) (fun cdv A outer s H vs Q E hr h => ?_)
  · obtain ⟨a, b, rfl, _⟩ := h
    rfl
  · obtain ⟨v, d, rfl, hd, q1, q2⟩ := h
    refine ⟨_, (pss_cons (ps_if (pt_not (pt_val (pe_callS G_is_whole (hr.mono (by first | decide | omega)) (by rfl) T.d_is_whole.g T.d_is_whole.F.kp T.d_is_whole.b (fun σ => L2N.passAt (L2N.takes_of rfl rfl rfl rfl) σ) (pa_cons (pv 0) pa_nil)))) (pss_one (ps_ret pe_bl)) pss_nil)
      (pss_cons (ps_if (pt_cmpR op_gt (pv 0) (pe_glob (v := .int 10000) (by rfl) T.c_MAX_TESTED ⟨_, rfl⟩) (nomark _)) (pss_one (L2N.ps_raise rfl (L2N.takes_of rfl rfl rfl rfl) (Vb.pmk0 T.x_TooLarge rfl))) pss_nil)
      (pss_cons (ps_set (i := 1) sc_is_prime.nd rfl (by first | exact Or.inl rfl | exact Or.inr rfl) pe_int)
      (pss_cons (ps_while (L2.passes_of rfl) (pt_cmpR op_le (pe_op op_mul (pv 1) (pv 1)) (pv 0) (nomark _)) (pss_cons (ps_if (pt_cmpR op_eq (pe_op op_mod (pv 0) (pv 1)) pe_int (nomark _)) (pss_one (ps_ret pe_bl)) pss_nil)
      (pss_one (ps_set (i := 1) sc_is_prime.nd rfl (by first | exact Or.inl rfl | exact Or.inr rfl) (pe_op op_add (pv 1) pe_int)))))
      (pss_one (ps_ret (pe_cmpR op_gt (pv 0) pe_int (nomark _)))))))), ?_⟩
    (change (_ : L2.TS) _ ([some (v), none] : L2.St) _); try dsimp only [L2.cxOf, L2H.cxH]
    walk_at "rd"
    cases hw : whole d with
    | false =>
      refine use_whole hd hw ?_
      walk_at "rd"
      exact q2 hw
    | true =>
      refine use_whole hd hw ?_
      walk_at "rd"
      cases d with
      | int n =>
        cases hd
        obtain ⟨q3, q4⟩ := q1 n rfl
        walk_at "rd"
        refine Vb.r_ite (fun c1 => ?_) (fun c1 => ?_)
        · exact q3 c1
        walk_at "rd"
        refine Vb.r_while (fun m σ H' => H' = H ∧ ∃ D : Int, σ = [some (.int n), some (.int D)] ∧ 2 ≤ D ∧ D ≤ 10001 ∧ (∀ d : Int, 2 ≤ d → d < D → n % d ≠ 0) ∧ m = (n + 1 - D).toNat) _ ⟨rfl, 2, rfl, by omega, by omega, fun d a b => by omega, rfl⟩ ?_
        rintro m σ H' ⟨rfl, D, rfl, hD, hD1, hd, hm⟩
        have hDn : D * D ≤ n → D < n := fun h => by
          have : D * 2 ≤ D * D := Int.mul_le_mul_of_nonneg_left hD (by omega)
          omega
        walk_at "rd"
        refine Vb.r_ite (fun c2 => ?_) (fun c2 => ?_)
        · have hl := hDn c2
          refine Vb.wh_body ?_
          walk_at "rd"
          refine Vb.r_ite (fun c3 => ?_) (fun c3 => ?_)
          · walk_at "rd"
            have e : Vb.isP n = false := by
              cases z : Vb.isP n with
              | false => rfl
              | true => exact absurd ((Vb.isP_iff n).mp z) (Vb.not_prm hD hl c3)
            rw [← e]
            exact q4 (by omega)
          · walk_at "rd"
            refine ⟨_, ?_, rfl, D + 1, rfl, by omega, by omega, fun d a b => ?_, rfl⟩
            · omega
            · by_cases z : d = D
              · rw [z]; exact c3
              · exact hd d a (by omega)
        · walk_at "rd"
          have e : Vb.isP n = decide (1 < n) := by
            by_cases z : 1 < n
            · rw [decide_eq_true z, Vb.isP_iff]
              exact Vb.prm_root (by omega) hD (by omega) hd
            · rw [decide_eq_false z]
              cases y : Vb.isP n with
              | false => rfl
              | true => exact absurd ((Vb.isP_iff n).mp y).1 (by omega)
          rw [← e]
          exact q4 (by omega)
      | none => cases hw
      | bool b => cases hw
      | str x => cases hw
      | list ds => cases hw
      | tuple ds => cases hw
      | dict kvs => cases hw
end
end K
namespace K
open PySem PySem.Spec PyProof.Rows L2
abbrev N_check_prime : List Str := ["prime"]
theorem sc_check_prime : FnScope N_check_prime ["prime"] (defScope s_check_prime) := ⟨rfl, rfl, rfl, by decide +kernel, rfl, by decide +kernel, by decide +kernel⟩
section
variable {P : Program} {w : World} {K : PySem.W.Frag} {mg : Str → Option Value} {base : Heap}
/-- check_prime -/
def field : PyData → Bool | .int p => decide (p ≤ 101) && Vb.isP p | _ => false
theorem field_yes {n : Int} (h : Vb.Prm n) (l : n ≤ 101) : field (.int n) = true := by
  show (decide (n ≤ 101) && Vb.isP n) = true
  rw [decide_eq_true l, (Vb.isP_iff n).mpr h]
  rfl
def sp_check (K : PySem.W.Frag) (C : Addr) : Sp := fun vs H Q E => ∃ (v : V) (d : PyData), vs = [v] ∧ Dp K H v d ∧ (field d = true → Q v H) ∧ (field d = false → ∀ dd : Addr, H dd = none → E (.ref C) (some dd) (upd H dd (.xd [("value", v)])))
theorem ok_check (T : Txt K mg) : FnOk P w K mg base (L2N.CX P w) 3 T.f_check_prime T.fd_check_prime ["prime"] (sp_check K T.C_NotPrime) := by
  have G_is_prime := ok_isprime (P := P) (w := w) (base := base) T
  have G_is_whole := ok_whole (P := P) (w := w) (base := base) T
  refine Vb.okN T.d_check_prime.F sc_check_prime (fun vs H Q E h => ?_) (fun cdv A outer s H vs Q E hr h => ?_)
  · obtain ⟨a, b, rfl, _⟩ := h
    rfl
  · obtain ⟨v, d, rfl, hd, q1, q2⟩ := h
    refine ⟨_, (pss_cons (ps_if (PW.pt (pw_or (pt_not (pt_val (pe_callS G_is_whole (hr.mono (by first | decide | omega)) (by rfl) T.d_is_whole.g T.d_is_whole.F.kp T.d_is_whole.b (fun σ => L2N.passAt (L2N.takes_of rfl rfl rfl rfl) σ) (pa_cons (pv 0) pa_nil)))) (pw_or (pt_cmpR op_gt (pv 0) (pe_glob (v := .int 101) (by rfl) T.c_MAX_PRIME ⟨_, rfl⟩) (nomark _)) (pw_or1 (pt_not (pt_val (pe_callS G_is_prime (hr.mono (by first | decide | omega)) (by rfl) T.d_is_prime.g T.d_is_prime.F.kp T.d_is_prime.b (fun σ => L2N.passAt (L2N.takes_of rfl rfl rfl rfl) σ) (pa_cons (pv 0) pa_nil)))))))) (pss_one (L2N.ps_raise rfl (L2N.takes_of rfl rfl rfl rfl) (L2.pmk_value T.i_NotPrime (hr.mono (by decide) : Room 1 _) (by exact (pa_cons (pv 0) pa_nil)) rfl))) pss_nil)
      (pss_one (ps_ret (pv 0)))), ?_⟩
    (change (_ : L2.TS) _ ([some (v)] : L2.St) _); try dsimp only [L2.cxOf, L2H.cxH]
    walk_at "rd"
    cases hw : whole d with
    | false =>
      refine use_whole hd hw ?_
      walk_at "rd"
      have hf : field d = false := by cases d <;> first | rfl | cases hw
      exact ⟨_, rfl, _, rfl, fun dd n => q2 hf dd n⟩
    | true =>
      refine use_whole hd hw ?_
      walk_at "rd"
      cases d with
      | int n =>
        cases hd
        walk_at "rd"
        refine Vb.r_ite (fun c1 => ?_) (fun c1 => ?_)
        · walk_at "rd"
          have hf : field (.int n) = false := by
            show (decide (n ≤ 101) && Vb.isP n) = false
            rw [decide_eq_false (by omega)]
            rfl
          exact ⟨_, rfl, _, rfl, fun dd n => q2 hf dd n⟩
        walk_at "rd"
        have hf : field (.int n) = Vb.isP n := by
          show (decide (n ≤ 101) && Vb.isP n) = _
          rw [decide_eq_true (by omega)]
          rfl
        cases hp : Vb.isP n with
        | true =>
          refine use_isprime (by omega) hp ?_
          walk_at "rd"
          exact q1 (hf.trans hp)
        | false =>
          refine use_isprime (by omega) hp ?_
          walk_at "rd"
          exact ⟨_, rfl, _, rfl, fun dd n => q2 (hf.trans hp) dd n⟩
      | none => cases hw
      | bool b => cases hw
      | str x => cases hw
      | list ds => cases hw
      | tuple ds => cases hw
      | dict kvs => cases hw
end
end K
namespace K
open PySem PySem.Spec PyProof.Rows L2
section
theorem odd_bad : ∀ d ∈ oddKinds, field d = false ∧ whole d = false ∧ Vb.DOk 4 d := by
  intro d m
  unfold oddKinds at m
  simp only [List.mem_cons, List.not_mem_nil, or_false] at m
  rcases m with rfl | rfl | rfl | rfl | rfl | rfl | rfl | rfl | rfl
  · exact ⟨rfl, rfl, trivial⟩
  · exact ⟨rfl, rfl, trivial⟩
  · exact ⟨rfl, rfl, trivial⟩
  · exact ⟨rfl, rfl, trivial⟩
  · exact ⟨rfl, rfl, trivial⟩
  · exact ⟨rfl, rfl, trivial⟩
  · exact ⟨rfl, rfl, trivial⟩
  · exact ⟨rfl, rfl, by decide, fun d m => absurd m List.not_mem_nil⟩
  · refine ⟨rfl, rfl, by decide, fun d m => ?_⟩
    rw [List.mem_singleton.mp m]
    exact trivial
end
end K
namespace K
open PySem PySem.Spec PyProof.Rows L2

abbrev N__law_primes : List Str := ["limit", "primes", "number", "divided", "prime"]
theorem sc__law_primes : FnScope N__law_primes ["limit"] (defScope s__law_primes) := ⟨rfl, rfl, rfl, by decide +kernel, rfl, by decide +kernel, by decide +kernel⟩
section
variable {P : Program} {w : World} {K : PySem.W.Frag} {mg : Str → Option Value} {base : Heap}
def sp_primes (K : PySem.W.Frag) : Sp := fun vs H Q _ => ∃ (n : Int), vs = [.int n] ∧ 1 ≤ n ∧ n ≤ 10000 ∧ ∀ (p : Addr) (H' : Hp), H p = none → Same H H' → H' p = some (.lst ((Vb.upto n).map V.int)) → Q (.ref p) H'
theorem use_primes {n : Int} {H : Hp} {Q : VK} {E : XK} (h1 : 1 ≤ n) (h : n ≤ 10000) (q : ∀ (p : Addr) (H' : Hp), H p = none → Same H H' → H' p = some (.lst ((Vb.upto n).map V.int)) → Q (.ref p) H') : sp_primes K [.int n] H Q E := ⟨n, rfl, h1, h, q⟩
theorem ok_primes (T : Txt K mg) : FnOk P w K mg base (L2N.CX P w) 1 T.f__law_primes T.fd__law_primes ["limit"] (sp_primes K) := by
  refine Vb.okN T.d__law_primes.F sc__law_primes (fun vs H Q E h => ?_) (fun cdv A outer s H vs Q E hr h => ?_)
  · obtain ⟨a, rfl, _⟩ := h
    rfl
  · obtain ⟨n, rfl, hn1, hn, q⟩ := h
    refine ⟨_, (pss_cons (ps_set (i := 1) sc__law_primes.nd rfl (by first | exact Or.inl rfl | exact Or.inr rfl) (pe_lst pa_nil))
      (pss_cons (ps_for (L2.passes_of rfl) rfl (Vb.pi_rangeW rfl T.n_range (pa_cons pe_int (pa_cons (pe_op op_add (pv 0) pe_int) pa_nil))) (pg_name (i := 2) sc__law_primes.nd rfl (by first | exact Or.inl rfl | exact Or.inr rfl))
        (pss_cons (ps_set (i := 3) sc__law_primes.nd rfl (by first | exact Or.inl rfl | exact Or.inr rfl) pe_bl)
      (Evl.pss_cut (ps_for (L2.passes_of rfl) rfl (pi_list (pv 1)) (pg_name (i := 4) sc__law_primes.nd rfl (by first | exact Or.inl rfl | exact Or.inr rfl))
        (pss_cons (ps_if (pt_cmpR op_gt (pe_op op_mul (pv 4) (pv 4)) (pv 2) (nomark _)) (pss_one ps_break) pss_nil)
      (pss_one (ps_if (pt_cmpR op_eq (pe_op op_mod (pv 2) (pv 4)) pe_int (nomark _)) (pss_cons (ps_set (i := 3) sc__law_primes.nd rfl (by first | exact Or.inl rfl | exact Or.inr rfl) pe_bl)
      (pss_one ps_break)) pss_nil))))
      (pss_one (ps_if (pt_not (pt_val (pv 3))) (pss_one (ps_expr (pe_bm PySem.F.plainAttrs_list PySem.F.slot_list_append PySem.F.type_list_append mt_append (pv 1) (pa_cons (pv 2) pa_nil)))) pss_nil)))))
      (pss_one (ps_ret (pv 1))))), ?_⟩
    (change (_ : L2.TS) _ ([some (.int n), none, none, none, none] : L2.St) _); try dsimp only [L2.cxOf, L2H.cxH]
    walk_at "rd"
    refine ⟨Vb.size_ok (Nat.zero_le _), fun p hp => ?_⟩
    walk_at "rd"
    refine Vb.lp_range (fun i σ H' => i ≤ (n + 1 - 2).toNat ∧ Same H H' ∧ H' p = some (.lst ((Vb.upto (1 + i)).map V.int)) ∧ ∃ y2 y3 y4, σ = [some (.int n), some (.ref p), y2, y3, y4]) ⟨Nat.zero_le _, Vb.same_new hp, ?_, none, none, none, rfl⟩ ?_ ?_
    · rw [Vb.upto_low (by omega)]
      exact upd_same
    · rintro i σ H' hi ⟨_, e, ha, y2, y3, y4, rfl⟩
      have hl := Vb.upto_len (n := 1 + i)
      have hnx := Vb.upto_next (n := 1 + i) (by omega)
      rw [show (1 : Int) + i + 1 = 2 + i by omega] at hnx
      walk_at "rd"
      refine Vb.r_cut (fun σ' H2 => H2 = H' ∧ ∃ y, σ' = [some (.int n), some (.ref p), some (.int (2 + i)), some (.bl (!Vb.isP (2 + i))), y]) ?_ ?_
      · walk_at "rd"
        refine Vb.lp_list (xs := (Vb.upto (1 + i)).map V.int) (fun j σ' H2 => H2 = H' ∧ (∀ k q, k < j → (Vb.upto (1 + i))[k]? = some q → (2 + (i : Int)) % q ≠ 0) ∧ ∃ y, σ' = [some (.int n), some (.ref p), some (.int (2 + i)), some (.bl false), y]) ⟨rfl, fun k q h => absurd h (Nat.not_lt_zero k), y4, rfl⟩ (fun j σ' H2 _ c => by rw [c.1]; exact Vb.sq_of ha) ?_ ?_
        · rintro j x σ' H2 hj ⟨rfl, hk, y, rfl⟩
          obtain ⟨q, hq, rfl⟩ := Vb.getV' hj
          obtain ⟨pq, lq⟩ := Vb.mem_upto.mp (List.mem_of_getElem? hq)
          have q2 := pq.1
          walk_at "rd"
          refine Vb.r_ite (fun c => ?_) (fun c => ?_)
          · walk_at "rd"
            have e : Vb.isP (2 + i) = true := (Vb.isP_iff _).mpr (Vb.prm_root (by omega) q2 c fun d a b z => by
              obtain ⟨r, pr, lr, zr⟩ := Vb.least_prime d.toNat _ d (Nat.le_refl _) a z
              obtain ⟨k, hkj, hkr⟩ := Vb.sorted_ahead (Vb.upto_sorted _) hq (Vb.mem_upto.mpr ⟨pr, by omega⟩) (show r < q by omega)
              exact hk k r hkj hkr zr)
            rw [e]
            exact ⟨rfl, _, rfl⟩
          · walk_at "rd"
            refine Vb.r_ite (fun c2 => ?_) (fun c2 => ?_)
            · walk_at "rd"
              have e : Vb.isP (2 + i) = false := by
                cases z : Vb.isP (2 + i) with
                | false => rfl
                | true => exact absurd ((Vb.isP_iff _).mp z) (Vb.not_prm q2 (by omega) c2)
              rw [e]
              exact ⟨rfl, _, rfl⟩
            · walk_at "rd"
              refine ⟨rfl, fun k r hk' hr' => ?_, _, rfl⟩
              by_cases z : k = j
              · rw [z, hq] at hr'
                cases hr'
                exact c2
              · exact hk k r (by omega) hr'
        · rintro σ' H2 ⟨rfl, hk, y, rfl⟩
          have e : Vb.isP (2 + i) = true := (Vb.isP_iff _).mpr (Vb.prm_of (by omega) fun r pr lr => by
            obtain ⟨k, hkr⟩ := List.mem_iff_getElem?.mp (Vb.mem_upto.mpr ⟨pr, show r ≤ 1 + i by omega⟩)
            refine hk k r ?_ hkr
            rw [List.length_map]
            exact (List.getElem?_eq_some_iff.mp hkr).1)
          rw [e]
          exact ⟨rfl, _, rfl⟩
      · rintro σ' H2 ⟨rfl, y, rfl⟩
        walk_at "rd"
        rw [Bool.not_not]
        refine Vb.r_iteb (fun c => ?_) (fun c => ?_)
        · walk_at "rd"
          refine ⟨by omega, Vb.same_mut e hp, ?_, _, _, _, rfl⟩
          rw [show (1 : Int) + ((i + 1 : Nat) : Int) = 2 + i by omega, hnx, c, if_pos rfl, List.map_append]
          exact upd_same
        · refine ⟨by omega, e, ?_, _, _, _, rfl⟩
          rw [show (1 : Int) + ((i + 1 : Nat) : Int) = 2 + i by omega, hnx, c, if_neg (by decide), List.append_nil]
          exact ha
    · rintro σ H' ⟨_, e, ha, y2, y3, y4, rfl⟩
      walk_at "rd"
      refine q p H' hp e ?_
      rw [ha, show (1 : Int) + ((n + 1 - 2).toNat : Nat) = n by omega]
end
end K
namespace K
open PySem PySem.Spec PyProof.Rows L2
abbrev N__law_prime : List Str := ["store", "primes"]
theorem sc__law_prime : FnScope N__law_prime ["store"] (defScope s__law_prime) := ⟨rfl, rfl, rfl, by decide +kernel, rfl, by decide +kernel, by decide +kernel⟩
section
variable {P : Program} {w : World} {K : PySem.W.Frag} {mg : Str → Option Value} {base : Heap}
/-- a prime of a field -/
def sp_prime (K : PySem.W.Frag) : Sp := fun vs H Q _ => ∃ (st : Addr), vs = [.ref st] ∧ Vb.StoreAt H st ∧ ∀ (p : Int) (H' : Hp), Vb.Prm p → p ≤ 101 → Vb.Fr st H H' → Vb.StoreAt H' st → Q (.int p) H'
theorem use_prime {st : Addr} {H : Hp} {Q : VK} {E : XK} (h1 : Vb.StoreAt H st) (h : ∀ (p : Int) (H' : Hp), Vb.Prm p → p ≤ 101 → Vb.Fr st H H' → Vb.StoreAt H' st → Q (.int p) H') : sp_prime K [.ref st] H Q E := ⟨st, rfl, h1, h⟩
theorem ok_prime (T : Txt K mg) : FnOk P w K mg base (L2N.CX P w) 4 T.f__law_prime T.fd__law_prime ["store"] (sp_prime K) := by
  have G__law_primes := ok_primes (P := P) (w := w) (base := base) T
  have G__law_edge := ok_edge (P := P) (w := w) (base := base) T
  refine Vb.okN T.d__law_prime.F sc__law_prime (fun vs H Q E h => ?_) (fun cdv A outer s H vs Q E hr h => ?_)
  · obtain ⟨a, rfl, _⟩ := h
    rfl
  · obtain ⟨st, rfl, hS, q⟩ := h
    refine ⟨_, (pss_cons (ps_set (i := 1) sc__law_prime.nd rfl (by first | exact Or.inl rfl | exact Or.inr rfl) (pe_callS G__law_primes (hr.mono (by first | decide | omega)) (by rfl) T.d__law_primes.g T.d__law_primes.F.kp T.d__law_primes.b (fun σ => L2N.passAt (L2N.takes_of rfl rfl rfl rfl) σ) (pa_cons pe_int pa_nil)))
      (pss_one (ps_ret (pe_ix ix_list (pv 1) (pe_callS G__law_edge (hr.mono (by first | decide | omega)) (by rfl) T.d__law_edge.g T.d__law_edge.F.kp T.d__law_edge.b (fun σ => L2N.passAt (L2N.takes_of rfl rfl rfl rfl) σ) (pa_cons (pv 0) (pa_cons pe_int (pa_cons (pe_op op_sub (pe_callB Vb.call_len (by rfl) T.n_len (by decide +kernel) (pa_cons (pv 1) pa_nil)) pe_int) pa_nil)))) (fun _ _ => rfl))))), ?_⟩
    (change (_ : L2.TS) _ ([some (.ref st), none] : L2.St) _); try dsimp only [L2.cxOf, L2H.cxH]
    walk_at "rd"
    refine use_primes (by decide) (by decide) fun p H1 np e1 hp => ?_
    walk_at "rd"
    have hl := Vb.upto_len (n := 101)
    have h0 : 0 < (Vb.upto 101).length := List.length_pos_of_mem (Vb.mem_upto.mpr ⟨(Vb.isP_iff 2).mp (by decide +kernel), by decide⟩)
    refine use_edge (hS.same e1) (by rw [List.length_map]; omega) fun v H2 a1 a2 _ f2 S2 => ?_
    rw [List.length_map] at a2
    have hlt : v.toNat < (Vb.upto 101).length := by omega
    refine Vb.r_ixL (Vb.sq_of (f2.k _ _ (hS.ne np) hp)) (Vb.at_lit v.toNat (by omega) (Vb.getV hlt)) ?_
    obtain ⟨g1, g2⟩ := Vb.mem_upto.mp (List.getElem_mem hlt)
    exact q _ _ g1 g2 ((Vb.Fr.of e1).trans f2) S2
end
end K
namespace K
open PySem PySem.Spec PyProof.Rows L2
abbrev N_is_number : List Str := ["prime", "value"]
theorem sc_is_number : FnScope N_is_number ["prime", "value"] (defScope s_is_number) := ⟨rfl, rfl, rfl, by decide +kernel, rfl, by decide +kernel, by decide +kernel⟩
section
variable {P : Program} {w : World} {K : PySem.W.Frag} {mg : Str → Option Value} {base : Heap}
/-- a number of the field of p -/
def inField (p : Int) : PyData → Bool | .int n => decide (0 ≤ n) && decide (n < p) | _ => false
theorem inField_int {p n : Int} : inField p (.int n) = true ↔ 0 ≤ n ∧ n < p := by
  show (decide (0 ≤ n) && decide (n < p)) = true ↔ _
  rw [Bool.and_eq_true, decide_eq_true_iff, decide_eq_true_iff]
theorem inField_of {p : Int} {d : PyData} (h : inField p d = true) : ∃ n, d = .int n ∧ 0 ≤ n ∧ n < p := by
  cases d <;> first | (cases h; done) | exact ⟨_, rfl, inField_int.mp h⟩
def sp_number (K : PySem.W.Frag) : Sp := fun vs H Q _ => ∃ (p : Int) (v : V) (d : PyData), vs = [.int p, v] ∧ Dp K H v d ∧ Q (.bl (inField p d)) H
theorem use_number {p : Int} {v : V} {d : PyData} {b : Bool} {H : Hp} {Q : VK} {E : XK} (h : Dp K H v d) (e : inField p d = b) (q : Q (.bl b) H) : sp_number K [.int p, v] H Q E := ⟨p, v, d, rfl, h, by rw [e]; exact q⟩
theorem ok_number (T : Txt K mg) : FnOk P w K mg base (L2N.CX P w) 2 T.f_is_number T.fd_is_number ["prime", "value"] (sp_number K) := by
  have G_is_whole := ok_whole (P := P) (w := w) (base := base) T
  refine Vb.okN T.d_is_number.F sc_is_number (fun vs H Q E h => ?_) (fun cdv A outer s H vs Q E hr h => ?_)
  · obtain ⟨a, b, c, rfl, _⟩ := h
    rfl
  · obtain ⟨p, v, d, rfl, hd, q⟩ := h
    refine ⟨_, (pss_one (ps_ret (pe_and (pe_callS G_is_whole (hr.mono (by first | decide | omega)) (by rfl) T.d_is_whole.g T.d_is_whole.F.kp T.d_is_whole.b (fun σ => L2N.passAt (L2N.takes_of rfl rfl rfl rfl) σ) (pa_cons (pv 1) pa_nil)) (pe_one (pe_chain op_le op_lt pe_int (pv 1) (pv 0)))))), ?_⟩
    (change (_ : L2.TS) _ ([some (.int p), some (v)] : L2.St) _); try dsimp only [L2.cxOf, L2H.cxH]
    walk_at "rd"
    cases hw : whole d with
    | false =>
      refine use_whole hd hw ?_
      walk_at "rd"
      have hf : inField p d = false := by cases d <;> first | rfl | cases hw
      rw [hf] at q
      exact q
    | true =>
      refine use_whole hd hw ?_
      cases d <;> first | (cases hw; done) | skip
      rename_i n
      cases hd
      walk_at "rd"
      have e : inField p (.int n) = (decide (0 ≤ n) && decide (n < p)) := rfl
      rw [e] at q
      refine Vb.r_ite (fun c => ?_) (fun c => ?_)
      · rw [decide_eq_true c] at q
        walk_at "rd"
        exact q
      · rw [decide_eq_false c] at q
        exact q
end
end K
namespace K
open PySem PySem.Spec PyProof.Rows L2
abbrev N_check_number : List Str := ["prime", "value"]
theorem sc_check_number : FnScope N_check_number ["prime", "value"] (defScope s_check_number) := ⟨rfl, rfl, rfl, by decide +kernel, rfl, by decide +kernel, by decide +kernel⟩
section
variable {P : Program} {w : World} {K : PySem.W.Frag} {mg : Str → Option Value} {base : Heap}
def sp_checknum (K : PySem.W.Frag) (C : Addr) : Sp := fun vs H Q E => ∃ (p : Int) (v : V) (d : PyData), vs = [.int p, v] ∧ Dp K H v d ∧ (inField p d = true → Q .non H) ∧ (inField p d = false → ∀ dd : Addr, H dd = none → E (.ref C) (some dd) (upd H dd (.xd [("value", v)])))
theorem ok_checknum (T : Txt K mg) : FnOk P w K mg base (L2N.CX P w) 3 T.f_check_number T.fd_check_number ["prime", "value"] (sp_checknum K T.C_NotInField) := by
  have G_is_number := ok_number (P := P) (w := w) (base := base) T
  refine Vb.okN T.d_check_number.F sc_check_number (fun vs H Q E h => ?_) (fun cdv A outer s H vs Q E hr h => ?_)
  · obtain ⟨a, b, c, rfl, _⟩ := h
    rfl
  · obtain ⟨p, v, d, rfl, hd, q1, q2⟩ := h
    refine ⟨_, (pss_one (ps_if (pt_not (pt_val (pe_callS G_is_number (hr.mono (by first | decide | omega)) (by rfl) T.d_is_number.g T.d_is_number.F.kp T.d_is_number.b (fun σ => L2N.passAt (L2N.takes_of rfl rfl rfl rfl) σ) (pa_cons (pv 0) (pa_cons (pv 1) pa_nil))))) (pss_one (L2N.ps_raise rfl (L2N.takes_of rfl rfl rfl rfl) (L2.pmk_value T.i_NotInField (hr.mono (by decide) : Room 1 _) (by exact (pa_cons (pv 1) pa_nil)) rfl))) pss_nil)), ?_⟩
    (change (_ : L2.TS) _ ([some (.int p), some (v)] : L2.St) _); try dsimp only [L2.cxOf, L2H.cxH]
    walk_at "rd"
    cases hw : inField p d with
    | false =>
      refine use_number hd hw ?_
      walk_at "rd"
      exact ⟨_, rfl, _, rfl, fun dd n => q2 hw dd n⟩
    | true =>
      refine use_number hd hw ?_
      walk_at "rd"
      exact q1 hw
end
end K
namespace K
open PySem PySem.Spec PyProof.Rows L2
abbrev N_check_range : List Str := ["value", "least", "most"]
theorem sc_check_range : FnScope N_check_range ["value", "least", "most"] (defScope s_check_range) := ⟨rfl, rfl, rfl, by decide +kernel, rfl, by decide +kernel, by decide +kernel⟩
section
variable {P : Program} {w : World} {K : PySem.W.Frag} {mg : Str → Option Value} {base : Heap}
/-- a whole number from least to most -/
def inRange (lo hi : Int) : PyData → Bool | .int n => decide (lo ≤ n) && decide (n ≤ hi) | _ => false
theorem inRange_int {lo hi n : Int} : inRange lo hi (.int n) = true ↔ lo ≤ n ∧ n ≤ hi := by
  show (decide (lo ≤ n) && decide (n ≤ hi)) = true ↔ _
  rw [Bool.and_eq_true, decide_eq_true_iff, decide_eq_true_iff]
theorem inRange_of {lo hi : Int} {d : PyData} (h : inRange lo hi d = true) : ∃ n, d = .int n ∧ lo ≤ n ∧ n ≤ hi := by
  cases d <;> first | (cases h; done) | exact ⟨_, rfl, inRange_int.mp h⟩
def sp_checkrange (K : PySem.W.Frag) (C : Addr) : Sp := fun vs H Q E => ∃ (v : V) (lo hi : Int) (d : PyData), vs = [v, .int lo, .int hi] ∧ Dp K H v d ∧ (inRange lo hi d = true → Q .non H) ∧ (inRange lo hi d = false → E (.ref C) none H)
theorem ok_checkrange (T : Txt K mg) : FnOk P w K mg base (L2N.CX P w) 2 T.f_check_range T.fd_check_range ["value", "least", "most"] (sp_checkrange K T.C_OutOfRange) := by
  have G_is_whole := ok_whole (P := P) (w := w) (base := base) T
  refine Vb.okN T.d_check_range.F sc_check_range (fun vs H Q E h => ?_) (fun cdv A outer s H vs Q E hr h => ?_)
  · obtain ⟨a, b, c, d, rfl, _⟩ := h
    rfl
  · obtain ⟨v, lo, hi, d, rfl, hd, q1, q2⟩ := h
    refine ⟨_, (pss_one (ps_if (PW.pt (pw_or (pt_not (pt_val (pe_callS G_is_whole (hr.mono (by first | decide | omega)) (by rfl) T.d_is_whole.g T.d_is_whole.F.kp T.d_is_whole.b (fun σ => L2N.passAt (L2N.takes_of rfl rfl rfl rfl) σ) (pa_cons (pv 0) pa_nil)))) (pw_or1 (pt_not (pt_chain op_le op_le (pv 1) (pv 0) (pv 2)))))) (pss_one (L2N.ps_raise rfl (L2N.takes_of rfl rfl rfl rfl) (Vb.pmk0 T.x_OutOfRange rfl))) pss_nil)), ?_⟩
    (change (_ : L2.TS) _ ([some (v), some (.int lo), some (.int hi)] : L2.St) _); try dsimp only [L2.cxOf, L2H.cxH]
    walk_at "rd"
    cases hw : whole d with
    | false =>
      refine use_whole hd hw ?_
      walk_at "rd"
      have hf : inRange lo hi d = false := by cases d <;> first | rfl | cases hw
      exact q2 hf
    | true =>
      refine use_whole hd hw ?_
      cases d <;> first | (cases hw; done) | skip
      rename_i n
      cases hd
      walk_at "rd"
      have e : inRange lo hi (.int n) = (decide (lo ≤ n) && decide (n ≤ hi)) := rfl
      rw [e] at q1 q2
      refine Vb.r_ite (fun c => ?_) (fun c => ?_)
      · rw [decide_eq_true c] at q1 q2
        walk_at "rd"
        cases c2 : decide (n ≤ hi) with
        | true =>
          rw [c2] at q1
          walk_at "rd"
          exact q1 rfl
        | false =>
          rw [c2] at q2
          walk_at "rd"
          exact q2 rfl
      · rw [decide_eq_false c] at q2
        walk_at "rd"
        exact q2 rfl
end
end K
namespace K
open PySem PySem.Spec PyProof.Rows L2
abbrev N_check_figures : List Str := ["integer"]
theorem sc_check_figures : FnScope N_check_figures ["integer"] (defScope s_check_figures) := ⟨rfl, rfl, rfl, by decide +kernel, rfl, by decide +kernel, by decide +kernel⟩
section
variable {P : Program} {w : World} {K : PySem.W.Frag} {mg : Str → Option Value} {base : Heap}
/-- the least whole number of 301 figures -/
def big300 : Int := 1000000000000000000000000000000000000000000000000000000000000000000000000000000000000000000000000000000000000000000000000000000000000000000000000000000000000000000000000000000000000000000000000000000000000000000000000000000000000000000000000000000000000000000000000000000000000000000000000000000000000
theorem big300_pow : big300 = (10 ^ Int.toNat 60) ^ Int.toNat 5 := by decide +kernel
/-- at most 300 figures -/
def Fig (n : Int) : Prop := -big300 < n ∧ n < big300
theorem big300_pos : 1000000000 < big300 := by decide +kernel
theorem fig_small {n : Int} (h : -1000000 < n ∧ n < 1000000) : Fig n := by
  have := big300_pos
  unfold Fig
  omega
def sp_checkfigures (C : Addr) : Sp := fun vs H Q E => ∃ n : Int, vs = [.int n] ∧ (Fig n → Q .non H) ∧ (¬ Fig n → E (.ref C) none H)
theorem ok_checkfigures (T : Txt K mg) : FnOk P w K mg base (L2N.CX P w) 1 T.f_check_figures T.fd_check_figures ["integer"] (sp_checkfigures T.C_TooLarge) := by
  refine Vb.okN T.d_check_figures.F sc_check_figures (fun vs H Q E h => ?_) (fun cdv A outer s H vs Q E hr h => ?_)
  · obtain ⟨n, rfl, _⟩ := h
    rfl
  · obtain ⟨n, rfl, q1, q2⟩ := h
    refine ⟨_, (pss_one (ps_if (pt_not (pt_chain op_lt op_lt (pe_un un_neg (pe_glob (v := .int 1000000000000000000000000000000000000000000000000000000000000000000000000000000000000000000000000000000000000000000000000000000000000000000000000000000000000000000000000000000000000000000000000000000000000000000000000000000000000000000000000000000000000000000000000000000000000000000000000000000000000) (by rfl) T.c_TEN_TO_300 ⟨_, rfl⟩)) (pv 0) (pe_glob (v := .int 1000000000000000000000000000000000000000000000000000000000000000000000000000000000000000000000000000000000000000000000000000000000000000000000000000000000000000000000000000000000000000000000000000000000000000000000000000000000000000000000000000000000000000000000000000000000000000000000000000000000000) (by rfl) T.c_TEN_TO_300 ⟨_, rfl⟩))) (pss_one (L2N.ps_raise rfl (L2N.takes_of rfl rfl rfl rfl) (Vb.pmk0 T.x_TooLarge rfl))) pss_nil)), ?_⟩
    (change (_ : L2.TS) _ ([some (.int n)] : L2.St) _); try dsimp only [L2.cxOf, L2H.cxH]
    have hb : (1000000000000000000000000000000000000000000000000000000000000000000000000000000000000000000000000000000000000000000000000000000000000000000000000000000000000000000000000000000000000000000000000000000000000000000000000000000000000000000000000000000000000000000000000000000000000000000000000000000000000 : Int) = big300 := rfl
    walk_at "rd"
    try simp only [hb]
    refine Vb.r_ite (fun c => ?_) (fun c => ?_)
    · walk_at "rd"
      refine Vb.r_iteN (fun c2 => ?_) (fun c2 => ?_)
      · walk_at "rd"
        exact q2 fun z => c2 z.2
      · walk_at "rd"
        exact q1 ⟨c, c2⟩
    · walk_at "rd"
      exact q2 fun z => c z.1
end
end K
namespace K
open PySem PySem.Spec PyProof.Rows L2
abbrev N_power_modulo : List Str := ["prime", "number", "exponent", "result"]
theorem sc_power_modulo : FnScope N_power_modulo ["prime", "number", "exponent"] (defScope s_power_modulo) := ⟨rfl, rfl, rfl, by decide +kernel, rfl, by decide +kernel, by decide +kernel⟩
section
variable {P : Program} {w : World} {K : PySem.W.Frag} {mg : Str → Option Value} {base : Heap}
theorem pow_emod (a p : Int) : ∀ k : Nat, (a % p) ^ k % p = a ^ k % p
  | 0 => by rw [Int.pow_zero, Int.pow_zero]
  | k + 1 => by rw [Int.pow_succ, Int.mul_emod, pow_emod a p k, Int.emod_emod, ← Int.mul_emod, ← Int.pow_succ]
theorem pow_two_mul (a : Int) : ∀ k : Nat, (a * a) ^ k = a ^ (2 * k)
  | 0 => by rw [Int.pow_zero, Nat.mul_zero, Int.pow_zero]
  | k + 1 => by rw [Int.pow_succ, pow_two_mul a k, show 2 * (k + 1) = 2 * k + 1 + 1 by omega, Int.pow_succ, Int.pow_succ, Int.mul_assoc]
theorem mod_mul {r a b p : Int} (h : a % p = b % p) : (r * a) % p = (r * b) % p := by rw [Int.mul_emod, h, ← Int.mul_emod]
theorem mod_mul_left {r s a p : Int} (h : r % p = s % p) : (r * a) % p = (s * a) % p := by rw [Int.mul_emod, h, ← Int.mul_emod]
/-- a turn of the powers: the exponent is halved -/
theorem pow_half (r N p : Int) (k : Nat) : (r * (N * N % p) ^ k) % p = (r * N ^ (2 * k)) % p := by
  rw [← pow_two_mul]
  exact mod_mul (pow_emod _ _ _)
def sp_powmod (K : PySem.W.Frag) : Sp := fun vs H Q _ => ∃ (p n : Int) (e : Nat), vs = [.int p, .int n, .int e] ∧ (2 ≤ p ∧ p ≤ 101) ∧ (0 ≤ n ∧ n < p) ∧ Q (.int (n ^ e % p)) H
theorem use_powmod {p n z : Int} {H : Hp} {Q : VK} {E : XK} (h : 2 ≤ p ∧ p ≤ 101) (hn : 0 ≤ n ∧ n < p) (hz : 0 ≤ z) (q : Q (.int (n ^ z.toNat % p)) H) : sp_powmod K [.int p, .int n, .int z] H Q E := ⟨p, n, z.toNat, by rw [Int.toNat_of_nonneg hz], h, hn, q⟩
theorem ok_powmod (T : Txt K mg) : FnOk P w K mg base (L2N.CX P w) 1 T.f_power_modulo T.fd_power_modulo ["prime", "number", "exponent"] (sp_powmod K) := by
  refine Vb.okN T.d_power_modulo.F sc_power_modulo (fun vs H Q E h => ?_) (fun cdv A outer s H vs Q E hr h => ?_)
  · obtain ⟨a, b, c, rfl, _⟩ := h
    rfl
  · obtain ⟨p, n, e, rfl, ⟨hp, hp2⟩, ⟨hn, hn2⟩, q⟩ := h
    refine ⟨_, (pss_cons (ps_set (i := 3) sc_power_modulo.nd rfl (by first | exact Or.inl rfl | exact Or.inr rfl) pe_int)
      (pss_cons (ps_while (L2.passes_of rfl) (pt_cmpR op_gt (pv 2) pe_int (nomark _)) (pss_cons (ps_if (pt_cmpR op_eq (pe_op op_mod (pv 2) pe_int) pe_int (nomark _)) (pss_one (ps_set (i := 3) sc_power_modulo.nd rfl (by first | exact Or.inl rfl | exact Or.inr rfl) (pe_op op_mod (pe_op op_mul (pv 3) (pv 1)) (pv 0)))) pss_nil)
      (pss_cons (ps_set (i := 1) sc_power_modulo.nd rfl (by first | exact Or.inl rfl | exact Or.inr rfl) (pe_op op_mod (pe_op op_mul (pv 1) (pv 1)) (pv 0)))
      (pss_one (ps_set (i := 2) sc_power_modulo.nd rfl (by first | exact Or.inl rfl | exact Or.inr rfl) (pe_op op_fdiv (pv 2) pe_int))))))
      (pss_one (ps_ret (pv 3))))), ?_⟩
    (change (_ : L2.TS) _ ([some (.int p), some (.int n), some (.int e), none] : L2.St) _); try dsimp only [L2.cxOf, L2H.cxH]
    walk_at "rd"
    refine Vb.r_while (fun m σ H' => H' = H ∧ ∃ (r N : Int), σ = [some (.int p), some (.int N), some (.int (m : Nat)), some (.int r)] ∧ (0 ≤ r ∧ r < p) ∧ (0 ≤ N ∧ N < p) ∧ (r * N ^ m) % p = n ^ e % p) e ⟨rfl, 1, n, rfl, ⟨by omega, by omega⟩, ⟨hn, hn2⟩, by rw [Int.one_mul]⟩ ?_
    rintro m σ H' ⟨rfl, r, N, rfl, ⟨h0, h1⟩, ⟨h2, h3⟩, hm⟩
    have hmul : ∀ {a b : Int}, 0 ≤ a → a < p → 0 ≤ b → b < p → 0 ≤ a * b ∧ a * b ≤ 101 * 101 := fun x1 x2 x3 x4 => ⟨Int.mul_nonneg x1 x3, Int.mul_le_mul (by omega) (by omega) x3 (by omega)⟩
    have hmod : ∀ z : Int, 0 ≤ z % p ∧ z % p < p := fun z => ⟨Int.emod_nonneg _ (by omega), Int.emod_lt_of_pos _ (by omega)⟩
    walk_at "rd"
    refine Vb.r_ite (fun c1 => ?_) (fun c1 => ?_)
    · refine Vb.wh_body ?_
      walk_at "rd"
      have hdiv : (m : Int) / 2 = ((m / 2 : Nat) : Int) := by omega
      refine Vb.r_ite (fun c2 => ?_) (fun c2 => ?_)
      · walk_at "rd"
        refine ⟨m / 2, by omega, rfl, _, _, by rw [hdiv]; rfl, hmod _, hmod _, ?_⟩
        rw [pow_half, mod_mul_left (Int.emod_emod _ _), ← hm, Int.mul_assoc, Int.mul_comm N, ← Int.pow_succ, show (2 * (m / 2)).succ = m by omega]
      · walk_at "rd"
        refine ⟨m / 2, by omega, rfl, _, _, by rw [hdiv]; rfl, ⟨h0, h1⟩, hmod _, ?_⟩
        rw [pow_half, ← hm, show 2 * (m / 2) = m by omega]
    · walk_at "rd"
      have e0 : m = 0 := by omega
      subst e0
      rw [← hm, Int.pow_zero, Int.mul_one, Int.emod_eq_of_lt h0 h1] at q
      exact q
end
end K
namespace K
open PySem PySem.Spec PyProof.Rows L2
abbrev N__law_bad_integer : List Str := ["store", "low", "high", "way"]
theorem sc__law_bad_integer : FnScope N__law_bad_integer ["store", "low", "high"] (defScope s__law_bad_integer) := ⟨rfl, rfl, rfl, by decide +kernel, rfl, by decide +kernel, by decide +kernel⟩
section
variable {P : Program} {w : World} {K : PySem.W.Frag} {mg : Str → Option Value} {base : Heap}
theorem odd_range {lo hi : Int} : ∀ d ∈ oddKinds, inRange lo hi d = false ∧ Vb.DOk 4 d := by
  intro d m
  refine ⟨?_, (odd_bad d m).2.2⟩
  have := (odd_bad d m).2.1
  cases d <;> first | rfl | cases this
theorem inRange_no {lo hi n : Int} (h : n < lo ∨ hi < n) : inRange lo hi (.int n) = false := by
  cases e : inRange lo hi (.int n) with
  | false => rfl
  | true => have := inRange_int.mp e; omega
theorem trk_fr {Z : List Addr} {st : Addr} {H H' : Hp} (t : Vb.Trk Z H) (f : Vb.Fr st H H') (S : Vb.StoreAt H' st) : Vb.Trk Z H' := fun z m => by
  obtain ⟨o, h⟩ := t z m
  by_cases e : z = st
  · obtain ⟨l, ns, a, b, c, d, n, h1, _⟩ := S
    exact ⟨_, by rw [e]; exact h1⟩
  · exact ⟨o, f.k _ _ e h⟩
def sp_badinteger (K : PySem.W.Frag) : Sp := fun vs H Q _ => ∃ (st : Addr) (lo hi : Int), vs = [.ref st, .int lo, .int hi] ∧ Vb.StoreAt H st ∧ lo ≤ hi ∧ ∀ (v : V) (d : PyData) (H' : Hp), inRange lo hi d = false → Vb.DOk 4 d → Vb.Fr st H H' → Vb.StoreAt H' st → (∀ Z, Vb.Trk Z H → Dp K (Vb.offs (st :: Z) H') v d) → Q v H'
theorem use_badinteger {st : Addr} {lo hi : Int} {H : Hp} {Q : VK} {E : XK} (h1 : Vb.StoreAt H st) (h2 : lo ≤ hi) (h : ∀ (v : V) (d : PyData) (H' : Hp), inRange lo hi d = false → Vb.DOk 4 d → Vb.Fr st H H' → Vb.StoreAt H' st → (∀ Z, Vb.Trk Z H → Dp K (Vb.offs (st :: Z) H') v d) → Q v H') : sp_badinteger K [.ref st, .int lo, .int hi] H Q E := ⟨st, lo, hi, rfl, h1, h2, h⟩
theorem ok_badinteger (T : Txt K mg) : FnOk P w K mg base (L2N.CX P w) 5 T.f__law_bad_integer T.fd__law_bad_integer ["store", "low", "high"] (sp_badinteger K) := by
  have G__law_take := ok_take (P := P) (w := w) (base := base) T
  have G__law_pick := ok_pick (P := P) (w := w) (base := base) T
  have G__law_other_kind := ok_kind (P := P) (w := w) (base := base) T
  refine Vb.okN T.d__law_bad_integer.F sc__law_bad_integer (fun vs H Q E h => ?_) (fun cdv A outer s H vs Q E hr h => ?_)
  · obtain ⟨a, b, c, rfl, _⟩ := h
    rfl
  · obtain ⟨st, lo, hi, rfl, hS, hb, q⟩ := h
    refine ⟨_, (pss_cons (ps_set (i := 3) sc__law_bad_integer.nd rfl (by first | exact Or.inl rfl | exact Or.inr rfl) (pe_callS G__law_take (hr.mono (by first | decide | omega)) (by rfl) T.d__law_take.g T.d__law_take.F.kp T.d__law_take.b (fun σ => L2N.passAt (L2N.takes_of rfl rfl rfl rfl) σ) (pa_cons (pv 0) (pa_cons pe_int pa_nil))))
      (pss_cons (ps_if (pt_cmpR op_eq (pv 3) pe_int (nomark _)) (pss_one (ps_ret (pe_op op_sub (pv 1) pe_int))) pss_nil)
      (pss_cons (ps_if (pt_cmpR op_eq (pv 3) pe_int (nomark _)) (pss_one (ps_ret (pe_op op_add (pv 2) pe_int))) pss_nil)
      (pss_cons (ps_if (pt_cmpR op_eq (pv 3) pe_int (nomark _)) (pss_one (ps_ret (pe_op op_sub (pe_op op_sub (pv 1) pe_int) (pe_callS G__law_take (hr.mono (by first | decide | omega)) (by rfl) T.d__law_take.g T.d__law_take.F.kp T.d__law_take.b (fun σ => L2N.passAt (L2N.takes_of rfl rfl rfl rfl) σ) (pa_cons (pv 0) (pa_cons pe_int pa_nil)))))) pss_nil)
      (pss_cons (ps_if (pt_cmpR op_eq (pv 3) pe_int (nomark _)) (pss_one (ps_ret (pe_op op_add (pe_op op_add (pv 2) pe_int) (pe_callS G__law_take (hr.mono (by first | decide | omega)) (by rfl) T.d__law_take.g T.d__law_take.F.kp T.d__law_take.b (fun σ => L2N.passAt (L2N.takes_of rfl rfl rfl rfl) σ) (pa_cons (pv 0) (pa_cons pe_int pa_nil)))))) pss_nil)
      (pss_cons (ps_if (pt_cmpR op_eq (pv 3) pe_int (nomark _)) (pss_one (ps_ret (pe_callS G__law_pick (hr.mono (by first | decide | omega)) (by rfl) T.d__law_pick.g T.d__law_pick.F.kp T.d__law_pick.b (fun σ => L2N.passAt (L2N.takes_of rfl rfl rfl rfl) σ) (pa_cons (pv 0) (pa_cons (pe_lst (pa_cons (pe_op op_add (pv 2) (pe_op Vb.op_powB pe_int pe_int)) (pa_cons (pe_op op_sub (pv 1) (pe_op Vb.op_powB pe_int pe_int)) pa_nil))) pa_nil))))) pss_nil)
      (pss_one (ps_ret (pe_callS G__law_other_kind (hr.mono (by first | decide | omega)) (by rfl) T.d__law_other_kind.g T.d__law_other_kind.F.kp T.d__law_other_kind.b (fun σ => L2N.passAt (L2N.takes_of rfl rfl rfl rfl) σ) (pa_cons (pv 0) pa_nil)))))))))), ?_⟩
    (change (_ : L2.TS) _ ([some (.ref st), some (.int lo), some (.int hi), none] : L2.St) _); try dsimp only [L2.cxOf, L2H.cxH]
    have qi : ∀ (n : Int) (H' : Hp), (n < lo ∨ hi < n) → Vb.Fr st H H' → Vb.StoreAt H' st → Q (.int n) H' := fun n H' h f S => q _ (.int n) _ (inRange_no h) trivial f S fun Z _ => .int n
    walk_at "rd"
    refine use_take hS (by decide) fun way H1 a1 a2 _ f1 S1 => ?_
    walk_at "rd"
    refine Vb.r_ite (fun c => ?_) (fun c => ?_)
    · walk_at "rd"
      exact qi _ _ (by omega) f1 S1
    walk_at "rd"
    refine Vb.r_ite (fun c => ?_) (fun c => ?_)
    · walk_at "rd"
      exact qi _ _ (by omega) f1 S1
    walk_at "rd"
    refine Vb.r_ite (fun c => ?_) (fun c => ?_)
    · walk_at "rd"
      refine use_take S1 (by decide) fun t H2 b1 _ _ f2 S2 => ?_
      walk_at "rd"
      exact qi _ _ (by omega) (f1.trans f2) S2
    walk_at "rd"
    refine Vb.r_ite (fun c => ?_) (fun c => ?_)
    · walk_at "rd"
      refine use_take S1 (by decide) fun t H2 b1 _ _ f2 S2 => ?_
      walk_at "rd"
      exact qi _ _ (by omega) (f1.trans f2) S2
    walk_at "rd"
    refine Vb.r_ite (fun c => ?_) (fun c => ?_)
    · walk_at "rd"
      refine ⟨Vb.size_ok (by show 2 ≤ 16777216; decide), fun l nl => ?_⟩
      walk_at "rd"
      have e := Vb.same_new (o := .lst [.int (hi + 10 ^ 40), .int (lo - 10 ^ 40)]) nl
      refine use_pick [.int (hi + 10 ^ 40), .int (lo - 10 ^ 40)] (S1.same e) (S1.ne nl) (Vb.sq_of upd_same) (by show 2 < 1000000; decide) (by simp) fun i x H2 h2 f2 S2 => ?_
      have m := List.mem_of_getElem? h2
      simp only [List.mem_cons, List.not_mem_nil, or_false] at m
      rcases m with rfl | rfl <;> exact qi _ _ (by omega) ((f1.trans (Vb.Fr.of e)).trans f2) S2
    walk_at "rd"
    refine use_kind S1 fun v d H2 m f2 S2 g => ?_
    obtain ⟨o1, o2⟩ := odd_range (lo := lo) (hi := hi) d m
    exact q _ _ _ o1 o2 (f1.trans f2) S2 fun Z t => g Z (trk_fr t f1 S1)
end
end K
namespace K
open PySem PySem.Spec PyProof.Rows L2
abbrev N__law_small_prime : List Str := ["store"]
theorem sc__law_small_prime : FnScope N__law_small_prime ["store"] (defScope s__law_small_prime) := ⟨rfl, rfl, rfl, by decide +kernel, rfl, by decide +kernel, by decide +kernel⟩
section
variable {P : Program} {w : World} {K : PySem.W.Frag} {mg : Str → Option Value} {base : Heap}
theorem small_prm : ∀ z : Int, z = 2 ∨ z = 3 ∨ z = 5 ∨ z = 7 → Vb.Prm z := fun z h => by
  rcases h with rfl | rfl | rfl | rfl <;> exact (Vb.isP_iff _).mp (by decide +kernel)
def sp_smallprime (K : PySem.W.Frag) : Sp := fun vs H Q _ => ∃ (st : Addr), vs = [.ref st] ∧ Vb.StoreAt H st ∧ ∀ (p : Int) (H' : Hp), Vb.Prm p → p ≤ 7 → Vb.Fr st H H' → Vb.StoreAt H' st → Q (.int p) H'
theorem use_smallprime {st : Addr} {H : Hp} {Q : VK} {E : XK} (h1 : Vb.StoreAt H st) (h : ∀ (p : Int) (H' : Hp), Vb.Prm p → p ≤ 7 → Vb.Fr st H H' → Vb.StoreAt H' st → Q (.int p) H') : sp_smallprime K [.ref st] H Q E := ⟨st, rfl, h1, h⟩
theorem ok_smallprime (T : Txt K mg) : FnOk P w K mg base (L2N.CX P w) 3 T.f__law_small_prime T.fd__law_small_prime ["store"] (sp_smallprime K) := by
  have G__law_take := ok_take (P := P) (w := w) (base := base) T
  refine Vb.okN T.d__law_small_prime.F sc__law_small_prime (fun vs H Q E h => ?_) (fun cdv A outer s H vs Q E hr h => ?_)
  · obtain ⟨a, rfl, _⟩ := h
    rfl
  · obtain ⟨st, rfl, hS, q⟩ := h
    refine ⟨_, (pss_one (ps_ret (pe_ix ix_list (pe_lst (pa_cons pe_int (pa_cons pe_int (pa_cons pe_int (pa_cons pe_int (pa_cons pe_int (pa_cons pe_int (pa_cons pe_int (pa_cons pe_int (pa_cons pe_int pa_nil)))))))))) (pe_callS G__law_take (hr.mono (by first | decide | omega)) (by rfl) T.d__law_take.g T.d__law_take.F.kp T.d__law_take.b (fun σ => L2N.passAt (L2N.takes_of rfl rfl rfl rfl) σ) (pa_cons (pv 0) (pa_cons pe_int pa_nil))) (fun _ _ => rfl)))), ?_⟩
    (change (_ : L2.TS) _ ([some (.ref st)] : L2.St) _); try dsimp only [L2.cxOf, L2H.cxH]
    walk_at "rd"
    refine ⟨Vb.size_ok (by show 9 ≤ 16777216; decide), fun l nl => ?_⟩
    walk_at "rd"
    have e := Vb.same_new (o := .lst [.int 2, .int 3, .int 2, .int 3, .int 5, .int 2, .int 3, .int 5, .int 7]) nl
    refine use_take (hS.same e) (by decide) fun t H1 a1 a2 _ f1 S1 => ?_
    have a3 := a2 (by decide)
    have hv : ∃ z : Int, (z = 2 ∨ z = 3 ∨ z = 5 ∨ z = 7) ∧ ([.int 2, .int 3, .int 2, .int 3, .int 5, .int 2, .int 3, .int 5, .int 7] : List V)[t.toNat]? = some (.int z) := by
      have : t.toNat = 0 ∨ t.toNat = 1 ∨ t.toNat = 2 ∨ t.toNat = 3 ∨ t.toNat = 4 ∨ t.toNat = 5 ∨ t.toNat = 6 ∨ t.toNat = 7 ∨ t.toNat = 8 := by omega
      rcases this with h | h | h | h | h | h | h | h | h <;> rw [h] <;> exact ⟨_, by omega, rfl⟩
    obtain ⟨z, hz, hg⟩ := hv
    refine Vb.r_ixL (Vb.sq_of (f1.k _ _ (hS.ne nl) upd_same)) (Vb.at_lit t.toNat (by omega) hg) ?_
    exact q _ _ (small_prm z hz) (by omega) ((Vb.Fr.of e).trans f1) S1
end
end K
namespace K
open PySem PySem.Spec PyProof.Rows L2
abbrev N__law_number : List Str := ["store", "prime"]
theorem sc__law_number : FnScope N__law_number ["store", "prime"] (defScope s__law_number) := ⟨rfl, rfl, rfl, by decide +kernel, rfl, by decide +kernel, by decide +kernel⟩
section
variable {P : Program} {w : World} {K : PySem.W.Frag} {mg : Str → Option Value} {base : Heap}
def sp_lawnumber (K : PySem.W.Frag) : Sp := fun vs H Q _ => ∃ (st : Addr) (p : Int), vs = [.ref st, .int p] ∧ Vb.StoreAt H st ∧ (1 ≤ p ∧ p ≤ 101) ∧ ∀ (n : Int) (H' : Hp), 0 ≤ n → n < p → Vb.Fr st H H' → Vb.StoreAt H' st → Q (.int n) H'
theorem use_lawnumber {st : Addr} {p : Int} {H : Hp} {Q : VK} {E : XK} (h1 : Vb.StoreAt H st) (h2 : 1 ≤ p ∧ p ≤ 101) (h : ∀ (n : Int) (H' : Hp), 0 ≤ n → n < p → Vb.Fr st H H' → Vb.StoreAt H' st → Q (.int n) H') : sp_lawnumber K [.ref st, .int p] H Q E := ⟨st, p, rfl, h1, h2, h⟩
theorem ok_lawnumber (T : Txt K mg) : FnOk P w K mg base (L2N.CX P w) 4 T.f__law_number T.fd__law_number ["store", "prime"] (sp_lawnumber K) := by
  have G__law_edge := ok_edge (P := P) (w := w) (base := base) T
  refine Vb.okN T.d__law_number.F sc__law_number (fun vs H Q E h => ?_) (fun cdv A outer s H vs Q E hr h => ?_)
  · obtain ⟨a, b, rfl, _⟩ := h
    rfl
  · obtain ⟨st, p, rfl, hS, hp, q⟩ := h
    refine ⟨_, (pss_one (ps_ret (pe_callS G__law_edge (hr.mono (by first | decide | omega)) (by rfl) T.d__law_edge.g T.d__law_edge.F.kp T.d__law_edge.b (fun σ => L2N.passAt (L2N.takes_of rfl rfl rfl rfl) σ) (pa_cons (pv 0) (pa_cons pe_int (pa_cons (pe_op op_sub (pv 1) pe_int) pa_nil)))))), ?_⟩
    (change (_ : L2.TS) _ ([some (.ref st), some (.int p)] : L2.St) _); try dsimp only [L2.cxOf, L2H.cxH]
    walk_at "rd"
    refine use_edge hS (by omega) fun n H1 a1 a2 _ f1 S1 => ?_
    exact q _ _ a1 (by omega) f1 S1
end
end K
namespace K
open PySem PySem.Spec PyProof.Rows L2
abbrev N__law_bad_number : List Str := ["store", "prime"]
theorem sc__law_bad_number : FnScope N__law_bad_number ["store", "prime"] (defScope s__law_bad_number) := ⟨rfl, rfl, rfl, by decide +kernel, rfl, by decide +kernel, by decide +kernel⟩
section
variable {P : Program} {w : World} {K : PySem.W.Frag} {mg : Str → Option Value} {base : Heap}
theorem range_field {p : Int} {d : PyData} (h : inRange 0 (p - 1) d = false) : inField p d = false := by
  cases e : inField p d with
  | false => rfl
  | true =>
    obtain ⟨n, rfl, h1, h2⟩ := inField_of e
    rw [inRange_int.mpr ⟨h1, by omega⟩] at h
    cases h
def sp_badnumber (K : PySem.W.Frag) : Sp := fun vs H Q _ => ∃ (st : Addr) (p : Int), vs = [.ref st, .int p] ∧ Vb.StoreAt H st ∧ 1 ≤ p ∧ ∀ (v : V) (d : PyData) (H' : Hp), inField p d = false → Vb.DOk 4 d → Vb.Fr st H H' → Vb.StoreAt H' st → (∀ Z, Vb.Trk Z H → Dp K (Vb.offs (st :: Z) H') v d) → Q v H'
theorem use_badnumber {st : Addr} {p : Int} {H : Hp} {Q : VK} {E : XK} (h1 : Vb.StoreAt H st) (h2 : 1 ≤ p) (h : ∀ (v : V) (d : PyData) (H' : Hp), inField p d = false → Vb.DOk 4 d → Vb.Fr st H H' → Vb.StoreAt H' st → (∀ Z, Vb.Trk Z H → Dp K (Vb.offs (st :: Z) H') v d) → Q v H') : sp_badnumber K [.ref st, .int p] H Q E := ⟨st, p, rfl, h1, h2, h⟩
theorem ok_badnumber (T : Txt K mg) : FnOk P w K mg base (L2N.CX P w) 6 T.f__law_bad_number T.fd__law_bad_number ["store", "prime"] (sp_badnumber K) := by
  have G__law_bad_integer := ok_badinteger (P := P) (w := w) (base := base) T
  refine Vb.okN T.d__law_bad_number.F sc__law_bad_number (fun vs H Q E h => ?_) (fun cdv A outer s H vs Q E hr h => ?_)
  · obtain ⟨a, b, rfl, _⟩ := h
    rfl
  · obtain ⟨st, p, rfl, hS, hp, q⟩ := h
    refine ⟨_, (pss_one (ps_ret (pe_callS G__law_bad_integer (hr.mono (by first | decide | omega)) (by rfl) T.d__law_bad_integer.g T.d__law_bad_integer.F.kp T.d__law_bad_integer.b (fun σ => L2N.passAt (L2N.takes_of rfl rfl rfl rfl) σ) (pa_cons (pv 0) (pa_cons pe_int (pa_cons (pe_op op_sub (pv 1) pe_int) pa_nil)))))), ?_⟩
    (change (_ : L2.TS) _ ([some (.ref st), some (.int p)] : L2.St) _); try dsimp only [L2.cxOf, L2H.cxH]
    walk_at "rd"
    refine use_badinteger hS (by omega) fun v d H1 h1 h2 f1 S1 g => ?_
    exact q _ _ _ (range_field h1) h2 f1 S1 g
end
end K
namespace K
open PySem PySem.Spec PyProof.Rows L2
abbrev N_Field___init__ : List Str := ["self", "prime"]
theorem sc_Field___init__ : FnScope N_Field___init__ ["self", "prime"] (defScope s_Field___init__) := ⟨rfl, rfl, rfl, by decide +kernel, rfl, by decide +kernel, by decide +kernel⟩
section
variable {P : Program} {w : World} {K : PySem.W.Frag} {mg : Str → Option Value} {base : Heap}
/-- a field of p at a -/
def FieldAt (C : Addr) (H : Hp) (a : Addr) (p : Int) : Prop := ∃ dx, H a = some (.ins C dx [("prime", .int p)])
theorem FieldAt.same {C : Addr} {H H' : Hp} {a : Addr} {p : Int} (h : FieldAt C H a p) (e : Same H H') : FieldAt C H' a p := h.elim fun dx h => ⟨dx, e _ _ h⟩
theorem FieldAt.fr {C : Addr} {H H' : Hp} {a st : Addr} {p : Int} (h : FieldAt C H a p) (e : Vb.Fr st H H') (n : a ≠ st) : FieldAt C H' a p := h.elim fun dx h => ⟨dx, e.k _ _ n h⟩
def sp_finit (K : PySem.W.Frag) (C N : Addr) : Sp := fun vs H Q E => ∃ (a dx : Addr) (v : V) (d : PyData), vs = [.ref a, v] ∧ H a = some (.ins C dx []) ∧ H dx = some (.own a) ∧ Dp K H v d ∧ (field d = true → Q .non (upd H a (.ins C dx [("prime", v)]))) ∧ (field d = false → ∀ dd : Addr, H dd = none → E (.ref N) (some dd) (upd H dd (.xd [("value", v)])))
theorem use_mkfield {C N : Addr} {p : Int} {H : Hp} {R : Addr → Hp → Prop} {E : XK} (h : Vb.Prm p) (l : p ≤ 101) (q : ∀ (x : Addr) (H' : Hp), H x = none → Same H H' → FieldAt C H' x p → R x H') :
    ∀ x dx, H x = none → H dx = none → dx ≠ x → sp_finit K C N [.ref x, .int p] (upd (upd H dx (.own x)) x (.ins C dx [])) (fun v H2 => v = .non ∧ R x H2) E := fun x dx nx ndx ne =>
  ⟨x, dx, .int p, .int p, rfl, upd_same, Vb.h_ne ne upd_same, .int p, fun _ => ⟨rfl, q x _ nx (Vb.same_mut (Vb.same_mut (Vb.same_new ndx) nx) nx) ⟨dx, upd_same⟩⟩, fun z => by rw [field_yes h l] at z; cases z⟩
theorem ok_finit (T : Txt K mg) : FnOk P w K mg base (L2N.CX P w) 4 T.f_Field___init__ T.fd_Field___init__ ["self", "prime"] (sp_finit K T.C_Field T.C_NotPrime) := by
  have G_check_prime := ok_check (P := P) (w := w) (base := base) T
  refine Vb.okN T.d_Field___init__.F sc_Field___init__ (fun vs H Q E h => ?_) (fun cdv A outer s H vs Q E hr h => ?_)
  · obtain ⟨a, b, c, d, rfl, _⟩ := h
    rfl
  · obtain ⟨a, dx, v, d, rfl, ha, hx, hd, q1, q2⟩ := h
    refine ⟨_, (pss_one (ps_fld (pv 0) (pe_callS G_check_prime (hr.mono (by first | decide | omega)) (by rfl) T.d_check_prime.g T.d_check_prime.F.kp T.d_check_prime.b (fun σ => L2N.passAt (L2N.takes_of rfl rfl rfl rfl) σ) (pa_cons (pv 1) pa_nil)) rfl)), ?_⟩
    (change (_ : L2.TS) _ ([some (.ref a), some (v)] : L2.St) _); try dsimp only [L2.cxOf, L2H.cxH]
    walk_at "rd"
    refine ⟨v, d, rfl, hd, fun hf => ?_, fun hf => q2 hf⟩
    walk_at "rd"
    exact ⟨a, _, _, _, rfl, ha, T.c_Field, T.a_Field_prime, by decide, q1 hf⟩
end
end K
namespace K
open PySem PySem.Spec PyProof.Rows L2
abbrev N_Field_power : List Str := ["self", "number", "exponent"]
theorem sc_Field_power : FnScope N_Field_power ["self", "number", "exponent"] (defScope s_Field_power) := ⟨rfl, rfl, rfl, by decide +kernel, rfl, by decide +kernel, by decide +kernel⟩
section
variable {P : Program} {w : World} {K : PySem.W.Frag} {mg : Str → Option Value} {base : Heap}
/-- a power, or what is refused -/
def sp_fpower (K : PySem.W.Frag) (C N R : Addr) : Sp := fun vs H Q E => ∃ (a : Addr) (p : Int) (v1 v2 : V) (d1 d2 : PyData), vs = [.ref a, v1, v2] ∧ FieldAt C H a p ∧ (2 ≤ p ∧ p ≤ 101) ∧ Dp K H v1 d1 ∧ Dp K H v2 d2 ∧
  (∀ x e : Int, d1 = .int x → d2 = .int e → 0 ≤ x ∧ x < p → 0 ≤ e ∧ e ≤ 10000 → Q (.int (x ^ e.toNat % p)) H) ∧
  (inField p d1 = false → ∀ dd : Addr, H dd = none → E (.ref N) (some dd) (upd H dd (.xd [("value", v1)]))) ∧
  (inField p d1 = true → inRange 0 10000 d2 = false → E (.ref R) none H)
theorem run_fpower {C N R a : Addr} {p x e : Int} {H : Hp} {Q : VK} {E : XK} (ha : FieldAt C H a p) (hp : 2 ≤ p ∧ p ≤ 101) (hx : 0 ≤ x ∧ x < p) (he : 0 ≤ e ∧ e ≤ 10000) (q : Q (.int (x ^ e.toNat % p)) H) : sp_fpower K C N R [.ref a, .int x, .int e] H Q E :=
  ⟨a, p, _, _, .int x, .int e, rfl, ha, hp, .int x, .int e, (fun x' y' e1 e2 _ _ => by cases e1; cases e2; exact q), (fun f => by rw [inField_int.mpr hx] at f; cases f), (fun _ f => by rw [inRange_int.mpr he] at f; cases f)⟩
theorem ok_fpower (T : Txt K mg) : FnOk P w K mg base (L2N.CX P w) 4 T.f_Field_power T.fd_Field_power ["self", "number", "exponent"] (sp_fpower K T.C_Field T.C_NotInField T.C_OutOfRange) := by
  have G_check_number := ok_checknum (P := P) (w := w) (base := base) T
  have G_check_range := ok_checkrange (P := P) (w := w) (base := base) T
  have G_power_modulo := ok_powmod (P := P) (w := w) (base := base) T
  refine Vb.okN T.d_Field_power.F sc_Field_power (fun vs H Q E h => ?_) (fun cdv A outer s H vs Q E hr h => ?_)
  · obtain ⟨a, p, v1, v2, d1, d2, rfl, _⟩ := h
    rfl
  · obtain ⟨a, p, v1, v2, d1, d2, rfl, ⟨dx, ha⟩, hp, h1, h2, q, q1, q2⟩ := h
    refine ⟨_, (pss_cons (ps_expr (pe_callS G_check_number (hr.mono (by first | decide | omega)) (by rfl) T.d_check_number.g T.d_check_number.F.kp T.d_check_number.b (fun σ => L2N.passAt (L2N.takes_of rfl rfl rfl rfl) σ) (pa_cons (pe_fld (pv 0) rfl) (pa_cons (pv 1) pa_nil))))
      (pss_cons (ps_expr (pe_callS G_check_range (hr.mono (by first | decide | omega)) (by rfl) T.d_check_range.g T.d_check_range.F.kp T.d_check_range.b (fun σ => L2N.passAt (L2N.takes_of rfl rfl rfl rfl) σ) (pa_cons (pv 2) (pa_cons pe_int (pa_cons (pe_glob (v := .int 10000) (by rfl) T.c_MAX_EXPONENT ⟨_, rfl⟩) pa_nil)))))
      (pss_one (ps_ret (pe_callS G_power_modulo (hr.mono (by first | decide | omega)) (by rfl) T.d_power_modulo.g T.d_power_modulo.F.kp T.d_power_modulo.b (fun σ => L2N.passAt (L2N.takes_of rfl rfl rfl rfl) σ) (pa_cons (pe_fld (pv 0) rfl) (pa_cons (pv 1) (pa_cons (pv 2) pa_nil)))))))), ?_⟩
    (change (_ : L2.TS) _ ([some (.ref a), some (v1), some (v2)] : L2.St) _); try dsimp only [L2.cxOf, L2H.cxH]
    have cF := T.c_Field
    have aF : NoAttr K T.C_Field "prime" := T.a_Field_prime
    walk_at "rd"
    refine ⟨p, v1, d1, rfl, h1, fun f1 => ?_, fun f1 dd n => q1 f1 dd n⟩
    obtain ⟨x, rfl, x1⟩ := inField_of f1
    cases h1
    walk_at "rd"
    refine ⟨v2, 0, 10000, d2, rfl, h2, fun f2 => ?_, fun f2 => q2 f1 f2⟩
    obtain ⟨e, rfl, e1, e2⟩ := inRange_of f2
    cases h2
    walk_at "rd"
    refine use_powmod hp x1 e1 ?_
    exact q x e rfl rfl x1 ⟨e1, e2⟩
end
end K
namespace K
open PySem PySem.Spec PyProof.Rows L2
abbrev N_Field_reduce : List Str := ["self", "integer"]
theorem sc_Field_reduce : FnScope N_Field_reduce ["self", "integer"] (defScope s_Field_reduce) := ⟨rfl, rfl, rfl, by decide +kernel, rfl, by decide +kernel, by decide +kernel⟩
section
variable {P : Program} {w : World} {K : PySem.W.Frag} {mg : Str → Option Value} {base : Heap}
/-- what is left of an integer, or that it is too large -/
def sp_freduce (C L : Addr) : Sp := fun vs H Q E => ∃ (a : Addr) (p n : Int), vs = [.ref a, .int n] ∧ FieldAt C H a p ∧ (2 ≤ p ∧ p ≤ 101) ∧ (Fig n → Q (.int (n % p)) H) ∧ (¬ Fig n → E (.ref L) none H)
theorem ok_freduce (T : Txt K mg) : FnOk P w K mg base (L2N.CX P w) 2 T.f_Field_reduce T.fd_Field_reduce ["self", "integer"] (sp_freduce T.C_Field T.C_TooLarge) := by
  have G_check_figures := ok_checkfigures (P := P) (w := w) (base := base) T
  refine Vb.okN T.d_Field_reduce.F sc_Field_reduce (fun vs H Q E h => ?_) (fun cdv A outer s H vs Q E hr h => ?_)
  · obtain ⟨a, p, n, rfl, _⟩ := h
    rfl
  · obtain ⟨a, p, n, rfl, ⟨dx, ha⟩, hp, q1, q2⟩ := h
    refine ⟨_, (pss_cons (ps_expr (pe_callS G_check_figures (hr.mono (by first | decide | omega)) (by rfl) T.d_check_figures.g T.d_check_figures.F.kp T.d_check_figures.b (fun σ => L2N.passAt (L2N.takes_of rfl rfl rfl rfl) σ) (pa_cons (pv 1) pa_nil)))
      (pss_one (ps_ret (pe_op op_mod (pv 1) (pe_fld (pv 0) rfl))))), ?_⟩
    (change (_ : L2.TS) _ ([some (.ref a), some (.int n)] : L2.St) _); try dsimp only [L2.cxOf, L2H.cxH]
    have cF := T.c_Field
    have aF : NoAttr K T.C_Field "prime" := T.a_Field_prime
    walk_at "rd"
    refine ⟨n, rfl, fun f => ?_, q2⟩
    walk_at "rd"
    exact q1 f
end
end K
namespace K
open PySem PySem.Spec PyProof.Rows L2
abbrev N_Field___contains__ : List Str := ["self", "value"]
theorem sc_Field___contains__ : FnScope N_Field___contains__ ["self", "value"] (defScope s_Field___contains__) := ⟨rfl, rfl, rfl, by decide +kernel, rfl, by decide +kernel, by decide +kernel⟩
section
variable {P : Program} {w : World} {K : PySem.W.Frag} {mg : Str → Option Value} {base : Heap}
def sp_fcontains (K : PySem.W.Frag) (C : Addr) : Sp := fun vs H Q _ => ∃ (a : Addr) (p : Int) (v : V) (d : PyData), vs = [.ref a, v] ∧ FieldAt C H a p ∧ Dp K H v d ∧ Q (.bl (inField p d)) H
theorem ok_fcontains (T : Txt K mg) : FnOk P w K mg base (L2N.CX P w) 3 T.f_Field___contains__ T.fd_Field___contains__ ["self", "value"] (sp_fcontains K T.C_Field) := by
  have G_is_number := ok_number (P := P) (w := w) (base := base) T
  refine Vb.okN T.d_Field___contains__.F sc_Field___contains__ (fun vs H Q E h => ?_) (fun cdv A outer s H vs Q E hr h => ?_)
  · obtain ⟨a, p, v, d, rfl, _⟩ := h
    rfl
  · obtain ⟨a, p, v, d, rfl, ⟨dx, ha⟩, hd, q⟩ := h
    refine ⟨_, (pss_one (ps_ret (pe_callS G_is_number (hr.mono (by first | decide | omega)) (by rfl) T.d_is_number.g T.d_is_number.F.kp T.d_is_number.b (fun σ => L2N.passAt (L2N.takes_of rfl rfl rfl rfl) σ) (pa_cons (pe_fld (pv 0) rfl) (pa_cons (pv 1) pa_nil))))), ?_⟩
    (change (_ : L2.TS) _ ([some (.ref a), some (v)] : L2.St) _); try dsimp only [L2.cxOf, L2H.cxH]
    walk_at "rd"
    refine ⟨_, _, _, _, _, rfl, ha, T.c_Field, T.a_Field_prime, rfl, ?_⟩
    walk_at "rd"
    exact use_number hd rfl q
end
end K
namespace K
open PySem PySem.Spec PyProof.Rows L2
abbrev N__law_integer : List Str := ["actual"]
theorem sc__law_integer : FnScope N__law_integer ["actual"] (defScope s__law_integer) := ⟨rfl, rfl, rfl, by decide +kernel, rfl, by decide +kernel, by decide +kernel⟩
section
variable {P : Program} {w : World} {K : PySem.W.Frag} {mg : Str → Option Value} {base : Heap}
def sp_integer : Sp := fun vs H Q _ => ∃ n : Int, vs = [.int n] ∧ Q (.bl true) H
theorem ok_integer (T : Txt K mg) : FnOk P w K mg base (L2N.CX P w) 1 T.f__law_integer T.fd__law_integer ["actual"] sp_integer := by
  refine Vb.okN T.d__law_integer.F sc__law_integer (fun vs H Q E h => ?_) (fun cdv A outer s H vs Q E hr h => ?_)
  · obtain ⟨n, rfl, _⟩ := h
    rfl
  · obtain ⟨n, rfl, q⟩ := h
    refine ⟨_, (pss_one (ps_ret (pe_and (pe_callB call_isi (by rfl) T.n_isinstance (by decide +kernel) (pa_cons (pv 0) (pa_cons (pe_bltn (v := .ty "int") (by rfl) T.n_int (by decide +kernel) rfl) pa_nil))) (pe_one (pe_not (pe_callB call_isi (by rfl) T.n_isinstance (by decide +kernel) (pa_cons (pv 0) (pa_cons (pe_bltn (v := .ty "bool") (by rfl) T.n_bool (by decide +kernel) rfl) pa_nil)))))))), ?_⟩
    (change (_ : L2.TS) _ ([some (.int n)] : L2.St) _); try dsimp only [L2.cxOf, L2H.cxH]
    have hd : Dp K H (.int n) (.int n) := .int n
    walk_at "rd"
    exact q
end
end K
namespace K
open PySem PySem.Spec PyProof.Rows L2
abbrev N__law_field_power : List Str := ["prime", "base", "exponent", "number", "k"]
theorem sc__law_field_power : FnScope N__law_field_power ["prime", "base", "exponent"] (defScope s__law_field_power) := ⟨rfl, rfl, rfl, by decide +kernel, rfl, by decide +kernel, by decide +kernel⟩
section
variable {P : Program} {w : World} {K : PySem.W.Frag} {mg : Str → Option Value} {base : Heap}
theorem mdp {p x : Int} (h : 2 ≤ p ∧ p ≤ 101) : 0 ≤ x % p ∧ x % p < p := ⟨Int.emod_nonneg _ (by omega), Int.emod_lt_of_pos _ (by omega)⟩
def sp_fieldpow : Sp := fun vs H Q _ => ∃ (p b e : Int), vs = [.int p, .int b, .int e] ∧ (2 ≤ p ∧ p ≤ 101) ∧ (0 ≤ b ∧ b < p) ∧ (0 ≤ e ∧ e ≤ 10000) ∧ Q (.int (b ^ e.toNat % p)) H
theorem ok_fieldpow (T : Txt K mg) : FnOk P w K mg base (L2N.CX P w) 1 T.f__law_field_power T.fd__law_field_power ["prime", "base", "exponent"] sp_fieldpow := by
  refine Vb.okN T.d__law_field_power.F sc__law_field_power (fun vs H Q E h => ?_) (fun cdv A outer s H vs Q E hr h => ?_)
  · obtain ⟨p, b, e, rfl, _⟩ := h
    rfl
  · obtain ⟨p, b, e, rfl, hp, hb, he, q⟩ := h
    refine ⟨_, (pss_cons (ps_set (i := 3) sc__law_field_power.nd rfl (by first | exact Or.inl rfl | exact Or.inr rfl) pe_int)
      (pss_cons (ps_for (L2.passes_of rfl) rfl (pi_range1 rfl T.n_range (pa_cons (pv 2) pa_nil)) (pg_name (i := 4) sc__law_field_power.nd rfl (by first | exact Or.inl rfl | exact Or.inr rfl))
        (pss_one (ps_set (i := 3) sc__law_field_power.nd rfl (by first | exact Or.inl rfl | exact Or.inr rfl) (pe_op op_mod (pe_callTy Vb.call_int (by rfl) T.n_int (by decide +kernel) (pa_cons (pe_op op_mul (pv 3) (pv 1)) pa_nil)) (pv 0)))))
      (pss_one (ps_ret (pv 3))))), ?_⟩
    (change (_ : L2.TS) _ ([some (.int p), some (.int b), some (.int e), none, none] : L2.St) _); try dsimp only [L2.cxOf, L2H.cxH]
    walk_at "rd"
    refine Vb.lp_range (fun i σ H' => H' = H ∧ ∃ (y : Option V), σ = [some (.int p), some (.int b), some (.int e), some (.int (b ^ i % p)), y]) ⟨rfl, _, by rw [Int.pow_zero, Int.emod_eq_of_lt (by omega) (by omega)]; rfl⟩ ?_ ?_
    · rintro i σ H' hi ⟨rfl, y, rfl⟩
      have hm := mdp (x := b ^ i) hp
      walk_at "rd"
      refine ⟨rfl, some (.int (0 + (i : Int))), ?_⟩
      rw [Int.pow_succ, Int.mul_emod (b ^ i), Int.mul_emod (b ^ i % p), Int.emod_emod_of_dvd _ (Int.dvd_refl p)]
      rfl
    · rintro σ H' ⟨rfl, y, rfl⟩
      walk_at "rd"
      exact q
end
end K
namespace K
open PySem PySem.Spec PyProof.Rows L2
abbrev N__law_big : List Str := ["store", "figures", "size", "way", "number", "k", "figure"]
theorem sc__law_big : FnScope N__law_big ["store", "figures"] (defScope s__law_big) := ⟨rfl, rfl, rfl, by decide +kernel, rfl, by decide +kernel, by decide +kernel⟩
section
variable {P : Program} {w : World} {K : PySem.W.Frag} {mg : Str → Option Value} {base : Heap}
theorem pow10_le (a : Nat) : ∀ k : Nat, (10 : Int) ^ a ≤ 10 ^ (a + k)
  | 0 => Int.le_refl _
  | k + 1 => by
    have h := pow10_le a k
    have h0 : (0 : Int) ≤ 10 ^ a := Int.pow_nonneg (by decide)
    rw [← Nat.add_assoc, Int.pow_succ]
    generalize (10 : Int) ^ (a + k) = X at h ⊢
    generalize (10 : Int) ^ a = Y at h h0 ⊢
    omega
def sp_big (K : PySem.W.Frag) : Sp := fun vs H Q _ => ∃ (st : Addr) (f : Int), vs = [.ref st, .int f] ∧ Vb.StoreAt H st ∧ (1 ≤ f ∧ f ≤ 1000) ∧ ∀ (n : Int) (H' : Hp), 0 ≤ n → n < 10 ^ f.toNat → Vb.Fr st H H' → Vb.StoreAt H' st → Q (.int n) H'
theorem use_big {st : Addr} {f : Int} {H : Hp} {Q : VK} {E : XK} (h1 : Vb.StoreAt H st) (h2 : 1 ≤ f ∧ f ≤ 1000) (h : ∀ (n : Int) (H' : Hp), 0 ≤ n → n < 10 ^ f.toNat → Vb.Fr st H H' → Vb.StoreAt H' st → Q (.int n) H') : sp_big K [.ref st, .int f] H Q E := ⟨st, f, rfl, h1, h2, h⟩
theorem ok_big (T : Txt K mg) : FnOk P w K mg base (L2N.CX P w) 4 T.f__law_big T.fd__law_big ["store", "figures"] (sp_big K) := by
  have G__law_edge := ok_edge (P := P) (w := w) (base := base) T
  have G__law_take := ok_take (P := P) (w := w) (base := base) T
  refine Vb.okN T.d__law_big.F sc__law_big (fun vs H Q E h => ?_) (fun cdv A outer s H vs Q E hr h => ?_)
  · obtain ⟨a, b, rfl, _⟩ := h
    rfl
  · obtain ⟨st, f, rfl, hS, hf, q⟩ := h
    refine ⟨_, (pss_cons (ps_set (i := 2) sc__law_big.nd rfl (by first | exact Or.inl rfl | exact Or.inr rfl) (pe_callS G__law_edge (hr.mono (by first | decide | omega)) (by rfl) T.d__law_edge.g T.d__law_edge.F.kp T.d__law_edge.b (fun σ => L2N.passAt (L2N.takes_of rfl rfl rfl rfl) σ) (pa_cons (pv 0) (pa_cons pe_int (pa_cons (pe_callB (Vb.call_max2 rfl) (by rfl) T.n_max (by decide +kernel) (pa_cons pe_int (pa_cons (pv 1) pa_nil))) pa_nil)))))
      (pss_cons (ps_set (i := 3) sc__law_big.nd rfl (by first | exact Or.inl rfl | exact Or.inr rfl) (pe_callS G__law_take (hr.mono (by first | decide | omega)) (by rfl) T.d__law_take.g T.d__law_take.F.kp T.d__law_take.b (fun σ => L2N.passAt (L2N.takes_of rfl rfl rfl rfl) σ) (pa_cons (pv 0) (pa_cons pe_int pa_nil))))
      (pss_cons (ps_set (i := 4) sc__law_big.nd rfl (by first | exact Or.inl rfl | exact Or.inr rfl) pe_int)
      (pss_cons (ps_for (L2.passes_of rfl) rfl (pi_range1 rfl T.n_range (pa_cons (pv 2) pa_nil)) (pg_name (i := 5) sc__law_big.nd rfl (by first | exact Or.inl rfl | exact Or.inr rfl))
        (pss_cons (ps_set (i := 6) sc__law_big.nd rfl (by first | exact Or.inl rfl | exact Or.inr rfl) (pe_callTy Vb.call_int (by rfl) T.n_int (by decide +kernel) (pa_cons (pe_cmpR op_eq (pv 5) pe_int (nomark _)) pa_nil)))
      (pss_cons (ps_if (pt_cmpR op_eq (pv 3) pe_int (nomark _)) (pss_one (ps_set (i := 6) sc__law_big.nd rfl (by first | exact Or.inl rfl | exact Or.inr rfl) pe_int)) (pss_one (ps_if (pt_cmpR op_ne (pv 3) pe_int (nomark _)) (pss_one (ps_set (i := 6) sc__law_big.nd rfl (by first | exact Or.inl rfl | exact Or.inr rfl) (pe_callS G__law_take (hr.mono (by first | decide | omega)) (by rfl) T.d__law_take.g T.d__law_take.F.kp T.d__law_take.b (fun σ => L2N.passAt (L2N.takes_of rfl rfl rfl rfl) σ) (pa_cons (pv 0) (pa_cons pe_int pa_nil))))) pss_nil)))
      (pss_one (ps_set (i := 4) sc__law_big.nd rfl (by first | exact Or.inl rfl | exact Or.inr rfl) (pe_op op_add (pe_op op_mul (pv 4) pe_int) (pv 6)))))))
      (pss_one (ps_ret (pv 4))))))), ?_⟩
    (change (_ : L2.TS) _ ([some (.ref st), some (.int f), none, none, none, none, none] : L2.St) _); try dsimp only [L2.cxOf, L2H.cxH]
    walk_at "rd"
    have hm : (if f > 1 then f else 1) = f := by split <;> omega
    rw [hm]
    refine use_edge hS (by omega) fun z H1 a1 a2 _ f1 S1 => ?_
    have hz : 1 ≤ z ∧ z ≤ f := ⟨a1, a2 hf.1⟩
    walk_at "rd"
    refine use_take S1 (by decide) fun way H2 b1 b2 _ f2 S2 => ?_
    walk_at "rd"
    refine Vb.lp_range (fun i σ H' => ∃ (n : Int) (y u : Option V), 0 ≤ n ∧ n < 10 ^ i ∧ Vb.Fr st H2 H' ∧ Vb.StoreAt H' st ∧ σ = [some (.ref st), some (.int f), some (.int z), some (.int way), some (.int n), y, u]) ⟨0, _, _, by omega, by decide, Vb.Fr.refl _ _, S2, rfl⟩ ?_ ?_
    · rintro i σ H' hi ⟨n, y, u, n0, n1, f3, S3, rfl⟩
      have hn : ∀ g : Int, 0 ≤ g → g ≤ 9 → 0 ≤ n * 10 + g ∧ n * 10 + g < 10 ^ (i + 1) := fun g g0 g1 => by
        rw [Int.pow_succ]
        generalize (10 : Int) ^ i = X at n1 ⊢
        omega
      walk_at "rd"
      refine Vb.r_ite (fun c1 => ?_) (fun c1 => ?_)
      · walk_at "rd"
        exact ⟨_, _, _, (hn 9 (by decide) (by decide)).1, (hn 9 (by decide) (by decide)).2, f3, S3, rfl⟩
      walk_at "rd"
      refine Vb.r_iteN (fun c2 => ?_) (fun c2 => ?_)
      · walk_at "rd"
        refine use_take S3 (by decide) fun g H4 g0 g1 _ f4 S4 => ?_
        have g2 := g1 (by decide)
        walk_at "rd"
        exact ⟨_, _, _, (hn g g0 (by omega)).1, (hn g g0 (by omega)).2, f3.trans f4, S4, rfl⟩
      · walk_at "rd"
        have hk : ∀ b : Bool, (0 : Int) ≤ (if b = true then 1 else 0) ∧ (if b = true then 1 else 0) ≤ (9 : Int) := fun b => by cases b <;> decide
        have hk := hk (decide (0 + (i : Int) = 0))
        exact ⟨_, _, _, (hn _ hk.1 hk.2).1, (hn _ hk.1 hk.2).2, f3, S3, rfl⟩
    · rintro σ H' ⟨n, y, u, n0, n1, f3, S3, rfl⟩
      walk_at "rd"
      refine q n H' n0 (Int.lt_of_lt_of_le n1 ?_) (f1.trans (f2.trans f3)) S3
      obtain ⟨k, hk⟩ : ∃ k, f.toNat = z.toNat + k := ⟨f.toNat - z.toNat, by omega⟩
      rw [hk]
      exact pow10_le _ _
end
end K
namespace K
open PySem PySem.Spec PyProof.Rows L2
abbrev N__law_signed : List Str := ["store", "number"]
theorem sc__law_signed : FnScope N__law_signed ["store"] (defScope s__law_signed) := ⟨rfl, rfl, rfl, by decide +kernel, rfl, by decide +kernel, by decide +kernel⟩
section
variable {P : Program} {w : World} {K : PySem.W.Frag} {mg : Str → Option Value} {base : Heap}
theorem big300_ten : (10 : Int) ^ Int.toNat 300 = big300 := by decide +kernel
def sp_signed (K : PySem.W.Frag) : Sp := fun vs H Q _ => ∃ (st : Addr), vs = [.ref st] ∧ Vb.StoreAt H st ∧ ∀ (n : Int) (H' : Hp), Fig n → Vb.Fr st H H' → Vb.StoreAt H' st → Q (.int n) H'
theorem use_signed {st : Addr} {H : Hp} {Q : VK} {E : XK} (h1 : Vb.StoreAt H st) (h : ∀ (n : Int) (H' : Hp), Fig n → Vb.Fr st H H' → Vb.StoreAt H' st → Q (.int n) H') : sp_signed K [.ref st] H Q E := ⟨st, rfl, h1, h⟩
theorem ok_signed (T : Txt K mg) : FnOk P w K mg base (L2N.CX P w) 5 T.f__law_signed T.fd__law_signed ["store"] (sp_signed K) := by
  have G__law_big := ok_big (P := P) (w := w) (base := base) T
  have G__law_take := ok_take (P := P) (w := w) (base := base) T
  refine Vb.okN T.d__law_signed.F sc__law_signed (fun vs H Q E h => ?_) (fun cdv A outer s H vs Q E hr h => ?_)
  · obtain ⟨a, rfl, _⟩ := h
    rfl
  · obtain ⟨st, rfl, hS, q⟩ := h
    refine ⟨_, (pss_cons (ps_set (i := 1) sc__law_signed.nd rfl (by first | exact Or.inl rfl | exact Or.inr rfl) (pe_callS G__law_big (hr.mono (by first | decide | omega)) (by rfl) T.d__law_big.g T.d__law_big.F.kp T.d__law_big.b (fun σ => L2N.passAt (L2N.takes_of rfl rfl rfl rfl) σ) (pa_cons (pv 0) (pa_cons pe_int pa_nil))))
      (pss_cons (ps_if (pt_cmpR op_eq (pe_callS G__law_take (hr.mono (by first | decide | omega)) (by rfl) T.d__law_take.g T.d__law_take.F.kp T.d__law_take.b (fun σ => L2N.passAt (L2N.takes_of rfl rfl rfl rfl) σ) (pa_cons (pv 0) (pa_cons pe_int pa_nil))) pe_int (nomark _)) (pss_one (ps_ret (pe_un un_neg (pv 1)))) pss_nil)
      (pss_one (ps_ret (pv 1))))), ?_⟩
    (change (_ : L2.TS) _ ([some (.ref st), none] : L2.St) _); try dsimp only [L2.cxOf, L2H.cxH]
    walk_at "rd"
    refine use_big hS (by decide) fun n H1 n0 n1 f1 S1 => ?_
    rw [big300_ten] at n1
    have hf : Fig n ∧ Fig (-n) := by
      have := big300_pos
      unfold Fig
      omega
    walk_at "rd"
    refine use_take S1 (by decide) fun t H2 _ _ _ f2 S2 => ?_
    walk_at "rd"
    refine Vb.r_ite (fun c => ?_) (fun c => ?_)
    · walk_at "rd"
      exact q _ _ hf.2 (f1.trans f2) S2
    · walk_at "rd"
      exact q _ _ hf.1 (f1.trans f2) S2
end
end K
namespace K
open PySem PySem.Spec PyProof.Rows L2
abbrev N__law_raised : List Str := ["field", "number", "exponent", "e", "known", "other"]
theorem sc__law_raised : FnScope N__law_raised ["field", "number", "exponent"] (defScope s__law_raised) := ⟨rfl, rfl, rfl, by decide +kernel, rfl, by decide +kernel, by decide +kernel⟩
section
variable {P : Program} {w : World} {K : PySem.W.Frag} {mg : Str → Option Value} {base : Heap}
/-- what a refused power raises, told as a row -/
def sp_raised (K : PySem.W.Frag) (C : Addr) : Sp := fun vs H Q _ => ∃ (a : Addr) (p : Int) (v1 v2 : V) (d1 d2 : PyData) (nm : Str) (v : V), vs = [.ref a, v1, v2] ∧ FieldAt C H a p ∧ (2 ≤ p ∧ p ≤ 101) ∧ Dp K H v1 d1 ∧ Dp K H v2 d2 ∧
  ((inField p d1 = false ∧ nm = "NotInField" ∧ v = v1) ∨ (inField p d1 = true ∧ inRange 0 10000 d2 = false ∧ nm = "OutOfRange" ∧ v = .non)) ∧
  ∀ (H' : Hp) (r : Addr), Same H H' → H' r = some (.tup [.str nm, v, .bl true]) → Q (.ref r) H'
theorem ok_raised (T : Txt K mg) : FnOk P w K mg base (L2N.CX P w) 5 T.f__law_raised T.fd__law_raised ["field", "number", "exponent"] (sp_raised K T.C_Field) := by
  have G_Field_power := ok_fpower (P := P) (w := w) (base := base) T
  refine Vb.okN T.d__law_raised.F sc__law_raised (fun vs H Q E h => ?_) (fun cdv A outer s H vs Q E hr h => ?_)
  · obtain ⟨a, p, v1, v2, d1, d2, nm, v, rfl, _⟩ := h
    rfl
  · obtain ⟨a, p, v1, v2, d1, d2, nm, v, rfl, ⟨dx, ha⟩, hp, h1, h2, hc, q⟩ := h
    have k_NotInField_TalkError := T.k_NotInField_TalkError
    have k_NotInField_ValueError := T.k_NotInField_ValueError
    have k_NotInField_DivisionByZero := T.k_NotInField_DivisionByZero
    have k_NotInField_OutOfRange := T.k_NotInField_OutOfRange
    have k_NotInField_NotPrime := T.k_NotInField_NotPrime
    have k_NotInField_TooLarge := T.k_NotInField_TooLarge
    have k_OutOfRange_TalkError := T.k_OutOfRange_TalkError
    have k_OutOfRange_ValueError := T.k_OutOfRange_ValueError
    have k_OutOfRange_DivisionByZero := T.k_OutOfRange_DivisionByZero
    have k_OutOfRange_NotPrime := T.k_OutOfRange_NotPrime
    have k_OutOfRange_TooLarge := T.k_OutOfRange_TooLarge
    refine ⟨_, (pss_cons (Vb.ps_try_all (Wo := (fun cls d _ H => E cls d H)) rfl rfl sc__law_raised.nd (L2N.takes_of rfl rfl rfl rfl) (fun W pn xe tk po => (pss_one (ps_expr (Vb.pe_methP (pv 0) T.c_Field T.m_Field_power G_Field_power (hr.mono (by first | decide | omega)) T.d_Field_power.b (fun σ => L2N.passAt tk σ) (pa_cons (pv 1) (pa_cons (pv 2) pa_nil))))))
        (Vb.Clauses.cons (i := 3) rfl rfl ⟨rfl, by decide, Or.inl T.i_NotInField.g⟩
        (fun a oe cls d pn hz hf => (pss_cons (ps_set (i := 4) sc__law_raised.nd rfl (by first | exact Or.inl rfl | exact Or.inr rfl) (pe_and (pe_callB (Vb.call_isX T.xk_NotInField hz hf) (by rfl) T.n_isinstance (by decide +kernel) (pa_cons (pv 3) (pa_cons (pe_glob (v := .ref T.C_TalkError) (by rfl) T.x_TalkError.g rfl) pa_nil))) (pe_one (pe_callB (Vb.call_isX T.xk_NotInField hz hf) (by rfl) T.n_isinstance (by decide +kernel) (pa_cons (pv 3) (pa_cons (pe_bltn (v := .ty "ValueError") (by rfl) T.n_ValueError (by decide +kernel) rfl) pa_nil))))))
      (pss_cons (ps_set (i := 5) sc__law_raised.nd rfl (by first | exact Or.inl rfl | exact Or.inr rfl) (pe_or (pe_callB (Vb.call_isX T.xk_NotInField hz hf) (by rfl) T.n_isinstance (by decide +kernel) (pa_cons (pv 3) (pa_cons (pe_glob (v := .ref T.C_DivisionByZero) (by rfl) T.x_DivisionByZero.g rfl) pa_nil))) (pe_or (pe_callB (Vb.call_isX T.xk_NotInField hz hf) (by rfl) T.n_isinstance (by decide +kernel) (pa_cons (pv 3) (pa_cons (pe_glob (v := .ref T.C_OutOfRange) (by rfl) T.x_OutOfRange.g rfl) pa_nil))) (pe_one (pe_callB (Vb.call_isX T.xk_NotInField hz hf) (by rfl) T.n_isinstance (by decide +kernel) (pa_cons (pv 3) (pa_cons (pe_glob (v := .ref T.C_NotPrime) (by rfl) T.i_NotPrime.g rfl) pa_nil)))))))
      (pss_one (ps_ret (pe_tup (pa_cons pe_str (pa_cons (pe_xf T.xk_NotInField.xf T.i_NotInField.noN hz.zc hf (pv 3)) (pa_cons (pe_and (pv 4) (pe_and (pe_not (pv 5)) (pe_one (pe_not (pe_callB (Vb.call_isX T.xk_NotInField hz hf) (by rfl) T.n_isinstance (by decide +kernel) (pa_cons (pv 3) (pa_cons (pe_glob (v := .ref T.C_TooLarge) (by rfl) T.x_TooLarge.g rfl) pa_nil))))))) pa_nil))))))))) (Vb.Clauses.cons (i := 3) rfl rfl ⟨rfl, by decide, Or.inl T.x_OutOfRange.g⟩
        (fun a oe cls d pn hz hf => (pss_cons (ps_set (i := 4) sc__law_raised.nd rfl (by first | exact Or.inl rfl | exact Or.inr rfl) (pe_and (pe_callB (Vb.call_isX T.xk_OutOfRange hz hf) (by rfl) T.n_isinstance (by decide +kernel) (pa_cons (pv 3) (pa_cons (pe_glob (v := .ref T.C_TalkError) (by rfl) T.x_TalkError.g rfl) pa_nil))) (pe_one (pe_callB (Vb.call_isX T.xk_OutOfRange hz hf) (by rfl) T.n_isinstance (by decide +kernel) (pa_cons (pv 3) (pa_cons (pe_bltn (v := .ty "ValueError") (by rfl) T.n_ValueError (by decide +kernel) rfl) pa_nil))))))
      (pss_cons (ps_set (i := 5) sc__law_raised.nd rfl (by first | exact Or.inl rfl | exact Or.inr rfl) (pe_or (pe_callB (Vb.call_isX T.xk_OutOfRange hz hf) (by rfl) T.n_isinstance (by decide +kernel) (pa_cons (pv 3) (pa_cons (pe_glob (v := .ref T.C_DivisionByZero) (by rfl) T.x_DivisionByZero.g rfl) pa_nil))) (pe_or (pe_callB (Vb.call_isX T.xk_OutOfRange hz hf) (by rfl) T.n_isinstance (by decide +kernel) (pa_cons (pv 3) (pa_cons (pe_glob (v := .ref T.C_NotPrime) (by rfl) T.i_NotPrime.g rfl) pa_nil))) (pe_one (pe_callB (Vb.call_isX T.xk_OutOfRange hz hf) (by rfl) T.n_isinstance (by decide +kernel) (pa_cons (pv 3) (pa_cons (pe_glob (v := .ref T.C_TooLarge) (by rfl) T.x_TooLarge.g rfl) pa_nil)))))))
      (pss_one (ps_ret (pe_tup (pa_cons pe_str (pa_cons pe_non (pa_cons (pe_and (pv 4) (pe_one (pe_not (pv 5)))) pa_nil))))))))) Vb.Clauses.nil)))
      (pss_one (ps_ret pe_non))), ?_⟩
    (change (_ : L2.TS) _ ([some (.ref a), some (v1), some (v2), none, none, none] : L2.St) _); try dsimp only [L2.cxOf, L2H.cxH]
    walk_at "rd"
    rcases hc with ⟨f1, rfl, rfl⟩ | ⟨f1, f2, rfl, rfl⟩
    · refine ⟨a, p, v, v2, d1, d2, rfl, ⟨dx, ha⟩, hp, h1, h2, (fun x e e1 _ x1 _ => ?_), (fun _ dd n => Vb.r_as T.xk_NotInField fun ea hea => ?_), (fun z => by rw [f1] at z; cases z)⟩
      · subst e1
        rw [inField_int.mpr x1] at f1
        cases f1
      walk_at "rd"
      refine Vb.r_xfv upd_same rfl ?_
      walk_at "rd"
      refine ⟨Vb.size_ok (by show 3 ≤ 16777216; decide), fun t nt => ?_⟩
      walk_at "rd"
      exact q _ _ ((Vb.same_new n).trans (Vb.same_new nt)) upd_same
    · refine ⟨a, p, v1, v2, d1, d2, rfl, ⟨dx, ha⟩, hp, h1, h2, (fun x e _ e2 _ z => ?_), (fun z => by rw [f1] at z; cases z), (fun _ _ => Vb.r_pass (T.xk_NotInField.no T.xs_OutOfRange_NotInField) (Vb.r_as T.xk_OutOfRange fun ea hea => ?_))⟩
      · subst e2
        rw [inRange_int.mpr z] at f2
        cases f2
      walk_at "rd"
      refine ⟨Vb.size_ok (by show 3 ≤ 16777216; decide), fun t nt => ?_⟩
      walk_at "rd"
      exact q _ _ (Vb.same_new nt) upd_same
end
end K
namespace K
open PySem PySem.Spec PyProof.Rows L2
abbrev N__law_too_large : List Str := ["field", "number", "e", "known", "other"]
theorem sc__law_too_large : FnScope N__law_too_large ["field", "number"] (defScope s__law_too_large) := ⟨rfl, rfl, rfl, by decide +kernel, rfl, by decide +kernel, by decide +kernel⟩
section
variable {P : Program} {w : World} {K : PySem.W.Frag} {mg : Str → Option Value} {base : Heap}
def sp_toolarge (C : Addr) : Sp := fun vs H Q _ => ∃ (a : Addr) (p n : Int), vs = [.ref a, .int n] ∧ FieldAt C H a p ∧ (2 ≤ p ∧ p ≤ 101) ∧ ¬ Fig n ∧ Q (.bl true) H
theorem ok_toolarge (T : Txt K mg) : FnOk P w K mg base (L2N.CX P w) 3 T.f__law_too_large T.fd__law_too_large ["field", "number"] (sp_toolarge T.C_Field) := by
  have G_Field_reduce := ok_freduce (P := P) (w := w) (base := base) T
  refine Vb.okN T.d__law_too_large.F sc__law_too_large (fun vs H Q E h => ?_) (fun cdv A outer s H vs Q E hr h => ?_)
  · obtain ⟨a, p, n, rfl, _⟩ := h
    rfl
  · obtain ⟨a, p, n, rfl, ⟨dx, ha⟩, hp, hn, q⟩ := h
    have k_TooLarge_TalkError := T.k_TooLarge_TalkError
    have k_TooLarge_ValueError := T.k_TooLarge_ValueError
    have k_TooLarge_OutOfRange := T.k_TooLarge_OutOfRange
    have k_TooLarge_NotPrime := T.k_TooLarge_NotPrime
    have k_TooLarge_DivisionByZero := T.k_TooLarge_DivisionByZero
    have k_TooLarge_NotInField := T.k_TooLarge_NotInField
    refine ⟨_, (pss_cons (L2N.ps_try_as (i := 2) (Wout := (fun cls d _ H => E cls d H)) rfl rfl sc__law_too_large.nd rfl rfl ⟨rfl, by decide, Or.inl T.x_TooLarge.g⟩ (L2N.takes_of rfl rfl rfl rfl) (fun W pn xe tk po => (pss_one (ps_expr (Vb.pe_methP (pv 0) T.c_Field T.m_Field_reduce G_Field_reduce (hr.mono (by first | decide | omega)) T.d_Field_reduce.b (fun σ => L2N.passAt tk σ) (pa_cons (pv 1) pa_nil)))))
        (fun a oe cls d pn hz hf => (pss_cons (ps_set (i := 3) sc__law_too_large.nd rfl (by first | exact Or.inl rfl | exact Or.inr rfl) (pe_and (pe_callB (Vb.call_isX T.xk_TooLarge hz hf) (by rfl) T.n_isinstance (by decide +kernel) (pa_cons (pv 2) (pa_cons (pe_glob (v := .ref T.C_TalkError) (by rfl) T.x_TalkError.g rfl) pa_nil))) (pe_one (pe_callB (Vb.call_isX T.xk_TooLarge hz hf) (by rfl) T.n_isinstance (by decide +kernel) (pa_cons (pv 2) (pa_cons (pe_bltn (v := .ty "ValueError") (by rfl) T.n_ValueError (by decide +kernel) rfl) pa_nil))))))
      (pss_cons (ps_set (i := 4) sc__law_too_large.nd rfl (by first | exact Or.inl rfl | exact Or.inr rfl) (pe_or (pe_callB (Vb.call_isX T.xk_TooLarge hz hf) (by rfl) T.n_isinstance (by decide +kernel) (pa_cons (pv 2) (pa_cons (pe_glob (v := .ref T.C_OutOfRange) (by rfl) T.x_OutOfRange.g rfl) pa_nil))) (pe_or (pe_callB (Vb.call_isX T.xk_TooLarge hz hf) (by rfl) T.n_isinstance (by decide +kernel) (pa_cons (pv 2) (pa_cons (pe_glob (v := .ref T.C_NotPrime) (by rfl) T.i_NotPrime.g rfl) pa_nil))) (pe_one (pe_callB (Vb.call_isX T.xk_TooLarge hz hf) (by rfl) T.n_isinstance (by decide +kernel) (pa_cons (pv 2) (pa_cons (pe_glob (v := .ref T.C_DivisionByZero) (by rfl) T.x_DivisionByZero.g rfl) pa_nil)))))))
      (pss_one (ps_ret (pe_and (pv 3) (pe_and (pe_not (pv 4)) (pe_one (pe_not (pe_callB (Vb.call_isX T.xk_TooLarge hz hf) (by rfl) T.n_isinstance (by decide +kernel) (pa_cons (pv 2) (pa_cons (pe_glob (v := .ref T.C_NotInField) (by rfl) T.i_NotInField.g rfl) pa_nil)))))))))))))
      (pss_one (ps_ret pe_bl))), ?_⟩
    (change (_ : L2.TS) _ ([some (.ref a), some (.int n), none, none, none] : L2.St) _); try dsimp only [L2.cxOf, L2H.cxH]
    walk_at "rd"
    refine ⟨a, p, n, rfl, ⟨dx, ha⟩, hp, (fun z => absurd z hn), fun _ => Vb.r_as T.xk_TooLarge fun ea hea => ?_⟩
    walk_at "rd"
    exact q
end
end K
namespace K
open PySem PySem.Spec PyProof.Rows L2
abbrev N__law_exponents : List Str := ["store", "prime", "way", "one", "edges"]
theorem sc__law_exponents : FnScope N__law_exponents ["store", "prime"] (defScope s__law_exponents) := ⟨rfl, rfl, rfl, by decide +kernel, rfl, by decide +kernel, by decide +kernel⟩
section
variable {P : Program} {w : World} {K : PySem.W.Frag} {mg : Str → Option Value} {base : Heap}
def sp_exponents (K : PySem.W.Frag) : Sp := fun vs H Q _ => ∃ (st : Addr) (p : Int), vs = [.ref st, .int p] ∧ Vb.StoreAt H st ∧ (2 ≤ p ∧ p ≤ 101) ∧ ∀ (t : Addr) (a b : Int) (H' : Hp), t ≠ st → H' t = some (.tup [.int a, .int b]) → 0 ≤ a → 0 ≤ b → a + b ≤ 10000 → Vb.Fr st H H' → Vb.StoreAt H' st → Q (.ref t) H'
theorem ok_exponents (T : Txt K mg) : FnOk P w K mg base (L2N.CX P w) 4 T.f__law_exponents T.fd__law_exponents ["store", "prime"] (sp_exponents K) := by
  have G__law_take := ok_take (P := P) (w := w) (base := base) T
  have G__law_pick := ok_pick (P := P) (w := w) (base := base) T
  refine Vb.okN T.d__law_exponents.F sc__law_exponents (fun vs H Q E h => ?_) (fun cdv A outer s H vs Q E hr h => ?_)
  · obtain ⟨a, b, rfl, _⟩ := h
    rfl
  · obtain ⟨st, p, rfl, hS, hp, q⟩ := h
    refine ⟨_, (pss_cons (ps_set (i := 2) sc__law_exponents.nd rfl (by first | exact Or.inl rfl | exact Or.inr rfl) (pe_callS G__law_take (hr.mono (by first | decide | omega)) (by rfl) T.d__law_take.g T.d__law_take.F.kp T.d__law_take.b (fun σ => L2N.passAt (L2N.takes_of rfl rfl rfl rfl) σ) (pa_cons (pv 0) (pa_cons pe_int pa_nil))))
      (pss_cons (ps_if (pt_cmpR op_eq (pv 2) pe_int (nomark _)) (pss_one (ps_ret (pe_callS G__law_pick (hr.mono (by first | decide | omega)) (by rfl) T.d__law_pick.g T.d__law_pick.F.kp T.d__law_pick.b (fun σ => L2N.passAt (L2N.takes_of rfl rfl rfl rfl) σ) (pa_cons (pv 0) (pa_cons (pe_lst (pa_cons (pe_tup (pa_cons pe_int (pa_cons pe_int pa_nil))) (pa_cons (pe_tup (pa_cons pe_int (pa_cons pe_int pa_nil))) (pa_cons (pe_tup (pa_cons pe_int (pa_cons pe_int pa_nil))) (pa_cons (pe_tup (pa_cons pe_int (pa_cons pe_int pa_nil))) (pa_cons (pe_tup (pa_cons (pe_op op_sub pe_int (pv 1)) (pa_cons (pv 1) pa_nil))) (pa_cons (pe_tup (pa_cons pe_int (pa_cons pe_int pa_nil))) pa_nil))))))) pa_nil))))) pss_nil)
      (pss_cons (ps_if (pt_cmpR op_eq (pv 2) pe_int (nomark _)) (pss_cons (ps_set (i := 3) sc__law_exponents.nd rfl (by first | exact Or.inl rfl | exact Or.inr rfl) (pe_callS G__law_take (hr.mono (by first | decide | omega)) (by rfl) T.d__law_take.g T.d__law_take.F.kp T.d__law_take.b (fun σ => L2N.passAt (L2N.takes_of rfl rfl rfl rfl) σ) (pa_cons (pv 0) (pa_cons pe_int pa_nil))))
      (pss_one (ps_ret (pe_tup (pa_cons (pv 3) (pa_cons (pe_callS G__law_take (hr.mono (by first | decide | omega)) (by rfl) T.d__law_take.g T.d__law_take.F.kp T.d__law_take.b (fun σ => L2N.passAt (L2N.takes_of rfl rfl rfl rfl) σ) (pa_cons (pv 0) (pa_cons (pe_op op_sub pe_int (pv 3)) pa_nil))) pa_nil)))))) pss_nil)
      (pss_cons (ps_set (i := 4) sc__law_exponents.nd rfl (by first | exact Or.inl rfl | exact Or.inr rfl) (pe_lst (pa_cons pe_int (pa_cons pe_int (pa_cons pe_int (pa_cons pe_int (pa_cons (pe_op op_sub (pv 1) pe_int) (pa_cons (pv 1) (pa_cons (pe_op op_mul pe_int (pe_op op_sub (pv 1) pe_int)) (pa_cons pe_int (pa_cons (pe_callS G__law_take (hr.mono (by first | decide | omega)) (by rfl) T.d__law_take.g T.d__law_take.F.kp T.d__law_take.b (fun σ => L2N.passAt (L2N.takes_of rfl rfl rfl rfl) σ) (pa_cons (pv 0) (pa_cons pe_int pa_nil))) (pa_cons (pe_callS G__law_take (hr.mono (by first | decide | omega)) (by rfl) T.d__law_take.g T.d__law_take.F.kp T.d__law_take.b (fun σ => L2N.passAt (L2N.takes_of rfl rfl rfl rfl) σ) (pa_cons (pv 0) (pa_cons pe_int pa_nil))) pa_nil))))))))))))
      (pss_one (ps_ret (pe_tup (pa_cons (pe_callS G__law_pick (hr.mono (by first | decide | omega)) (by rfl) T.d__law_pick.g T.d__law_pick.F.kp T.d__law_pick.b (fun σ => L2N.passAt (L2N.takes_of rfl rfl rfl rfl) σ) (pa_cons (pv 0) (pa_cons (pv 4) pa_nil))) (pa_cons (pe_callS G__law_pick (hr.mono (by first | decide | omega)) (by rfl) T.d__law_pick.g T.d__law_pick.F.kp T.d__law_pick.b (fun σ => L2N.passAt (L2N.takes_of rfl rfl rfl rfl) σ) (pa_cons (pv 0) (pa_cons (pv 4) pa_nil))) pa_nil))))))))), ?_⟩
    (change (_ : L2.TS) _ ([some (.ref st), some (.int p), none, none, none] : L2.St) _); try dsimp only [L2.cxOf, L2H.cxH]
    walk_at "rd"
    refine use_take hS (by decide) fun way H1 a1 a2 _ f1 S1 => ?_
    walk_at "rd"
    refine Vb.r_ite (fun c => ?_) (fun c => ?_)
    · walk_at "rx"
      rename_i l1 n1 l2 n2 l3 n3 l4 n4 l5 n5 l6 n6 l7 n7
      have s2 := Vb.st_new (o := .tup [.int 0, .int 10000]) S1 n1
      have s3 := Vb.st_new (o := .tup [.int 10000, .int 0]) s2 n2
      have s4 := Vb.st_new (o := .tup [.int 9999, .int 1]) s3 n3
      have s5 := Vb.st_new (o := .tup [.int 5000, .int 5000]) s4 n4
      have s6 := Vb.st_new (o := .tup [.int (10000 - p), .int p]) s5 n5
      have s7 := Vb.st_new (o := .tup [.int 1, .int 9999]) s6 n6
      refine use_pick [.ref l1, .ref l2, .ref l3, .ref l4, .ref l5, .ref l6] (by walk_at "st") (s7.ne n7) (Vb.sq_of upd_same) (by show 6 < 1000000; decide) (by simp) fun i v H2 hi f2 S2 => ?_
      have m := List.mem_of_getElem? hi
      simp only [List.mem_cons, List.not_mem_nil, or_false] at m
      have fr : Vb.Fr st H _ := f1.trans (Vb.Fr.trans (by walk_at "fr") f2)
      rcases m with rfl | rfl | rfl | rfl | rfl | rfl
      · exact q l1 0 10000 _ (S1.ne n1) (f2.k _ _ (S1.ne n1) (by walk_at "hp")) (by decide) (by decide) (by decide) fr S2
      · exact q l2 10000 0 _ (s2.ne n2) (f2.k _ _ (s2.ne n2) (by walk_at "hp")) (by decide) (by decide) (by decide) fr S2
      · exact q l3 9999 1 _ (s3.ne n3) (f2.k _ _ (s3.ne n3) (by walk_at "hp")) (by decide) (by decide) (by decide) fr S2
      · exact q l4 5000 5000 _ (s4.ne n4) (f2.k _ _ (s4.ne n4) (by walk_at "hp")) (by decide) (by decide) (by decide) fr S2
      · exact q l5 (10000 - p) p _ (s5.ne n5) (f2.k _ _ (s5.ne n5) (by walk_at "hp")) (by omega) (by omega) (by omega) fr S2
      · exact q l6 1 9999 _ (s6.ne n6) (f2.k _ _ (s6.ne n6) (by walk_at "hp")) (by decide) (by decide) (by decide) fr S2
    walk_at "rd"
    refine Vb.r_ite (fun c => ?_) (fun c => ?_)
    · walk_at "rd"
      refine use_take S1 (by decide) fun x H2 x1 x2 _ f2 S2 => ?_
      have x3 := x2 (by decide)
      walk_at "rd"
      refine use_take S2 (by omega) fun y H3 y1 y2 y3 f3 S3 => ?_
      walk_at "rd"
      refine ⟨Vb.size_ok (by show 2 ≤ 16777216; decide), fun t nt => ?_⟩
      have et := Vb.same_new (o := .tup [.int x, .int y]) nt
      refine q t x y _ (S3.ne nt) upd_same x1 y1 ?_ ((f1.trans (f2.trans f3)).trans (Vb.Fr.of et)) (S3.same et)
      by_cases z : 1 < 10001 - x
      · have := y2 z
        omega
      · have := y3 (by omega)
        omega
    walk_at "rd"
    refine use_take S1 (by decide) fun u H2 u1 u2 _ f2 S2 => ?_
    have u3 := u2 (by decide)
    walk_at "rd"
    refine use_take S2 (by decide) fun v H3 v1 v2 _ f3 S3 => ?_
    have v3 := v2 (by decide)
    walk_at "rd"
    refine ⟨Vb.size_ok (by show 10 ≤ 16777216; decide), fun l nl => ?_⟩
    have el := Vb.same_new (o := .lst [.int 0, .int 0, .int 1, .int 2, .int (p - 1), .int p, .int (2 * (p - 1)), .int 64, .int u, .int v]) nl
    have ed : ∀ (i : Nat) (x : V), [V.int 0, .int 0, .int 1, .int 2, .int (p - 1), .int p, .int (2 * (p - 1)), .int 64, .int u, .int v][i]? = some x → ∃ n : Int, x = .int n ∧ 0 ≤ n ∧ n ≤ 200 := fun i x h => by
      have m := List.mem_of_getElem? h
      simp only [List.mem_cons, List.not_mem_nil, or_false] at m
      rcases m with rfl | rfl | rfl | rfl | rfl | rfl | rfl | rfl | rfl | rfl <;> exact ⟨_, rfl, by omega, by omega⟩
    walk_at "rd"
    refine use_pick [.int 0, .int 0, .int 1, .int 2, .int (p - 1), .int p, .int (2 * (p - 1)), .int 64, .int u, .int v] (S3.same el) (S3.ne nl) (Vb.sq_of upd_same) (by show 10 < 1000000; decide) (by simp) fun i x H4 hi f4 S4 => ?_
    obtain ⟨x, rfl, x1, x2⟩ := ed i x hi
    walk_at "rd"
    refine use_pick [.int 0, .int 0, .int 1, .int 2, .int (p - 1), .int p, .int (2 * (p - 1)), .int 64, .int u, .int v] S4 (S3.ne nl) (Vb.sq_of (f4.k _ _ (S3.ne nl) upd_same)) (by show 10 < 1000000; decide) (by simp) fun j y H5 hj f5 S5 => ?_
    obtain ⟨y, rfl, y1, y2⟩ := ed j y hj
    walk_at "rd"
    refine ⟨Vb.size_ok (by show 2 ≤ 16777216; decide), fun t nt => ?_⟩
    have et := Vb.same_new (o := .tup [.int x, .int y]) nt
    exact q t x y _ (S5.ne nt) upd_same x1 y1 (by omega) (((f1.trans (f2.trans f3)).trans ((Vb.Fr.of el).trans (f4.trans f5))).trans (Vb.Fr.of et)) (S5.same et)
end
end K
namespace K
open PySem PySem.Spec PyProof.Rows L2
abbrev N__law_powers_hold : List Str := ["prime", "field", "number", "one", "two", "first", "second", "whole"]
theorem sc__law_powers_hold : FnScope N__law_powers_hold ["prime", "field", "number", "one", "two"] (defScope s__law_powers_hold) := ⟨rfl, rfl, rfl, by decide +kernel, rfl, by decide +kernel, by decide +kernel⟩
section
variable {P : Program} {w : World} {K : PySem.W.Frag} {mg : Str → Option Value} {base : Heap}
theorem pow_plus (n : Int) (a : Nat) : ∀ b : Nat, n ^ (a + b) = n ^ a * n ^ b
  | 0 => by rw [Int.pow_zero, Int.mul_one, Nat.add_zero]
  | b + 1 => by rw [← Nat.add_assoc, Int.pow_succ, pow_plus n a b, Int.pow_succ, Int.mul_assoc]
theorem pow_times (n : Int) (a : Nat) : ∀ b : Nat, n ^ (a * b) = (n ^ a) ^ b
  | 0 => by rw [Nat.mul_zero, Int.pow_zero, Int.pow_zero]
  | b + 1 => by rw [Nat.mul_succ, pow_plus, pow_times n a b, Int.pow_succ]
theorem zero_pow_mod {p : Int} (h : 2 ≤ p) (x : Nat) : (0 : Int) ^ x % p = if decide ((x : Int) = 0) = true then 1 else 0 := by
  cases x with
  | zero => rw [Int.pow_zero, Int.emod_eq_of_lt (by omega) (by omega)]; rfl
  | succ x => rw [Int.pow_succ, Int.mul_zero, Int.zero_emod, if_neg (by rw [decide_eq_false (by omega)]; decide)]
def sp_powers (C : Addr) : Sp := fun vs H Q _ => ∃ (a : Addr) (p n : Int) (x y : Nat), vs = [.int p, .ref a, .int n, .int x, .int y] ∧ FieldAt C H a p ∧ (2 ≤ p ∧ p ≤ 101) ∧ (0 ≤ n ∧ n < p) ∧ x + y ≤ 10000 ∧ ∀ H', Same H H' → Q (.bl true) H'
theorem use_powers {C a : Addr} {p n x y : Int} {H : Hp} {Q : VK} {E : XK} (ha : FieldAt C H a p) (hp : 2 ≤ p ∧ p ≤ 101) (hn : 0 ≤ n ∧ n < p) (hx : 0 ≤ x) (hy : 0 ≤ y) (h : x + y ≤ 10000) (q : ∀ H', Same H H' → Q (.bl true) H') : sp_powers C [.int p, .ref a, .int n, .int x, .int y] H Q E :=
  ⟨a, p, n, x.toNat, y.toNat, by rw [Int.toNat_of_nonneg hx, Int.toNat_of_nonneg hy], ha, hp, hn, by omega, q⟩
theorem ok_powers (T : Txt K mg) : FnOk P w K mg base (L2N.CX P w) 7 T.f__law_powers_hold T.fd__law_powers_hold ["prime", "field", "number", "one", "two"] (sp_powers T.C_Field) := by
  have G_Field_power := ok_fpower (P := P) (w := w) (base := base) T
  have G__law_same := ok_same (P := P) (w := w) (base := base) T 5
  have G__law_field_power := ok_fieldpow (P := P) (w := w) (base := base) T
  refine Vb.okN T.d__law_powers_hold.F sc__law_powers_hold (fun vs H Q E h => ?_) (fun cdv A outer s H vs Q E hr h => ?_)
  · obtain ⟨a, p, n, x, y, rfl, _⟩ := h
    rfl
  · obtain ⟨a, p, n, x, y, rfl, ⟨dx, ha⟩, hp, hn, hxy, q⟩ := h
    refine ⟨_, (pss_cons (ps_set (i := 5) sc__law_powers_hold.nd rfl (by first | exact Or.inl rfl | exact Or.inr rfl) (Vb.pe_methP (pv 1) T.c_Field T.m_Field_power G_Field_power (hr.mono (by first | decide | omega)) T.d_Field_power.b (fun σ => L2N.passAt (L2N.takes_of rfl rfl rfl rfl) σ) (pa_cons (pv 2) (pa_cons (pv 3) pa_nil))))
      (pss_cons (ps_set (i := 6) sc__law_powers_hold.nd rfl (by first | exact Or.inl rfl | exact Or.inr rfl) (Vb.pe_methP (pv 1) T.c_Field T.m_Field_power G_Field_power (hr.mono (by first | decide | omega)) T.d_Field_power.b (fun σ => L2N.passAt (L2N.takes_of rfl rfl rfl rfl) σ) (pa_cons (pv 2) (pa_cons (pv 4) pa_nil))))
      (pss_cons (ps_set (i := 7) sc__law_powers_hold.nd rfl (by first | exact Or.inl rfl | exact Or.inr rfl) (Vb.pe_methP (pv 1) T.c_Field T.m_Field_power G_Field_power (hr.mono (by first | decide | omega)) T.d_Field_power.b (fun σ => L2N.passAt (L2N.takes_of rfl rfl rfl rfl) σ) (pa_cons (pv 2) (pa_cons (pe_op op_add (pv 3) (pv 4)) pa_nil))))
      (pss_cons (ps_if (pt_not (pt_val (pe_callS G__law_same (hr.mono (by first | decide | omega)) (by rfl) T.d__law_same.g T.d__law_same.F.kp T.d__law_same.b (fun σ => L2N.passAt (L2N.takes_of rfl rfl rfl rfl) σ) (pa_cons (pe_lst (pa_cons (pv 5) (pa_cons (pv 6) pa_nil))) (pa_cons (pe_lst (pa_cons (pe_callS G__law_field_power (hr.mono (by first | decide | omega)) (by rfl) T.d__law_field_power.g T.d__law_field_power.F.kp T.d__law_field_power.b (fun σ => L2N.passAt (L2N.takes_of rfl rfl rfl rfl) σ) (pa_cons (pv 0) (pa_cons (pv 2) (pa_cons (pv 3) pa_nil)))) (pa_cons (pe_callS G__law_field_power (hr.mono (by first | decide | omega)) (by rfl) T.d__law_field_power.g T.d__law_field_power.F.kp T.d__law_field_power.b (fun σ => L2N.passAt (L2N.takes_of rfl rfl rfl rfl) σ) (pa_cons (pv 0) (pa_cons (pv 2) (pa_cons (pv 4) pa_nil)))) pa_nil))) pa_nil))))) (pss_one (ps_ret pe_bl)) pss_nil)
      (pss_cons (ps_if (PW.pt (pw_or (pt_not (pt_val (pe_callS G__law_same (hr.mono (by first | decide | omega)) (by rfl) T.d__law_same.g T.d__law_same.F.kp T.d__law_same.b (fun σ => L2N.passAt (L2N.takes_of rfl rfl rfl rfl) σ) (pa_cons (pv 7) (pa_cons (pe_op op_mod (pe_callTy Vb.call_int (by rfl) T.n_int (by decide +kernel) (pa_cons (pe_op op_mul (pv 5) (pv 6)) pa_nil)) (pv 0)) pa_nil))))) (pw_or1 (pt_not (pt_val (pe_callS G__law_same (hr.mono (by first | decide | omega)) (by rfl) T.d__law_same.g T.d__law_same.F.kp T.d__law_same.b (fun σ => L2N.passAt (L2N.takes_of rfl rfl rfl rfl) σ) (pa_cons (Vb.pe_methP (pv 1) T.c_Field T.m_Field_power G_Field_power (hr.mono (by first | decide | omega)) T.d_Field_power.b (fun σ => L2N.passAt (L2N.takes_of rfl rfl rfl rfl) σ) (pa_cons (pv 2) (pa_cons pe_int pa_nil))) (pa_cons pe_int pa_nil)))))))) (pss_one (ps_ret pe_bl)) pss_nil)
      (pss_cons (ps_if (PW.pt (pw_and (pt_cmpR op_le (pe_op op_mul (pv 3) (pv 4)) pe_int (nomark _)) (pw_and1 (pt_not (pt_val (pe_callS G__law_same (hr.mono (by first | decide | omega)) (by rfl) T.d__law_same.g T.d__law_same.F.kp T.d__law_same.b (fun σ => L2N.passAt (L2N.takes_of rfl rfl rfl rfl) σ) (pa_cons (Vb.pe_methP (pv 1) T.c_Field T.m_Field_power G_Field_power (hr.mono (by first | decide | omega)) T.d_Field_power.b (fun σ => L2N.passAt (L2N.takes_of rfl rfl rfl rfl) σ) (pa_cons (pv 5) (pa_cons (pv 4) pa_nil))) (pa_cons (Vb.pe_methP (pv 1) T.c_Field T.m_Field_power G_Field_power (hr.mono (by first | decide | omega)) T.d_Field_power.b (fun σ => L2N.passAt (L2N.takes_of rfl rfl rfl rfl) σ) (pa_cons (pv 2) (pa_cons (pe_op op_mul (pv 3) (pv 4)) pa_nil))) pa_nil)))))))) (pss_one (ps_ret pe_bl)) pss_nil)
      (pss_one (ps_ret (pe_callS G__law_same (hr.mono (by first | decide | omega)) (by rfl) T.d__law_same.g T.d__law_same.F.kp T.d__law_same.b (fun σ => L2N.passAt (L2N.takes_of rfl rfl rfl rfl) σ) (pa_cons (pe_lst (pa_cons (Vb.pe_methP (pv 1) T.c_Field T.m_Field_power G_Field_power (hr.mono (by first | decide | omega)) T.d_Field_power.b (fun σ => L2N.passAt (L2N.takes_of rfl rfl rfl rfl) σ) (pa_cons pe_int (pa_cons pe_int pa_nil))) (pa_cons (Vb.pe_methP (pv 1) T.c_Field T.m_Field_power G_Field_power (hr.mono (by first | decide | omega)) T.d_Field_power.b (fun σ => L2N.passAt (L2N.takes_of rfl rfl rfl rfl) σ) (pa_cons pe_int (pa_cons (pv 3) pa_nil))) pa_nil))) (pa_cons (pe_lst (pa_cons pe_int (pa_cons (pe_callTy Vb.call_int (by rfl) T.n_int (by decide +kernel) (pa_cons (pe_cmpR op_eq (pv 3) pe_int (nomark _)) pa_nil)) pa_nil))) pa_nil))))))))))), ?_⟩
    (change (_ : L2.TS) _ ([some (.int p), some (.ref a), some (.int n), some (.int x), some (.int y), none, none, none] : L2.St) _); try dsimp only [L2.cxOf, L2H.cxH]
    have m1 : 0 ≤ n ^ (x : Int).toNat % p ∧ n ^ (x : Int).toNat % p < p := mdp hp
    have m2 : 0 ≤ n ^ (y : Int).toNat % p ∧ n ^ (y : Int).toNat % p < p := mdp hp
    have hw : n ^ ((x : Int) + (y : Int)).toNat % p = (n ^ (x : Int).toNat % p) * (n ^ (y : Int).toNat % p) % p := by
      rw [show ((x : Int) + (y : Int)).toNat = (x : Int).toNat + (y : Int).toNat by omega, pow_plus, Int.mul_emod]
    have h1 : n ^ Int.toNat 0 % p = 1 := by
      rw [show n ^ Int.toNat 0 = 1 from Int.pow_zero n]
      exact Int.emod_eq_of_lt (by omega) (by omega)
    have h0 : (0 : Int) ^ Int.toNat 0 % p = 1 := by
      rw [show (0 : Int) ^ Int.toNat 0 = 1 from Int.pow_zero 0]
      exact Int.emod_eq_of_lt (by omega) (by omega)
    have hz : (0 : Int) ^ (x : Int).toNat % p = if decide ((x : Int) = 0) = true then 1 else 0 := zero_pow_mod hp.1 x
    have ht : n ^ ((x : Int) * (y : Int)).toNat % p = (n ^ (x : Int).toNat % p) ^ (y : Int).toNat % p := by
      rw [show ((x : Int) * (y : Int)).toNat = (x : Int).toNat * (y : Int).toNat from rfl, pow_times, pow_emod]
    have hxn : (0 : Int) ≤ (x : Int) ∧ (x : Int) ≤ 10000 := by omega
    have hyn : (0 : Int) ≤ (y : Int) ∧ (y : Int) ≤ 10000 := by omega
    walk_at "rx"
    refine run_fpower ⟨dx, by walk_at "hp"⟩ hp hn ⟨by omega, by omega⟩ ?_
    walk_at "rx"
    refine run_fpower ⟨dx, by walk_at "hp"⟩ hp hn ⟨by omega, by omega⟩ ?_
    walk_at "rx"
    refine run_fpower ⟨dx, by walk_at "hp"⟩ hp hn ⟨by omega, by omega⟩ ?_
    rw [hw]
    walk_at "rx"
    refine ⟨p, n, x, rfl, hp, hn, ⟨by omega, by omega⟩, ?_⟩
    walk_at "rx"
    refine ⟨p, n, y, rfl, hp, hn, ⟨by omega, by omega⟩, ?_⟩
    walk_at "rx"
    refine use_same (.list [.int (n ^ (x : Int).toNat % p), .int (n ^ (y : Int).toNat % p)]) (Vb.dp_lst (by walk_at "hp") (.cons (.int _) (.cons (.int _) .nil))) (Vb.dp_lst (by walk_at "hp") (.cons (.int _) (.cons (.int _) .nil))) (by simp [Vb.DOk]) ?_
    walk_at "rx"
    refine use_same (.int _) (.int _) (.int _) trivial ?_
    walk_at "rx"
    refine run_fpower ⟨dx, by walk_at "hp"⟩ hp hn ⟨by decide, by decide⟩ ?_
    rw [h1]
    walk_at "rx"
    refine use_same (.int 1) (.int _) (.int _) trivial ?_
    walk_at "rx"
    refine Vb.r_ite (fun c => ?_) (fun c => ?_)
    · walk_at "rx"
      refine run_fpower ⟨dx, by walk_at "hp"⟩ hp m1 ⟨by omega, by omega⟩ ?_
      walk_at "rx"
      refine run_fpower ⟨dx, by walk_at "hp"⟩ hp hn ⟨Int.mul_nonneg (by omega) (by omega), c⟩ ?_
      rw [ht]
      walk_at "rx"
      refine use_same (.int _) (.int _) (.int _) trivial ?_
      walk_at "rx"
      refine run_fpower ⟨dx, by walk_at "hp"⟩ hp ⟨by decide, by omega⟩ ⟨by decide, by decide⟩ ?_
      rw [h0]
      walk_at "rx"
      refine run_fpower ⟨dx, by walk_at "hp"⟩ hp ⟨by decide, by omega⟩ ⟨by omega, by omega⟩ ?_
      rw [hz]
      walk_at "rx"
      refine use_same (.list [.int 1, .int (if decide ((x : Int) = 0) = true then 1 else 0)]) (Vb.dp_lst (by walk_at "hp") (.cons (.int _) (.cons (.int _) .nil))) (Vb.dp_lst (by walk_at "hp") (.cons (.int _) (.cons (.int _) .nil))) (by simp [Vb.DOk]) ?_
      exact q _ (by walk_at "sm")
    · walk_at "rx"
      refine run_fpower ⟨dx, by walk_at "hp"⟩ hp ⟨by decide, by omega⟩ ⟨by decide, by decide⟩ ?_
      rw [h0]
      walk_at "rx"
      refine run_fpower ⟨dx, by walk_at "hp"⟩ hp ⟨by decide, by omega⟩ ⟨by omega, by omega⟩ ?_
      rw [hz]
      walk_at "rx"
      refine use_same (.list [.int 1, .int (if decide ((x : Int) = 0) = true then 1 else 0)]) (Vb.dp_lst (by walk_at "hp") (.cons (.int _) (.cons (.int _) .nil))) (Vb.dp_lst (by walk_at "hp") (.cons (.int _) (.cons (.int _) .nil))) (by simp [Vb.DOk]) ?_
      exact q _ (by walk_at "sm")
end
end K
namespace K
open PySem PySem.Spec PyProof.Rows L2

abbrev N__law_remains : List Str := ["prime", "field", "integer", "actual", "many"]
theorem sc__law_remains : FnScope N__law_remains ["prime", "field", "integer"] (defScope s__law_remains) := ⟨rfl, rfl, rfl, by decide +kernel, rfl, by decide +kernel, by decide +kernel⟩
section
variable {P : Program} {w : World} {K : PySem.W.Frag} {mg : Str → Option Value} {base : Heap}
theorem use_in {C a : Addr} {p : Int} {v : V} {d : PyData} {b : Bool} {H : Hp} {Q : VK} (ha : FieldAt C H a p) (hd : Dp K H v d) (e : inField p d = b) (q : Q (.bl b) H) : Vb.rInOwn false C (sp_fcontains K C) E0 v (.ref a) H Q := by
  obtain ⟨dx, h⟩ := ha
  subst e
  exact ⟨a, dx, _, rfl, h, a, p, v, d, rfl, ⟨dx, h⟩, hd, _, rfl, q⟩
theorem back_up {p n : Int} (h : 2 ≤ p) : (n - n % p) / p * p + n % p = n := by
  have e := Int.mul_ediv_add_emod n p
  have e2 : n - n % p = p * (n / p) := by omega
  rw [e2, Int.mul_ediv_cancel_left _ (by omega), Int.mul_comm]
  exact e
def sp_remains (C : Addr) : Sp := fun vs H Q _ => ∃ (a : Addr) (p n : Int), vs = [.int p, .ref a, .int n] ∧ FieldAt C H a p ∧ (2 ≤ p ∧ p ≤ 101) ∧ Fig n ∧ Q (.bl true) H
theorem ok_remains (T : Txt K mg) : FnOk P w K mg base (L2N.CX P w) 7 T.f__law_remains T.fd__law_remains ["prime", "field", "integer"] (sp_remains T.C_Field) := by
  have G_Field_reduce := ok_freduce (P := P) (w := w) (base := base) T
  have G__law_same := ok_same (P := P) (w := w) (base := base) T 5
  have G__law_integer := ok_integer (P := P) (w := w) (base := base) T
  have G_Field___contains__ := ok_fcontains (P := P) (w := w) (base := base) T
  refine Vb.okN T.d__law_remains.F sc__law_remains (fun vs H Q E h => ?_) (fun cdv A outer s H vs Q E hr h => ?_)
  · obtain ⟨a, p, n, rfl, _⟩ := h
    rfl
  · obtain ⟨a, p, n, rfl, ⟨dx, ha⟩, hp, hn, q⟩ := h
    refine ⟨_, (pss_cons (ps_set (i := 3) sc__law_remains.nd rfl (by first | exact Or.inl rfl | exact Or.inr rfl) (Vb.pe_methP (pv 1) T.c_Field T.m_Field_reduce G_Field_reduce (hr.mono (by first | decide | omega)) T.d_Field_reduce.b (fun σ => L2N.passAt (L2N.takes_of rfl rfl rfl rfl) σ) (pa_cons (pv 2) pa_nil)))
      (pss_cons (ps_if (PW.pt (pw_or (pt_not (pt_val (pe_callS G__law_integer (hr.mono (by first | decide | omega)) (by rfl) T.d__law_integer.g T.d__law_integer.F.kp T.d__law_integer.b (fun σ => L2N.passAt (L2N.takes_of rfl rfl rfl rfl) σ) (pa_cons (pv 3) pa_nil)))) (pw_or (pt_cmpR op_lt (pv 3) pe_int (nomark _)) (pw_or1 (pt_cmpR op_ge (pv 3) (pv 0) (nomark _)))))) (pss_one (ps_ret pe_bl)) pss_nil)
      (pss_cons (ps_set (i := 4) sc__law_remains.nd rfl (by first | exact Or.inl rfl | exact Or.inr rfl) (pe_op op_fdiv (pe_op op_sub (pv 2) (pv 3)) (pv 0)))
      (pss_one (ps_ret (pe_and (pe_cmpR op_eq (pe_op op_add (pe_op op_mul (pv 4) (pv 0)) (pv 3)) (pv 2) (nomark _)) (pe_one (pe_callS G__law_same (hr.mono (by first | decide | omega)) (by rfl) T.d__law_same.g T.d__law_same.F.kp T.d__law_same.b (fun σ => L2N.passAt (L2N.takes_of rfl rfl rfl rfl) σ) (pa_cons (pe_cmpR (Vb.op_inOwn T.m_Field___contains__.at_ T.m_Field___contains__.fn G_Field___contains__ (hr.mono (by decide)) T.d_Field___contains__.b Vb.pass5A) (pv 3) (pv 1) (by rfl)) (pa_cons pe_bl pa_nil)))))))))), ?_⟩
    (change (_ : L2.TS) _ ([some (.int p), some (.ref a), some (.int n), none, none] : L2.St) _); try dsimp only [L2.cxOf, L2H.cxH]
    have m := mdp (x := n) hp
    walk_at "rd"
    refine ⟨a, p, n, rfl, ⟨dx, ha⟩, hp, (fun _ => ?_), (fun z => absurd hn z)⟩
    walk_at "rd"
    refine ⟨_, rfl, ?_⟩
    walk_at "rd"
    refine Vb.r_ite (fun c => absurd c (by omega)) (fun c => ?_)
    walk_at "rd"
    refine Vb.r_ite (fun c => absurd c (by omega)) (fun c => ?_)
    walk_at "rd"
    rw [back_up hp.1, decide_eq_true rfl]
    walk_at "rd"
    refine use_in ⟨dx, ha⟩ (.int _) (inField_int.mpr m) ?_
    walk_at "rd"
    refine use_same (.bool true) (.bl _) (.bl _) trivial ?_
    exact q
end
end K
namespace K
open PySem PySem.Spec PyProof.Rows L2
abbrev N__law_refusals : List Str := ["store", "prime", "field", "number", "bad", "wrong", "exponent"]
theorem sc__law_refusals : FnScope N__law_refusals ["store", "prime", "field", "number"] (defScope s__law_refusals) := ⟨rfl, rfl, rfl, by decide +kernel, rfl, by decide +kernel, by decide +kernel⟩
section
variable {P : Program} {w : World} {K : PySem.W.Frag} {mg : Str → Option Value} {base : Heap}
theorem use_raised1 {C a : Addr} {p : Int} {v1 v2 : V} {d1 d2 : PyData} {H : Hp} {Q : VK} {E : XK} (ha : FieldAt C H a p) (hp : 2 ≤ p ∧ p ≤ 101) (h1 : Dp K H v1 d1) (h2 : Dp K H v2 d2) (f : inField p d1 = false)
    (q : ∀ (H' : Hp) (r : Addr), Same H H' → Dp K H' (.ref r) (.tuple [.str "NotInField", d1, .bool true]) → Q (.ref r) H') : sp_raised K C [.ref a, v1, v2] H Q E :=
  ⟨a, p, v1, v2, d1, d2, _, _, rfl, ha, hp, h1, h2, .inl ⟨f, rfl, rfl⟩, fun H' r e h => q H' r e (Vb.dp_tup h (.cons (.str _) (.cons (Vb.dp_same e _ _ h1) (.cons (.bl _) .nil))))⟩
theorem use_raised2 {C a : Addr} {p : Int} {v1 v2 : V} {d1 d2 : PyData} {H : Hp} {Q : VK} {E : XK} (ha : FieldAt C H a p) (hp : 2 ≤ p ∧ p ≤ 101) (h1 : Dp K H v1 d1) (h2 : Dp K H v2 d2) (f1 : inField p d1 = true) (f : inRange 0 10000 d2 = false)
    (q : ∀ (H' : Hp) (r : Addr), Same H H' → Dp K H' (.ref r) (.tuple [.str "OutOfRange", .none, .bool true]) → Q (.ref r) H') : sp_raised K C [.ref a, v1, v2] H Q E :=
  ⟨a, p, v1, v2, d1, d2, _, _, rfl, ha, hp, h1, h2, .inr ⟨f1, f, rfl, rfl⟩, fun H' r e h => q H' r e (Vb.dp_tup h (.cons (.str _) (.cons .non (.cons (.bl _) .nil))))⟩
theorem tuple_told {n : Nat} {d : PyData} (h : Vb.DOk (n + 1) d) : Vb.DOk (n + 2) (.tuple [.str "NotInField", d, .bool true]) := ⟨Nat.le_of_ble_eq_true rfl, fun x m => by
  simp only [List.mem_cons, List.not_mem_nil, or_false] at m
  rcases m with rfl | rfl | rfl
  · exact trivial
  · exact h
  · exact trivial⟩
def sp_refusals (K : PySem.W.Frag) (C : Addr) : Sp := fun vs H Q _ => ∃ (st a : Addr) (p n : Int), vs = [.ref st, .int p, .ref a, .int n] ∧ Vb.StoreAt H st ∧ a ≠ st ∧ FieldAt C H a p ∧ (2 ≤ p ∧ p ≤ 101) ∧ (0 ≤ n ∧ n < p) ∧ ∀ H', Vb.Fr st H H' → Vb.StoreAt H' st → Q (.bl true) H'
theorem ok_refusals (T : Txt K mg) : FnOk P w K mg base (L2N.CX P w) 7 T.f__law_refusals T.fd__law_refusals ["store", "prime", "field", "number"] (sp_refusals K T.C_Field) := by
  have G__law_bad_number := ok_badnumber (P := P) (w := w) (base := base) T
  have G__law_bad_integer := ok_badinteger (P := P) (w := w) (base := base) T
  have G__law_take := ok_take (P := P) (w := w) (base := base) T
  have G__law_same := ok_same (P := P) (w := w) (base := base) T 5
  have G__law_raised := ok_raised (P := P) (w := w) (base := base) T
  refine Vb.okN T.d__law_refusals.F sc__law_refusals (fun vs H Q E h => ?_) (fun cdv A outer s H vs Q E hr h => ?_)
  · obtain ⟨st, a, p, n, rfl, _⟩ := h
    rfl
  · obtain ⟨st, a, p, n, rfl, hS, na, ⟨dx, ha⟩, hp, hn, q⟩ := h
    refine ⟨_, (pss_cons (ps_set (i := 4) sc__law_refusals.nd rfl (by first | exact Or.inl rfl | exact Or.inr rfl) (pe_callS G__law_bad_number (hr.mono (by first | decide | omega)) (by rfl) T.d__law_bad_number.g T.d__law_bad_number.F.kp T.d__law_bad_number.b (fun σ => L2N.passAt (L2N.takes_of rfl rfl rfl rfl) σ) (pa_cons (pv 0) (pa_cons (pv 1) pa_nil))))
      (pss_cons (ps_set (i := 5) sc__law_refusals.nd rfl (by first | exact Or.inl rfl | exact Or.inr rfl) (pe_callS G__law_bad_integer (hr.mono (by first | decide | omega)) (by rfl) T.d__law_bad_integer.g T.d__law_bad_integer.F.kp T.d__law_bad_integer.b (fun σ => L2N.passAt (L2N.takes_of rfl rfl rfl rfl) σ) (pa_cons (pv 0) (pa_cons pe_int (pa_cons pe_int pa_nil)))))
      (pss_cons (ps_for (L2.passes_of rfl) rfl (pi_list (pe_lst (pa_cons (pv 5) (pa_cons (pe_un un_neg pe_int) (pa_cons pe_int (pa_cons pe_bl (pa_cons pe_bl (pa_cons pe_non pa_nil)))))))) (pg_name (i := 6) sc__law_refusals.nd rfl (by first | exact Or.inl rfl | exact Or.inr rfl))
        (pss_cons (ps_if (pt_not (pt_val (pe_callS G__law_same (hr.mono (by first | decide | omega)) (by rfl) T.d__law_same.g T.d__law_same.F.kp T.d__law_same.b (fun σ => L2N.passAt (L2N.takes_of rfl rfl rfl rfl) σ) (pa_cons (pe_callS G__law_raised (hr.mono (by first | decide | omega)) (by rfl) T.d__law_raised.g T.d__law_raised.F.kp T.d__law_raised.b (fun σ => L2N.passAt (L2N.takes_of rfl rfl rfl rfl) σ) (pa_cons (pv 2) (pa_cons (pv 3) (pa_cons (pv 6) pa_nil)))) (pa_cons (pe_tup (pa_cons pe_str (pa_cons pe_non (pa_cons pe_bl pa_nil)))) pa_nil))))) (pss_one (ps_ret pe_bl)) pss_nil)
      (pss_one (ps_if (pt_not (pt_val (pe_callS G__law_same (hr.mono (by first | decide | omega)) (by rfl) T.d__law_same.g T.d__law_same.F.kp T.d__law_same.b (fun σ => L2N.passAt (L2N.takes_of rfl rfl rfl rfl) σ) (pa_cons (pe_callS G__law_raised (hr.mono (by first | decide | omega)) (by rfl) T.d__law_raised.g T.d__law_raised.F.kp T.d__law_raised.b (fun σ => L2N.passAt (L2N.takes_of rfl rfl rfl rfl) σ) (pa_cons (pv 2) (pa_cons (pv 4) (pa_cons (pv 6) pa_nil)))) (pa_cons (pe_tup (pa_cons pe_str (pa_cons (pv 4) (pa_cons pe_bl pa_nil)))) pa_nil))))) (pss_one (ps_ret pe_bl)) pss_nil))))
      (pss_one (ps_ret (pe_callS G__law_same (hr.mono (by first | decide | omega)) (by rfl) T.d__law_same.g T.d__law_same.F.kp T.d__law_same.b (fun σ => L2N.passAt (L2N.takes_of rfl rfl rfl rfl) σ) (pa_cons (pe_callS G__law_raised (hr.mono (by first | decide | omega)) (by rfl) T.d__law_raised.g T.d__law_raised.F.kp T.d__law_raised.b (fun σ => L2N.passAt (L2N.takes_of rfl rfl rfl rfl) σ) (pa_cons (pv 2) (pa_cons (pv 4) (pa_cons (pe_callS G__law_take (hr.mono (by first | decide | omega)) (by rfl) T.d__law_take.g T.d__law_take.F.kp T.d__law_take.b (fun σ => L2N.passAt (L2N.takes_of rfl rfl rfl rfl) σ) (pa_cons (pv 0) (pa_cons pe_int pa_nil))) pa_nil)))) (pa_cons (pe_tup (pa_cons pe_str (pa_cons (pv 4) (pa_cons pe_bl pa_nil)))) pa_nil)))))))), ?_⟩
    (change (_ : L2.TS) _ ([some (.ref st), some (.int p), some (.ref a), some (.int n), none, none, none] : L2.St) _); try dsimp only [L2.cxOf, L2H.cxH]
    walk_at "rd"
    refine use_badnumber hS (by omega) fun vb db H3 hfb hob f3 S3 hdb => ?_
    have db3 := hdb [] Vb.Trk.nil
    walk_at "rd"
    refine use_badinteger S3 (by decide) fun vc dc H4 hfc hoc f4 S4 hdc => ?_
    have dc4 := Vb.dp_off (hdc [] Vb.Trk.nil)
    have db4o := Vb.dp_same (Vb.offs_fr f4 List.mem_cons_self) _ _ db3
    have db4 := Vb.dp_off db4o
    walk_at "rd"
    refine ⟨Vb.size_ok (by show 6 ≤ 16777216; decide), fun l nl => ?_⟩
    have el := Vb.same_new (o := .lst [vc, .int (-1), .int 10001, .bl true, .bl false, .non]) nl
    have hl : (upd H4 l (.lst [vc, .int (-1), .int 10001, .bl true, .bl false, .non])) l = some (.lst [vc, .int (-1), .int 10001, .bl true, .bl false, .non]) := upd_same
    have S5 := S4.same el
    have nls := S4.ne nl
    have da5 : DpAll K (upd H4 l (.lst [vc, .int (-1), .int 10001, .bl true, .bl false, .non])) [vc, .int (-1), .int 10001, .bl true, .bl false, .non] [dc, .int (-1), .int 10001, .bool true, .bool false, .none] := .cons (Vb.dp_same el _ _ dc4) (.cons (.int _) (.cons (.int _) (.cons (.bl _) (.cons (.bl _) (.cons .non .nil)))))
    have db5 := Vb.dp_same el _ _ db4
    have ha5 := el _ _ (f4.k _ _ na (f3.k _ _ na ha))
    have f45 := Vb.Fr.of (st := st) el
    have f5 := f3.trans f4
    have no : ∀ d ∈ [dc, .int (-1), .int 10001, .bool true, .bool false, .none], inRange 0 10000 d = false := fun d m => by
      simp only [List.mem_cons, List.not_mem_nil, or_false] at m
      rcases m with rfl | rfl | rfl | rfl | rfl | rfl
      · exact hfc
      · exact inRange_no (.inl (by decide))
      · exact inRange_no (.inr (by decide))
      · rfl
      · rfl
      · rfl
    generalize upd H4 l _ = H5 at hl S5 da5 db5 ha5 f45 ⊢
    clear hdb hdc dc4 db4 db3 el f4 f3 S4 S3
    walk_at "rd"
    refine Vb.lp_list (xs := [vc, .int (-1), .int 10001, .bl true, .bl false, .non]) (fun i σ H' => Same H5 H' ∧ ∃ y, σ = [some (.ref st), some (.int p), some (.ref a), some (.int n), some vb, some vc, y]) ⟨Same.refl _, _, rfl⟩ (fun i σ H' _ c => Vb.sq_of (c.1 _ _ hl)) ?_ ?_
    · rintro i x σ H' hi ⟨e6, y, rfl⟩
      obtain ⟨dd, g1, g2⟩ := Vb.dpa_get da5 hi
      walk_at "rd"
      refine use_raised2 ⟨dx, by walk_at "hp"⟩ hp (.int n) (Vb.dp_same (H := H5) (by walk_at "sm") _ _ g2) (inField_int.mpr hn) (no _ (List.mem_of_getElem? g1)) fun H7 r e7 h7 => ?_
      walk_at "rx"
      refine use_same (.tuple [.str "OutOfRange", .none, .bool true]) (Vb.dp_same (by walk_at "sm") _ _ h7) (Vb.dp_tup (by walk_at "hp") (.cons (.str _) (.cons .non (.cons (.bl _) .nil)))) (by simp [Vb.DOk]) ?_
      walk_at "rd"
      refine use_raised1 ⟨dx, by walk_at "hp"⟩ hp (Vb.dp_same (H := H5) (by walk_at "sm") _ _ db5) (Vb.dp_same (H := H5) (by walk_at "sm") _ _ g2) hfb fun H8 r8 e8 h8 => ?_
      walk_at "rx"
      refine use_same _ (Vb.dp_same (by walk_at "sm") _ _ h8) (Vb.dp_tup (by walk_at "hp") (.cons (.str _) (.cons (Vb.dp_same (H := H5) (by walk_at "sm") _ _ db5) (.cons (.bl _) .nil)))) (tuple_told hob) ?_
      walk_at "rd"
      exact ⟨by walk_at "sm", _, rfl⟩
    · rintro σ H6 ⟨e6, y, rfl⟩
      walk_at "rd"
      refine use_take (S5.same e6) (by decide) fun t H7 t1 t2 _ f7 S7 => ?_
      have f47 := f45.trans ((Vb.Fr.of e6).trans f7)
      have db7 := Vb.dp_off (Vb.dp_same (Vb.offs_fr f47 List.mem_cons_self) _ _ db4o)
      have ha7 := f7.k _ _ na (e6 _ _ ha5)
      walk_at "rd"
      refine use_raised1 ⟨dx, ha7⟩ hp db7 (.int t) hfb fun H8 r8 e8 h8 => ?_
      walk_at "rx"
      refine use_same _ (Vb.dp_same (by walk_at "sm") _ _ h8) (Vb.dp_tup (by walk_at "hp") (.cons (.str _) (.cons (Vb.dp_same (H := H7) (by walk_at "sm") _ _ db7) (.cons (.bl _) .nil)))) (tuple_told hob) ?_
      exact q _ ((f5.trans f47).trans (Vb.Fr.of (by walk_at "sm"))) (S7.same (by walk_at "sm"))
end
end K
namespace K
open PySem PySem.Spec PyProof.Rows L2
abbrev N__law_integers : List Str := ["store", "prime", "most", "near", "integers"]
theorem sc__law_integers : FnScope N__law_integers ["store", "prime"] (defScope s__law_integers) := ⟨rfl, rfl, rfl, by decide +kernel, rfl, by decide +kernel, by decide +kernel⟩
section
variable {P : Program} {w : World} {K : PySem.W.Frag} {mg : Str → Option Value} {base : Heap}
/-- a list that is filled: what it holds is kept, the store is another -/
structure LS (R : V → Prop) (st D : Addr) (H H' : Hp) (acc : List V) : Prop where
  s0 : Vb.StoreAt H st
  n0 : H D = none
  f : Vb.Fr st H H'
  S : Vb.StoreAt H' st
  h : H' D = some (.lst acc)
  a : ∀ v ∈ acc, R v
theorem LS.ne {R : V → Prop} {st D : Addr} {H H' : Hp} {acc : List V} (v : LS R st D H H' acc) : D ≠ st := v.s0.ne v.n0
theorem LS.fr {R : V → Prop} {st D : Addr} {H H' H2 : Hp} {acc : List V} (v : LS R st D H H' acc) (f : Vb.Fr st H' H2) (S : Vb.StoreAt H2 st) : LS R st D H H2 acc := ⟨v.s0, v.n0, v.f.trans f, S, f.k _ _ v.ne v.h, v.a⟩
theorem LS.app {R : V → Prop} {x : V} {st D : Addr} {H H' : Hp} {acc : List V} (v : LS R st D H H' acc) (h : R x) : LS R st D H (upd H' D (.lst (acc ++ [x]))) (acc ++ [x]) :=
  ⟨v.s0, v.n0, v.f.mut v.n0, v.s0.mut v.n0 v.f v.S, upd_same, fun u m => by
    rcases List.mem_append.mp m with m | m
    · exact v.a u m
    · rw [List.mem_singleton.mp m]
      exact h⟩
theorem LS.new {R : V → Prop} {st D : Addr} {H : Hp} {acc : List V} (s : Vb.StoreAt H st) (n : H D = none) (a : ∀ v ∈ acc, R v) : LS R st D H (upd H D (.lst acc)) acc := ⟨s, n, Vb.Fr.of (Vb.same_new n), s.same (Vb.same_new n), upd_same, a⟩
def FigV (v : V) : Prop := ∃ n : Int, v = .int n ∧ Fig n
def sp_integers (K : PySem.W.Frag) : Sp := fun vs H Q _ => ∃ (st : Addr) (p : Int), vs = [.ref st, .int p] ∧ Vb.StoreAt H st ∧ (2 ≤ p ∧ p ≤ 101) ∧ ∀ (l : Addr) (H' : Hp) (xs : List V), Vb.Fr st H H' → Vb.StoreAt H' st → l ≠ st → H' l = some (.lst xs) → (∀ v ∈ xs, FigV v) → Q (.ref l) H'
theorem ok_integers (T : Txt K mg) : FnOk P w K mg base (L2N.CX P w) 6 T.f__law_integers T.fd__law_integers ["store", "prime"] (sp_integers K) := by
  have G__law_signed := ok_signed (P := P) (w := w) (base := base) T
  have G__law_take := ok_take (P := P) (w := w) (base := base) T
  have G__law_number := ok_lawnumber (P := P) (w := w) (base := base) T
  refine Vb.okN T.d__law_integers.F sc__law_integers (fun vs H Q E h => ?_) (fun cdv A outer s H vs Q E hr h => ?_)
  · obtain ⟨st, p, rfl, _⟩ := h
    rfl
  · obtain ⟨st, p, rfl, hS, hp, q⟩ := h
    refine ⟨_, (pss_cons (ps_set (i := 2) sc__law_integers.nd rfl (by first | exact Or.inl rfl | exact Or.inr rfl) (pe_op op_sub (pe_op Vb.op_powB (pe_op Vb.op_powB pe_int pe_int) pe_int) pe_int))
      (pss_cons (ps_set (i := 3) sc__law_integers.nd rfl (by first | exact Or.inl rfl | exact Or.inr rfl) (pe_op op_mul (pv 1) (pe_callS G__law_take (hr.mono (by first | decide | omega)) (by rfl) T.d__law_take.g T.d__law_take.F.kp T.d__law_take.b (fun σ => L2N.passAt (L2N.takes_of rfl rfl rfl rfl) σ) (pa_cons (pv 0) (pa_cons pe_int pa_nil)))))
      (pss_cons (ps_set (i := 4) sc__law_integers.nd rfl (by first | exact Or.inl rfl | exact Or.inr rfl) (pe_lst (pa_cons (pe_callS G__law_signed (hr.mono (by first | decide | omega)) (by rfl) T.d__law_signed.g T.d__law_signed.F.kp T.d__law_signed.b (fun σ => L2N.passAt (L2N.takes_of rfl rfl rfl rfl) σ) (pa_cons (pv 0) pa_nil)) (pa_cons (pe_callS G__law_signed (hr.mono (by first | decide | omega)) (by rfl) T.d__law_signed.g T.d__law_signed.F.kp T.d__law_signed.b (fun σ => L2N.passAt (L2N.takes_of rfl rfl rfl rfl) σ) (pa_cons (pv 0) pa_nil)) (pa_cons (pv 2) (pa_cons (pe_un un_neg (pv 2)) (pa_cons pe_int (pa_cons pe_int (pa_cons (pe_un un_neg pe_int) (pa_cons (pv 1) (pa_cons (pe_un un_neg (pv 1)) (pa_cons (pe_op op_sub (pv 3) pe_int) (pa_cons (pe_un un_neg (pv 3)) pa_nil)))))))))))))
      (pss_cons (ps_expr (pe_bm PySem.F.plainAttrs_list PySem.F.slot_list_append PySem.F.type_list_append mt_append (pv 4) (pa_cons (pe_callS G__law_number (hr.mono (by first | decide | omega)) (by rfl) T.d__law_number.g T.d__law_number.F.kp T.d__law_number.b (fun σ => L2N.passAt (L2N.takes_of rfl rfl rfl rfl) σ) (pa_cons (pv 0) (pa_cons (pv 1) pa_nil))) pa_nil)))
      (pss_cons (ps_expr (pe_bm PySem.F.plainAttrs_list PySem.F.slot_list_append PySem.F.type_list_append mt_append (pv 4) (pa_cons (pe_un un_neg (pe_callS G__law_number (hr.mono (by first | decide | omega)) (by rfl) T.d__law_number.g T.d__law_number.F.kp T.d__law_number.b (fun σ => L2N.passAt (L2N.takes_of rfl rfl rfl rfl) σ) (pa_cons (pv 0) (pa_cons (pv 1) pa_nil)))) pa_nil)))
      (pss_cons (ps_expr (pe_bm PySem.F.plainAttrs_list PySem.F.slot_list_append PySem.F.type_list_append mt_append (pv 4) (pa_cons (pe_op op_sub (pv 2) (pe_callS G__law_take (hr.mono (by first | decide | omega)) (by rfl) T.d__law_take.g T.d__law_take.F.kp T.d__law_take.b (fun σ => L2N.passAt (L2N.takes_of rfl rfl rfl rfl) σ) (pa_cons (pv 0) (pa_cons pe_int pa_nil)))) pa_nil)))
      (pss_cons (ps_expr (pe_bm PySem.F.plainAttrs_list PySem.F.slot_list_append PySem.F.type_list_append mt_append (pv 4) (pa_cons (pe_op op_sub (pe_op op_add pe_int (pe_callS G__law_take (hr.mono (by first | decide | omega)) (by rfl) T.d__law_take.g T.d__law_take.F.kp T.d__law_take.b (fun σ => L2N.passAt (L2N.takes_of rfl rfl rfl rfl) σ) (pa_cons (pv 0) (pa_cons pe_int pa_nil)))) (pv 2)) pa_nil)))
      (pss_one (ps_ret (pv 4)))))))))), ?_⟩
    (change (_ : L2.TS) _ ([some (.ref st), some (.int p), none, none, none] : L2.St) _); try dsimp only [L2.cxOf, L2H.cxH]
    have hp1 : 1 ≤ p ∧ p ≤ 101 := ⟨by omega, hp.2⟩
    have hb := big300_pos
    walk_at "rd"
    try rw [← big300_pow]
    walk_at "rd"
    refine use_take hS (by decide) fun t H1 t1 t2 _ f1 S1 => ?_
    have t3 := t2 (by decide)
    have np : 0 ≤ p * t ∧ p * t ≤ 101 * 1000 := ⟨Int.mul_nonneg (by omega) t1, Int.mul_le_mul (by omega) (by omega) t1 (by decide)⟩
    walk_at "rd"
    refine use_signed S1 fun x H2 x1 f2 S2 => ?_
    walk_at "rd"
    refine use_signed S2 fun y H3 y1 f3 S3 => ?_
    walk_at "rd"
    refine ⟨Vb.size_ok (by show 11 ≤ 16777216; decide), fun l nl => ?_⟩
    have v : LS FigV st l H3 _ _ := LS.new (R := FigV) S3 nl (acc := [.int x, .int y, .int (big300 - 1), .int (-(big300 - 1)), .int 0, .int 1, .int (-1), .int p, .int (-p), .int (p * t - 1), .int (-(p * t))]) fun v m => by
      simp only [List.mem_cons, List.not_mem_nil, or_false] at m
      rcases m with rfl | rfl | rfl | rfl | rfl | rfl | rfl | rfl | rfl | rfl | rfl
      · exact ⟨_, rfl, x1⟩
      · exact ⟨_, rfl, y1⟩
      all_goals exact ⟨_, rfl, by unfold Fig; omega⟩
    have hF := f1.trans (f2.trans f3)
    generalize upd H3 l _ = H4 at v ⊢
    have vh := v.h
    walk_at "rd"
    refine use_lawnumber v.S hp1 fun g H5 a1 a2 f5 S5 => ?_
    replace v := v.fr f5 S5
    clear vh
    have vh := v.h
    walk_at "rd"
    replace v := v.app (x := .int g) ⟨_, rfl, fig_small ⟨by omega, by omega⟩⟩
    refine use_lawnumber v.S hp1 fun g2 H6 b1 b2 f6 S6 => ?_
    replace v := v.fr f6 S6
    clear vh
    have vh := v.h
    walk_at "rd"
    replace v := v.app (x := .int (-g2)) ⟨_, rfl, fig_small ⟨by omega, by omega⟩⟩
    refine use_take v.S (by decide) fun g3 H7 c1 c2 _ f7 S7 => ?_
    have c3 := c2 (by decide)
    replace v := v.fr f7 S7
    clear vh
    have vh := v.h
    walk_at "rd"
    replace v := v.app (x := .int (big300 - 1 - g3)) ⟨_, rfl, by unfold Fig; omega⟩
    refine use_take v.S (by decide) fun g4 H8 d1 d2 _ f8 S8 => ?_
    have d3 := d2 (by decide)
    replace v := v.fr f8 S8
    clear vh
    have vh := v.h
    walk_at "rd"
    replace v := v.app (x := .int (1 + g4 - (big300 - 1))) ⟨_, rfl, by unfold Fig; omega⟩
    exact q l _ _ (hF.trans v.f) v.S v.ne v.h v.a
end
end K
namespace K
open PySem PySem.Spec PyProof.Rows L2



abbrev N_law : List Str := ["script", "store", "prime", "second", "field", "other", "number", "pair", "great", "integer", "more"]
theorem sc_law : FnScope N_law ["script"] (defScope s_law) := ⟨rfl, rfl, rfl, by decide +kernel, rfl, by decide +kernel, by decide +kernel⟩
section
variable {P : Program} {w : World} {K : PySem.W.Frag} {mg : Str → Option Value} {base : Heap}
theorem great_wide : CMulW big300 big300 := by
  have h : big300.natAbs < 2 ^ 1000 := by decide +kernel
  exact wide_mul h h (by decide) (by decide) (by decide)
theorem great_great : big300 < big300 * big300 := by
  have := big300_pos
  have h : big300 * 1 < big300 * big300 := Int.mul_lt_mul_of_pos_left (by omega) (by omega)
  omega
def sp_law (K : PySem.W.Frag) : Sp := fun vs H Q _ => ∃ (a : Addr) (ns : List Int), vs = [.ref a] ∧ SqL K H a (ns.map V.int) ∧ ns.length ≤ 63 ∧ ∀ H', Q (.bl true) H'
theorem ok_law (T : Txt K mg) : FnOk P w K mg base (L2N.CX P w) 8 T.f_law T.fd_law ["script"] (sp_law K) := by
  have G__law_store := ok_store (P := P) (w := w) (base := base) T
  have G__law_prime := ok_prime (P := P) (w := w) (base := base) T
  have G__law_small_prime := ok_smallprime (P := P) (w := w) (base := base) T
  have G__law_take := ok_take (P := P) (w := w) (base := base) T
  have G__law_number := ok_lawnumber (P := P) (w := w) (base := base) T
  have G__law_exponents := ok_exponents (P := P) (w := w) (base := base) T
  have G__law_powers_hold := ok_powers (P := P) (w := w) (base := base) T
  have G__law_refusals := ok_refusals (P := P) (w := w) (base := base) T
  have G__law_integers := ok_integers (P := P) (w := w) (base := base) T
  have G__law_remains := ok_remains (P := P) (w := w) (base := base) T
  have G__law_too_large := ok_toolarge (P := P) (w := w) (base := base) T
  have G_Field___init__ := ok_finit (P := P) (w := w) (base := base) T
  refine Vb.okN T.d_law.F sc_law (fun vs H Q E h => ?_) (fun cdv A outer s H vs Q E hr h => ?_)
  · obtain ⟨a, ns, rfl, _⟩ := h
    rfl
  · obtain ⟨a, ns, rfl, ha, hn, q⟩ := h
    refine ⟨_, (pss_cons (ps_set (i := 1) sc_law.nd rfl (by first | exact Or.inl rfl | exact Or.inr rfl) (pe_callS G__law_store (hr.mono (by first | decide | omega)) (by rfl) T.d__law_store.g T.d__law_store.F.kp T.d__law_store.b (fun σ => L2N.passAt (L2N.takes_of rfl rfl rfl rfl) σ) (pa_cons (pv 0) pa_nil)))
      (pss_cons (ps_set (i := 2) sc_law.nd rfl (by first | exact Or.inl rfl | exact Or.inr rfl) (pe_ix ix_list (pe_lst (pa_cons (pe_callS G__law_prime (hr.mono (by first | decide | omega)) (by rfl) T.d__law_prime.g T.d__law_prime.F.kp T.d__law_prime.b (fun σ => L2N.passAt (L2N.takes_of rfl rfl rfl rfl) σ) (pa_cons (pv 1) pa_nil)) (pa_cons (pe_callS G__law_small_prime (hr.mono (by first | decide | omega)) (by rfl) T.d__law_small_prime.g T.d__law_small_prime.F.kp T.d__law_small_prime.b (fun σ => L2N.passAt (L2N.takes_of rfl rfl rfl rfl) σ) (pa_cons (pv 1) pa_nil)) pa_nil))) (pe_callS G__law_take (hr.mono (by first | decide | omega)) (by rfl) T.d__law_take.g T.d__law_take.F.kp T.d__law_take.b (fun σ => L2N.passAt (L2N.takes_of rfl rfl rfl rfl) σ) (pa_cons (pv 1) (pa_cons pe_int pa_nil))) (fun _ _ => rfl)))
      (pss_cons (ps_set (i := 3) sc_law.nd rfl (by first | exact Or.inl rfl | exact Or.inr rfl) (pe_callS G__law_prime (hr.mono (by first | decide | omega)) (by rfl) T.d__law_prime.g T.d__law_prime.F.kp T.d__law_prime.b (fun σ => L2N.passAt (L2N.takes_of rfl rfl rfl rfl) σ) (pa_cons (pv 1) pa_nil)))
      (pss_cons (ps_set (i := 4) sc_law.nd rfl (by first | exact Or.inl rfl | exact Or.inr rfl) (Vb.pe_makeP T.mk_Field G_Field___init__ (hr.mono (by first | decide | omega)) (by rfl) T.g_Field T.d_Field___init__.b (fun σ => L2N.passAt (L2N.takes_of rfl rfl rfl rfl) σ) (pa_cons (pv 2) pa_nil)))
      (pss_cons (ps_set (i := 5) sc_law.nd rfl (by first | exact Or.inl rfl | exact Or.inr rfl) (Vb.pe_makeP T.mk_Field G_Field___init__ (hr.mono (by first | decide | omega)) (by rfl) T.g_Field T.d_Field___init__.b (fun σ => L2N.passAt (L2N.takes_of rfl rfl rfl rfl) σ) (pa_cons (pv 3) pa_nil)))
      (pss_cons (ps_set (i := 6) sc_law.nd rfl (by first | exact Or.inl rfl | exact Or.inr rfl) (pe_callS G__law_number (hr.mono (by first | decide | omega)) (by rfl) T.d__law_number.g T.d__law_number.F.kp T.d__law_number.b (fun σ => L2N.passAt (L2N.takes_of rfl rfl rfl rfl) σ) (pa_cons (pv 1) (pa_cons (pv 2) pa_nil))))
      (pss_cons (ps_set (i := 7) sc_law.nd rfl (by first | exact Or.inl rfl | exact Or.inr rfl) (pe_callS G__law_exponents (hr.mono (by first | decide | omega)) (by rfl) T.d__law_exponents.g T.d__law_exponents.F.kp T.d__law_exponents.b (fun σ => L2N.passAt (L2N.takes_of rfl rfl rfl rfl) σ) (pa_cons (pv 1) (pa_cons (pv 2) pa_nil))))
      (pss_cons (ps_if (pt_not (pt_val (pe_callS G__law_powers_hold (hr.mono (by first | decide | omega)) (by rfl) T.d__law_powers_hold.g T.d__law_powers_hold.F.kp T.d__law_powers_hold.b (fun σ => L2N.passAt (L2N.takes_of rfl rfl rfl rfl) σ) (pa_cons (pv 2) (pa_cons (pv 4) (pa_cons (pv 6) (pa_cons (pe_ix ix_tup (pv 7) pe_int (fun _ _ => rfl)) (pa_cons (pe_ix ix_tup (pv 7) pe_int (fun _ _ => rfl)) pa_nil)))))))) (pss_one (ps_ret pe_bl)) pss_nil)
      (pss_cons (ps_if (pt_not (pt_val (pe_callS G__law_powers_hold (hr.mono (by first | decide | omega)) (by rfl) T.d__law_powers_hold.g T.d__law_powers_hold.F.kp T.d__law_powers_hold.b (fun σ => L2N.passAt (L2N.takes_of rfl rfl rfl rfl) σ) (pa_cons (pv 3) (pa_cons (pv 5) (pa_cons (pe_op op_mod (pe_callTy Vb.call_int (by rfl) T.n_int (by decide +kernel) (pa_cons (pv 6) pa_nil)) (pv 3)) (pa_cons (pe_ix ix_tup (pv 7) pe_int (fun _ _ => rfl)) (pa_cons (pe_ix ix_tup (pv 7) pe_int (fun _ _ => rfl)) pa_nil)))))))) (pss_one (ps_ret pe_bl)) pss_nil)
      (pss_cons (ps_if (pt_not (pt_val (pe_callS G__law_refusals (hr.mono (by first | decide | omega)) (by rfl) T.d__law_refusals.g T.d__law_refusals.F.kp T.d__law_refusals.b (fun σ => L2N.passAt (L2N.takes_of rfl rfl rfl rfl) σ) (pa_cons (pv 1) (pa_cons (pv 2) (pa_cons (pv 4) (pa_cons (pv 6) pa_nil))))))) (pss_one (ps_ret pe_bl)) pss_nil)
      (pss_cons (ps_set (i := 8) sc_law.nd rfl (by first | exact Or.inl rfl | exact Or.inr rfl) (pe_op Vb.op_powB (pe_op Vb.op_powB pe_int pe_int) pe_int))
      (pss_cons (ps_for (L2.passes_of rfl) rfl (pi_list (pe_callS G__law_integers (hr.mono (by first | decide | omega)) (by rfl) T.d__law_integers.g T.d__law_integers.F.kp T.d__law_integers.b (fun σ => L2N.passAt (L2N.takes_of rfl rfl rfl rfl) σ) (pa_cons (pv 1) (pa_cons (pv 2) pa_nil)))) (pg_name (i := 9) sc_law.nd rfl (by first | exact Or.inl rfl | exact Or.inr rfl))
        (pss_one (ps_if (PW.pt (pw_or (pt_not (pt_val (pe_callS G__law_remains (hr.mono (by first | decide | omega)) (by rfl) T.d__law_remains.g T.d__law_remains.F.kp T.d__law_remains.b (fun σ => L2N.passAt (L2N.takes_of rfl rfl rfl rfl) σ) (pa_cons (pv 2) (pa_cons (pv 4) (pa_cons (pv 9) pa_nil)))))) (pw_or1 (pt_not (pt_val (pe_callS G__law_remains (hr.mono (by first | decide | omega)) (by rfl) T.d__law_remains.g T.d__law_remains.F.kp T.d__law_remains.b (fun σ => L2N.passAt (L2N.takes_of rfl rfl rfl rfl) σ) (pa_cons (pv 3) (pa_cons (pv 5) (pa_cons (pv 9) pa_nil))))))))) (pss_one (ps_ret pe_bl)) pss_nil)))
      (pss_cons (ps_set (i := 10) sc_law.nd rfl (by first | exact Or.inl rfl | exact Or.inr rfl) (pe_op op_add (pe_op op_mul (pv 8) pe_int) (pe_callS G__law_take (hr.mono (by first | decide | omega)) (by rfl) T.d__law_take.g T.d__law_take.F.kp T.d__law_take.b (fun σ => L2N.passAt (L2N.takes_of rfl rfl rfl rfl) σ) (pa_cons (pv 1) (pa_cons pe_int pa_nil)))))
      (pss_cons (ps_for (L2.passes_of rfl) rfl (pi_list (pe_lst (pa_cons (pv 8) (pa_cons (pe_un un_neg (pv 8)) (pa_cons (pe_op op_add (pv 8) (pe_callS G__law_take (hr.mono (by first | decide | omega)) (by rfl) T.d__law_take.g T.d__law_take.F.kp T.d__law_take.b (fun σ => L2N.passAt (L2N.takes_of rfl rfl rfl rfl) σ) (pa_cons (pv 1) (pa_cons pe_int pa_nil)))) (pa_cons (pv 10) (pa_cons (pe_un un_neg (pv 10)) (pa_cons (pe_op op_mulW (pv 8) (pv 8)) pa_nil)))))))) (pg_name (i := 9) sc_law.nd rfl (by first | exact Or.inl rfl | exact Or.inr rfl))
        (pss_one (ps_if (pt_not (pt_val (pe_callS G__law_too_large (hr.mono (by first | decide | omega)) (by rfl) T.d__law_too_large.g T.d__law_too_large.F.kp T.d__law_too_large.b (fun σ => L2N.passAt (L2N.takes_of rfl rfl rfl rfl) σ) (pa_cons (pv 4) (pa_cons (pv 9) pa_nil))))) (pss_one (ps_ret pe_bl)) pss_nil)))
      (pss_cons (ps_set (i := 6) sc_law.nd rfl (by first | exact Or.inl rfl | exact Or.inr rfl) (pe_callS G__law_number (hr.mono (by first | decide | omega)) (by rfl) T.d__law_number.g T.d__law_number.F.kp T.d__law_number.b (fun σ => L2N.passAt (L2N.takes_of rfl rfl rfl rfl) σ) (pa_cons (pv 1) (pa_cons (pv 2) pa_nil))))
      (pss_one (ps_ret (pe_and (pe_callS G__law_remains (hr.mono (by first | decide | omega)) (by rfl) T.d__law_remains.g T.d__law_remains.F.kp T.d__law_remains.b (fun σ => L2N.passAt (L2N.takes_of rfl rfl rfl rfl) σ) (pa_cons (pv 2) (pa_cons (pv 4) (pa_cons (pe_op op_sub pe_int (pv 8)) pa_nil)))) (pe_one (pe_callS G__law_powers_hold (hr.mono (by first | decide | omega)) (by rfl) T.d__law_powers_hold.g T.d__law_powers_hold.F.kp T.d__law_powers_hold.b (fun σ => L2N.passAt (L2N.takes_of rfl rfl rfl rfl) σ) (pa_cons (pv 2) (pa_cons (pv 4) (pa_cons (pv 6) (pa_cons pe_int (pa_cons (pe_op op_fdiv (pe_ix ix_tup (pv 7) pe_int (fun _ _ => rfl)) pe_int) pa_nil))))))))))))))))))))))))), ?_⟩
    (change (_ : L2.TS) _ ([some (.ref a), none, none, none, none, none, none, none, none, none, none] : L2.St) _); try dsimp only [L2.cxOf, L2H.cxH]
    walk_at "rd"
    refine ⟨a, ns, rfl, ha, by omega, fun st H1 n1 e1 S1 => ?_⟩
    walk_at "rd"
    refine use_prime S1 fun p1 H2 g1 g2 f2 S2 => ?_
    walk_at "rd"
    refine use_smallprime S2 fun p2 H3 g3 g4 f3 S3 => ?_
    walk_at "rd"
    refine ⟨Vb.size_ok (by show 2 ≤ 16777216; decide), fun l4 n4 => ?_⟩
    walk_at "rd"
    refine use_take (S3.same (Vb.same_new n4)) (by decide) fun t H5 t1 t2 _ f5 S5 => ?_
    have t3 := t2 (by decide)
    obtain ⟨p, hp, hp1, hg⟩ : ∃ p : Int, Vb.Prm p ∧ p ≤ 101 ∧ ([.int p1, .int p2] : List V)[t.toNat]? = some (.int p) := by
      have : t.toNat = 0 ∨ t.toNat = 1 := by omega
      rcases this with h | h <;> rw [h]
      · exact ⟨p1, g1, g2, rfl⟩
      · exact ⟨p2, g3, by omega, rfl⟩
    refine Vb.r_ixL (Vb.sq_of (f5.k _ _ (S3.ne n4) upd_same)) (Vb.at_lit t.toNat (by omega) hg) ?_
    clear hg f5 f3 f2 S3 S2 S1 n4
    walk_at "rd"
    refine use_prime S5 fun r H6 hr1 hr2 f6 S6 => ?_
    have hp2 : 2 ≤ p ∧ p ≤ 101 := ⟨hp.1, hp1⟩
    have hr3 : 2 ≤ r ∧ r ≤ 101 := ⟨hr1.1, hr2⟩
    walk_at "rd"
    refine use_mkfield hp hp1 fun fa H7 nfa e7 A7 => ?_
    have na := S6.ne nfa
    have S7 := S6.same e7
    walk_at "rd"
    refine use_mkfield hr1 hr2 fun fb H8 nfb e8 B8 => ?_
    have nb := S7.ne nfb
    have S8 := S7.same e8
    have A8 := A7.same e8
    clear S7 S6 A7 e8 e7 f6 nfa nfb e1 S5
    walk_at "rd"
    refine use_lawnumber S8 ⟨by omega, by omega⟩ fun n H9 n1 n2 f9 S9 => ?_
    walk_at "rd"
    refine ⟨st, p, rfl, S9, hp2, fun tp x y H10 ntp htp hx hy hxy f10 S10 => ?_⟩
    have A10 := (A8.fr f9 na).fr f10 na
    have B10 := (B8.fr f9 nb).fr f10 nb
    clear A8 B8 f9 f10 S9 S8
    walk_at "rd"
    refine use_powers A10 hp2 ⟨n1, n2⟩ hx hy hxy fun H11 e11 => ?_
    have htp11 := e11 _ _ htp
    walk_at "rd"
    refine use_powers (B10.same e11) hr3 (mdp hr3) hy hx (by omega) fun H12 e12 => ?_
    have htp12 := e12 _ _ htp11
    have S12 := (S10.same e11).same e12
    have A12 := (A10.same e11).same e12
    have B12 := (B10.same e11).same e12
    clear A10 B10 S10 e11 e12 htp htp11
    walk_at "rd"
    refine ⟨st, fa, p, n, rfl, S12, na, A12, hp2, ⟨n1, n2⟩, fun H13 f13 S13 => ?_⟩
    have htp13 := f13.k _ _ ntp htp12
    have A13 := A12.fr f13 na
    have B13 := B12.fr f13 nb
    clear A12 B12 S12 f13 htp12
    walk_at "rd"
    try rw [← big300_pow]
    walk_at "rd"
    refine ⟨st, p, rfl, S13, hp2, fun l H14 xs f14 S14 nl hl hx14 => ?_⟩
    have htp14 := f14.k _ _ ntp htp13
    have A14 := A13.fr f14 na
    have B14 := B13.fr f14 nb
    clear A13 B13 S13 f14 htp13
    walk_at "rd"
    refine Vb.lp_list (xs := xs) (fun i σ H' => H' = H14 ∧ ∃ z, σ = [some (.ref a), some (.ref st), some (.int p), some (.int r), some (.ref fa), some (.ref fb), some (.int n), some (.ref tp), some (.int big300), z, none]) ⟨rfl, _, rfl⟩ (fun i σ H' _ c => by rw [c.1]; exact Vb.sq_of hl) ?_ ?_
    · rintro i v σ H' hi ⟨rfl, z, rfl⟩
      obtain ⟨m, rfl, hm⟩ := hx14 _ (List.mem_of_getElem? hi)
      walk_at "rd"
      refine ⟨fa, p, m, rfl, A14, hp2, hm, ?_⟩
      walk_at "rd"
      refine ⟨fb, r, m, rfl, B14, hr3, hm, ?_⟩
      walk_at "rd"
      exact ⟨rfl, _, rfl⟩
    · rintro σ H' ⟨rfl, z, rfl⟩
      have gw := great_wide
      have gg := great_great
      have gp := big300_pos
      walk_at "rd"
      refine use_take S14 (by decide) fun u H15 u1 u2 _ f15 S15 => ?_
      walk_at "rd"
      refine use_take S15 (by decide) fun u5 H16 u3 u4 _ f16 S16 => ?_
      walk_at "rd"
      refine ⟨Vb.size_ok (by show 6 ≤ 16777216; decide), fun l17 n17 => ?_⟩
      have e17 := Vb.same_new (o := .lst [.int big300, .int (-big300), .int (big300 + u5), .int (big300 * 10 + u), .int (-(big300 * 10 + u)), .int (big300 * big300)]) n17
      have h17 : (upd H16 l17 (.lst [.int big300, .int (-big300), .int (big300 + u5), .int (big300 * 10 + u), .int (-(big300 * 10 + u)), .int (big300 * big300)])) l17 = some (.lst [.int big300, .int (-big300), .int (big300 + u5), .int (big300 * 10 + u), .int (-(big300 * 10 + u)), .int (big300 * big300)]) := upd_same
      have no : ∀ v ∈ ([.int big300, .int (-big300), .int (big300 + u5), .int (big300 * 10 + u), .int (-(big300 * 10 + u)), .int (big300 * big300)] : List V), ∃ m : Int, v = .int m ∧ ¬ Fig m := fun v m => by
        simp only [List.mem_cons, List.not_mem_nil, or_false] at m
        rcases m with rfl | rfl | rfl | rfl | rfl | rfl
        all_goals exact ⟨_, rfl, by unfold Fig; omega⟩
      have S17 := S16.same e17
      have A17 := (A14.fr f15 na |>.fr f16 na).same e17
      have B17 := (B14.fr f15 nb |>.fr f16 nb).same e17
      have htp17 := e17 _ _ (f16.k _ _ ntp (f15.k _ _ ntp htp14))
      generalize [V.int big300, .int (-big300), .int (big300 + u5), .int (big300 * 10 + u), .int (-(big300 * 10 + u)), .int (big300 * big300)] = ys at e17 h17 no S17 A17 B17 htp17 ⊢
      generalize upd H16 l17 _ = H17 at e17 h17 S17 A17 B17 htp17 ⊢
      walk_at "rd"
      refine Vb.lp_list (xs := ys) (fun i σ H' => H' = H17 ∧ ∃ z, σ = [some (.ref a), some (.ref st), some (.int p), some (.int r), some (.ref fa), some (.ref fb), some (.int n), some (.ref tp), some (.int big300), z, some (.int (big300 * 10 + u))]) ⟨rfl, _, rfl⟩ (fun i σ H' _ c => by rw [c.1]; exact Vb.sq_of h17) ?_ ?_
      · rintro i v σ H' hi ⟨rfl, z, rfl⟩
        obtain ⟨m, rfl, hm⟩ := no _ (List.mem_of_getElem? hi)
        walk_at "rd"
        refine ⟨fa, p, m, rfl, A17, hp2, hm, ?_⟩
        walk_at "rd"
        exact ⟨rfl, _, rfl⟩
      · rintro σ H' ⟨rfl, z, rfl⟩
        walk_at "rd"
        refine use_lawnumber S17 ⟨by omega, by omega⟩ fun n3 H18 m1 m2 f18 S18 => ?_
        have A18 := A17.fr f18 na
        have htp18 := f18.k _ _ ntp htp17
        walk_at "rd"
        refine ⟨fa, p, _, rfl, A18, hp2, by unfold Fig; omega, ?_⟩
        walk_at "rd"
        refine use_powers A18 hp2 ⟨m1, m2⟩ (by decide) (Int.ediv_nonneg hx (by decide)) (by omega) fun H19 e19 => ?_
        exact q _
end
end K
set_option maxHeartbeats 0
namespace PySem
namespace Lowvalue
open PySem.W PySem.Calls PyProof.Rows PySem.HandSPX
theorem low_mk {K : Frag} {mg : Str → Option Value} {x qn : Str} {C fI : Addr} {nm q : Str} {N : Addr} {bs bm : List Value} {sn : List Str} {sub : List Value} {ab : Bool} {col : Option Bool} {dd : Option Addr} {k0 k1 k2 k3 k5 : Option Value} {oc : Value} {od : Option Addr} {kV doc pm : Value} {an : Option Addr} {cdv ct : Value} {osl : Array (Option Value)} (p1 p2 q1 q2 q3 q4 : Pos) (g : mg x = some (.ref C))
    (l : K.lookup C = some (excClassObj nm q C N bs bm true sn sub ab col dd k0 k1 k2 k3 k5 "ValueError.__new__")) (b : refsVE bm = true) (sa : findIn K (.ref C) "__setattr__" = some (some (.builtin "object.__setattr__"))) (no : findIn K (.ref C) "value" = some none) (iC : findIn K (.ref C) "__init__" = some (some (.ref fI)))
    (tC : typeIn K (.ref fI) = some (.type "function")) (kC : keepIn K (.ref C) = true) (eC : subIn K (.ref C) (.type "BaseException") = some true) (yC : typeIn K (.ref C) = some (.type "type"))
    (lf : K.lookup fI = some ⟨oc, od, .func (fnOf "__init__" qn (iA p1 p2) (iB q1 q2 q3 q4) iS .none kV doc pm an cdv ct), osl⟩) (cf : codeIn K cdv qn = true) : LowTxt K mg x qn C fI :=
  ⟨g, ⟨_, _, _, _, _, _, _, _, _, _, _, _, _, _, _, l, b⟩, sa, no, iC, tC, kC, eC, yC, ⟨_, _, _, _, _, _, _, _, _, _, _, _, _, _, _, lf, cf⟩⟩
end Lowvalue
end PySem
open PySem PySem.Spec PyProof.Rows L2 in
theorem K.fin {P : Program} {w : World} {K : PySem.W.Frag} {mg : Str → Option Value} {fa : Addr} (hfa : mg "law" = some (.ref fa)) (T : _root_.K.Txt K mg) (hb : ∀ (s : Shared) (v : Value), BindsTo s T.fd_law ⟨[v], []⟩ [("script", v)]) : ∃ fd : FuncData, (∀ (s : Shared) (v : Value), BindsTo s fd ⟨[v], []⟩ [("script", v)]) ∧ ∀ base : Heap, K.In base → base.Ns mainGlobals mg → FnOk P w K mg base (L2N.CX P w) 8 fa fd ["script"] (_root_.K.sp_law K) := by
  have e := hfa.symm.trans T.d_law.g
  cases e
  exact ⟨T.fd_law, hb, fun base _ _ => _root_.K.ok_law T⟩
open PySem PySem.W PyProof.Rows
theorem PySem.Challenge.cw_sumtalk_k02_powers_and_remainders_holds : PySem.Challenge.rw_sumtalk_k02_powers_and_remainders.Holds := by
  w_on; o_law; k_head; (case hw => w_witness2)
  k_fill
  refine L2.walk_of (l := PySem.Challenge.rw_sumtalk_k02_powers_and_remainders) (n := 63) (k := 8) (x := "script") (CX := fun w => L2N.CX PySem.Challenge.rw_sumtalk_k02_powers_and_remainders.prog w) (sp := fun w => K.sp_law _) rfl (by decide) rfl ⟨rfl, by decide, by decide⟩ (fun w h Y => PySem.W.kIn_of Y) ?F (fun _ _ a ns hl _ hS => ⟨a, ns, rfl, hS, hl, fun _ => rfl⟩) (fun _ _ _ _ _ h => by obtain ⟨_, _, _, _, _, _, _, _, _, _, _, _, z⟩ := h; exact z)
  case F =>
    intro w mg fa h KX G hmg
    obtain ⟨t_TEN_TO_300, c_TEN_TO_300⟩ : ∃ t, mg "TEN_TO_300" = some (.int 1000000000000000000000000000000000000000000000000000000000000000000000000000000000000000000000000000000000000000000000000000000000000000000000000000000000000000000000000000000000000000000000000000000000000000000000000000000000000000000000000000000000000000000000000000000000000000000000000000000000000 t) := Vb.tok_mk KX G (by k_is)
    obtain ⟨t_MAX_PRIME, c_MAX_PRIME⟩ : ∃ t, mg "MAX_PRIME" = some (.int 101 t) := Vb.tok_mk KX G (by k_is)
    obtain ⟨t_MAX_TESTED, c_MAX_TESTED⟩ : ∃ t, mg "MAX_TESTED" = some (.int 10000 t) := Vb.tok_mk KX G (by k_is)
    obtain ⟨t_MAX_EXPONENT, c_MAX_EXPONENT⟩ : ∃ t, mg "MAX_EXPONENT" = some (.int 10000 t) := Vb.tok_mk KX G (by k_is)
    refine' K.fin hmg (K.Txt.mk
      _
      ⟨(PySem.W.mg_of KX G ?a_TalkError), ?q_TalkError, ?k_TalkError, ?e_TalkError, ?t_TalkError⟩
      _
      _
      (PySem.Lowvalue.low_mk ⟨9, 17, 9, 21⟩ ⟨9, 23, 9, 28⟩ ⟨10, 8, 10, 12⟩ ⟨10, 8, 10, 18⟩ ⟨10, 21, 10, 26⟩ ⟨10, 8, 10, 26⟩ (PySem.W.mg_of KX G ?a_NotPrime) ?l_NotPrime ?bm_NotPrime ?sa_NotPrime ?no_NotPrime ?ic_NotPrime ?tc_NotPrime ?kc_NotPrime ?ec_NotPrime ?ty_NotPrime ?lf_NotPrime ?cf_NotPrime)
      _
      _
      (PySem.Lowvalue.low_mk ⟨13, 17, 13, 21⟩ ⟨13, 23, 13, 28⟩ ⟨14, 8, 14, 12⟩ ⟨14, 8, 14, 18⟩ ⟨14, 21, 14, 26⟩ ⟨14, 8, 14, 26⟩ (PySem.W.mg_of KX G ?a_NotInField) ?l_NotInField ?bm_NotInField ?sa_NotInField ?no_NotInField ?ic_NotInField ?tc_NotInField ?kc_NotInField ?ec_NotInField ?ty_NotInField ?lf_NotInField ?cf_NotInField)
      _
      ⟨(PySem.W.mg_of KX G ?a_DivisionByZero), ?q_DivisionByZero, ?k_DivisionByZero, ?e_DivisionByZero, ?t_DivisionByZero⟩
      _
      ⟨(PySem.W.mg_of KX G ?a_OutOfRange), ?q_OutOfRange, ?k_OutOfRange, ?e_OutOfRange, ?t_OutOfRange⟩
      _
      ⟨(PySem.W.mg_of KX G ?a_TooLarge), ?q_TooLarge, ?k_TooLarge, ?e_TooLarge, ?t_TooLarge⟩
      ⟨?xcl_NotInField, ?xga_NotInField, ?xgg_NotInField, ?xsb_NotInField, ?xca_NotInField, ?xsp_NotInField, ?xtk_NotInField, ?xmo_NotInField, ?xhd_NotInField, ?xss_NotInField, ?xty_NotInField⟩
      ⟨?xcl_OutOfRange, ?xga_OutOfRange, ?xgg_OutOfRange, ?xsb_OutOfRange, ?xca_OutOfRange, ?xsp_OutOfRange, ?xtk_OutOfRange, ?xmo_OutOfRange, ?xhd_OutOfRange, ?xss_OutOfRange, ?xty_OutOfRange⟩
      ⟨?xcl_TooLarge, ?xga_TooLarge, ?xgg_TooLarge, ?xsb_TooLarge, ?xca_TooLarge, ?xsp_TooLarge, ?xtk_TooLarge, ?xmo_TooLarge, ?xhd_TooLarge, ?xss_TooLarge, ?xty_TooLarge⟩
      (Vb.kit_yes ?i_NotInField_TalkError ?y_NotInField_TalkError ?s_NotInField_TalkError)
      (Vb.kit_blt ?m_NotInField_ValueError ?s_NotInField_ValueError)
      (Vb.kit_no ?i_NotInField_DivisionByZero ?y_NotInField_DivisionByZero ?s_NotInField_DivisionByZero ?ne_NotInField_DivisionByZero)
      (Vb.kit_no ?i_NotInField_OutOfRange ?y_NotInField_OutOfRange ?s_NotInField_OutOfRange ?ne_NotInField_OutOfRange)
      (Vb.kit_no ?i_NotInField_NotPrime ?y_NotInField_NotPrime ?s_NotInField_NotPrime ?ne_NotInField_NotPrime)
      (Vb.kit_no ?i_NotInField_TooLarge ?y_NotInField_TooLarge ?s_NotInField_TooLarge ?ne_NotInField_TooLarge)
      (Vb.kit_yes ?i_OutOfRange_TalkError ?y_OutOfRange_TalkError ?s_OutOfRange_TalkError)
      (Vb.kit_blt ?m_OutOfRange_ValueError ?s_OutOfRange_ValueError)
      (Vb.kit_no ?i_OutOfRange_DivisionByZero ?y_OutOfRange_DivisionByZero ?s_OutOfRange_DivisionByZero ?ne_OutOfRange_DivisionByZero)
      (Vb.kit_no ?i_OutOfRange_NotPrime ?y_OutOfRange_NotPrime ?s_OutOfRange_NotPrime ?ne_OutOfRange_NotPrime)
      (Vb.kit_no ?i_OutOfRange_TooLarge ?y_OutOfRange_TooLarge ?s_OutOfRange_TooLarge ?ne_OutOfRange_TooLarge)
      (Vb.kit_yes ?i_TooLarge_TalkError ?y_TooLarge_TalkError ?s_TooLarge_TalkError)
      (Vb.kit_blt ?m_TooLarge_ValueError ?s_TooLarge_ValueError)
      (Vb.kit_no ?i_TooLarge_OutOfRange ?y_TooLarge_OutOfRange ?s_TooLarge_OutOfRange ?ne_TooLarge_OutOfRange)
      (Vb.kit_no ?i_TooLarge_NotPrime ?y_TooLarge_NotPrime ?s_TooLarge_NotPrime ?ne_TooLarge_NotPrime)
      (Vb.kit_no ?i_TooLarge_DivisionByZero ?y_TooLarge_DivisionByZero ?s_TooLarge_DivisionByZero ?ne_TooLarge_DivisionByZero)
      (Vb.kit_no ?i_TooLarge_NotInField ?y_TooLarge_NotInField ?s_TooLarge_NotInField ?ne_TooLarge_NotInField)
      _
      _
      (Vb.dn_mk (PySem.W.mg_of KX G ?a__wall) ?l__wall ?c__wall ?k__wall fun _ _ _ _ _ _ us hl => match us, hl with | [_], _ => rfl)
      _
      _
      (Vb.dn_mk (PySem.W.mg_of KX G ?a_is_whole) ?l_is_whole ?c_is_whole ?k_is_whole fun _ _ _ _ _ _ us hl => match us, hl with | [_], _ => rfl)
      _
      _
      (Vb.dn_mk (PySem.W.mg_of KX G ?a_is_number) ?l_is_number ?c_is_number ?k_is_number fun _ _ _ _ _ _ us hl => match us, hl with | [_, _], _ => rfl)
      _
      _
      (Vb.dn_mk (PySem.W.mg_of KX G ?a_check_number) ?l_check_number ?c_check_number ?k_check_number fun _ _ _ _ _ _ us hl => match us, hl with | [_, _], _ => rfl)
      _
      _
      (Vb.dn_mk (PySem.W.mg_of KX G ?a_check_range) ?l_check_range ?c_check_range ?k_check_range fun _ _ _ _ _ _ us hl => match us, hl with | [_, _, _], _ => rfl)
      _
      _
      (Vb.dn_mk (PySem.W.mg_of KX G ?a_check_figures) ?l_check_figures ?c_check_figures ?k_check_figures fun _ _ _ _ _ _ us hl => match us, hl with | [_], _ => rfl)
      _
      _
      (Vb.dn_mk (PySem.W.mg_of KX G ?a_is_prime) ?l_is_prime ?c_is_prime ?k_is_prime fun _ _ _ _ _ _ us hl => match us, hl with | [_], _ => rfl)
      _
      _
      (Vb.dn_mk (PySem.W.mg_of KX G ?a_check_prime) ?l_check_prime ?c_check_prime ?k_check_prime fun _ _ _ _ _ _ us hl => match us, hl with | [_], _ => rfl)
      _
      _
      (Vb.dn_mk (PySem.W.mg_of KX G ?a_power_modulo) ?l_power_modulo ?c_power_modulo ?k_power_modulo fun _ _ _ _ _ _ us hl => match us, hl with | [_, _, _], _ => rfl)
      _
      _
      (Vb.dn_mk (PySem.W.mg_of KX G ?a__law_mix) ?l__law_mix ?c__law_mix ?k__law_mix fun _ _ _ _ _ _ us hl => match us, hl with | [_, _], _ => rfl)
      _
      _
      (Vb.dn_mk (PySem.W.mg_of KX G ?a__law_store) ?l__law_store ?c__law_store ?k__law_store fun _ _ _ _ _ _ us hl => match us, hl with | [_], _ => rfl)
      _
      _
      (Vb.dn_mk (PySem.W.mg_of KX G ?a__law_take) ?l__law_take ?c__law_take ?k__law_take fun _ _ _ _ _ _ us hl => match us, hl with | [_, _], _ => rfl)
      _
      _
      (Vb.dn_mk (PySem.W.mg_of KX G ?a__law_edge) ?l__law_edge ?c__law_edge ?k__law_edge fun _ _ _ _ _ _ us hl => match us, hl with | [_, _, _], _ => rfl)
      _
      _
      (Vb.dn_mk (PySem.W.mg_of KX G ?a__law_pick) ?l__law_pick ?c__law_pick ?k__law_pick fun _ _ _ _ _ _ us hl => match us, hl with | [_, _], _ => rfl)
      _
      _
      (Vb.dn_mk (PySem.W.mg_of KX G ?a__law_big) ?l__law_big ?c__law_big ?k__law_big fun _ _ _ _ _ _ us hl => match us, hl with | [_, _], _ => rfl)
      _
      _
      (Vb.dn_mk (PySem.W.mg_of KX G ?a__law_signed) ?l__law_signed ?c__law_signed ?k__law_signed fun _ _ _ _ _ _ us hl => match us, hl with | [_], _ => rfl)
      _
      _
      (Vb.dn_mk (PySem.W.mg_of KX G ?a__law_other_kind) ?l__law_other_kind ?c__law_other_kind ?k__law_other_kind fun _ _ _ _ _ _ us hl => match us, hl with | [_], _ => rfl)
      _
      _
      (Vb.dn_mk (PySem.W.mg_of KX G ?a__law_bad_integer) ?l__law_bad_integer ?c__law_bad_integer ?k__law_bad_integer fun _ _ _ _ _ _ us hl => match us, hl with | [_, _, _], _ => rfl)
      _
      _
      (Vb.dn_mk (PySem.W.mg_of KX G ?a__law_primes) ?l__law_primes ?c__law_primes ?k__law_primes fun _ _ _ _ _ _ us hl => match us, hl with | [_], _ => rfl)
      _
      _
      (Vb.dn_mk (PySem.W.mg_of KX G ?a__law_prime) ?l__law_prime ?c__law_prime ?k__law_prime fun _ _ _ _ _ _ us hl => match us, hl with | [_], _ => rfl)
      _
      _
      (Vb.dn_mk (PySem.W.mg_of KX G ?a__law_small_prime) ?l__law_small_prime ?c__law_small_prime ?k__law_small_prime fun _ _ _ _ _ _ us hl => match us, hl with | [_], _ => rfl)
      _
      _
      (Vb.dn_mk (PySem.W.mg_of KX G ?a__law_number) ?l__law_number ?c__law_number ?k__law_number fun _ _ _ _ _ _ us hl => match us, hl with | [_, _], _ => rfl)
      _
      _
      (Vb.dn_mk (PySem.W.mg_of KX G ?a__law_bad_number) ?l__law_bad_number ?c__law_bad_number ?k__law_bad_number fun _ _ _ _ _ _ us hl => match us, hl with | [_, _], _ => rfl)
      _
      _
      (Vb.dn_mk (PySem.W.mg_of KX G ?a__law_same) ?l__law_same ?c__law_same ?k__law_same fun _ _ _ _ _ _ us hl => match us, hl with | [_, _], _ => rfl)
      _
      _
      (Vb.dn_mk (PySem.W.mg_of KX G ?a__law_integer) ?l__law_integer ?c__law_integer ?k__law_integer fun _ _ _ _ _ _ us hl => match us, hl with | [_], _ => rfl)
      _
      _
      (Vb.dn_mk (PySem.W.mg_of KX G ?a__law_field_power) ?l__law_field_power ?c__law_field_power ?k__law_field_power fun _ _ _ _ _ _ us hl => match us, hl with | [_, _, _], _ => rfl)
      _
      _
      (Vb.dn_mk (PySem.W.mg_of KX G ?a__law_raised) ?l__law_raised ?c__law_raised ?k__law_raised fun _ _ _ _ _ _ us hl => match us, hl with | [_, _, _], _ => rfl)
      _
      _
      (Vb.dn_mk (PySem.W.mg_of KX G ?a__law_too_large) ?l__law_too_large ?c__law_too_large ?k__law_too_large fun _ _ _ _ _ _ us hl => match us, hl with | [_, _], _ => rfl)
      _
      _
      (Vb.dn_mk (PySem.W.mg_of KX G ?a__law_exponents) ?l__law_exponents ?c__law_exponents ?k__law_exponents fun _ _ _ _ _ _ us hl => match us, hl with | [_, _], _ => rfl)
      _
      _
      (Vb.dn_mk (PySem.W.mg_of KX G ?a__law_powers_hold) ?l__law_powers_hold ?c__law_powers_hold ?k__law_powers_hold fun _ _ _ _ _ _ us hl => match us, hl with | [_, _, _, _, _], _ => rfl)
      _
      _
      (Vb.dn_mk (PySem.W.mg_of KX G ?a__law_refusals) ?l__law_refusals ?c__law_refusals ?k__law_refusals fun _ _ _ _ _ _ us hl => match us, hl with | [_, _, _, _], _ => rfl)
      _
      _
      (Vb.dn_mk (PySem.W.mg_of KX G ?a__law_remains) ?l__law_remains ?c__law_remains ?k__law_remains fun _ _ _ _ _ _ us hl => match us, hl with | [_, _, _], _ => rfl)
      _
      _
      (Vb.dn_mk (PySem.W.mg_of KX G ?a__law_integers) ?l__law_integers ?c__law_integers ?k__law_integers fun _ _ _ _ _ _ us hl => match us, hl with | [_, _], _ => rfl)
      _
      _
      (Vb.dn_mk (PySem.W.mg_of KX G ?a_law) ?l_law ?c_law ?k_law fun _ _ _ _ _ _ us hl => match us, hl with | [_], _ => rfl)
      _
      (PySem.W.mg_of KX G ?a_Field)
      ⟨?pg_Field, ?hd_Field, ?po_Field, ?sa_Field⟩
      _
      _
      ⟨?ma_Field___init__, ?mf_Field___init__, ?mk_Field___init__⟩
      (Vb.dm_mk ?l_Field___init__ ?c_Field___init__ ?k_Field___init__ fun _ _ _ _ _ _ us hl => match us, hl with | [_, _], _ => rfl)
      _
      _
      ⟨?ma_Field___contains__, ?mf_Field___contains__, ?mk_Field___contains__⟩
      (Vb.dm_mk ?l_Field___contains__ ?c_Field___contains__ ?k_Field___contains__ fun _ _ _ _ _ _ us hl => match us, hl with | [_, _], _ => rfl)
      _
      _
      ⟨?ma_Field___eq__, ?mf_Field___eq__, ?mk_Field___eq__⟩
      (Vb.dm_mk ?l_Field___eq__ ?c_Field___eq__ ?k_Field___eq__ fun _ _ _ _ _ _ us hl => match us, hl with | [_, _], _ => rfl)
      _
      _
      ⟨?ma_Field_add, ?mf_Field_add, ?mk_Field_add⟩
      (Vb.dm_mk ?l_Field_add ?c_Field_add ?k_Field_add fun _ _ _ _ _ _ us hl => match us, hl with | [_, _, _], _ => rfl)
      _
      _
      ⟨?ma_Field_subtract, ?mf_Field_subtract, ?mk_Field_subtract⟩
      (Vb.dm_mk ?l_Field_subtract ?c_Field_subtract ?k_Field_subtract fun _ _ _ _ _ _ us hl => match us, hl with | [_, _, _], _ => rfl)
      _
      _
      ⟨?ma_Field_multiply, ?mf_Field_multiply, ?mk_Field_multiply⟩
      (Vb.dm_mk ?l_Field_multiply ?c_Field_multiply ?k_Field_multiply fun _ _ _ _ _ _ us hl => match us, hl with | [_, _, _], _ => rfl)
      _
      _
      ⟨?ma_Field_divide, ?mf_Field_divide, ?mk_Field_divide⟩
      (Vb.dm_mk ?l_Field_divide ?c_Field_divide ?k_Field_divide fun _ _ _ _ _ _ us hl => match us, hl with | [_, _, _], _ => rfl)
      _
      _
      ⟨?ma_Field_negate, ?mf_Field_negate, ?mk_Field_negate⟩
      (Vb.dm_mk ?l_Field_negate ?c_Field_negate ?k_Field_negate fun _ _ _ _ _ _ us hl => match us, hl with | [_, _], _ => rfl)
      _
      _
      ⟨?ma_Field_invert, ?mf_Field_invert, ?mk_Field_invert⟩
      (Vb.dm_mk ?l_Field_invert ?c_Field_invert ?k_Field_invert fun _ _ _ _ _ _ us hl => match us, hl with | [_, _], _ => rfl)
      _
      _
      ⟨?ma_Field_power, ?mf_Field_power, ?mk_Field_power⟩
      (Vb.dm_mk ?l_Field_power ?c_Field_power ?k_Field_power fun _ _ _ _ _ _ us hl => match us, hl with | [_, _, _], _ => rfl)
      _
      _
      ⟨?ma_Field_reduce, ?mf_Field_reduce, ?mk_Field_reduce⟩
      (Vb.dm_mk ?l_Field_reduce ?c_Field_reduce ?k_Field_reduce fun _ _ _ _ _ _ us hl => match us, hl with | [_, _], _ => rfl)
      _
      _
      ⟨?ma_Field_members, ?mf_Field_members, ?mk_Field_members⟩
      (Vb.dm_mk ?l_Field_members ?c_Field_members ?k_Field_members fun _ _ _ _ _ _ us hl => match us, hl with | [_], _ => rfl)
      ⟨?mm_Field, ?mi_Field, ?mn_Field, ?mp_Field⟩
      ?n_Field_prime
      ?xs_OutOfRange_NotInField
      ⟨?kh_Field, ?kn_Field, ?kt_Field, ?km_Field, ?kc_Field, ?ky_Field⟩
      ?sb_Field_int
      ?sb_Field_str
      ?sb_Field_NoneType
      ?sb_Field_bool
      ?sb_Field_list
      ?sb_Field_tuple
      t_TEN_TO_300
      c_TEN_TO_300
      t_MAX_PRIME
      c_MAX_PRIME
      t_MAX_TESTED
      c_MAX_TESTED
      t_MAX_EXPONENT
      c_MAX_EXPONENT
      (PySem.W.mg_none_of KX G ?n_ValueError)
      (PySem.W.mg_none_of KX G ?n_max)
      (PySem.W.mg_none_of KX G ?n_range)
      (PySem.W.mg_none_of KX G ?n_isinstance)
      (PySem.W.mg_none_of KX G ?n_int)
      (PySem.W.mg_none_of KX G ?n_str)
      (PySem.W.mg_none_of KX G ?n_list)
      (PySem.W.mg_none_of KX G ?n_len)
      (PySem.W.mg_none_of KX G ?n_bool)
      (PySem.W.mg_none_of KX G ?n_abs)
      (PySem.W.mg_none_of KX G ?n_min)
      (PySem.W.mg_none_of KX G ?n_tuple)) ?hb
    (case a_TalkError => k_is)
    (case q_TalkError => k_exc)
    (case k_TalkError => k_is)
    (case e_TalkError => k_is)
    (case t_TalkError => k_is)
    (case a_NotPrime => k_is)
    (case l_NotPrime => k_is)
    (case bm_NotPrime => decide +kernel)
    (case sa_NotPrime => k_is)
    (case no_NotPrime => k_is)
    (case ic_NotPrime => k_is)
    (case tc_NotPrime => k_is)
    (case kc_NotPrime => k_is)
    (case ec_NotPrime => k_is)
    (case ty_NotPrime => k_is)
    (case lf_NotPrime => k_is)
    (case cf_NotPrime => k_is)
    (case a_NotInField => k_is)
    (case l_NotInField => k_is)
    (case bm_NotInField => decide +kernel)
    (case sa_NotInField => k_is)
    (case no_NotInField => k_is)
    (case ic_NotInField => k_is)
    (case tc_NotInField => k_is)
    (case kc_NotInField => k_is)
    (case ec_NotInField => k_is)
    (case ty_NotInField => k_is)
    (case lf_NotInField => k_is)
    (case cf_NotInField => k_is)
    (case a_DivisionByZero => k_is)
    (case q_DivisionByZero => k_exc)
    (case k_DivisionByZero => k_is)
    (case e_DivisionByZero => k_is)
    (case t_DivisionByZero => k_is)
    (case a_OutOfRange => k_is)
    (case q_OutOfRange => k_exc)
    (case k_OutOfRange => k_is)
    (case e_OutOfRange => k_is)
    (case t_OutOfRange => k_is)
    (case a_TooLarge => k_is)
    (case q_TooLarge => k_exc)
    (case k_TooLarge => k_is)
    (case e_TooLarge => k_is)
    (case t_TooLarge => k_is)
    (case xcl_NotInField => k_is)
    (case xga_NotInField => k_is)
    (case xgg_NotInField => k_is)
    (case xsb_NotInField => k_is)
    (case xca_NotInField => k_is)
    (case xsp_NotInField => k_is)
    (case xtk_NotInField => k_is)
    (case xmo_NotInField => k_is)
    (case xhd_NotInField => k_is)
    (case xss_NotInField => k_is)
    (case xty_NotInField => k_is)
    (case xcl_OutOfRange => k_is)
    (case xga_OutOfRange => k_is)
    (case xgg_OutOfRange => k_is)
    (case xsb_OutOfRange => k_is)
    (case xca_OutOfRange => k_is)
    (case xsp_OutOfRange => k_is)
    (case xtk_OutOfRange => k_is)
    (case xmo_OutOfRange => k_is)
    (case xhd_OutOfRange => k_is)
    (case xss_OutOfRange => k_is)
    (case xty_OutOfRange => k_is)
    (case xcl_TooLarge => k_is)
    (case xga_TooLarge => k_is)
    (case xgg_TooLarge => k_is)
    (case xsb_TooLarge => k_is)
    (case xca_TooLarge => k_is)
    (case xsp_TooLarge => k_is)
    (case xtk_TooLarge => k_is)
    (case xmo_TooLarge => k_is)
    (case xhd_TooLarge => k_is)
    (case xss_TooLarge => k_is)
    (case xty_TooLarge => k_is)
    (case i_NotInField_TalkError => k_is)
    (case y_NotInField_TalkError => k_is)
    (case s_NotInField_TalkError => k_is)
    (case m_NotInField_ValueError => decide +kernel)
    (case s_NotInField_ValueError => k_is)
    (case i_NotInField_DivisionByZero => k_is)
    (case y_NotInField_DivisionByZero => k_is)
    (case s_NotInField_DivisionByZero => k_is)
    (case ne_NotInField_DivisionByZero => decide)
    (case i_NotInField_OutOfRange => k_is)
    (case y_NotInField_OutOfRange => k_is)
    (case s_NotInField_OutOfRange => k_is)
    (case ne_NotInField_OutOfRange => decide)
    (case i_NotInField_NotPrime => k_is)
    (case y_NotInField_NotPrime => k_is)
    (case s_NotInField_NotPrime => k_is)
    (case ne_NotInField_NotPrime => decide)
    (case i_NotInField_TooLarge => k_is)
    (case y_NotInField_TooLarge => k_is)
    (case s_NotInField_TooLarge => k_is)
    (case ne_NotInField_TooLarge => decide)
    (case i_OutOfRange_TalkError => k_is)
    (case y_OutOfRange_TalkError => k_is)
    (case s_OutOfRange_TalkError => k_is)
    (case m_OutOfRange_ValueError => decide +kernel)
    (case s_OutOfRange_ValueError => k_is)
    (case i_OutOfRange_DivisionByZero => k_is)
    (case y_OutOfRange_DivisionByZero => k_is)
    (case s_OutOfRange_DivisionByZero => k_is)
    (case ne_OutOfRange_DivisionByZero => decide)
    (case i_OutOfRange_NotPrime => k_is)
    (case y_OutOfRange_NotPrime => k_is)
    (case s_OutOfRange_NotPrime => k_is)
    (case ne_OutOfRange_NotPrime => decide)
    (case i_OutOfRange_TooLarge => k_is)
    (case y_OutOfRange_TooLarge => k_is)
    (case s_OutOfRange_TooLarge => k_is)
    (case ne_OutOfRange_TooLarge => decide)
    (case i_TooLarge_TalkError => k_is)
    (case y_TooLarge_TalkError => k_is)
    (case s_TooLarge_TalkError => k_is)
    (case m_TooLarge_ValueError => decide +kernel)
    (case s_TooLarge_ValueError => k_is)
    (case i_TooLarge_OutOfRange => k_is)
    (case y_TooLarge_OutOfRange => k_is)
    (case s_TooLarge_OutOfRange => k_is)
    (case ne_TooLarge_OutOfRange => decide)
    (case i_TooLarge_NotPrime => k_is)
    (case y_TooLarge_NotPrime => k_is)
    (case s_TooLarge_NotPrime => k_is)
    (case ne_TooLarge_NotPrime => decide)
    (case i_TooLarge_DivisionByZero => k_is)
    (case y_TooLarge_DivisionByZero => k_is)
    (case s_TooLarge_DivisionByZero => k_is)
    (case ne_TooLarge_DivisionByZero => decide)
    (case i_TooLarge_NotInField => k_is)
    (case y_TooLarge_NotInField => k_is)
    (case s_TooLarge_NotInField => k_is)
    (case ne_TooLarge_NotInField => decide)
    (case a__wall => k_is)
    (case l__wall => k_is)
    (case c__wall => k_is)
    (case k__wall => k_is)
    (case a_is_whole => k_is)
    (case l_is_whole => k_is)
    (case c_is_whole => k_is)
    (case k_is_whole => k_is)
    (case a_is_number => k_is)
    (case l_is_number => k_is)
    (case c_is_number => k_is)
    (case k_is_number => k_is)
    (case a_check_number => k_is)
    (case l_check_number => k_is)
    (case c_check_number => k_is)
    (case k_check_number => k_is)
    (case a_check_range => k_is)
    (case l_check_range => k_is)
    (case c_check_range => k_is)
    (case k_check_range => k_is)
    (case a_check_figures => k_is)
    (case l_check_figures => k_is)
    (case c_check_figures => k_is)
    (case k_check_figures => k_is)
    (case a_is_prime => k_is)
    (case l_is_prime => k_is)
    (case c_is_prime => k_is)
    (case k_is_prime => k_is)
    (case a_check_prime => k_is)
    (case l_check_prime => k_is)
    (case c_check_prime => k_is)
    (case k_check_prime => k_is)
    (case a_power_modulo => k_is)
    (case l_power_modulo => k_is)
    (case c_power_modulo => k_is)
    (case k_power_modulo => k_is)
    (case a__law_mix => k_is)
    (case l__law_mix => k_is)
    (case c__law_mix => k_is)
    (case k__law_mix => k_is)
    (case a__law_store => k_is)
    (case l__law_store => k_is)
    (case c__law_store => k_is)
    (case k__law_store => k_is)
    (case a__law_take => k_is)
    (case l__law_take => k_is)
    (case c__law_take => k_is)
    (case k__law_take => k_is)
    (case a__law_edge => k_is)
    (case l__law_edge => k_is)
    (case c__law_edge => k_is)
    (case k__law_edge => k_is)
    (case a__law_pick => k_is)
    (case l__law_pick => k_is)
    (case c__law_pick => k_is)
    (case k__law_pick => k_is)
    (case a__law_big => k_is)
    (case l__law_big => k_is)
    (case c__law_big => k_is)
    (case k__law_big => k_is)
    (case a__law_signed => k_is)
    (case l__law_signed => k_is)
    (case c__law_signed => k_is)
    (case k__law_signed => k_is)
    (case a__law_other_kind => k_is)
    (case l__law_other_kind => k_is)
    (case c__law_other_kind => k_is)
    (case k__law_other_kind => k_is)
    (case a__law_bad_integer => k_is)
    (case l__law_bad_integer => k_is)
    (case c__law_bad_integer => k_is)
    (case k__law_bad_integer => k_is)
    (case a__law_primes => k_is)
    (case l__law_primes => k_is)
    (case c__law_primes => k_is)
    (case k__law_primes => k_is)
    (case a__law_prime => k_is)
    (case l__law_prime => k_is)
    (case c__law_prime => k_is)
    (case k__law_prime => k_is)
    (case a__law_small_prime => k_is)
    (case l__law_small_prime => k_is)
    (case c__law_small_prime => k_is)
    (case k__law_small_prime => k_is)
    (case a__law_number => k_is)
    (case l__law_number => k_is)
    (case c__law_number => k_is)
    (case k__law_number => k_is)
    (case a__law_bad_number => k_is)
    (case l__law_bad_number => k_is)
    (case c__law_bad_number => k_is)
    (case k__law_bad_number => k_is)
    (case a__law_same => k_is)
    (case l__law_same => k_is)
    (case c__law_same => k_is)
    (case k__law_same => k_is)
    (case a__law_integer => k_is)
    (case l__law_integer => k_is)
    (case c__law_integer => k_is)
    (case k__law_integer => k_is)
    (case a__law_field_power => k_is)
    (case l__law_field_power => k_is)
    (case c__law_field_power => k_is)
    (case k__law_field_power => k_is)
    (case a__law_raised => k_is)
    (case l__law_raised => k_is)
    (case c__law_raised => k_is)
    (case k__law_raised => k_is)
    (case a__law_too_large => k_is)
    (case l__law_too_large => k_is)
    (case c__law_too_large => k_is)
    (case k__law_too_large => k_is)
    (case a__law_exponents => k_is)
    (case l__law_exponents => k_is)
    (case c__law_exponents => k_is)
    (case k__law_exponents => k_is)
    (case a__law_powers_hold => k_is)
    (case l__law_powers_hold => k_is)
    (case c__law_powers_hold => k_is)
    (case k__law_powers_hold => k_is)
    (case a__law_refusals => k_is)
    (case l__law_refusals => k_is)
    (case c__law_refusals => k_is)
    (case k__law_refusals => k_is)
    (case a__law_remains => k_is)
    (case l__law_remains => k_is)
    (case c__law_remains => k_is)
    (case k__law_remains => k_is)
    (case a__law_integers => k_is)
    (case l__law_integers => k_is)
    (case c__law_integers => k_is)
    (case k__law_integers => k_is)
    (case a_law => k_is)
    (case l_law => k_is)
    (case c_law => k_is)
    (case k_law => k_is)
    (case a_Field => k_is)
    (case pg_Field => k_is)
    (case hd_Field => k_is)
    (case po_Field => k_is)
    (case sa_Field => k_is)
    (case ma_Field___init__ => k_is)
    (case mf_Field___init__ => k_is)
    (case mk_Field___init__ => k_is)
    (case l_Field___init__ => k_is)
    (case c_Field___init__ => k_is)
    (case k_Field___init__ => k_is)
    (case ma_Field___contains__ => k_is)
    (case mf_Field___contains__ => k_is)
    (case mk_Field___contains__ => k_is)
    (case l_Field___contains__ => k_is)
    (case c_Field___contains__ => k_is)
    (case k_Field___contains__ => k_is)
    (case ma_Field___eq__ => k_is)
    (case mf_Field___eq__ => k_is)
    (case mk_Field___eq__ => k_is)
    (case l_Field___eq__ => k_is)
    (case c_Field___eq__ => k_is)
    (case k_Field___eq__ => k_is)
    (case ma_Field_add => k_is)
    (case mf_Field_add => k_is)
    (case mk_Field_add => k_is)
    (case l_Field_add => k_is)
    (case c_Field_add => k_is)
    (case k_Field_add => k_is)
    (case ma_Field_subtract => k_is)
    (case mf_Field_subtract => k_is)
    (case mk_Field_subtract => k_is)
    (case l_Field_subtract => k_is)
    (case c_Field_subtract => k_is)
    (case k_Field_subtract => k_is)
    (case ma_Field_multiply => k_is)
    (case mf_Field_multiply => k_is)
    (case mk_Field_multiply => k_is)
    (case l_Field_multiply => k_is)
    (case c_Field_multiply => k_is)
    (case k_Field_multiply => k_is)
    (case ma_Field_divide => k_is)
    (case mf_Field_divide => k_is)
    (case mk_Field_divide => k_is)
    (case l_Field_divide => k_is)
    (case c_Field_divide => k_is)
    (case k_Field_divide => k_is)
    (case ma_Field_negate => k_is)
    (case mf_Field_negate => k_is)
    (case mk_Field_negate => k_is)
    (case l_Field_negate => k_is)
    (case c_Field_negate => k_is)
    (case k_Field_negate => k_is)
    (case ma_Field_invert => k_is)
    (case mf_Field_invert => k_is)
    (case mk_Field_invert => k_is)
    (case l_Field_invert => k_is)
    (case c_Field_invert => k_is)
    (case k_Field_invert => k_is)
    (case ma_Field_power => k_is)
    (case mf_Field_power => k_is)
    (case mk_Field_power => k_is)
    (case l_Field_power => k_is)
    (case c_Field_power => k_is)
    (case k_Field_power => k_is)
    (case ma_Field_reduce => k_is)
    (case mf_Field_reduce => k_is)
    (case mk_Field_reduce => k_is)
    (case l_Field_reduce => k_is)
    (case c_Field_reduce => k_is)
    (case k_Field_reduce => k_is)
    (case ma_Field_members => k_is)
    (case mf_Field_members => k_is)
    (case mk_Field_members => k_is)
    (case l_Field_members => k_is)
    (case c_Field_members => k_is)
    (case k_Field_members => k_is)
    (case mm_Field => k_is)
    (case mi_Field => k_is)
    (case mn_Field => k_is)
    (case mp_Field => k_is)
    (case n_Field_prime => k_is)
    (case xs_OutOfRange_NotInField => k_is)
    (case kh_Field => k_is)
    (case kn_Field => k_is)
    (case kt_Field => k_is)
    (case km_Field => k_is)
    (case kc_Field => k_is)
    (case ky_Field => k_is)
    (case sb_Field_int => k_is)
    (case sb_Field_str => k_is)
    (case sb_Field_NoneType => k_is)
    (case sb_Field_bool => k_is)
    (case sb_Field_list => k_is)
    (case sb_Field_tuple => k_is)
    (case n_ValueError => k_is)
    (case n_max => k_is)
    (case n_range => k_is)
    (case n_isinstance => k_is)
    (case n_int => k_is)
    (case n_str => k_is)
    (case n_list => k_is)
    (case n_len => k_is)
    (case n_bool => k_is)
    (case n_abs => k_is)
    (case n_min => k_is)
    (case n_tuple => k_is)
    (case hb => exact fun s v => .of_eq rfl)
