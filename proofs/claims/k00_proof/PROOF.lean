import PyProof.Rows.All
import Wide.All
import OpenK.AllK
import Wide.FinOn
import HandS.ForMost
import HandS.Exc
import HandS.ExcCtx
import HandS.ExcField
import HandS.ExcIs
import HandS.IsInst
import HandS.HotCalls
import HandS.Wide
import HandS.Style
import KE.KExcIs
import PyProof.LongRange
import HandS.Evl
import PySem.Challenge.RW_sumtalk_k00_primes_are_listed
set_option Elab.async false
set_option linter.all false
set_option maxRecDepth 100000
set_option maxHeartbeats 4000000
/-! an own error with one field, value: what the written part says of its class, and its making -/
namespace PySem
namespace Lowvalue
open PySem.W PySem.Calls PyProof.Rows PySem.HandSPX
def iA (p1 p2 : Pos) : Arguments := { posonlyargs := [], args := [{ arg := "self", annotation := none, pos := p1 }, { arg := "value", annotation := none, pos := p2 }], vararg := none, kwonlyargs := [], kw_defaults := [], kwarg := none, defaults := [] }
def iB (q1 q2 q3 q4 : Pos) : List Stmt := [.Assign [.Attribute (.Name "self" q1) "value" q2] (.Name "value" q3) q4]
def iS : Scope := { kind := .function, names := [(PySem.Str.ofString "self", .local), (PySem.Str.ofString "value", .local)], isGenerator := false, isCoroutine := false, more := [] }
/-- the class x at C, its __init__ (qn) at fI -/
structure LowTxt (K : Frag) (mg : Str → Option Value) (x qn : Str) (C fI : Addr) : Prop where
  g : mg x = some (.ref C)
  cls : ∃ nm q N bs bm sn sub ab col dd k0 k1 k2 k3 k5, K.lookup C = some (excClassObj nm q C N bs bm true sn sub ab col dd k0 k1 k2 k3 k5 "ValueError.__new__") ∧ refsVE bm = true
  sa : findIn K (.ref C) "__setattr__" = some (some (.builtin "object.__setattr__"))
  noN : findIn K (.ref C) "value" = some none
  iC : findIn K (.ref C) "__init__" = some (some (.ref fI))
  tC : typeIn K (.ref fI) = some (.type "function")
  kC : keepIn K (.ref C) = true
  exC : subIn K (.ref C) (.type "BaseException") = some true
  tyC : typeIn K (.ref C) = some (.type "type")
  fn : ∃ (oc : Value) (od : Option Addr) (kV doc pm : Value) (an : Option Addr) (cdv ct : Value) (osl : Array (Option Value)) (p1 p2 q1 q2 q3 q4 : Pos),
    K.lookup fI = some ⟨oc, od, .func (fnOf "__init__" qn (iA p1 p2) (iB q1 q2 q3 q4) iS .none kV doc pm an cdv ct), osl⟩ ∧ codeIn K cdv qn = true
theorem one_size (v : Value) : [v].length ≤ sizeLine := by
  rw [sizeLine_eq]
  exact (by decide : 1 ≤ 16777216)
theorem ldC {M : Model} {s : Shared} {name : Str} {scope : Scope} {L a : Addr} {cd : Value} {m : Str → Option Value} {x : Str} {pos : Pos} {v : Value} {Q : Value → Shared → Prop} {A : Around} {E : Value → Shared → Prop} (hn : s.heap.Ns L m) (hv : m x = some v) (h : Q v s)
    (hk : scope.kind = .function := by rfl) (hl : (envOfC name scope L a cd).kindOf x = some .local := by rfl) (hd : (x == ("__debug__" : Str)) = false := by decide) :
    wpAny M A (eval (.Name x pos) (envOfC name scope L a cd)) Q E s := wpAny_Name (wpAny_loadName_local hk hl hn hv h) hd
/-- what __init__ leaves of a fresh exception at x -/
structure InitEnd (h h' : Heap) (x C dx t1 : Addr) (v : Value) : Prop where
  keep : ∀ b o, b ≠ x → h.get? b = some o → h'.get? b = some o
  obj : h'.get? x = some { cls := .ref C, dict := some dx, data := .fields #[.ref t1, .none, .none, .none, .bool false, .none] }
  dbig : h.objs.size ≤ dx
  dne : dx ≠ x
  ns : h'.Ns1 dx (fun y => if y = "value" then some v else none)
/-- a made one -/
structure OwnMade (h h' : Heap) (e C d : Addr) (v : Value) : Prop where
  keep : ∀ b o, h.get? b = some o → h'.get? b = some o
  new : h.objs.size ≤ e
  obj : ∃ oe vs, h'.get? e = some oe ∧ oe.cls = .ref C ∧ oe.dict = some d ∧ oe.data = .fields vs ∧ vs[1]? = some .none ∧ vs[2]? = some .none
  dbig : h.objs.size ≤ d
  dne : d ≠ e
  ns : h'.Ns1 d (fun y => if y = "value" then some v else none)
section
variable {prog : Program} {w : World} {A : Around} {E : Value → Shared → Prop} {R : Result → Shared → Prop} {s : Shared} {K : Frag} {mg : Str → Option Value} {C fI : Addr} {xn qn : Str}
theorem low_init (T : LowTxt K mg xn qn C fI) {x t0 : Addr} {v : Value} (X : K.In s.heap) (hlim : s.heap.NoLimit) (hx : s.heap.get? x = some (excO C t0)) (hnx : K.lookup x = none) (hroom : A.depth < recursionLimit)
    (hq : ∀ h' tk dx, InitEnd s.heap h' x C dx t0 v → R (.ok (.ret .none)) { s with heap := h', toks := tk }) :
    codeAny (model prog w) A (.call (.ref fI) ⟨[.ref x, v], []⟩) R s := by
  obtain ⟨oc, od, kV, doc, pm, an, cdv, ct, osl, p1, p2, q1, q2, q3, q4, ho, hcd⟩ := T.fn
  obtain ⟨nm, q, N, bs, bm, sn, sub, ab, col, dd, k0, k1, k2, k3, k5, hC, hbm⟩ := T.cls
  have hcl : clsIn K C = some { name := nm, bases := bs, mro := .ref C :: bm, ns := N, qualname := q, hasDict := true, slotNames := sn, subclasses := sub, abstract := ab, collection := col, hasDel := false } := by unfold clsIn; rw [hC] <;> rfl
  refine Att.call_fn (binds := [("self", .ref x), ("value", v)]) X hlim ho hcd hroom (BindsTo.of_eq (by first | rfl | with_unfolding_all rfl)) (by first | rfl | decide | with_unfolding_all rfl) (fun s₁ IC => ?_) rfl rfl rfl
  obtain ⟨h₁, tk₁, rfl⟩ := IC.toInCall.same
  have k : ∀ b o, s.heap.get? b = some o → h₁.get? b = some o := IC.toInCall.keep
  have hn := IC.toInCall.ns
  have hxL : s.heap.objs.size ≠ x := Nat.ne_of_gt (Heap.lt_size hx)
  have X₁ : K.In h₁ := X.keeps k
  have hx₁ := k _ _ hx
  -- self.value = value
  show wpAny _ _ (execs _ _) _ _ _
  refine wpAny_execs_cons (plainObj_wpAny_Assign_Attribute ?_)
  refine ldC (v := v) hn (by first | rfl | with_unfolding_all rfl | kernel_rfl) (ldC (v := .ref x) hn (by first | rfl | with_unfolding_all rfl | kernel_rfl) ?_)
  refine set_plain X₁ (ox := excO C t0) (od := none) ⟨hx₁, rfl, rfl, trivial⟩ T.sa ?_
  refine exc_osa X₁ hx₁ hcl (show refsVE (.ref C :: bm) = true from hbm) rfl T.noN (fun h₃ tk₃ dx k₃ dn dne hx₃ hn₃ => ?_)
  show wpAny _ _ (execs _ _) _ _ _
  have z : s.heap.objs.size < h₁.objs.size := hn.lt
  exact wpAny_execs_nil (hq h₃ tk₃ dx ⟨fun b o hb e => k₃ b o hb (k b o e), hx₃, Nat.le_of_lt (Nat.lt_of_lt_of_le z dn), dne, hn₃⟩)
theorem low_made (T : LowTxt K mg xn qn C fI) {v : Value} (X : K.In s.heap) (hlim : s.heap.NoLimit) (hroom : A.depth + 1 < recursionLimit)
    (hq : ∀ h' tk e d, OwnMade s.heap h' e C d v → R (.ok (.ret (.ref e))) { s with heap := h', toks := tk }) :
    codeAny (model prog w) A (.call (.ref C) ⟨[v], []⟩) R s := by
  obtain ⟨nm, q, N, bs, bm, sn, sub, ab, col, dd, k0, k1, k2, k3, k5, hC, hbm⟩ := T.cls
  obtain ⟨hp, g, dr, tk, os⟩ := s
  have k : ∀ b o, hp.get? b = some o → ((hp.push (kdv_tup [v])).push (excO C hp.objs.size)).get? b = some o := fun b o e => Heap.get?_push_of_some _ (Heap.get?_push_of_some _ e)
  have hget : ((hp.push (kdv_tup [v])).push (excO C hp.objs.size)).get? (hp.objs.size + 1) = some (excO C hp.objs.size) := by heap_get
  have hnx : K.lookup (hp.objs.size + 1) = none := by
    cases e : K.lookup (hp.objs.size + 1) with
    | none => rfl
    | some o =>
      have z : hp.get? (hp.objs.size + 1) = some o := X _ _ e
      exact absurd (Nat.lt_of_succ_lt (Heap.lt_size z)) (Nat.lt_irrefl _)
  refine call_own F.excBase_ValueError (fun X => refsVE_contains X bm hbm) (X _ _ hC) (looks_findIn X T.iC) (fun self => bind_fn X self T.tC) (one_size v) ?_
  refine low_init (s := ⟨(hp.push (kdv_tup [v])).push (excO C hp.objs.size), g, dr, tk, os⟩) T (X.keeps k) (hlim.keeps k) hget hnx ?_ fun h' tk' dx ⟨k', hx, dn, dne, hns⟩ => ?_
  · show A.depth + 1 < recursionLimit
    exact hroom
  · have old : ∀ b o, hp.get? b = some o → h'.get? b = some o := fun b o e => k' b o (Nat.ne_of_lt (Nat.lt_succ_of_lt (Heap.lt_size e))) (k b o e)
    have z : hp.objs.size + 1 + 1 ≤ dx := by
      first
        | (simpa only [Heap.size_push] using dn)
        | exact dn
        | (have q := dn; rw [Heap.size_push, Heap.size_push] at q; exact q)
    exact ⟨rfl, hq h' tk' (hp.objs.size + 1) dx ⟨old, Nat.le_succ _, ⟨_, _, hx, rfl, rfl, rfl, rfl, rfl⟩, Nat.le_trans (Nat.le_trans (Nat.le_succ _) (Nat.le_succ _)) z, dne, hns⟩⟩
end
end Lowvalue
end PySem
namespace L2
open PySem PySem.Spec PyProof.Rows
theorem relO_value {v : V} {v' : Value} (r : RelV v v') (f : Str) : RelO (List.lookup f [(("value" : Str), v)]) (if f = "value" then some v' else none) := by
  by_cases hw : f = "value"
  · subst hw
    rw [if_pos rfl]
    have q : List.lookup ("value" : Str) [(("value" : Str), v)] = some v := by simp [List.lookup]
    rw [q]
    exact r
  · rw [if_neg hw]
    have qw : (f == ("value" : Str)) = false := by simpa using hw
    have q2 : List.lookup f [(("value" : Str), v)] = none := by simp [List.lookup, qw]
    rw [q2]
    trivial
section
variable {X : Cx} {C fI : Addr} {xn qn : Str}
/-- Low(e) -/
def tMkvalue (C : Addr) (ta : TA) : St → Hp → XK → Prop := fun σ H Q => ta σ H fun vs H1 => ∃ v, vs = [v] ∧ ∀ d, H1 d = none → Q (.ref C) (some d) (upd H1 d (.xd [(("value" : Str), v)]))
theorem pmk_value {a : Expr} {ta : TA} {p pos : Pos} {k : Nat} (T : PySem.Lowvalue.LowTxt X.K X.mg xn qn C fI) (hr : Room k X.A) (ha : PA X [a] ta) (hg : Gl X xn) (hdb : (xn == ("__debug__" : Str)) = false := by decide)
    (he : starEach (a :: []) X.env = (false, eval a X.env) :: starEach [] X.env := by rfl) (hpl : (backTo pos (starEach [] X.env)).any (·.1) = false := by rfl) :
    L2N.PMk X (.Call (.Name xn p) [a] [] pos) (tMkvalue C ta) := by
  intro pins s σ H Q I h
  refine wpAny_Call_Name_kw (ld_glob I hg T.g ?_ hdb)
  refine PySem.W.callWith_K (h₀ := X.base) I.ok.mod.kin T.kC (thn (ha.run pos pins s σ H _ I h) fun us s1 hh => ?_) he hpl
  obtain ⟨vs, H1, I1, r1, v, ev, q1⟩ := hh
  subst ev
  refine ⟨I1.kIn, ?_⟩
  cases r1 with
  | cons rv rn =>
    rename_i v' us'
    cases rn
    show wpAny _ _ (call (.ref C) [v']) _ _ _
    have hlim := I1.nolimit
    obtain ⟨hp, g, dr, tk, os⟩ := s1
    refine wpAny_call (PySem.Lowvalue.low_made T I1.kIn hlim (by have := hr.dp; omega) fun h' tk' e d M => ?_)
    show L2N.MkP X pins σ Q (.ref e) ⟨h', g, dr, tk', os⟩
    obtain ⟨oe, fv, hoe, hc, hd, hdat, h1, h2⟩ := M.obj
    have hns := M.ns
    obtain ⟨G', g1, g2⟩ := restrict h' fun b => decide (b ≠ e)
    have gk : ∀ b, b ≠ e → G'.get? b = h'.get? b := fun b hb => g1 b (decide_eq_true hb)
    have ge : G'.get? e = none := g2 e (by simp)
    have old : ∀ b o, hp.get? b = some o → G'.get? b = some o := fun b o q => (gk b (Nat.ne_of_lt (Nat.lt_of_lt_of_le (Heap.lt_size q) M.new))).trans (M.keep b o q)
    have ob : ObjOk X.prog X.w (upd H1 d (.xd [(("value" : Str), v)])) G' d (.xd [(("value" : Str), v)]) :=
      ⟨_, hns.at (fun o q => (gk d M.dne).trans q), fun f => relO_value rv f⟩
    have J : Inv X pins σ (upd H1 d (.xd [(("value" : Str), v)])) ⟨G', g, dr, tk', os⟩ := I1.laid (t' := tk') old M.dbig ob
    refine ⟨e, oe, fv, ⟨G', g, dr, tk', os⟩, _, .ref C, some d, rfl, J, fun b o q => ?_, ge, hoe, ⟨hc, hd, fun vs z => by rw [hdat] at z; cases z; exact h2⟩, hdat, h1, ?_, rfl, I1.bare, raises_own T.exC T.tyC, q1 d (I1.hok.fresh M.dbig)⟩
    · by_cases hb : b = e
      · have q' : G'.get? b = some o := q
        rw [hb, ge] at q'; cases q'
      · exact (gk b hb).symm.trans q
    · rw [upd_ne (Ne.symm M.dne)]
      exact I1.hok.fresh M.new
end
end L2
namespace Vb
open PySem PySem.Spec PyProof.Rows L2
section
variable {P : Program} {w : World} {K : PySem.W.Frag} {mg : Str → Option Value} {base : Heap}
/-- a def that may raise, its exceptions' context told -/
theorem okN {x qual : Str} {st : Stmt} {f : Addr} {fd : FuncData} {N ps : List Str} {k : Nat} {sp : Sp} (F : Fun K x qual st f fd) (S : FnScope N ps (defScope st)) (len : ∀ vs H Q E, sp vs H Q E → vs.length = ps.length)
    (hbody : ∀ (cdv : Value) (A : Around) (outer : List Env) (s : Shared) (H : Hp) (vs : List V) (Q : VK) (E : XK), Room k (A.deeper (envOfC qual (defScope st) s.heap.objs.size f cdv)) → sp vs H Q E →
      ∃ t, PSs (cxOf (L2N.CX P w) P w K mg base N qual (defScope st) f cdv A outer s H E) (defBody st) t ∧ t (Ends.mk (fun _ H' => Q .non H') Q (fun _ _ => False) (fun _ _ => False)) (start N vs) H) : FnOk P w K mg base (L2N.CX P w) (k + 1) f fd ps sp := by
  obtain ⟨oc, od, kV, doc, pm, an, cdv, ct, osl, rfl, lk, hcd⟩ := F.ex
  exact fn_of lk hcd S len fun A outer s H vs Q E hr hsp => hbody cdv A outer s H vs Q E hr hsp
/-- the same, called while an exception is handled -/
theorem okH {x qual : Str} {st : Stmt} {f : Addr} {fd : FuncData} {N ps : List Str} {k : Nat} {sp : Sp} (F : Fun K x qual st f fd) (S : FnScope N ps (defScope st)) (len : ∀ vs H Q E, sp vs H Q E → vs.length = ps.length)
    (hbody : ∀ (cdv : Value) (A : Around) (outer : List Env) (s : Shared) (H : Hp) (vs : List V) (Q : VK) (E : XK) (p : Addr × Obj), L2H.Hot1 A p → L2H.RoomH k (A.deeper (envOfC qual (defScope st) s.heap.objs.size f cdv)) → sp vs H Q E →
      ∃ t, PSs (L2H.cxH CX0 P w K mg base N qual (defScope st) f cdv A outer s H E p) (defBody st) t ∧ t (Ends.mk (fun _ H' => Q .non H') Q (fun _ _ => False) (fun _ _ => False)) (start N vs) H) : L2H.FnH P w K mg base CX0 (k + 1) f fd ps sp := by
  obtain ⟨oc, od, kV, doc, pm, an, cdv, ct, osl, rfl, lk, hcd⟩ := F.ex
  exact L2H.fn_ofH lk hcd S len fun A outer s H vs Q E p hot hr hsp => hbody cdv A outer s H vs Q E p hot hr hsp
/-- a def of the text, by its name -/
structure Dn (K : PySem.W.Frag) (mg : Str → Option Value) (x : Str) (st : Stmt) (ps : List Str) (f : Addr) (fd : FuncData) : Prop where
  F : Fun K x x st f fd
  g : mg x = some (.ref f)
  b : Binds K fd ps []
/-- an own error's class without an __init__ -/
structure Xn (K : PySem.W.Frag) (mg : Str → Option Value) (x : Str) (C : Addr) : Prop where
  g : mg x = some (.ref C)
  q : PySem.W.excIn K C [.type "ValueError", .type "Exception", .type "BaseException", .type "object"] "ValueError.__new__" = true
  kC : PySem.W.keepIn K (.ref C) = true
  exC : PySem.W.subIn K (.ref C) (.type "BaseException") = some true
  tyC : PySem.W.typeIn K (.ref C) = some (.type "type")
/-- what isinstance asks of a caught error's class -/
structure Xk (K : PySem.W.Frag) (C : Addr) : Prop where
  cl : PySem.W.isClsIn K C = true
  ga : PySem.W.findIn K (.ref C) "__getattribute__" = some (some (.builtin "BaseException.__getattribute__"))
  gg : PySem.W.findIn K (.ref C) "__getattr__" = some none
  sb : PySem.W.subIn K (.ref C) (.type "BaseException") = some true
  ca : PySem.W.findIn K (.ref C) "__class__" = some (some (.builtin "object.__class__"))
  sp : PySem.W.specialIn K (.builtin "object.__class__") "__get__" = some (some (.builtin "getset_descriptor.__get__"))
  tk : PySem.W.takesIn K (.builtin "object.__class__") = some true
  mo : PySem.W.mroIn K C (.type "object") = some true
  hd : PySem.W.hasDictIn K C = true
  ss : PySem.W.subIn K (.ref C) (.ref C) = some true
  ty : PySem.W.typeIn K (.ref C) = some (.type "type")
theorem Xk.ex {C : Addr} (k : Xk K C) : PySem.W.exmOne K (.ref C) (.ref C) = some true := PySem.W.exm_ref k.sb k.hd k.ty k.ss
theorem Xk.xf {C : Addr} (k : Xk K C) : XfC K C := ⟨k.ga, k.gg, k.sb, k.hd⟩
theorem kit_yes {D C : Addr} (h1 : PySem.W.isClsIn K C = true) (h2 : PySem.W.typeIn K (.ref C) = some (.type "type")) (h3 : PySem.W.subIn K (.ref D) (.ref C) = some true) : PySem.W.kitOne K (.ref D) (.ref C) = some true := by
  have h1' : (PySem.W.clsIn K C).isSome = true := h1
  unfold PySem.W.kitOne
  split
  · rfl
  · show (if ((PySem.W.clsIn K C).isSome && PySem.W.typeIn K (.ref C) == some (.type "type")) = true then PySem.W.subIn K (.ref D) (.ref C) else none) = _
    rw [h1', h2, if_pos (by decide)]
    exact h3
theorem kit_no {D C : Addr} (h1 : PySem.W.isClsIn K C = true) (h2 : PySem.W.typeIn K (.ref C) = some (.type "type")) (h3 : PySem.W.subIn K (.ref D) (.ref C) = some false) (ne : D ≠ C) : PySem.W.kitOne K (.ref D) (.ref C) = some false := by
  have h1' : (PySem.W.clsIn K C).isSome = true := h1
  unfold PySem.W.kitOne
  split
  · rename_i h
    have e := beq_iff_eq.mp h
    cases e
    exact absurd rfl ne
  · show (if ((PySem.W.clsIn K C).isSome && PySem.W.typeIn K (.ref C) == some (.type "type")) = true then PySem.W.subIn K (.ref D) (.ref C) else none) = _
    rw [h1', h2, if_pos (by decide)]
    exact h3
theorem kit_blt {D : Addr} {T : String} {b : Bool} (h1 : PySem.W.kitMeta T = true) (h3 : PySem.W.subIn K (.ref D) (.type T) = some b) : PySem.W.kitOne K (.ref D) (.type T) = some b := by
  unfold PySem.W.kitOne
  rw [if_neg (by intro h; cases beq_iff_eq.mp h)]
  show (if PySem.W.kitMeta T = true then PySem.W.subIn K (.ref D) (.type T) else none) = _
  rw [h1, if_pos rfl]
  exact h3
end
theorem pass5 {X : Cx} : Passes (L2N.CX X.prog X.w) X E0 := fun _ _ _ _ _ _ _ h => by
  obtain ⟨_, _, _, _, _, _, _, _, _, _, _, _, z⟩ := h
  exact z.elim
theorem roomH_mark {k : Nat} {A : Around} (r : Room k A) (h : Option Value) : L2H.RoomH k (A.mark h) := ⟨r.dp, r.un⟩
theorem passH {X : Cx} {σ : L2.St} : PassesAt CX0 X σ E0 := fun _ _ _ _ _ _ h => h.elim
theorem takesF {X : Cx} : L2N.Takes X (fun _ _ _ _ => False) := fun _ _ x => by
  obtain ⟨_, _, _, _, _, _, _, _, _, _, _, _, _, _, _, _, z⟩ := x
  exact z.elim
section
variable {X : Cx}
theorem hotN {a : Addr} {oe : Obj} {cls : Value} {d : Option Addr} {pn : List (Addr × Obj)} (hz : L2N.Zn cls d oe) (hf : ∃ vs, oe.data = .fields vs) : L2H.HotC (X.suite a ((a, oe) :: pn)) := by
  obtain ⟨vs, e⟩ := hf
  exact ⟨(a, oe), ⟨rfl, vs, e, hz.2.2 vs e⟩, List.mem_cons_self⟩
/-- X() of such a class -/
theorem pmk0 {x : Str} {C : Addr} {p pos : Pos} (T : Xn X.K X.mg x C) (hg : Gl X x) (hdb : (x == ("__debug__" : Str)) = false := by decide) : L2N.PMk X (.Call (.Name x p) [] [] pos) (fun _ H Q => Q (.ref C) none H) := by
  intro pins s σ H Q I h
  refine wpAny_Call_Name_kw (ld_glob I hg T.g ?_ hdb)
  refine PySem.W.callWith_K0 I.kIn T.kC ?_
  obtain ⟨bm, N, nm, qn, bs, hdct, sn, sub, ab, col, dd, k0, k1, k2, k3, k5, mN, hC, hN, hni, T5⟩ := exc_obj I.kIn T.q
  refine wpAny_call_exc_subT PySem.F.excBase_ValueError T5 hC hN hni (fun h' e hm => ?_) (Nat.zero_le _)
  exact L2N.mk_of I hm (raises_own T.exC T.tyC) h (I.hok.gone hm.new)
/-- isinstance(e, c), e the caught error: its class D, its own dict d -/
def rIsX (K : PySem.W.Frag) (D a : Addr) (cls : Value) (d : Option Addr) : List V → Hp → VK → Prop := fun xs H Q => ∃ (c : V) (cv : Value) (b : Bool), xs = [.ref a, c] ∧ cls = .ref D ∧ (∀ u, RelV c u → u = cv) ∧ PySem.W.kitOne K (.ref D) cv = some b ∧ (d = none ∨ ∃ dd fs, d = some dd ∧ H dd = some (.xd fs)) ∧ Q (.bl b) H
theorem call_isX {a D : Addr} {oe : Obj} {cls : Value} {d : Option Addr} {pn : List (Addr × Obj)} (C : Xk X.K D) (hz : L2N.Zn cls d oe) (hf : ∃ vs, oe.data = .fields vs) : CallR (X.suite a ((a, oe) :: pn)) (.builtin "isinstance") (rIsX X.K D a cls d) := by
  intro pins s σ H xs us Q I r h
  obtain ⟨c, cv, b, rfl, ec, hcv, e, hd, q⟩ := h
  obtain ⟨u1, u2, rfl, r1, r2⟩ := vals2 r
  cases (show u1 = Value.ref a from r1)
  have e2 := hcv _ r2
  subst e2
  obtain ⟨hget, _⟩ := I.pin (a, oe) (List.mem_append.mpr (.inl List.mem_cons_self))
  obtain ⟨vs, hv⟩ := hf
  have J : ∃ od, PySem.W.InstAt s.heap a oe D od := by
    rcases hd with hd | ⟨dd, fs, hd, ho⟩
    · refine ⟨none, hget, hz.1.trans ec, by unfold PySem.W.notCls; rw [hv] <;> rfl, ?_⟩
      rw [hz.2.1, hd]
      trivial
    · have hx : ObjOk X.prog X.w H s.heap dd (.xd fs) := I.hok dd _ ho
      obtain ⟨mA, hns, _⟩ := hx
      obtain ⟨od, ho, _⟩ := lookIn_ns hns
      refine ⟨some od, hget, hz.1.trans ec, by unfold PySem.W.notCls; rw [hv] <;> rfl, ?_⟩
      rw [hz.2.1, hd]
      exact ho
  obtain ⟨od, J⟩ := J
  exact PySem.W.kia_one (PySem.W.kitx_exc C.cl C.ga C.gg C.sb C.ca C.sp C.tk C.mo) I.kIn J e (fun z => nomatch z) fun tk => ⟨.bl b, H, I.kept (t' := tk) fun _ _ z => z, rfl, q⟩
/-- a power of a greater number -/
def CPowB (i j : Int) : Prop := 0 ≤ j ∧ (PySem.Builtin.Int.intBits i : Int) * j ≤ 2 ^ 27
theorem op_powB : OpR X (binaryOp .Pow) (rI CPowB fun i j => .int (i ^ j.toNat)) := opI fun _ _ _ _ _ _ _ hc q => PyProof.Rows.pow_int hc.1 hc.2 q
end

/-! ### a reading, step by step -/
section
variable {K : PySem.W.Frag} {σ : L2.St} {H : Hp} {Q : VK} {QT : Bool → Hp → Prop} {QA : List V → Hp → Prop} {ta tb te tc : TE} {t u : TT} {ts tu tw : TS} {x y v : V} {r r' : R2} {nx bk ct : L2.St → Hp → Prop} {rt : VK} {i j : Nat}
theorem r_var (h : σ[i]? = some (some v)) (q : Q v H) : tVar i σ H Q := ⟨v, h, q⟩
theorem r_c (q : Q v H) : tC v σ H Q := q
theorem r_op (h : ta σ H fun x H1 => tb σ H1 fun y H2 => r x y H2 Q) : tOp r ta tb σ H Q := h
theorem r_un {ru : V → Hp → VK → Prop} (h : ta σ H fun x H1 => ru x H1 Q) : tUn ru ta σ H Q := h
theorem r_I0 {g : Int → Int → V} {a b : Int} (q : Q (g a b) H) : rI0 g (.int a) (.int b) H Q := ⟨a, b, rfl, rfl, q⟩
theorem r_I {C : Int → Int → Prop} {g : Int → Int → V} {a b : Int} (c : C a b) (q : Q (g a b) H) : rI C g (.int a) (.int b) H Q := ⟨a, b, rfl, rfl, c, q⟩
theorem r_U {g : Int → V} {a : Int} (q : Q (g a) H) : rU g (.int a) H Q := ⟨a, rfl, q⟩
theorem r_eqI {a b : Int} (q : Q (.bl (decide (a = b))) H) : rEq (.int a) (.int b) H Q := ⟨rfl, by
  have e : decide (V.int a = V.int b) = decide (a = b) := by
    by_cases h : a = b
    · rw [decide_eq_true h, decide_eq_true (congrArg V.int h)]
    · rw [decide_eq_false h, decide_eq_false (fun z => h (V.int.inj z))]
  rw [e]
  exact q⟩
theorem r_neI {a b : Int} (q : Q (.bl (!decide (a = b))) H) : rNe (.int a) (.int b) H Q := ⟨rfl, by
  have e : decide (V.int a = V.int b) = decide (a = b) := by
    by_cases h : a = b
    · rw [decide_eq_true h, decide_eq_true (congrArg V.int h)]
    · rw [decide_eq_false h, decide_eq_false (fun z => h (V.int.inj z))]
  rw [e]
  exact q⟩
theorem r_test (h : te σ H fun x H' => ∃ k, x = .bl k ∧ QT k H') : tTest te σ H QT := h
theorem r_tB (h : te σ H fun x H' => ∃ k, x = .bl k ∧ QT k H') : tB te σ H QT := h
theorem r_bl {k : Bool} {C : Bool → Prop} (q : C k) : ∃ k', V.bl k = .bl k' ∧ C k' := ⟨k, rfl, q⟩
theorem r_and (h : t σ H fun c H1 => if c = true then u σ H1 QT else QT false H1) : tAnd t u σ H QT := h
theorem r_or (h : t σ H fun c H1 => if c = true then QT true H1 else u σ H1 QT) : tOr t u σ H QT := h
theorem r_not (h : t σ H fun c H1 => QT (!c) H1) : tNot t σ H QT := h
theorem r_andV (h : ta σ H fun x H1 => ∃ c, x = .bl c ∧ if c = true then tb σ H1 Q else Q (.bl false) H1) : tAndV ta tb σ H Q := h
theorem r_orV (h : ta σ H fun x H1 => ∃ c, x = .bl c ∧ if c = true then Q (.bl true) H1 else tb σ H1 Q) : tOrV ta tb σ H Q := h
theorem r_notV (h : ta σ H fun x H1 => ∃ c, x = .bl c ∧ Q (.bl (!c)) H1) : tNotV ta σ H Q := h
theorem r_if (h : t σ H fun c H1 => if c = true then ta σ H1 Q else tb σ H1 Q) : tIf t ta tb σ H Q := h
theorem r_chain (h : ta σ H fun x H1 => tb σ H1 fun y H2 => r x y H2 fun z H3 => ∃ k, z = .bl k ∧ (if k = true then tc σ H3 fun w H4 => r' y w H4 Q else Q (.bl false) H3)) : tChain r r' ta tb tc σ H Q := h
theorem r_ite {C : Prop} [Decidable C] {A B : Prop} (h1 : C → A) (h2 : ¬ C → B) : if decide C = true then A else B := by
  by_cases h : C
  · rw [if_pos (decide_eq_true h)]; exact h1 h
  · rw [if_neg (by rw [decide_eq_false h]; decide)]; exact h2 h
theorem r_iteN {C : Prop} [Decidable C] {A B : Prop} (h1 : ¬ C → A) (h2 : C → B) : if (!decide C) = true then A else B := by
  by_cases h : C
  · rw [if_neg (by rw [decide_eq_true h]; decide)]; exact h2 h
  · rw [if_pos (by rw [decide_eq_false h]; decide)]; exact h1 h
theorem r_iteb {b : Bool} {A B : Prop} (h1 : b = true → A) (h2 : b = false → B) : if b = true then A else B := by
  cases b with
  | true => rw [if_pos rfl]; exact h1 rfl
  | false => rw [if_neg (by decide)]; exact h2 rfl
theorem r_iteNb {b : Bool} {A B : Prop} (h1 : b = false → A) (h2 : b = true → B) : if (!b) = true then A else B := by
  cases b with
  | true => rw [if_neg (by decide)]; exact h2 rfl
  | false => rw [if_pos (by decide)]; exact h1 rfl
theorem r_iteT {A B : Prop} (h : A) : if true = true then A else B := by rw [if_pos rfl]; exact h
theorem r_iteF {A B : Prop} (h : B) : if false = true then A else B := by rw [if_neg (by decide)]; exact h
theorem r_iteNT {A B : Prop} (h : B) : if (!true) = true then A else B := by rw [if_neg (by decide)]; exact h
theorem r_iteNF {A B : Prop} (h : A) : if (!false) = true then A else B := by rw [if_pos (by decide)]; exact h
-- arguments, displays
theorem r_nil (q : QA [] H) : tNil σ H QA := q
theorem r_cons {tr : TA} (h : te σ H fun x H1 => tr σ H1 fun xs H2 => QA (x :: xs) H2) : tCons te tr σ H QA := h
theorem r_tup {t : TA} (h : t σ H fun xs H1 => xs.length ≤ sizeLine ∧ ∀ p, H1 p = none → Q (.ref p) (upd H1 p (.tup xs))) : tTup t σ H Q := h
theorem r_lst {t : TA} (h : t σ H fun xs H1 => xs.length ≤ sizeLine ∧ ∀ p, H1 p = none → Q (.ref p) (upd H1 p (.lst xs))) : tLst t σ H Q := h
theorem r_CB {r : List V → Hp → VK → Prop} {t : TA} (h : t σ H fun vs H1 => r vs H1 Q) : tCB r t σ H Q := h
theorem r_callS {sp : Sp} {E : L2.St → XK} {t : TA} (h : t σ H fun vs H1 => sp vs H1 Q (E σ)) : tCallS sp E t σ H Q := h
theorem r_call {sp : Sp} {E : XK} {t : TA} (h : t σ H fun vs H1 => sp vs H1 Q E) : tCall sp [] E t σ H Q := by
  show t σ H fun vs H1 => sp (vs ++ []) H1 Q E
  have e : (fun (vs : List V) (H1 : Hp) => sp (vs ++ []) H1 Q E) = fun vs H1 => sp vs H1 Q E := by
    funext vs H1
    rw [List.append_nil]
  rw [e]
  exact h
def rAbs : List V → Hp → VK → Prop := fun xs H Q => ∃ i, xs = [.int i] ∧ Q (.int (if i < 0 then -i else i)) H
theorem r_abs {a : Int} (q : Q (.int (if a < 0 then -a else a)) H) : rAbs [.int a] H Q := ⟨a, rfl, q⟩
def rMax2 : List V → Hp → VK → Prop := fun xs H Q => ∃ i j, xs = [.int i, .int j] ∧ Q (.int (if j > i then j else i)) H
theorem r_max2 {a b : Int} (q : Q (.int (if b > a then b else a)) H) : rMax2 [.int a, .int b] H Q := ⟨a, b, rfl, q⟩
def rMin2 : List V → Hp → VK → Prop := fun xs H Q => ∃ i j, xs = [.int i, .int j] ∧ Q (.int (if j < i then j else i)) H
theorem r_min2 {a b : Int} (q : Q (.int (if b < a then b else a)) H) : rMin2 [.int a, .int b] H Q := ⟨a, b, rfl, q⟩
def rInt : List V → Hp → VK → Prop := fun xs H Q => (∃ i, xs = [.int i] ∧ Q (.int i) H) ∨ ∃ k, xs = [.bl k] ∧ Q (.int (if k then 1 else 0)) H
theorem r_int {a : Int} (q : Q (.int a) H) : rInt [.int a] H Q := .inl ⟨a, rfl, q⟩
theorem r_intB {b : Bool} (q : Q (.int (if b then 1 else 0)) H) : rInt [.bl b] H Q := .inr ⟨b, rfl, q⟩
def rLenS (K : PySem.W.Frag) : List V → Hp → VK → Prop := fun xs H Q => ∃ p ys, xs = [.ref p] ∧ (SqL K H p ys ∨ SqT K H p ys) ∧ Q (.int ys.length) H
theorem r_len {a : Addr} {xs : List V} (h : SqL K H a xs) (q : Q (.int xs.length) H) : rLenS K [.ref a] H Q := ⟨a, xs, rfl, .inl h, q⟩
theorem r_lenT {a : Addr} {xs : List V} (h : SqT K H a xs) (q : Q (.int xs.length) H) : rLenS K [.ref a] H Q := ⟨a, xs, rfl, .inr h, q⟩
def rList (K : PySem.W.Frag) : List V → Hp → VK → Prop := fun xs H Q => ∃ p ys, xs = [.ref p] ∧ (SqL K H p ys ∨ SqT K H p ys) ∧ ∀ l, H l = none → Q (.ref l) (upd H l (.lst ys))
theorem r_list {a : Addr} {xs : List V} (h : SqL K H a xs) (q : ∀ l, H l = none → Q (.ref l) (upd H l (.lst xs))) : rList K [.ref a] H Q := ⟨a, xs, rfl, .inl h, q⟩
theorem r_ixL {a : Addr} {xs : List V} {z : Int} (h : SqL K H a xs) (e : atI xs z = some v) (q : Q v H) : rIxL K (.ref a) (.int z) H Q := ⟨a, xs, z, v, rfl, rfl, h, e, q⟩
theorem r_ixT {a : Addr} {xs : List V} {z : Int} (h : SqT K H a xs) (e : atI xs z = some v) (q : Q v H) : rIxT K (.ref a) (.int z) H Q := ⟨a, xs, z, v, rfl, rfl, h, e, q⟩
theorem r_setL {a : Addr} {xs : List V} {z : Int} {k : Nat} {C : Hp → Prop} (h : H a = some (.lst xs)) (e : ixN xs.length z = some k) (q : C (upd H a (.lst (xs.set k v)))) : rSetL (.ref a) (.int z) v H C := ⟨a, xs, z, k, rfl, rfl, h, e, q⟩
theorem r_BM0 {T : String} {r : V → List V → Hp → VK → Prop} {to : TE} (h : to σ H fun x H1 => tyV K T x H1 ∧ r x [] H1 Q) : tBM0 K T r to σ H Q := h
theorem r_rev {a : Addr} {xs : List V} (h : H a = some (.lst xs)) (q : Q .non (upd H a (.lst xs.reverse))) : rReverse (.ref a) [] H Q := ⟨a, xs, rfl, rfl, h, q⟩
theorem r_BM {T : String} {r : V → List V → Hp → VK → Prop} {to : TE} {t : TA} (h : to σ H fun x H1 => tyV K T x H1 ∧ t σ H1 fun xs H2 => r x xs H2 Q) : tBM K T r to t σ H Q := h
theorem r_app {a : Addr} {xs : List V} (h : H a = some (.lst xs)) (l : xs.length < sizeLine) (q : Q .non (upd H a (.lst (xs ++ [v])))) : rAppend (.ref a) [v] H Q := ⟨a, xs, v, rfl, rfl, h, l, q⟩
theorem tyL {a : Addr} {xs : List V} (h : H a = some (.lst xs)) : tyV K "list" (.ref a) H := .inl ⟨rfl, _, .inl (.inl h)⟩
theorem r_ty {a : Addr} {xs : List V} {B : Prop} (h : H a = some (.lst xs)) (q : B) : tyV K "list" (.ref a) H ∧ B := ⟨tyL h, q⟩
-- statements, something behind
theorem r_seq_set (h : te σ H fun x H1 => tu (Ends.mk nx rt bk ct) (σ.set i (some x)) H1) : tSeq (tAsg te (gName i)) tu (Ends.mk nx rt bk ct) σ H := h
theorem r_seq_sub {to ti : TE} {tt : TSet} (h : te σ H fun x H1 => to σ H1 fun o H2 => ti σ H2 fun k H3 => tt o k x H3 fun H4 => tu (Ends.mk nx rt bk ct) σ H4) : tSeq (tAsg te (gSub to ti tt)) tu (Ends.mk nx rt bk ct) σ H := h
theorem r_seq_when (h : t σ H fun b H1 => if b = true then ts (Ends.mk (tu (Ends.mk nx rt bk ct)) rt bk ct) σ H1 else tu (Ends.mk nx rt bk ct) σ H1) : tSeq (tIfS t ts tNext) tu (Ends.mk nx rt bk ct) σ H := h
theorem r_seq_if (h : t σ H fun b H1 => if b = true then ts (Ends.mk (tu (Ends.mk nx rt bk ct)) rt bk ct) σ H1 else tw (Ends.mk (tu (Ends.mk nx rt bk ct)) rt bk ct) σ H1) : tSeq (tIfS t ts tw) tu (Ends.mk nx rt bk ct) σ H := h
theorem r_seq_drop (h : te σ H fun _ H1 => tu (Ends.mk nx rt bk ct) σ H1) : tSeq (tDrop te) tu (Ends.mk nx rt bk ct) σ H := h
theorem r_seq (h : ts (Ends.mk (tu (Ends.mk nx rt bk ct)) rt bk ct) σ H) : tSeq ts tu (Ends.mk nx rt bk ct) σ H := h
-- the last one
theorem r_set (h : te σ H fun x H1 => nx (σ.set i (some x)) H1) : tAsg te (gName i) (Ends.mk nx rt bk ct) σ H := h
theorem r_sub {to ti : TE} {tt : TSet} (h : te σ H fun x H1 => to σ H1 fun o H2 => ti σ H2 fun k H3 => tt o k x H3 fun H4 => nx σ H4) : tAsg te (gSub to ti tt) (Ends.mk nx rt bk ct) σ H := h
theorem r_when (h : t σ H fun b H1 => if b = true then ts (Ends.mk nx rt bk ct) σ H1 else nx σ H1) : tIfS t ts tNext (Ends.mk nx rt bk ct) σ H := h
theorem r_ifs (h : t σ H fun b H1 => if b = true then ts (Ends.mk nx rt bk ct) σ H1 else tw (Ends.mk nx rt bk ct) σ H1) : tIfS t ts tw (Ends.mk nx rt bk ct) σ H := h
theorem r_drop (h : te σ H fun _ H1 => nx σ H1) : tDrop te (Ends.mk nx rt bk ct) σ H := h
theorem r_ret (h : te σ H rt) : tRet te (Ends.mk nx rt bk ct) σ H := h
theorem r_brk (h : bk σ H) : tBreak (Ends.mk nx rt bk ct) σ H := h
theorem r_cnt (h : ct σ H) : tCont (Ends.mk nx rt bk ct) σ H := h
theorem r_nxt (h : nx σ H) : tNext (Ends.mk nx rt bk ct) σ H := h
-- loops
def ForW (J : It) (g : TG) (tb : TS) (nx : L2.St → Hp → Prop) (rt : VK) (σ : L2.St) (H : Hp) : Prop := ∃ W : Nat → Nat → L2.St → Hp → Prop, (∃ m, W 0 m σ H) ∧ ∀ i m σ H, W i m σ H →
  (J.stop i H ∧ nx σ H) ∨ (J.go i H ∧ ∃ N : L2.St → Hp → Prop, (∀ σ' H', N σ' H' → ∃ m', m' < m ∧ W (i + 1) m' σ' H') ∧ ∀ x H', J.yld i H x H' → g x σ H' fun σ2 H2 => tb (Ends.mk N rt nx N) σ2 H2)
theorem r_for {wi : TI} {g : TG} (h : wi σ H fun J H1 => ForW J g ts nx rt σ H1) : tFor wi g ts (Ends.mk nx rt bk ct) σ H := h
theorem r_rng1 {ta : TA} {R : It → Hp → Prop} (h : ta σ H fun vs H1 => ∃ j : Int, vs = [.int j] ∧ -(2 ^ 62) ≤ j ∧ j < 2 ^ 62 ∧ R (Itr 0 j.toNat) H1) : iRng1 ta σ H R := h
theorem r_rng2 {ta : TA} {R : It → Hp → Prop} (h : ta σ H fun vs H1 => ∃ i j : Int, vs = [.int i, .int j] ∧ (-(2 ^ 62) ≤ i ∧ i < 2 ^ 62 ∧ -(2 ^ 62) ≤ j ∧ j < 2 ^ 62) ∧ R (Itr i (j - i).toNat) H1) : iRng2 ta σ H R := h
theorem r_iList {tl : TE} {R : It → Hp → Prop} (h : tl σ H fun x H1 => ∃ a, x = .ref a ∧ (∃ xs, SqL K H1 a xs) ∧ R (Itl K a) H1) : iList K tl σ H R := h
theorem f_rng1 {n : Int} {g : TG} (b1 : -(2 ^ 62) ≤ n) (b2 : n < 2 ^ 62) (q : ForW (Itr 0 n.toNat) g ts nx rt σ H) : ∃ j : Int, [V.int n] = [.int j] ∧ -(2 ^ 62) ≤ j ∧ j < 2 ^ 62 ∧ ForW (Itr 0 j.toNat) g ts nx rt σ H := ⟨n, rfl, b1, b2, q⟩
theorem f_rng2 {lo hi : Int} {g : TG} (b : -(2 ^ 62) ≤ lo ∧ lo < 2 ^ 62 ∧ -(2 ^ 62) ≤ hi ∧ hi < 2 ^ 62) (q : ForW (Itr lo (hi - lo).toNat) g ts nx rt σ H) : ∃ i j : Int, [V.int lo, V.int hi] = [.int i, .int j] ∧ (-(2 ^ 62) ≤ i ∧ i < 2 ^ 62 ∧ -(2 ^ 62) ≤ j ∧ j < 2 ^ 62) ∧ ForW (Itr i (j - i).toNat) g ts nx rt σ H := ⟨lo, hi, rfl, b, q⟩
theorem f_rng3 {i j c : Int} {n : Nat} {g : TG} (b : RgC i j c n) (q : ForW (Itc i c n) g ts nx rt σ H) : ∃ (i' j' c' : Int) (n' : Nat), [V.int i, V.int j, V.int c] = [.int i', .int j', .int c'] ∧ RgC i' j' c' n' ∧ ForW (Itc i' c' n') g ts nx rt σ H := ⟨i, j, c, n, rfl, b, q⟩
theorem f_list {a : Addr} {xs : List V} {g : TG} (h : SqL K H a xs) (q : ForW (Itl K a) g ts nx rt σ H) : ∃ b, V.ref a = .ref b ∧ (∃ xs, SqL K H b xs) ∧ ForW (Itl K b) g ts nx rt σ H := ⟨a, rfl, ⟨xs, h⟩, q⟩
theorem f_tup {a : Addr} {xs : List V} {g : TG} (h : SqT K H a xs) (q : ForW (Itt K a) g ts nx rt σ H) : ∃ b, V.ref a = .ref b ∧ (∃ xs, SqT K H b xs) ∧ ForW (Itt K b) g ts nx rt σ H := ⟨a, rfl, ⟨xs, h⟩, q⟩
theorem lp_range {lo : Int} {n : Nat} {g : TG} (Pv : Nat → L2.St → Hp → Prop) (h0 : Pv 0 σ H) (hs : ∀ i σ H, i < n → Pv i σ H → g (.int (lo + i)) σ H fun σ2 H2 => ts (Ends.mk (Pv (i + 1)) rt nx (Pv (i + 1))) σ2 H2) (hd : ∀ σ H, Pv n σ H → nx σ H) : ForW (Itr lo n) g ts nx rt σ H :=
  for_range (D := Ends.mk nx rt nx nx) Pv h0 hs hd
theorem lp_list {a : Addr} {xs : List V} {g : TG} (Pv : Nat → L2.St → Hp → Prop) (h0 : Pv 0 σ H) (hl : ∀ i σ H, i ≤ xs.length → Pv i σ H → SqL K H a xs)
    (hs : ∀ i x σ H, xs[i]? = some x → Pv i σ H → g x σ H fun σ2 H2 => ts (Ends.mk (Pv (i + 1)) rt nx (Pv (i + 1))) σ2 H2) (hd : ∀ σ H, Pv xs.length σ H → nx σ H) : ForW (Itl K a) g ts nx rt σ H :=
  for_list (D := Ends.mk nx rt nx nx) Pv h0 hl hs hd
theorem r_gName {C : L2.St → Hp → Prop} (h : C (σ.set i (some v)) H) : gName i v σ H C := h
/-- a turn's body, from measure m -/
def WhB (W : Nat → L2.St → Hp → Prop) (m : Nat) (tb : TS) (nx : L2.St → Hp → Prop) (rt : VK) (σ : L2.St) (H : Hp) : Prop := ∃ N : L2.St → Hp → Prop, (∀ σ' H', N σ' H' → ∃ m', m' < m ∧ W m' σ' H') ∧ tb (Ends.mk N rt nx N) σ H
theorem wh_body {W : Nat → L2.St → Hp → Prop} {m : Nat} {tb : TS} (h : tb (Ends.mk (fun σ' H' => ∃ m', m' < m ∧ W m' σ' H') rt nx (fun σ' H' => ∃ m', m' < m ∧ W m' σ' H')) σ H) : WhB W m tb nx rt σ H := ⟨_, fun _ _ z => z, h⟩
theorem r_while {tb : TS} (W : Nat → L2.St → Hp → Prop) (m : Nat) (h0 : W m σ H) (hs : ∀ m σ H, W m σ H → t σ H fun b H1 => if b = true then WhB W m tb nx rt σ H1 else nx σ H1) : tWhile t tb (Ends.mk nx rt bk ct) σ H := ⟨W, ⟨m, h0⟩, hs⟩
theorem r_iTup {tl : TE} {R : It → Hp → Prop} (h : tl σ H fun x H1 => ∃ a, x = .ref a ∧ (∃ xs, SqT K H1 a xs) ∧ R (Itt K a) H1) : iTup K tl σ H R := h
theorem lp_tup {a : Addr} {xs : List V} {g : TG} (Pv : Nat → L2.St → Hp → Prop) (h0 : Pv 0 σ H) (hl : ∀ i σ H, i ≤ xs.length → Pv i σ H → SqT K H a xs)
    (hs : ∀ i x σ H, xs[i]? = some x → Pv i σ H → g x σ H fun σ2 H2 => ts (Ends.mk (Pv (i + 1)) rt nx (Pv (i + 1))) σ2 H2) (hd : ∀ σ H, Pv xs.length σ H → nx σ H) : ForW (Itt K a) g ts nx rt σ H :=
  for_tup (D := Ends.mk nx rt nx nx) Pv h0 hl hs hd
theorem lp_rangeC {lo c : Int} {n : Nat} {g : TG} (Pv : Nat → L2.St → Hp → Prop) (h0 : Pv 0 σ H) (hs : ∀ i σ H, i < n → Pv i σ H → g (.int (lo + (i : Nat) * c)) σ H fun σ2 H2 => ts (Ends.mk (Pv (i + 1)) rt nx (Pv (i + 1))) σ2 H2) (hd : ∀ σ H, Pv n σ H → nx σ H) : ForW (Itc lo c n) g ts nx rt σ H :=
  for_rangeC (D := Ends.mk nx rt nx nx) Pv h0 hs hd
theorem r_rng3 {ta : TA} {R : It → Hp → Prop} (h : ta σ H fun vs H1 => ∃ (i j c : Int) (n : Nat), vs = [.int i, .int j, .int c] ∧ RgC i j c n ∧ R (Itc i c n) H1) : iRng3 ta σ H R := h
-- comprehensions
def LcW (J : It) (g : TG) (tt : TT) (te : TE) (vs : List Nat) (σ : L2.St) (H1 : Hp) (D : Addr) (Qd : Hp → Prop) : Prop := ∃ W : Nat → Nat → Hp → Prop, (∃ m, W 0 m (upd H1 D (.lst []))) ∧ ∀ i m H, W i m H →
  (J.stop i H ∧ Qd H) ∨ (J.go i H ∧ ∃ Nx : Hp → Prop, (∀ H', Nx H' → ∃ m', m' < m ∧ W (i + 1) m' H') ∧ ∀ x H', J.yld i H x H' → g x (wipe σ vs) H' fun σ2 H2 => wipe σ2 vs = wipe σ vs ∧ tt σ2 H2 fun b H3 =>
    if b = true then te σ2 H3 fun y H4 => ∃ acc, H4 D = some (.lst acc) ∧ acc.length < sizeLine ∧ Nx (upd H4 D (.lst (acc ++ [y]))) else Nx H3)
theorem r_lc {wi : TI} {g : TG} {tt : TT} {vs : List Nat} (h : wi σ H fun J H1 => ∀ D, H1 D = none → LcW J g tt te vs σ H1 D fun H' => Q (.ref D) H') : tLc wi g tt te vs σ H Q := h
theorem c_rng1 {n : Int} {g : TG} {tt : TT} {vs : List Nat} {σ' : L2.St} {Q' : Addr → Hp → Prop} (b1 : -(2 ^ 62) ≤ n) (b2 : n < 2 ^ 62) (q : ∀ D, H D = none → LcW (Itr 0 n.toNat) g tt te vs σ' H D (Q' D)) : ∃ j : Int, [V.int n] = [.int j] ∧ -(2 ^ 62) ≤ j ∧ j < 2 ^ 62 ∧ ∀ D, H D = none → LcW (Itr 0 j.toNat) g tt te vs σ' H D (Q' D) := ⟨n, rfl, b1, b2, q⟩
theorem c_rng2 {lo hi : Int} {g : TG} {tt : TT} {vs : List Nat} {σ' : L2.St} {Q' : Addr → Hp → Prop} (b : -(2 ^ 62) ≤ lo ∧ lo < 2 ^ 62 ∧ -(2 ^ 62) ≤ hi ∧ hi < 2 ^ 62) (q : ∀ D, H D = none → LcW (Itr lo (hi - lo).toNat) g tt te vs σ' H D (Q' D)) : ∃ i j : Int, [V.int lo, V.int hi] = [.int i, .int j] ∧ (-(2 ^ 62) ≤ i ∧ i < 2 ^ 62 ∧ -(2 ^ 62) ≤ j ∧ j < 2 ^ 62) ∧ ∀ D, H D = none → LcW (Itr i (j - i).toNat) g tt te vs σ' H D (Q' D) := ⟨lo, hi, rfl, b, q⟩
theorem c_list {a : Addr} {xs : List V} {g : TG} {tt : TT} {vs : List Nat} {σ' : L2.St} {Q' : Addr → Hp → Prop} (h : SqL K H a xs) (q : ∀ D, H D = none → LcW (Itl K a) g tt te vs σ' H D (Q' D)) : ∃ b, V.ref a = .ref b ∧ (∃ xs, SqL K H b xs) ∧ ∀ D, H D = none → LcW (Itl K b) g tt te vs σ' H D (Q' D) := ⟨a, rfl, ⟨xs, h⟩, q⟩
theorem c_tup {a : Addr} {xs : List V} {g : TG} {tt : TT} {vs : List Nat} {σ' : L2.St} {Q' : Addr → Hp → Prop} (h : SqT K H a xs) (q : ∀ D, H D = none → LcW (Itt K a) g tt te vs σ' H D (Q' D)) : ∃ b, V.ref a = .ref b ∧ (∃ xs, SqT K H b xs) ∧ ∀ D, H D = none → LcW (Itt K b) g tt te vs σ' H D (Q' D) := ⟨a, rfl, ⟨xs, h⟩, q⟩
/-- a turn of a comprehension over a name: the test, the item -/
def LcT (tt : TT) (te : TE) (D : Addr) (N : Hp → Prop) (σ : L2.St) (H : Hp) : Prop := tt σ H fun b H3 => if b = true then te σ H3 fun y H4 => ∃ acc, H4 D = some (.lst acc) ∧ acc.length < sizeLine ∧ N (upd H4 D (.lst (acc ++ [y]))) else N H3
theorem lcw_range {lo : Int} {n : Nat} {tt : TT} {vs : List Nat} {H1 : Hp} {D : Addr} {Qd : Hp → Prop} (Pv : Nat → Hp → Prop) (h0 : Pv 0 (upd H1 D (.lst []))) (hw : ∀ x, wipe ((wipe σ vs).set j (some x)) vs = wipe σ vs)
    (hs : ∀ i H, i < n → Pv i H → LcT tt te D (Pv (i + 1)) ((wipe σ vs).set j (some (.int (lo + i)))) H) (hd : ∀ H, Pv n H → Qd H) : LcW (Itr lo n) (gName j) tt te vs σ H1 D Qd :=
  lc_range Pv h0 (fun i H hi p => ⟨hw _, hs i H hi p⟩) hd
theorem lcw_list {a : Addr} {xs : List V} {tt : TT} {vs : List Nat} {H1 : Hp} {D : Addr} {Qd : Hp → Prop} (Pv : Nat → Hp → Prop) (h0 : Pv 0 (upd H1 D (.lst []))) (hw : ∀ x, wipe ((wipe σ vs).set j (some x)) vs = wipe σ vs) (hl : ∀ i H, i ≤ xs.length → Pv i H → SqL K H a xs)
    (hs : ∀ i x H, xs[i]? = some x → Pv i H → LcT tt te D (Pv (i + 1)) ((wipe σ vs).set j (some x)) H) (hd : ∀ H, Pv xs.length H → Qd H) : LcW (Itl K a) (gName j) tt te vs σ H1 D Qd :=
  lc_list Pv h0 hl (fun i x H hi p => ⟨hw _, hs i x H hi p⟩) hd
theorem lcw_tup {a : Addr} {xs : List V} {tt : TT} {vs : List Nat} {H1 : Hp} {D : Addr} {Qd : Hp → Prop} (Pv : Nat → Hp → Prop) (h0 : Pv 0 (upd H1 D (.lst []))) (hw : ∀ x, wipe ((wipe σ vs).set j (some x)) vs = wipe σ vs) (hl : ∀ i H, i ≤ xs.length → Pv i H → SqT K H a xs)
    (hs : ∀ i x H, xs[i]? = some x → Pv i H → LcT tt te D (Pv (i + 1)) ((wipe σ vs).set j (some x)) H) (hd : ∀ H, Pv xs.length H → Qd H) : LcW (Itt K a) (gName j) tt te vs σ H1 D Qd :=
  lc_tup Pv h0 hl (fun i x H hi p => ⟨hw _, hs i x H hi p⟩) hd
theorem lct_yes {D : Addr} {N : Hp → Prop} (h : te σ H fun y H4 => ∃ acc, H4 D = some (.lst acc) ∧ acc.length < sizeLine ∧ N (upd H4 D (.lst (acc ++ [y])))) : LcT tYes te D N σ H := r_iteT (B := N H) h
theorem lct_if {tt : TT} {D : Addr} {N : Hp → Prop} (h : tt σ H fun b H3 => if b = true then te σ H3 fun y H4 => ∃ acc, H4 D = some (.lst acc) ∧ acc.length < sizeLine ∧ N (upd H4 D (.lst (acc ++ [y]))) else N H3) : LcT tt te D N σ H := h
end
section
variable {X : Cx}
theorem call_int : CallR X (.type "int") rInt := call_int1
theorem call_abs : CallR X (.builtin "abs") rAbs := L2.call_abs
theorem call_max2 (hc : X.calm = true) : CallR X (.builtin "max") rMax2 := L2.call_max2 hc
theorem call_min2 (hc : X.calm = true) : CallR X (.builtin "min") rMin2 := L2.call_min2 hc
theorem call_len : CallR X (.builtin "len") (rLenS X.K) := L2.call_len_seq
theorem call_list : CallR X (.type "list") (rList X.K) := L2.call_list_of
def rTup (K : PySem.W.Frag) : List V → Hp → VK → Prop := fun xs H Q => ∃ p ys, xs = [.ref p] ∧ ((SqL K H p ys ∧ ∀ l, H l = none → Q (.ref l) (upd H l (.tup ys))) ∨ (SqT K H p ys ∧ Q (.ref p) H))
theorem call_tuple : CallR X (.type "tuple") (rTup X.K) := L2.call_tuple_of
theorem r_tupL {K : PySem.W.Frag} {H : Hp} {Q : VK} {a : Addr} {xs : List V} (h : SqL K H a xs) (q : ∀ l, H l = none → Q (.ref l) (upd H l (.tup xs))) : rTup K [.ref a] H Q := ⟨a, xs, rfl, .inl ⟨h, q⟩⟩
theorem r_tupT {K : PySem.W.Frag} {H : Hp} {Q : VK} {a : Addr} {xs : List V} (h : SqT K H a xs) (q : Q (.ref a) H) : rTup K [.ref a] H Q := ⟨a, xs, rfl, .inr ⟨h, q⟩⟩
def rBool : List V → Hp → VK → Prop := fun xs H Q => (∃ i, xs = [.int i] ∧ Q (.bl (i != 0)) H) ∨ ∃ k, xs = [.bl k] ∧ Q (.bl k) H
theorem call_bool : CallR X (.type "bool") rBool := L2.call_bool1
theorem r_ixSL {K : PySem.W.Frag} {H : Hp} {Q : VK} {a : Addr} {xs : List V} {z : Int} {v : V} (h : SqL K H a xs) (e : atI xs z = some v) (q : Q v H) : rIx K (.ref a) (.int z) H Q := .inl ⟨a, xs, z, v, rfl, rfl, h, e, q⟩
theorem r_ixST {K : PySem.W.Frag} {H : Hp} {Q : VK} {a : Addr} {xs : List V} {z : Int} {v : V} (h : SqT K H a xs) (e : atI xs z = some v) (q : Q v H) : rIx K (.ref a) (.int z) H Q := .inr (.inl ⟨a, xs, z, v, rfl, rfl, h, e, q⟩)
def rIsN : R2 := fun x y H Q => y = .non ∧ Q (.bl (decide (x = .non))) H
def rNotN : R2 := fun x y H Q => y = .non ∧ Q (.bl (!decide (x = .non))) H
theorem op_isN : OpR X (compareOp .Is) rIsN := L2.op_isN
theorem op_notN : OpR X (compareOp .IsNot) rNotN := L2.op_notN
theorem r_isN {x : V} {H : Hp} {Q : VK} (q : Q (.bl (decide (x = .non))) H) : rIsN x .non H Q := ⟨rfl, q⟩
theorem r_notN {x : V} {H : Hp} {Q : VK} (q : Q (.bl (!decide (x = .non))) H) : rNotN x .non H Q := ⟨rfl, q⟩
end
section
variable {K : PySem.W.Frag} {σ : L2.St} {H : Hp} {Q : VK} {nx bk ct : L2.St → Hp → Prop} {rt : VK} {te : TE}
/-- into an except suite -/
theorem r_as {C : Addr} {d : Option Addr} {i : Nat} {ts : Addr → Value → Option Addr → TS} {Wo : WX} (k : Xk K C) (h : ∀ a, H a = none → ts a (.ref C) d (Ends.mk (fun σ' H' => nx (σ'.set i none) H') rt (fun σ' H' => bk (σ'.set i none) H') (fun σ' H' => ct (σ'.set i none) H')) (σ.set i (some (.ref a))) H) :
    WE (wAs K (.ref C) i ts Wo (Ends.mk nx rt bk ct)) σ (.ref C) d H := ⟨true, k.ex, fun _ => h, fun z => Bool.noConfusion z⟩
theorem r_isXr {D a C : Addr} {d : Option Addr} {b : Bool} (e : PySem.W.kitOne K (.ref D) (.ref C) = some b) (hd : d = none ∨ ∃ dd fs, d = some dd ∧ H dd = some (.xd fs)) (q : Q (.bl b) H) : rIsX K D a (.ref D) d [.ref a, .ref C] H Q := ⟨.ref C, .ref C, b, rfl, rfl, fun _ h => h, e, hd, q⟩
theorem r_isXt {D a : Addr} {n : String} {d : Option Addr} {b : Bool} (e : PySem.W.kitOne K (.ref D) (.type n) = some b) (hd : d = none ∨ ∃ dd fs, d = some dd ∧ H dd = some (.xd fs)) (q : Q (.bl b) H) : rIsX K D a (.ref D) d [.ref a, .ty n] H Q := ⟨.ty n, .type n, b, rfl, rfl, fun _ h => h, e, hd, q⟩
theorem r_xf {a C : Addr} {cls : Value} {d : Option Addr} {f : Str} (h : te σ H fun x H1 => x = .ref a ∧ cls = .ref C ∧ ∃ (dd : Addr) (fs : List (Str × V)) (v : V), d = some dd ∧ H1 dd = some (.xd fs) ∧ fs.lookup f = some v ∧ Q v H1) : tXf a cls d C f te σ H Q := h
theorem r_xfv {a C dd : Addr} {f : Str} {fs : List (Str × V)} {v : V} {R : V → Prop} (h : H dd = some (.xd fs)) (l : fs.lookup f = some v) (q : R v) : V.ref a = .ref a ∧ Value.ref C = .ref C ∧ ∃ (dd' : Addr) (fs : List (Str × V)) (v : V), some dd = some dd' ∧ H dd' = some (.xd fs) ∧ fs.lookup f = some v ∧ R v := ⟨rfl, rfl, dd, fs, v, rfl, h, l, q⟩
end
end Vb
namespace Vb
open PySem PySem.Spec PyProof.Rows L2
/-! ### what stands, carried on -/
theorem h_new {H : Hp} {p q : Addr} {o u : HO} (n : H p = none) (h : H q = some u) : upd H p o q = some u := by
  rw [upd_ne (ne_of_none h n)]
  exact h
theorem h_ne {H : Hp} {p q : Addr} {o u : HO} (n : q ≠ p) (h : H q = some u) : upd H p o q = some u := by
  rw [upd_ne n]
  exact h
theorem h_no {H : Hp} {p q : Addr} {o : HO} (n : q ≠ p) (h : H q = none) : upd H p o q = none := by
  rw [upd_ne n]
  exact h
theorem sq_of {K : PySem.W.Frag} {H : Hp} {a : Addr} {xs : List V} (h : H a = some (.lst xs)) : SqL K H a xs := .inl (.inl h)
theorem st_of {K : PySem.W.Frag} {H : Hp} {a : Addr} {xs : List V} (h : H a = some (.tup xs)) : SqT K H a xs := .inl (.inl h)
theorem same_new {H : Hp} {p : Addr} {o : HO} (n : H p = none) : Same H (upd H p o) := fun _ _ h => h_new n h
/-- an object that H does not know may change -/
theorem same_mut {H H' : Hp} {p : Addr} {o : HO} (e : Same H H') (h : H p = none) : Same H (upd H' p o) := fun a u ha => h_ne (ne_of_none ha h) (e a u ha)
/-- all but st is as it was -/
structure Fr (st : Addr) (H H' : Hp) : Prop where
  k : ∀ b o, b ≠ st → H b = some o → H' b = some o
  hd : ∀ l r, H st = some (.lst (.ref l :: r)) → ∃ r', H' st = some (.lst (.ref l :: r'))
theorem Fr.refl (st : Addr) (H : Hp) : Fr st H H := ⟨fun _ _ _ h => h, fun _ r h => ⟨r, h⟩⟩
theorem Fr.trans {st : Addr} {H H1 H2 : Hp} (a : Fr st H H1) (b : Fr st H1 H2) : Fr st H H2 := ⟨fun c o n h => b.k c o n (a.k c o n h), fun l r h => (a.hd l r h).elim fun r' h' => b.hd l r' h'⟩
theorem Fr.of {st : Addr} {H H' : Hp} (a : Same H H') : Fr st H H' := ⟨fun c o _ h => a c o h, fun _ r h => ⟨r, a _ _ h⟩⟩
theorem Fr.seq {K : PySem.W.Frag} {st : Addr} {H H' : Hp} {a : Addr} {xs : List V} (e : Fr st H H') (n : a ≠ st) (h : SqL K H a xs) : SqL K H' a xs := by
  rcases h with (h | ⟨o, h⟩) | h
  · exact .inl (.inl (e.k _ _ n h))
  · exact .inl (.inr ⟨o, e.k _ _ n h⟩)
  · exact .inr h
theorem Fr.mut {st p : Addr} {H H' : Hp} {o : HO} (e : Fr st H H') (h : H p = none) : Fr st H (upd H' p o) := ⟨fun a u n ha => h_ne (ne_of_none ha h) (e.k a u n ha), fun l r ha => (e.hd l r ha).elim fun r' h' => ⟨r', h_ne (ne_of_none ha h) h'⟩⟩
/-- the law's store at st: what is left of the script, a great number that is being used up, a count, a seed -/
def StoreAt (H : Hp) (st : Addr) : Prop := ∃ (l : Addr) (ns : List Int) (pos rest turn seed : Int), l ≠ st ∧ H st = some (.lst [.ref l, .int pos, .int rest, .int turn, .int seed]) ∧ H l = some (.lst (ns.map V.int)) ∧ 0 ≤ pos ∧ 0 ≤ rest
theorem StoreAt.same {H H' : Hp} {st : Addr} (s : StoreAt H st) (e : Same H H') : StoreAt H' st := by
  obtain ⟨l, ns, a, b, c, d, n, h1, h2, h3⟩ := s
  exact ⟨l, ns, a, b, c, d, n, e _ _ h1, e _ _ h2, h3⟩
theorem StoreAt.ne {H : Hp} {st p : Addr} (s : StoreAt H st) (h : H p = none) : p ≠ st := by
  obtain ⟨l, ns, a, b, c, d, n, h1, _⟩ := s
  exact fun z => by rw [z, h1] at h; cases h
/-- the script's list is not the one that H did not know -/
theorem StoreAt.mut {H H' : Hp} {st p : Addr} {o : HO} (s : StoreAt H st) (n : H p = none) (f : Fr st H H') (s' : StoreAt H' st) : StoreAt (upd H' p o) st := by
  obtain ⟨l, ns, a, b, c, d, n1, h1, h2, h3, h4⟩ := s
  obtain ⟨m, ms, a', b', c', d', m1, g1, g2, g3, g4⟩ := s'
  obtain ⟨r', e⟩ := f.hd _ _ h1
  rw [g1] at e
  cases e
  exact ⟨_, ms, a', b', c', d', m1, h_ne (ne_of_none h1 n) g1, h_ne (ne_of_none h2 n) g2, g3, g4⟩
theorem at_i {xs : List V} {j : Nat} {v : V} (h : xs[j]? = some v) : atI xs (j : Int) = some v := atI_nat h
theorem at_lit {xs : List V} {z : Int} {v : V} (j : Nat) (e : z = (j : Int)) (h : xs[j]? = some v) : atI xs z = some v := by
  rw [e]
  exact atI_nat h
theorem ix_lit {n : Nat} {z : Int} (j : Nat) (e : z = (j : Int)) (h0 : Nat.ble (j + 1) n = true) : ixN n z = some j := by
  have h := Nat.le_of_ble_eq_true h0
  subst e
  unfold ixN
  rw [if_pos (Int.natCast_nonneg j), if_pos (by omega)]
  rfl
theorem getV {ns : List Int} {i : Nat} (h : i < ns.length) : (ns.map V.int)[i]? = some (.int ns[i]) := by
  rw [List.getElem?_map, List.getElem?_eq_getElem h]
  rfl
theorem getV' {ns : List Int} {i : Nat} {x : V} (h : (ns.map V.int)[i]? = some x) : ∃ z, ns[i]? = some z ∧ x = .int z := by
  rw [List.getElem?_map] at h
  cases e : ns[i]? with
  | none => rw [e] at h; cases h
  | some z => rw [e] at h; exact ⟨z, rfl, (Option.some.inj h).symm⟩
theorem size_ok {n : Nat} (h : n ≤ 16777216) : n ≤ sizeLine := by rw [sizeLine_eq]; exact h
theorem size_lt {n : Nat} (h : n < 16777216) : n < sizeLine := by rw [sizeLine_eq]; exact h
end Vb
namespace Vb
open PySem PySem.Spec PyProof.Rows L2
/-! ### data -/
mutual
theorem dp_same {K : PySem.W.Frag} {H H' : Hp} (e : Same H H') : ∀ (d : PyData) (v : V), Dp K H v d → Dp K H' v d
  | .none, _, h => by cases h; exact .non
  | .bool b, _, h => by cases h; exact .bl b
  | .int i, _, h => by cases h; exact .int i
  | .str x, _, h => by cases h; exact .str x
  | .list ds, _, h => by
    cases h with
    | lst hs ha => exact .lst (e.seq hs) (dpa_same e ds _ ha)
  | .tuple ds, _, h => by
    cases h with
    | tup hs ha =>
      refine .tup ?_ (dpa_same e ds _ ha)
      rcases hs with (h | ⟨o, h⟩) | h
      · exact .inl (.inl (e _ _ h))
      · exact .inl (.inr ⟨o, e _ _ h⟩)
      · exact .inr h
  | .dict _, _, h => by cases h
theorem dpa_same {K : PySem.W.Frag} {H H' : Hp} (e : Same H H') : ∀ (ds : List PyData) (vs : List V), DpAll K H vs ds → DpAll K H' vs ds
  | [], _, h => by cases h; exact .nil
  | d :: ds, _, h => by
    cases h with
    | cons h1 h2 => exact .cons (dp_same e d _ h1) (dpa_same e ds _ h2)
end
theorem same_sqt {K : PySem.W.Frag} {H H' : Hp} {a : Addr} {xs : List V} (e : Same H H') (h : SqT K H a xs) : SqT K H' a xs := by
  rcases h with (h | ⟨o, h⟩) | h
  · exact .inl (.inl (e _ _ h))
  · exact .inl (.inr ⟨o, e _ _ h⟩)
  · exact .inr h
theorem dpa_len {K : PySem.W.Frag} {H : Hp} : ∀ {ds : List PyData} {vs : List V}, DpAll K H vs ds → vs.length = ds.length
  | [], _, h => by cases h; rfl
  | d :: ds, _, h => by
    cases h with
    | cons h1 h2 => rw [List.length_cons, List.length_cons, dpa_len h2]
theorem dpa_get {K : PySem.W.Frag} {H : Hp} : ∀ {ds : List PyData} {vs : List V} {i : Nat} {v : V}, DpAll K H vs ds → vs[i]? = some v → ∃ d, ds[i]? = some d ∧ Dp K H v d
  | [], _, i, v, h, e => by cases h; simp at e
  | d :: ds, _, 0, v, h, e => by
    cases h with
    | cons h1 h2 =>
      cases (Option.some.inj e)
      exact ⟨d, rfl, h1⟩
  | d :: ds, _, i + 1, v, h, e => by
    cases h with
    | cons h1 h2 =>
      obtain ⟨x, a, b⟩ := dpa_get (i := i) h2 (by simpa using e)
      exact ⟨x, by simpa using a, b⟩
theorem dpa_at {K : PySem.W.Frag} {H : Hp} : ∀ {ds : List PyData} {vs : List V} {i : Nat} {d : PyData}, DpAll K H vs ds → ds[i]? = some d → ∃ v, vs[i]? = some v ∧ Dp K H v d
  | [], _, i, d, h, e => by simp at e
  | x :: ds, _, 0, d, h, e => by
    cases h with
    | @cons v vs _ _ h1 h2 =>
      cases (Option.some.inj e)
      exact ⟨v, rfl, h1⟩
  | x :: ds, _, i + 1, d, h, e => by
    cases h with
    | cons h1 h2 =>
      obtain ⟨v, a, b⟩ := dpa_at (i := i) h2 (by simpa using e)
      exact ⟨v, by simpa using a, b⟩
theorem dpa_app {K : PySem.W.Frag} {H : Hp} : ∀ {ds es : List PyData} {vs us : List V}, DpAll K H vs ds → DpAll K H us es → DpAll K H (vs ++ us) (ds ++ es)
  | [], _, _, _, h, g => by cases h; exact g
  | d :: ds, es, _, us, h, g => by
    cases h with
    | cons h1 h2 => exact .cons h1 (dpa_app h2 g)
/-- ints as data -/
theorem dpa_ints {K : PySem.W.Frag} {H : Hp} : ∀ ns : List Int, DpAll K H (ns.map V.int) (ns.map PyData.int)
  | [] => .nil
  | n :: ns => .cons (.int n) (dpa_ints ns)
theorem dp_ints {K : PySem.W.Frag} {H : Hp} {a : Addr} {ns : List Int} (h : SqL K H a (ns.map V.int)) : Dp K H (.ref a) (.list (ns.map PyData.int)) := .lst h (dpa_ints ns)
/-- nested less than n deep, no list too long, no dicts -/
def DOk : Nat → PyData → Prop
  | 0, _ => False
  | n + 1, .list ds => ds.length ≤ 1000000 ∧ ∀ d ∈ ds, DOk n d
  | n + 1, .tuple ds => ds.length ≤ 1000000 ∧ ∀ d ∈ ds, DOk n d
  | _ + 1, .dict _ => False
  | _ + 1, _ => True
theorem dok_up : ∀ (n : Nat) (d : PyData), DOk n d → DOk (n + 1) d
  | 0, _, h => h.elim
  | n + 1, .list ds, h => ⟨h.1, fun d m => dok_up n d (h.2 d m)⟩
  | n + 1, .tuple ds, h => ⟨h.1, fun d m => dok_up n d (h.2 d m)⟩
  | n + 1, .dict _, h => h
  | n + 1, .none, _ => trivial
  | n + 1, .bool _, _ => trivial
  | n + 1, .int _, _ => trivial
  | n + 1, .str _, _ => trivial
theorem dok_ints {n : Nat} {ns : List Int} (h : ns.length ≤ 1000000) : DOk (n + 2) (.list (ns.map PyData.int)) := ⟨by rw [List.length_map]; exact h, fun d m => by
  obtain ⟨z, _, rfl⟩ := List.mem_map.mp m
  trivial⟩
/-- the type of a piece of data -/
def tyN : PyData → String
  | .none => "NoneType"
  | .bool _ => "bool"
  | .int _ => "int"
  | .str _ => "str"
  | .list _ => "list"
  | .tuple _ => "tuple"
  | .dict _ => "dict"
theorem dp_ty {K : PySem.W.Frag} {H : Hp} {v : V} {d : PyData} (h : Dp K H v d) : TyX K H v (.type (tyN d)) := by
  cases h with
  | non => exact .base .non
  | bl b => exact .base (.bl b)
  | int i => exact .base (.int i)
  | str x => exact .base (.str x)
  | lst hs _ =>
    rcases hs with (h | ⟨o, h⟩) | h
    · exact .base (.lst h)
    · exact .base (.frz h)
    · obtain ⟨o, its, n, h, c, _⟩ := h
      exact .kList h c
  | tup hs _ =>
    rcases hs with (h | ⟨o, h⟩) | h
    · exact .base (.tup h)
    · exact .fTuple h
    · obtain ⟨o, its, n, h, c, _⟩ := h
      exact .kTuple h c
def isB : PyData → Bool | .bool _ => true | _ => false
def isI : PyData → Bool | .bool _ => true | .int _ => true | _ => false
def isS : PyData → Bool | .str _ => true | _ => false
def isL : PyData → Bool | .list _ => true | _ => false
def isT : PyData → Bool | .tuple _ => true | _ => false
theorem r_isi {K : PySem.W.Frag} {H : Hp} {v : V} {d : PyData} {Q : VK} {n : String} {b : Bool} (h : Dp K H v d) (e : kitB (tyN d) n = some b) (q : Q (.bl b) H) : rIsi K [v, .ty n] H Q := ⟨v, .ty n, _, _, b, rfl, .ty n, dp_ty h, kit_ty e, q⟩
theorem r_isB {K : PySem.W.Frag} {H : Hp} {v : V} {d : PyData} {Q : VK} {b : Bool} (h : Dp K H v d) (e : isB d = b) (q : Q (.bl b) H) : rIsi K [v, .ty "bool"] H Q := r_isi h (by subst e; cases h <;> (simp only [tyN, isB]; decide +kernel)) q
theorem r_isI {K : PySem.W.Frag} {H : Hp} {v : V} {d : PyData} {Q : VK} {b : Bool} (h : Dp K H v d) (e : isI d = b) (q : Q (.bl b) H) : rIsi K [v, .ty "int"] H Q := r_isi h (by subst e; cases h <;> (simp only [tyN, isI]; decide +kernel)) q
theorem r_isS {K : PySem.W.Frag} {H : Hp} {v : V} {d : PyData} {Q : VK} {b : Bool} (h : Dp K H v d) (e : isS d = b) (q : Q (.bl b) H) : rIsi K [v, .ty "str"] H Q := r_isi h (by subst e; cases h <;> (simp only [tyN, isS]; decide +kernel)) q
theorem r_isL {K : PySem.W.Frag} {H : Hp} {v : V} {d : PyData} {Q : VK} {b : Bool} (h : Dp K H v d) (e : isL d = b) (q : Q (.bl b) H) : rIsi K [v, .ty "list"] H Q := r_isi h (by subst e; cases h <;> (simp only [tyN, isL]; decide +kernel)) q
theorem r_isT {K : PySem.W.Frag} {H : Hp} {v : V} {d : PyData} {Q : VK} {b : Bool} (h : Dp K H v d) (e : isT d = b) (q : Q (.bl b) H) : rIsi K [v, .ty "tuple"] H Q := r_isi h (by subst e; cases h <;> (simp only [tyN, isT]; decide +kernel)) q
theorem not_non {K : PySem.W.Frag} {H : Hp} {v : V} {d : PyData} (h : Dp K H v d) (hd : d ≠ .none) : ¬ v = .non := by
  cases h with
  | non => exact absurd rfl hd
  | _ => exact fun c => nomatch c
theorem is_non {K : PySem.W.Frag} {H : Hp} {v : V} (h : Dp K H v .none) : v = .non := by
  cases h
  rfl
/-! ### all but some objects -/
def offs (Z : List Addr) (H : Hp) : Hp := fun b => if b ∈ Z then none else H b
theorem offs_of {Z : List Addr} {H : Hp} {b : Addr} {o : HO} (n : b ∉ Z) (h : H b = some o) : offs Z H b = some o := by
  unfold offs
  rw [if_neg n]
  exact h
theorem offs_some {Z : List Addr} {H : Hp} {b : Addr} {o : HO} (h : offs Z H b = some o) : b ∉ Z ∧ H b = some o := by
  unfold offs at h
  split at h
  · cases h
  · exact ⟨‹_›, h⟩
theorem offs_sub {Z : List Addr} {H : Hp} : Same (offs Z H) H := fun _ _ h => (offs_some h).2
theorem offs_nil {H : Hp} : Same H (offs [] H) := fun _ _ h => offs_of (by simp) h
theorem offs_same {Z : List Addr} {H H' : Hp} (e : Same H H') : Same (offs Z H) (offs Z H') := fun _ _ h => offs_of (offs_some h).1 (e _ _ (offs_some h).2)
theorem offs_more {Z : List Addr} {H : Hp} {D : Addr} : Same (offs (D :: Z) H) (offs Z H) := fun _ _ h => offs_of (fun m => (offs_some h).1 (List.mem_cons_of_mem _ m)) (offs_some h).2
theorem offs_new {Z : List Addr} {H : Hp} {D : Addr} (n : H D = none) : Same (offs Z H) (offs (D :: Z) H) := fun b o h => by
  have ⟨h1, h2⟩ := offs_some h
  refine offs_of (fun m => ?_) h2
  rcases List.mem_cons.mp m with e | m
  · rw [e, n] at h2; cases h2
  · exact h1 m
theorem offs_upd {Z : List Addr} {H : Hp} {D : Addr} {o : HO} : Same (offs (D :: Z) H) (offs (D :: Z) (upd H D o)) := fun b u h => by
  have ⟨h1, h2⟩ := offs_some h
  exact offs_of h1 (h_ne (fun e => h1 (by rw [e]; exact List.mem_cons_self)) h2)
theorem offs_fr {Z : List Addr} {st : Addr} {H H' : Hp} (e : Fr st H H') (m : st ∈ Z) : Same (offs Z H) (offs Z H') := fun b o h => by
  have ⟨h1, h2⟩ := offs_some h
  exact offs_of h1 (e.k b o (fun z => h1 (by rw [z]; exact m)) h2)
/-- all of Z is tracked -/
def Trk (Z : List Addr) (H : Hp) : Prop := ∀ z ∈ Z, ∃ o, H z = some o
theorem Trk.same {Z : List Addr} {H H' : Hp} (t : Trk Z H) (e : Same H H') : Trk Z H' := fun z m => by
  obtain ⟨o, h⟩ := t z m
  exact ⟨o, e _ _ h⟩
theorem Trk.new {Z : List Addr} {H : Hp} {D : Addr} (t : Trk Z H) (n : H D = none) : D ∉ Z := fun m => by
  obtain ⟨o, h⟩ := t D m
  rw [n] at h
  cases h
theorem Trk.nil {H : Hp} : Trk [] H := fun _ m => by cases m
theorem Trk.one {H : Hp} {a : Addr} {o : HO} (h : H a = some o) : Trk [a] H := fun z m => by
  cases List.mem_singleton.mp m
  exact ⟨o, h⟩
theorem dp_off {K : PySem.W.Frag} {Z : List Addr} {H : Hp} {v : V} {d : PyData} (h : Dp K (offs Z H) v d) : Dp K H v d := dp_same offs_sub _ _ h
theorem dp_lst {K : PySem.W.Frag} {H : Hp} {a : Addr} {xs : List V} {ds : List PyData} (h : H a = some (.lst xs)) (g : DpAll K H xs ds) : Dp K H (.ref a) (.list ds) := .lst (sq_of h) g
theorem dp_tup {K : PySem.W.Frag} {H : Hp} {a : Addr} {xs : List V} {ds : List PyData} (h : H a = some (.tup xs)) (g : DpAll K H xs ds) : Dp K H (.ref a) (.tuple ds) := .tup (st_of h) g
end Vb
namespace Vb
open PySem PySem.Spec PyProof.Rows L2
/-! ### range(a, b) of any size that has no turn -/
theorem turn_none {P : Program} {w : World} {K : PySem.W.Frag} {tg : Expr} (it : Addr) (lo : Int) : Turn P w K tg (Itr lo 0) [it] it (fun _ h => ∃ x left step, left ≤ 0 ∧ IsLongIter h it x left step) where
  mem := List.mem_singleton.mpr rfl
  obj := fun i h ⟨x, l, c, _, st⟩ b hb => by
    cases List.mem_singleton.mp hb
    exact ⟨_, st, fun v z => by cases (show Data.fields _ = Data.cell v from z)⟩
  keep := fun i h h' ⟨x, l, c, hl, st⟩ k => ⟨x, l, c, hl, k it (List.mem_singleton.mpr rfl) _ st⟩
  item := fun X _ _ _ _ i pins s σ H E _ _ _ hg => absurd (show i < 0 from hg) (Nat.not_lt_zero i)
  done := by
    intro X hP hw hK hc i pins s σ H E I hf st _
    obtain ⟨x, l, c, hl, st⟩ := st
    subst hP hw hK
    have q := hf it (List.mem_singleton.mpr rfl)
    exact wpAny_pyNext_long_end (I.ok.hd hc) st hl fun h' eb => ⟨rfl, I.turned (t' := s.toks) (fun b o hb e => eb b o hb e) q.1 q.2.1 q.2.2.2.1 q.2.2.2.2.1 q.2.2.2.2.2⟩
  self := fun _ _ _ _ _ ⟨_, _, _, _, st⟩ h => wpAny_pyIter_longiter st h
def iRngW (ta : TA) : TI := fun σ H R => ta σ H fun vs H1 => ∃ i j : Int, vs = [.int i, .int j] ∧ ((-(2 ^ 62) ≤ i ∧ i < 2 ^ 62 ∧ -(2 ^ 62) ≤ j ∧ j < 2 ^ 62) ∨ j ≤ i) ∧ R (Itr i (j - i).toNat) H1
section
variable {X : Cx} {tg : Expr}
theorem range_none {pins : List (Addr × Obj)} {σ : L2.St} {H : Hp} {s : Shared} {R : It → Hp → Prop} {E : Value → Shared → Prop} {lo hi : Int} {t u v : Tok} {tk : Nat} (I : Inv X pins σ H s) (hle : hi ≤ lo) (hs : Builtin.Range.small lo hi 1 = false)
    (q : R (Itr lo 0) H) : wpAny (model X.prog X.w) X.A (pyIter (.ref s.heap.objs.size)) (PIE X pins σ tg R) E { s with heap := s.heap.push { cls := .type "range", data := .fields #[.int lo t, .int hi u, .int 1 v] }, toks := tk } := by
  refine wpAny_pyIter_longrange (IsRange.new ..) hs ?_
  have I1 : Inv X pins σ H { s with heap := s.heap.push { cls := .type "range", data := .fields #[.int lo t, .int hi u, .int 1 v] }, toks := tk } := I.kept fun b o e => Heap.get?_push_of_some _ e
  have z : Builtin.Range.rangeSize lo hi 1 ≤ 0 := by rw [rangeSize_one, if_neg (by omega)]; exact Int.le_refl 0
  refine ⟨_, [_], _, Itr lo 0, H, rfl, I1.kept (t' := tk) fun b o e => Heap.get?_push_of_some _ e, turn_none _ lo, ⟨_, _, _, z, Heap.get?_push_size _ rfl⟩, fun b hb => ?_, q⟩
  cases List.mem_singleton.mp hb
  exact I1.fpOk (Nat.le_refl _) (I1.hok.fresh (Nat.le_refl _))
theorem pi_rangeW {a b : Expr} {ta : TA} {p pos : Pos} (hg : Gl X "range") (hm : X.mg "range" = none) (ha : PA X [a, b] ta) (hs : starEach [a, b] X.env = [(false, eval a X.env), (false, eval b X.env)] := by rfl) (hs2 : starEach [b] X.env = [(false, eval b X.env)] := by rfl) :
    PI X tg (.Call (.Name "range" p) [a, b] [] pos) (iRngW ta) := by
  refine ⟨fun pins s σ H R I h => ?_⟩
  refine Call_ (ld_blt I hg hm boot_range (PyProof.Rows.callWith_type1 (thn (ha.run pos pins s σ H _ I h) fun us s1 hh => ?_) (by rw [hs, hs2]) (by rw [hs2]; rfl)))
  obtain ⟨vs, H1, I1, r1, i, j, ev, hb, q⟩ := hh
  subst ev
  obtain ⟨u1, u2, rfl, ⟨t1, rfl⟩, ⟨t2, rfl⟩⟩ := vals2 r1
  refine call_range_2 ?_
  rcases hb with hb | hb
  · exact range_it I1 hb.1 hb.2.1 hb.2.2.1 hb.2.2.2 q
  · have e : (j - i).toNat = 0 := by omega
    rw [e] at q
    cases hsm : Builtin.Range.small i j 1 with
    | false => exact range_none I1 hb hsm q
    | true =>
      refine wpAny_pyIter_range (IsRange.new ..) hsm ?_
      have I2 := I1.kept (h' := s1.heap.push { cls := .type "range", data := .fields #[.int i t1, .int j t2, .int 1 s1.toks] }) (t' := s1.toks + 1) fun b o e => Heap.get?_push_of_some _ e
      have z : Builtin.Range.rangeSize i j 1 = 0 := by rw [rangeSize_one, if_neg (by omega)]
      refine ⟨_, [_], _, Itr i 0, H1, rfl, I2.kept fun b o e => Heap.get?_push_of_some _ e, turn_range _ i 0, ?_, fun b hb => ?_, q⟩
      · show IsRangeIter _ _ (i + ((0 : Nat) : Int) * 1) (((0 : Nat) : Int) - ((0 : Nat) : Int)) 1
        rw [show i + ((0 : Nat) : Int) * 1 = i by omega, show ((0 : Nat) : Int) - ((0 : Nat) : Int) = Builtin.Range.rangeSize i j 1 by omega]
        exact Heap.get?_push_size _ rfl
      · cases List.mem_singleton.mp hb
        exact I2.fpOk (Nat.le_refl _) (I2.hok.fresh (Nat.le_refl _))
end
section
variable {K : PySem.W.Frag} {σ : L2.St} {H : Hp} {te : TE} {ts : TS} {nx : L2.St → Hp → Prop} {rt : VK}
theorem r_rngW {ta : TA} {R : It → Hp → Prop} (h : ta σ H fun vs H1 => ∃ i j : Int, vs = [.int i, .int j] ∧ ((-(2 ^ 62) ≤ i ∧ i < 2 ^ 62 ∧ -(2 ^ 62) ≤ j ∧ j < 2 ^ 62) ∨ j ≤ i) ∧ R (Itr i (j - i).toNat) H1) : iRngW ta σ H R := h
theorem f_rngW {lo hi : Int} {g : TG} (b : (-(2 ^ 62) ≤ lo ∧ lo < 2 ^ 62 ∧ -(2 ^ 62) ≤ hi ∧ hi < 2 ^ 62) ∨ hi ≤ lo) (q : ForW (Itr lo (hi - lo).toNat) g ts nx rt σ H) : ∃ i j : Int, [V.int lo, V.int hi] = [.int i, .int j] ∧ ((-(2 ^ 62) ≤ i ∧ i < 2 ^ 62 ∧ -(2 ^ 62) ≤ j ∧ j < 2 ^ 62) ∨ j ≤ i) ∧ ForW (Itr i (j - i).toNat) g ts nx rt σ H := ⟨lo, hi, rfl, b, q⟩
theorem c_rngW {lo hi : Int} {g : TG} {tt : TT} {vs : List Nat} {σ' : L2.St} {Q' : Addr → Hp → Prop} (b : (-(2 ^ 62) ≤ lo ∧ lo < 2 ^ 62 ∧ -(2 ^ 62) ≤ hi ∧ hi < 2 ^ 62) ∨ hi ≤ lo) (q : ∀ D, H D = none → LcW (Itr lo (hi - lo).toNat) g tt te vs σ' H D (Q' D)) : ∃ i j : Int, [V.int lo, V.int hi] = [.int i, .int j] ∧ ((-(2 ^ 62) ≤ i ∧ i < 2 ^ 62 ∧ -(2 ^ 62) ≤ j ∧ j < 2 ^ 62) ∨ j ≤ i) ∧ ∀ D, H D = none → LcW (Itr i (j - i).toNat) g tt te vs σ' H D (Q' D) := ⟨lo, hi, rfl, b, q⟩
end
/-! ### primes -/
def isP (n : Int) : Bool := decide (2 ≤ n) && (List.range n.toNat).all fun d => decide (d < 2) || decide (n % (d : Int) ≠ 0)
def Prm (n : Int) : Prop := 2 ≤ n ∧ ∀ d : Int, 2 ≤ d → d < n → n % d ≠ 0
theorem isP_iff (n : Int) : isP n = true ↔ Prm n := by
  unfold isP Prm
  rw [Bool.and_eq_true, decide_eq_true_eq, List.all_eq_true]
  refine ⟨fun ⟨h1, h2⟩ => ⟨h1, fun d a b => ?_⟩, fun ⟨h1, h2⟩ => ⟨h1, fun d m => ?_⟩⟩
  · have z := h2 d.toNat (List.mem_range.mpr (by omega))
    rw [Bool.or_eq_true, decide_eq_true_eq, decide_eq_true_eq] at z
    rcases z with z | z
    · omega
    · rwa [show ((d.toNat : Nat) : Int) = d by omega] at z
  · have m := List.mem_range.mp m
    rw [Bool.or_eq_true, decide_eq_true_eq, decide_eq_true_eq]
    by_cases c : d < 2
    · exact .inl c
    · exact .inr (h2 d (by omega) (by omega))
/-- no divisor up to the root: none at all -/
theorem prm_root {n D : Int} (h2 : 2 ≤ n) (hD : 2 ≤ D) (hs : n < D * D) (h : ∀ d : Int, 2 ≤ d → d < D → n % d ≠ 0) : Prm n := by
  refine ⟨h2, fun d a b z => ?_⟩
  have hd : d * (n / d) = n := Int.mul_ediv_cancel' (Int.dvd_of_emod_eq_zero z)
  by_cases c : d < D
  · exact h d a c z
  · have e1 : n / d < D := by
      by_cases c2 : n / d < D
      · exact c2
      · exact absurd (Int.mul_le_mul (show D ≤ d by omega) (show D ≤ n / d by omega) (by omega) (by omega)) (by omega)
    have e2 : 2 ≤ n / d := by
      have p : 1 ≤ n / d := by
        by_cases c3 : n / d ≤ 0
        · have := Int.mul_nonpos_of_nonneg_of_nonpos (show 0 ≤ d by omega) c3
          omega
        · omega
      by_cases c4 : n / d = 1
      · rw [c4] at hd; omega
      · omega
    refine h (n / d) e2 e1 ?_
    have e3 : n % (n / d) = 0 := by
      have : (d * (n / d)) % (n / d) = 0 := Int.mul_emod_left ..
      rwa [hd] at this
    exact e3
theorem not_prm {n d : Int} (h2 : 2 ≤ d) (h : d < n) (z : n % d = 0) : ¬ Prm n := fun p => p.2 d h2 h z
/-- the primes up to a limit -/
def upto (n : Int) : List Int := ((List.range (n + 1).toNat).map Int.ofNat).filter isP
theorem mem_upto {n p : Int} : p ∈ upto n ↔ Prm p ∧ p ≤ n := by
  unfold upto
  rw [List.mem_filter, isP_iff, List.mem_map]
  refine ⟨fun ⟨⟨k, m, e⟩, q⟩ => ⟨q, ?_⟩, fun ⟨q, l⟩ => ⟨⟨p.toNat, ?_, ?_⟩, q⟩⟩
  · have := List.mem_range.mp m
    have e' : (k : Int) = p := e
    omega
  · exact List.mem_range.mpr (by have := q.1; omega)
  · show ((p.toNat : Nat) : Int) = p
    have := q.1
    omega
theorem upto_low {n : Int} (h : n < 2) : upto n = [] := by
  refine List.eq_nil_iff_forall_not_mem.mpr fun p m => ?_
  obtain ⟨q, l⟩ := mem_upto.mp m
  have := q.1
  omega
theorem upto_next {n : Int} (h : 0 ≤ n + 1) : upto (n + 1) = upto n ++ (if isP (n + 1) then [n + 1] else []) := by
  unfold upto
  rw [show (n + 1 + 1).toNat = (n + 1).toNat + 1 by omega, List.range_succ, List.map_append, List.filter_append]
  congr 1
  rw [List.map_cons, List.map_nil, show Int.ofNat (n + 1).toNat = n + 1 by show (((n + 1).toNat : Nat) : Int) = n + 1; omega]
  rw [List.filter_cons, List.filter_nil]
theorem upto_len {n : Int} : (upto n).length ≤ (n + 1).toNat := by
  unfold upto
  refine Nat.le_trans (List.length_filter_le _ _) ?_
  rw [List.length_map, List.length_range]
  exact Nat.le_refl _
end Vb
namespace Vb
open PySem PySem.Spec PyProof.Rows L2
theorem least_prime : ∀ (k : Nat) (n d : Int), d.toNat ≤ k → 2 ≤ d → n % d = 0 → ∃ q, Prm q ∧ q ≤ d ∧ n % q = 0
  | 0, n, d, h, h2, _ => by omega
  | k + 1, n, d, h, h2, z => by
    by_cases p : Prm d
    · exact ⟨d, p, Int.le_refl _, z⟩
    · have ⟨e, e1, e2, e3⟩ : ∃ e : Int, 2 ≤ e ∧ e < d ∧ d % e = 0 := by
        refine Classical.byContradiction fun c => p ⟨h2, fun e a b y => c ⟨e, a, b, y⟩⟩
      have z2 : n % e = 0 := Int.emod_eq_zero_of_dvd (Int.dvd_trans (Int.dvd_of_emod_eq_zero e3) (Int.dvd_of_emod_eq_zero z))
      obtain ⟨q, a, b, c⟩ := least_prime k n e (by omega) e1 z2
      exact ⟨q, a, by omega, c⟩
/-- a number that no smaller prime divides is one -/
theorem prm_of {n : Int} (h2 : 2 ≤ n) (h : ∀ q, Prm q → q < n → n % q ≠ 0) : Prm n := ⟨h2, fun d a b z => by
  obtain ⟨q, p, l, y⟩ := least_prime d.toNat n d (Nat.le_refl _) a z
  exact h q p (by omega) y⟩
theorem upto_sorted (n : Int) : (upto n).Pairwise (· < ·) := by
  unfold upto
  refine List.Pairwise.filter _ (List.pairwise_map.mpr ?_)
  refine List.Pairwise.imp (fun {a b} h => ?_) List.pairwise_lt_range
  show (a : Int) < (b : Int)
  omega
theorem sorted_ahead : ∀ {xs : List Int} {j : Nat} {p q : Int}, xs.Pairwise (· < ·) → xs[j]? = some p → q ∈ xs → q < p → ∃ k, k < j ∧ xs[k]? = some q
  | [], j, p, q, _, _, m, _ => by cases m
  | x :: xs, 0, p, q, s, e, m, l => by
    cases (Option.some.inj e)
    rcases List.mem_cons.mp m with rfl | m
    · omega
    · have := (List.pairwise_cons.mp s).1 q m
      omega
  | x :: xs, j + 1, p, q, s, e, m, l => by
    rcases List.mem_cons.mp m with rfl | m
    · exact ⟨0, by omega, rfl⟩
    · obtain ⟨k, a, b⟩ := sorted_ahead (List.pairwise_cons.mp s).2 (by simpa using e) m l
      exact ⟨k + 1, by omega, by simpa using b⟩
theorem rgc_pos {i j c : Int} (hc : 0 < c) (hc2 : c < 1073741824) (hi : -1000000000 ≤ i ∧ i ≤ 1000000000) (hj : -1000000000 ≤ j ∧ j ≤ 1000000000) : RgC i j c (Builtin.Range.rangeSize i j c).toNat := by
  have hr : Builtin.Range.rangeSize i j c = if i < j then (j - i - 1) / c + 1 else 0 := by
    unfold Builtin.Range.rangeSize
    rw [if_pos (by omega)]
  have h0 : 0 ≤ Builtin.Range.rangeSize i j c := by
    rw [hr]
    split
    · have := Int.ediv_nonneg (show 0 ≤ j - i - 1 by omega) (show 0 ≤ c by omega)
      omega
    · omega
  have h1 : Builtin.Range.rangeSize i j c ≤ 2000000001 := by
    rw [hr]
    split
    · have := Int.ediv_le_self c (show 0 ≤ j - i - 1 by omega)
      omega
    · omega
  refine ⟨by omega, by omega, ?_, by omega⟩
  unfold Builtin.Range.small
  simp only [Builtin.Range.rangeFitsLong, Bool.and_eq_true, Bool.or_eq_true, decide_eq_true_eq, beq_iff_eq, hc, if_true]
  exact ⟨⟨⟨⟨⟨by omega, by omega⟩, by omega, by omega⟩, by omega, by omega⟩, by omega, by omega⟩, .inr ⟨by omega, by omega⟩⟩
section
variable {K : PySem.W.Frag} {σ : L2.St} {H : Hp} {Q : VK} {te ta tb : TE} {ts tu : TS} {nx bk ct : L2.St → Hp → Prop} {rt : VK}
/-- what stands behind ts is shown once, from Mid -/
theorem r_cut (Mid : L2.St → Hp → Prop) (h : ts (Ends.mk Mid rt bk ct) σ H) (k : ∀ σ' H', Mid σ' H' → tu (Ends.mk nx rt bk ct) σ' H') : Evl.tCut ts tu (Ends.mk nx rt bk ct) σ H := ⟨Mid, h, k⟩
theorem r_eqB {a b : Bool} (q : Q (.bl (a == b)) H) : rEq (.bl a) (.bl b) H Q := ⟨rfl, by
  have e : decide (V.bl a = V.bl b) = (a == b) := by cases a <;> cases b <;> rfl
  rw [e]
  exact q⟩
theorem r_eqBs {a : Bool} (q : Q (.bl true) H) : rEq (.bl a) (.bl a) H Q := r_eqB (by rw [beq_self_eq_true]; exact q)
theorem r_neB {a b : Bool} (q : Q (.bl (!(a == b))) H) : rNe (.bl a) (.bl b) H Q := ⟨rfl, by
  have e : decide (V.bl a = V.bl b) = (a == b) := by cases a <;> cases b <;> rfl
  rw [e]
  exact q⟩
theorem r_eqS {a b : Str} (q : Q (.bl (decide (a = b))) H) : rEq (.str a) (.str b) H Q := ⟨rfl, by
  have e : decide (V.str a = V.str b) = decide (a = b) := by
    by_cases h : a = b
    · rw [decide_eq_true h, decide_eq_true (congrArg V.str h)]
    · rw [decide_eq_false h, decide_eq_false (fun z => h (V.str.inj z))]
  rw [e]
  exact q⟩
theorem r_neS {a b : Str} (q : Q (.bl (!decide (a = b))) H) : rNe (.str a) (.str b) H Q := ⟨rfl, by
  have e : decide (V.str a = V.str b) = decide (a = b) := by
    by_cases h : a = b
    · rw [decide_eq_true h, decide_eq_true (congrArg V.str h)]
    · rw [decide_eq_false h, decide_eq_false (fun z => h (V.str.inj z))]
  rw [e]
  exact q⟩
theorem r_revL (h : te σ H fun x H1 => ∃ a xs, x = .ref a ∧ SqL K H1 a xs ∧ ∀ p, H1 p = none → Q (.ref p) (upd H1 p (.lst xs.reverse))) : tRevL K te σ H Q := h
theorem r_revv {a : Addr} {xs : List V} {R : Addr → Hp → Prop} (h : SqL K H a xs) (q : ∀ p, H p = none → R p (upd H p (.lst xs.reverse))) : ∃ b ys, V.ref a = .ref b ∧ SqL K H b ys ∧ ∀ p, H p = none → R p (upd H p (.lst ys.reverse)) := ⟨a, xs, rfl, h, q⟩
theorem r_sl {r : V → Option Int → Option Int → Hp → VK → Prop} {tl th : TO} (h : te σ H fun x H1 => tl σ H1 fun l H2 => th σ H2 fun u H3 => r x l u H3 Q) : tSl r te tl th σ H Q := h
theorem r_noP {QO : Option Int → Hp → Prop} (h : QO none H) : tNoPart σ H QO := h
theorem r_part {QO : Option Int → Hp → Prop} (h : te σ H fun x H1 => ∃ i, x = .int i ∧ QO (some i) H1) : tPart te σ H QO := h
theorem r_partv {i : Int} {R : Option Int → Hp → Prop} (h : R (some i) H) : ∃ j, V.int i = .int j ∧ R (some j) H := ⟨i, rfl, h⟩
theorem r_slL {a : Addr} {xs : List V} {lo hi : Option Int} (h : SqL K H a xs) (q : ∀ p, H p = none → Q (.ref p) (upd H p (.lst (cutV xs lo hi)))) : rSlL K (.ref a) lo hi H Q := ⟨a, xs, rfl, h, q⟩
theorem r_rep {a : Addr} {xs : List V} {k : Int} (h : H a = some (.lst xs)) (b1 : -(2 ^ 63) ≤ k) (b2 : k < 2 ^ 63) (b3 : xs.length * k.toNat ≤ sizeLine) (q : ∀ p, H p = none → Q (.ref p) (upd H p (.lst ((List.replicate k.toNat xs).flatten)))) : rRep (.ref a) (.int k) H Q := by
  refine ⟨a, k, xs, rfl, rfl, h, b1, b2, b3, ?_⟩
  exact q
end
theorem ix_of {n : Nat} {z : Int} (j : Nat) (e : z = (j : Int)) (h : j < n) : ixN n z = some j := by
  subst e
  unfold ixN
  rw [if_pos (Int.natCast_nonneg j), if_pos (by omega)]
  rfl
theorem rs_lt {i j c : Int} (hc : 0 < c) {k : Nat} (h : k < (Builtin.Range.rangeSize i j c).toNat) : i + (k : Int) * c < j := by
  unfold Builtin.Range.rangeSize at h
  rw [if_pos (by omega)] at h
  split at h
  · have h1 : (k : Int) ≤ (j - i - 1) / c := by omega
    have h2 := (Int.le_ediv_iff_mul_le hc).mp h1
    omega
  · exact absurd h (Nat.not_lt_zero k)
theorem rs_end {i j c : Int} (hc : 0 < c) : j ≤ i + ((Builtin.Range.rangeSize i j c).toNat : Int) * c := by
  unfold Builtin.Range.rangeSize
  rw [if_pos (by omega)]
  split
  · have h0 := Int.ediv_nonneg (show 0 ≤ j - i - 1 by omega) (show 0 ≤ c by omega)
    have h1 : ((((j - i - 1) / c + 1).toNat : Nat) : Int) = (j - i - 1) / c + 1 := by omega
    rw [h1, Int.add_mul, Int.one_mul]
    have h2 := Int.lt_ediv_add_one_mul_self (j - i - 1) hc
    rw [Int.add_mul, Int.one_mul] at h2
    omega
  · show j ≤ i + ((0 : Nat) : Int) * c
    omega
/-- a row of marks -/
def marks (N : Nat) (f : Nat → Bool) : List V := (List.range N).map fun m => V.bl (f m)
theorem marks_len (N : Nat) (f : Nat → Bool) : (marks N f).length = N := by
  unfold marks
  rw [List.length_map, List.length_range]
theorem marks_get {N : Nat} {f : Nat → Bool} {j : Nat} (h : j < N) : (marks N f)[j]? = some (.bl (f j)) := by
  unfold marks
  rw [List.getElem?_map, List.getElem?_range h]
  rfl
theorem marks_set {N : Nat} {f : Nat → Bool} {j : Nat} {b : Bool} : (marks N f).set j (.bl b) = marks N (fun m => if m = j then b else f m) := by
  refine List.ext_getElem? fun k => ?_
  by_cases hk : k < N
  · by_cases e : k = j
    · subst e
      rw [List.getElem?_set_self (by rw [marks_len]; exact hk), marks_get hk, if_pos rfl]
    · rw [List.getElem?_set_ne (Ne.symm e), marks_get hk, marks_get hk, if_neg e]
  · rw [List.getElem?_eq_none (by rw [List.length_set, marks_len]; omega), List.getElem?_eq_none (by rw [marks_len]; omega)]
theorem marks_rep (k : Nat) (b : Bool) : (List.replicate k [V.bl b]).flatten = marks k (fun _ => b) := by
  refine List.ext_getElem? fun j => ?_
  have e : (List.replicate k [V.bl b]).flatten = List.replicate k (V.bl b) := by
    induction k with
    | zero => rfl
    | succ k ih => rw [List.replicate_succ, List.flatten_cons, ih]; rfl
  rw [e]
  by_cases hk : j < k
  · rw [List.getElem?_replicate, if_pos hk, marks_get hk]
  · rw [List.getElem?_eq_none (by rw [List.length_replicate]; omega), List.getElem?_eq_none (by rw [marks_len]; omega)]
theorem mul_up {m n : Int} (hn : 0 < n) (h : n < m) (z : m % n = 0) : 2 * n ≤ m := by
  have e : n * (m / n) = m := Int.mul_ediv_cancel' (Int.dvd_of_emod_eq_zero z)
  have h2 : 2 ≤ m / n := by
    refine Int.not_lt.mp fun h3 => ?_
    have h4 : n * (m / n) ≤ n * 1 := Int.mul_le_mul_of_nonneg_left (by omega) (by omega)
    omega
  have h5 : n * 2 ≤ n * (m / n) := Int.mul_le_mul_of_nonneg_left h2 (by omega)
  omega
/-- a multiple below the next one but some -/
theorem mul_between {n m : Int} {k : Nat} (hn : 0 < n) (z : m % n = 0) : m < 2 * n + ((k + 1 : Nat) : Int) * n ↔ m < 2 * n + (k : Int) * n ∨ m = 2 * n + (k : Int) * n := by
  have e : n * (m / n) = m := Int.mul_ediv_cancel' (Int.dvd_of_emod_eq_zero z)
  have ek : ((k + 1 : Nat) : Int) * n = (k : Int) * n + n := by
    rw [show ((k + 1 : Nat) : Int) = (k : Int) + 1 by omega, Int.add_mul, Int.one_mul]
  rw [ek]
  refine ⟨fun h => ?_, fun h => by omega⟩
  by_cases c : m < 2 * n + (k : Int) * n
  · exact .inl c
  · refine .inr ?_
    have h1 : m / n < (k : Int) + 3 := by
      refine Int.not_le.mp fun h3 => ?_
      have h4 : n * ((k : Int) + 3) ≤ n * (m / n) := Int.mul_le_mul_of_nonneg_left h3 (by omega)
      have h5 : n * ((k : Int) + 3) = (k : Int) * n + 3 * n := by rw [Int.mul_add, Int.mul_comm n (k : Int), Int.mul_comm n 3]
      omega
    have h2 : (k : Int) + 2 ≤ m / n := by
      refine Int.not_lt.mp fun h3 => ?_
      have h4 : n * (m / n) ≤ n * ((k : Int) + 1) := Int.mul_le_mul_of_nonneg_left (by omega) (by omega)
      have h5 : n * ((k : Int) + 1) = (k : Int) * n + n := by rw [Int.mul_add, Int.mul_comm n (k : Int), Int.mul_one]
      omega
    have h6 : m / n = (k : Int) + 2 := by omega
    rw [h6, Int.mul_add, Int.mul_comm n (k : Int)] at e
    omega
theorem upto_all (n : Int) : upto (n + 1) = upto n ++ (if isP (n + 1) then [n + 1] else []) := by
  by_cases h : 0 ≤ n + 1
  · exact upto_next h
  · have e : isP (n + 1) = false := by
      cases y : isP (n + 1) with
      | false => rfl
      | true => exact absurd ((isP_iff _).mp y).1 (by omega)
    rw [upto_low (by omega), upto_low (by omega), e]
    rfl
theorem cut_last (xs : List V) (v : V) : cutV (xs ++ [v]) none (some (-1)) = xs := by
  unfold cutV
  have e : HT.sIx (xs ++ [v]).length (xs ++ [v]).length (some (-1)) = xs.length := by
    show (if (-1 : Int) < 0 then ((-1 : Int) + ((xs ++ [v]).length : Int)).toNat else min (-1 : Int).toNat (xs ++ [v]).length) = xs.length
    rw [if_pos (show (-1 : Int) < 0 by decide), List.length_append]
    show ((-1 : Int) + ((xs.length + 1 : Nat) : Int)).toNat = xs.length
    omega
  rw [e, HT.sIx_none, List.drop_zero, Nat.sub_zero, List.take_left]
section
variable {K : PySem.W.Frag} {σ : L2.St} {H : Hp} {Q : VK}
theorem r_isBl {a b : Bool} (q : Q (.bl (decide (a = b))) H) : rIsB (.bl a) (.bl b) H Q := ⟨a, b, rfl, rfl, q⟩
theorem r_notBl {a b : Bool} (q : Q (.bl (!decide (a = b))) H) : rNotB (.bl a) (.bl b) H Q := ⟨a, b, rfl, rfl, q⟩
/-- an int among ints -/
theorem inV_ints (z : Int) (ns : List Int) : inV (.int z) (ns.map V.int) = decide (z ∈ ns) := by
  unfold inV
  rw [List.any_map]
  by_cases h : z ∈ ns
  · rw [decide_eq_true h, List.any_eq_true]
    exact ⟨z, h, by show eqV (.int z) (.int z) = true; simp [eqV]⟩
  · rw [decide_eq_false h, Bool.eq_false_iff]
    intro c
    obtain ⟨y, m, e⟩ := List.any_eq_true.mp c
    have e' : eqV (.int y) (.int z) = true := e
    have : y = z := by simpa [eqV] using e'
    exact h (this ▸ m)
theorem r_inL {a : Addr} {z : Int} {ns : List Int} (h : SqL K H a (ns.map V.int)) (q : Q (.bl (decide (z ∈ ns))) H) : rIn K false (.int z) (.ref a) H Q := by
  refine ⟨a, _, rfl, .inl h, rfl, ?_, ?_⟩
  · rw [List.all_eq_true]
    intro v m
    obtain ⟨y, _, rfl⟩ := List.mem_map.mp m
    rfl
  · rw [if_neg (by decide), inV_ints]
    exact q
theorem r_niL {a : Addr} {z : Int} {ns : List Int} (h : SqL K H a (ns.map V.int)) (q : Q (.bl (!decide (z ∈ ns))) H) : rIn K true (.int z) (.ref a) H Q := by
  refine ⟨a, _, rfl, .inl h, rfl, ?_, ?_⟩
  · rw [List.all_eq_true]
    intro v m
    obtain ⟨y, _, rfl⟩ := List.mem_map.mp m
    rfl
  · rw [if_pos rfl, inV_ints]
    exact q
end
end Vb
local macro_rules | `(tactic| walk_at "rd1") => `(tactic| first
  | (with_reducible refine' Vb.r_var ?h_ ?k_); (case h_ => exact rfl)
  | with_reducible refine Vb.r_c ?_
  | with_reducible refine Vb.r_op ?_
  | with_reducible refine Vb.r_un ?_
  | with_reducible refine Vb.r_I0 ?_
  | (with_reducible refine Vb.r_I ?h_ ?_); (case h_ => walk_at "side")
  | with_reducible refine Vb.r_U ?_
  | with_reducible refine Vb.r_eqI ?_
  | with_reducible refine Vb.r_neI ?_
  | with_reducible refine Vb.r_test ?_
  | with_reducible refine Vb.r_tB ?_
  | with_reducible refine Vb.r_bl ?_
  | with_reducible refine Vb.r_and ?_
  | with_reducible refine Vb.r_or ?_
  | with_reducible refine Vb.r_not ?_
  | with_reducible refine Vb.r_andV ?_
  | with_reducible refine Vb.r_orV ?_
  | with_reducible refine Vb.r_notV ?_
  | with_reducible refine Vb.r_if ?_
  | with_reducible refine Vb.r_chain ?_
  | with_reducible refine Vb.r_iteT ?_
  | with_reducible refine Vb.r_iteF ?_
  | with_reducible refine Vb.r_iteNT ?_
  | with_reducible refine Vb.r_iteNF ?_
  | with_reducible refine Vb.r_nil ?_
  | with_reducible refine Vb.r_cons ?_
  | with_reducible refine Vb.r_tup ?_
  | with_reducible refine Vb.r_lst ?_
  | with_reducible refine Vb.r_CB ?_
  | with_reducible refine Vb.r_callS ?_
  | with_reducible refine Vb.r_call ?_
  | with_reducible refine Vb.r_BM ?_
  | with_reducible refine Vb.r_seq_set ?_
  | with_reducible refine Vb.r_seq_sub ?_
  | with_reducible refine Vb.r_seq_when ?_
  | with_reducible refine Vb.r_seq_if ?_
  | with_reducible refine Vb.r_seq_drop ?_
  | with_reducible refine Vb.r_seq ?_
  | with_reducible refine Vb.r_set ?_
  | with_reducible refine Vb.r_sub ?_
  | with_reducible refine Vb.r_when ?_
  | with_reducible refine Vb.r_ifs ?_
  | with_reducible refine Vb.r_drop ?_
  | with_reducible refine Vb.r_ret ?_
  | with_reducible refine Vb.r_brk ?_
  | with_reducible refine Vb.r_cnt ?_
  | with_reducible refine Vb.r_nxt ?_
  | with_reducible refine Vb.r_for ?_
  | with_reducible refine Vb.r_rng1 ?_
  | with_reducible refine Vb.r_rng2 ?_
  | with_reducible refine Vb.r_iList ?_
  | with_reducible refine Vb.r_gName ?_
  | with_reducible refine Vb.r_lc ?_
  | with_reducible refine Vb.lct_yes ?_
  | with_reducible refine Vb.lct_if ?_
  | with_reducible refine Vb.r_rng3 ?_
  | with_reducible refine Vb.r_rngW ?_
  | with_reducible refine Vb.r_eqBs ?_
  | with_reducible refine Vb.r_eqB ?_
  | with_reducible refine Vb.r_neB ?_
  | with_reducible refine Vb.r_eqS ?_
  | with_reducible refine Vb.r_neS ?_
  | with_reducible refine Vb.r_revL ?_
  | with_reducible refine Vb.r_isBl ?_
  | with_reducible refine Vb.r_notBl ?_
  | with_reducible refine Vb.r_sl ?_
  | with_reducible refine Vb.r_noP ?_
  | with_reducible refine Vb.r_part ?_
  | with_reducible refine Vb.r_iTup ?_
  | with_reducible refine Vb.r_isN ?_
  | with_reducible refine Vb.r_notN ?_
  | with_reducible refine Vb.r_BM0 ?_
  | with_reducible refine Vb.r_abs ?_
  | with_reducible refine Vb.r_max2 ?_
  | with_reducible refine Vb.r_min2 ?_
  | with_reducible refine Vb.r_int ?_
  | with_reducible refine Vb.r_intB ?_
  | (with_reducible refine' Vb.r_ixL ?h1_ ?h2_ ?k_); (case h1_ => walk_at "hp"); (case h2_ => walk_at "at")
  | (with_reducible refine' Vb.r_ixT ?h1_ ?h2_ ?k_); (case h1_ => walk_at "hp"); (case h2_ => walk_at "at")
  | (with_reducible refine' Vb.r_len ?h1_ ?k_); (case h1_ => walk_at "hp")
  | (with_reducible refine' Vb.r_lenT ?h1_ ?k_); (case h1_ => walk_at "hp")
  | (with_reducible refine' Vb.r_setL ?h1_ ?h2_ ?k_); (case h1_ => walk_at "hp"); (case h2_ => walk_at "at")
  | (with_reducible refine' Vb.r_rev ?h1_ ?k_); (case h1_ => walk_at "hp")
  | (with_reducible refine' Vb.r_isB ?h1_ ?h2_ ?k_); (case h1_ => assumption); (case h2_ => first | exact (rfl : _ = true) | exact (rfl : _ = false) | exact rfl)
  | (with_reducible refine' Vb.r_isI ?h1_ ?h2_ ?k_); (case h1_ => assumption); (case h2_ => first | exact (rfl : _ = true) | exact (rfl : _ = false) | exact rfl)
  | (with_reducible refine' Vb.r_isS ?h1_ ?h2_ ?k_); (case h1_ => assumption); (case h2_ => first | exact (rfl : _ = true) | exact (rfl : _ = false) | exact rfl)
  | (with_reducible refine' Vb.r_isL ?h1_ ?h2_ ?k_); (case h1_ => assumption); (case h2_ => first | exact (rfl : _ = true) | exact (rfl : _ = false) | exact rfl)
  | (with_reducible refine' Vb.r_isT ?h1_ ?h2_ ?k_); (case h1_ => assumption); (case h2_ => first | exact (rfl : _ = true) | exact (rfl : _ = false) | exact rfl)
  | (with_reducible refine Vb.f_rng1 ?h1_ ?h2_ ?_); (case h1_ => walk_at "side"); (case h2_ => walk_at "side")
  | (with_reducible refine Vb.f_rng2 ?h1_ ?_); (case h1_ => walk_at "side4")
  | (with_reducible refine Vb.c_rng1 ?h1_ ?h2_ ?_); (case h1_ => walk_at "side"); (case h2_ => walk_at "side")
  | (with_reducible refine Vb.c_rng2 ?h1_ ?_); (case h1_ => walk_at "side4")
  | (with_reducible refine' Vb.f_list ?h1_ ?k_); (case h1_ => walk_at "hp")
  | (with_reducible refine' Vb.f_tup ?h1_ ?k_); (case h1_ => walk_at "hp")
  | (with_reducible refine' Vb.c_list ?h1_ ?k_); (case h1_ => walk_at "hp")
  | (with_reducible refine' Vb.c_tup ?h1_ ?k_); (case h1_ => walk_at "hp")
  | (with_reducible refine Vb.f_rngW ?h1_ ?_); (case h1_ => walk_at "sideW")
  | (with_reducible refine Vb.c_rngW ?h1_ ?_); (case h1_ => walk_at "sideW")
  | (with_reducible refine' Vb.r_ty ?h1_ ?k_); (case h1_ => walk_at "hp")
  | (with_reducible refine' Vb.r_isXr ?h1_ ?h2_ ?k_); (case h1_ => assumption); (case h2_ => walk_at "xd")
  | (with_reducible refine' Vb.r_isXt ?h1_ ?h2_ ?k_); (case h1_ => assumption); (case h2_ => walk_at "xd")
  | (with_reducible refine Vb.r_xf ?_)
  | (with_reducible refine' Vb.r_app ?h1_ ?h2_ ?k_); (case h1_ => walk_at "hp"); (case h2_ => walk_at "side"))
local macro_rules | `(tactic| walk_at "rd") => `(tactic| repeat walk_at "rd1")
local macro_rules | `(tactic| walk_at "side") => `(tactic| first | decide | omega | assumption | (refine Vb.size_lt ?_; (try simp only [List.length_map, List.length_append, List.length_cons, List.length_nil]); omega) | (refine Vb.size_ok ?_; (try simp only [List.length_map, List.length_append, List.length_cons, List.length_nil]); omega) | exact ⟨by decide, by decide +kernel⟩ | (constructor <;> omega) | (refine Or.inl ⟨?_, ?_⟩ <;> omega) | (refine Or.inr ⟨?_, ?_⟩ <;> omega) | (refine Or.inr ⟨?_, ?_⟩ <;> decide) | (refine Or.inl ⟨?_, ?_⟩ <;> decide))
local macro_rules | `(tactic| walk_at "hp") => `(tactic| first
  | assumption
  | exact L2.upd_same
  | ((with_reducible apply Vb.sq_of); walk_at "hp")
  | ((with_reducible apply Vb.st_of); walk_at "hp")
  | ((with_reducible refine' Vb.h_new (by assumption) ?k_); walk_at "hp")
  | ((with_reducible refine' Vb.h_ne (by assumption) ?k_); walk_at "hp")
  | ((with_reducible refine' Vb.h_ne (Ne.symm (by assumption)) ?k_); walk_at "hp"))
local macro_rules | `(tactic| walk_at "at") => `(tactic| first | exact Vb.at_lit 0 rfl rfl | exact Vb.at_lit 1 rfl rfl | exact Vb.at_lit 2 rfl rfl | exact Vb.at_lit 3 rfl rfl | exact Vb.at_lit 4 rfl rfl | exact Vb.ix_lit 1 rfl rfl | exact Vb.ix_lit 2 rfl rfl | exact Vb.ix_lit 3 rfl rfl | exact Vb.ix_lit 0 rfl rfl | exact Vb.ix_lit 4 rfl rfl | exact Vb.at_lit _ (by omega) (by assumption))
local macro_rules | `(tactic| walk_at "fr") => `(tactic| (refine ⟨fun b o n h => ?_⟩; walk_at "hp"))
local macro_rules | `(tactic| walk_at "side4") => `(tactic| (refine ⟨?_, ?_, ?_, ?_⟩ <;> omega))
local macro_rules | `(tactic| walk_at "sideW") => `(tactic| first | (refine Or.inl ⟨?_, ?_, ?_, ?_⟩ <;> omega) | (refine Or.inr ?_; omega) | omega)
local macro_rules | `(tactic| walk_at "xd") => `(tactic| first | exact Or.inl rfl | exact Or.inr ⟨_, _, rfl, by walk_at "hp"⟩)

namespace K
open PySem PySem.Spec PyProof.Rows L2
def topS (i : Nat) : Stmt := PySem.Challenge.pw_sumtalk_k00_primes_are_listed.main.body.getD i (.Pass ⟨0, 0, 0, 0⟩)
abbrev s_NotPrime___init__ : Stmt := inClass (topS 2) 0
abbrev s_NotInField___init__ : Stmt := inClass (topS 3) 0
abbrev s_is_whole : Stmt := topS 7
abbrev s_is_prime : Stmt := topS 11
abbrev s_primes_to : Stmt := topS 12
abbrev s_check_prime : Stmt := topS 13
abbrev s__law_mix : Stmt := topS 15
abbrev s__law_store : Stmt := topS 16
abbrev s__law_take : Stmt := topS 17
abbrev s__law_edge : Stmt := topS 18
abbrev s__law_pick : Stmt := topS 19
abbrev s__law_other_kind : Stmt := topS 20
abbrev s__law_primes : Stmt := topS 21
abbrev s__law_prime : Stmt := topS 22
abbrev s__law_bad_prime : Stmt := topS 23
abbrev s__law_same : Stmt := topS 24
abbrev s__law_copy : Stmt := topS 25
abbrev s__law_spoil_list : Stmt := topS 26
abbrev s__law_listed : Stmt := topS 27
abbrev s__law_divided : Stmt := topS 28
abbrev s__law_limit : Stmt := topS 29
abbrev s__law_beyond : Stmt := topS 30
abbrev s__law_refused : Stmt := topS 31
abbrev s__law_lists : Stmt := topS 32
abbrev s__law_tells : Stmt := topS 33
abbrev s__law_values : Stmt := topS 34
abbrev s_law : Stmt := topS 35
/-! what the top has written -/
structure Txt (K : PySem.W.Frag) (mg : Str → Option Value) where
  C_TalkError : Addr
  x_TalkError : Vb.Xn K mg "TalkError" C_TalkError
  C_NotPrime : Addr
  I_NotPrime : Addr
  i_NotPrime : PySem.Lowvalue.LowTxt K mg "NotPrime" "NotPrime.__init__" C_NotPrime I_NotPrime
  C_NotInField : Addr
  I_NotInField : Addr
  i_NotInField : PySem.Lowvalue.LowTxt K mg "NotInField" "NotInField.__init__" C_NotInField I_NotInField
  C_OutOfRange : Addr
  x_OutOfRange : Vb.Xn K mg "OutOfRange" C_OutOfRange
  C_TooLarge : Addr
  x_TooLarge : Vb.Xn K mg "TooLarge" C_TooLarge
  xk_TooLarge : Vb.Xk K C_TooLarge
  xk_NotPrime : Vb.Xk K C_NotPrime
  k_TooLarge_TalkError : PySem.W.kitOne K (.ref C_TooLarge) (.ref C_TalkError) = some true
  k_TooLarge_ValueError : PySem.W.kitOne K (.ref C_TooLarge) (.type "ValueError") = some true
  k_TooLarge_NotPrime : PySem.W.kitOne K (.ref C_TooLarge) (.ref C_NotPrime) = some false
  k_TooLarge_OutOfRange : PySem.W.kitOne K (.ref C_TooLarge) (.ref C_OutOfRange) = some false
  k_TooLarge_NotInField : PySem.W.kitOne K (.ref C_TooLarge) (.ref C_NotInField) = some false
  k_NotPrime_TalkError : PySem.W.kitOne K (.ref C_NotPrime) (.ref C_TalkError) = some true
  k_NotPrime_ValueError : PySem.W.kitOne K (.ref C_NotPrime) (.type "ValueError") = some true
  k_NotPrime_TooLarge : PySem.W.kitOne K (.ref C_NotPrime) (.ref C_TooLarge) = some false
  k_NotPrime_OutOfRange : PySem.W.kitOne K (.ref C_NotPrime) (.ref C_OutOfRange) = some false
  k_NotPrime_NotInField : PySem.W.kitOne K (.ref C_NotPrime) (.ref C_NotInField) = some false
  f_is_whole : Addr
  fd_is_whole : FuncData
  d_is_whole : Vb.Dn K mg "is_whole" s_is_whole ["value"] f_is_whole fd_is_whole
  f_is_prime : Addr
  fd_is_prime : FuncData
  d_is_prime : Vb.Dn K mg "is_prime" s_is_prime ["value"] f_is_prime fd_is_prime
  f_primes_to : Addr
  fd_primes_to : FuncData
  d_primes_to : Vb.Dn K mg "primes_to" s_primes_to ["limit"] f_primes_to fd_primes_to
  f_check_prime : Addr
  fd_check_prime : FuncData
  d_check_prime : Vb.Dn K mg "check_prime" s_check_prime ["prime"] f_check_prime fd_check_prime
  f__law_mix : Addr
  fd__law_mix : FuncData
  d__law_mix : Vb.Dn K mg "_law_mix" s__law_mix ["number", "turn"] f__law_mix fd__law_mix
  f__law_store : Addr
  fd__law_store : FuncData
  d__law_store : Vb.Dn K mg "_law_store" s__law_store ["script"] f__law_store fd__law_store
  f__law_take : Addr
  fd__law_take : FuncData
  d__law_take : Vb.Dn K mg "_law_take" s__law_take ["store", "many"] f__law_take fd__law_take
  f__law_edge : Addr
  fd__law_edge : FuncData
  d__law_edge : Vb.Dn K mg "_law_edge" s__law_edge ["store", "low", "high"] f__law_edge fd__law_edge
  f__law_pick : Addr
  fd__law_pick : FuncData
  d__law_pick : Vb.Dn K mg "_law_pick" s__law_pick ["store", "row"] f__law_pick fd__law_pick
  f__law_other_kind : Addr
  fd__law_other_kind : FuncData
  d__law_other_kind : Vb.Dn K mg "_law_other_kind" s__law_other_kind ["store"] f__law_other_kind fd__law_other_kind
  f__law_primes : Addr
  fd__law_primes : FuncData
  d__law_primes : Vb.Dn K mg "_law_primes" s__law_primes ["limit"] f__law_primes fd__law_primes
  f__law_prime : Addr
  fd__law_prime : FuncData
  d__law_prime : Vb.Dn K mg "_law_prime" s__law_prime ["store"] f__law_prime fd__law_prime
  f__law_bad_prime : Addr
  fd__law_bad_prime : FuncData
  d__law_bad_prime : Vb.Dn K mg "_law_bad_prime" s__law_bad_prime ["store"] f__law_bad_prime fd__law_bad_prime
  f__law_same : Addr
  fd__law_same : FuncData
  d__law_same : Vb.Dn K mg "_law_same" s__law_same ["actual", "expected"] f__law_same fd__law_same
  f__law_copy : Addr
  fd__law_copy : FuncData
  d__law_copy : Vb.Dn K mg "_law_copy" s__law_copy ["value"] f__law_copy fd__law_copy
  f__law_spoil_list : Addr
  fd__law_spoil_list : FuncData
  d__law_spoil_list : Vb.Dn K mg "_law_spoil_list" s__law_spoil_list ["row"] f__law_spoil_list fd__law_spoil_list
  f__law_listed : Addr
  fd__law_listed : FuncData
  d__law_listed : Vb.Dn K mg "_law_listed" s__law_listed ["limit"] f__law_listed fd__law_listed
  f__law_divided : Addr
  fd__law_divided : FuncData
  d__law_divided : Vb.Dn K mg "_law_divided" s__law_divided ["number"] f__law_divided fd__law_divided
  f__law_limit : Addr
  fd__law_limit : FuncData
  d__law_limit : Vb.Dn K mg "_law_limit" s__law_limit ["store"] f__law_limit fd__law_limit
  f__law_beyond : Addr
  fd__law_beyond : FuncData
  d__law_beyond : Vb.Dn K mg "_law_beyond" s__law_beyond ["many", "value"] f__law_beyond fd__law_beyond
  f__law_refused : Addr
  fd__law_refused : FuncData
  d__law_refused : Vb.Dn K mg "_law_refused" s__law_refused ["value"] f__law_refused fd__law_refused
  f__law_lists : Addr
  fd__law_lists : FuncData
  d__law_lists : Vb.Dn K mg "_law_lists" s__law_lists ["store"] f__law_lists fd__law_lists
  f__law_tells : Addr
  fd__law_tells : FuncData
  d__law_tells : Vb.Dn K mg "_law_tells" s__law_tells ["value"] f__law_tells fd__law_tells
  f__law_values : Addr
  fd__law_values : FuncData
  d__law_values : Vb.Dn K mg "_law_values" s__law_values ["store"] f__law_values fd__law_values
  f_law : Addr
  fd_law : FuncData
  d_law : Vb.Dn K mg "law" s_law ["script"] f_law fd_law
  t_MAX_PRIME : Tok
  c_MAX_PRIME : mg "MAX_PRIME" = some (.int 101 t_MAX_PRIME)
  t_MAX_TESTED : Tok
  c_MAX_TESTED : mg "MAX_TESTED" = some (.int 10000 t_MAX_TESTED)
  n_ValueError : mg "ValueError" = none
  n_max : mg "max" = none
  n_range : mg "range" = none
  n_isinstance : mg "isinstance" = none
  n_int : mg "int" = none
  n_str : mg "str" = none
  n_list : mg "list" = none
  n_tuple : mg "tuple" = none
  n_min : mg "min" = none
  n_len : mg "len" = none
  n_bool : mg "bool" = none
  n_abs : mg "abs" = none
abbrev N__law_mix : List Str := ["number", "turn", "one", "two", "three"]
theorem sc__law_mix : FnScope N__law_mix ["number", "turn"] (defScope s__law_mix) := ⟨rfl, rfl, rfl, by decide +kernel, rfl, by decide +kernel, by decide +kernel⟩
abbrev N__law_take : List Str := ["store", "many", "cell", "rest"]
theorem sc__law_take : FnScope N__law_take ["store", "many"] (defScope s__law_take) := ⟨rfl, rfl, rfl, by decide +kernel, rfl, by decide +kernel, by decide +kernel⟩
section
variable {P : Program} {w : World} {K : PySem.W.Frag} {mg : Str → Option Value} {base : Heap}
def sp_mix (K : PySem.W.Frag) : Sp := fun vs H Q _ => ∃ a b : Int, vs = [.int a, .int b] ∧ ∀ r : Int, Q (.int r) H
theorem ok_mix (T : Txt K mg) : FnOk P w K mg base (L2N.CX P w) 1 T.f__law_mix T.fd__law_mix ["number", "turn"] (sp_mix K) := by
  refine Vb.okN T.d__law_mix.F sc__law_mix (fun vs H Q E h => ?_) (fun cdv A outer s H vs Q E hr h => ?_)
  · obtain ⟨a, b, rfl, _⟩ := h
    rfl
  · obtain ⟨a, b, rfl, q⟩ := h
    refine ⟨_, (pss_cons (ps_set (i := 2) sc__law_mix.nd rfl (by first | exact Or.inl rfl | exact Or.inr rfl) (pe_op op_mod (pe_callTy Vb.call_int (by rfl) T.n_int (by decide +kernel) (pa_cons (pe_op op_add (pe_op op_add (pe_op op_mul (pv 0) pe_int) (pe_op op_mul (pv 1) pe_int)) pe_int) pa_nil)) pe_int))
      (pss_cons (ps_set (i := 3) sc__law_mix.nd rfl (by first | exact Or.inl rfl | exact Or.inr rfl) (pe_op op_mod (pe_callTy Vb.call_int (by rfl) T.n_int (by decide +kernel) (pa_cons (pe_op op_add (pe_op op_add (pe_op op_mul (pv 2) (pv 2)) (pe_op op_mul (pv 1) pe_int)) pe_int) pa_nil)) pe_int))
      (pss_cons (ps_set (i := 4) sc__law_mix.nd rfl (by first | exact Or.inl rfl | exact Or.inr rfl) (pe_op op_mod (pe_callTy Vb.call_int (by rfl) T.n_int (by decide +kernel) (pa_cons (pe_op op_add (pe_op op_mul (pv 3) (pe_op op_add (pe_op op_fdiv (pv 3) pe_int) pe_int)) (pv 2)) pa_nil)) pe_int))
      (pss_one (ps_ret (pe_op op_fdiv (pv 4) pe_int)))))), ?_⟩
    (change (_ : L2.TS) _ ([some (.int a), some (.int b), none, none, none] : L2.St) _); try dsimp only [L2.cxOf, L2H.cxH]
    walk_at "rd"
    exact q _
def sp_take (K : PySem.W.Frag) : Sp := fun vs H Q _ => ∃ (st : Addr) (m : Int), vs = [.ref st, .int m] ∧ Vb.StoreAt H st ∧ m < 1073741824 ∧ ∀ (v : Int) (H' : Hp), 0 ≤ v → (1 < m → v < m) → (m ≤ 1 → v = 0) → Vb.Fr st H H' → Vb.StoreAt H' st → Q (.int v) H'
theorem use_mix {K : PySem.W.Frag} {a b : Int} {H : Hp} {Q : VK} {E : XK} (h : ∀ r : Int, Q (.int r) H) : sp_mix K [.int a, .int b] H Q E := ⟨a, b, rfl, h⟩
theorem ok_take (T : Txt K mg) : FnOk P w K mg base (L2N.CX P w) 2 T.f__law_take T.fd__law_take ["store", "many"] (sp_take K) := by
  have G__law_mix := ok_mix (P := P) (w := w) (base := base) T
  refine Vb.okN T.d__law_take.F sc__law_take (fun vs H Q E h => ?_) (fun cdv A outer s H vs Q E hr h => ?_)
  · obtain ⟨a, b, rfl, _⟩ := h
    rfl
  · obtain ⟨st, m, rfl, ⟨l, ns, pos, rest, turn, seed, hl, h1, h2, h3, h4⟩, hm, q⟩ := h
    refine ⟨_, (pss_cons (ps_set (i := 1) sc__law_take.nd rfl (by first | exact Or.inl rfl | exact Or.inr rfl) (pe_callB (Vb.call_max2 rfl) (by rfl) T.n_max (by decide +kernel) (pa_cons pe_int (pa_cons (pv 1) pa_nil))))
      (pss_cons (ps_asg (pe_op op_add (pe_callTy Vb.call_int (by rfl) T.n_int (by decide +kernel) (pa_cons (pe_ix ix_list (pv 0) pe_int (fun _ _ => rfl)) pa_nil)) pe_int) (pg_sub (pv 0) pe_int set_list))
      (pss_cons (ps_if (PW.pt (pw_and (pt_cmpR op_eq (pe_ix ix_list (pv 0) pe_int (fun _ _ => rfl)) pe_int (nomark _)) (pw_and1 (pt_cmpR op_lt (pe_ix ix_list (pv 0) pe_int (fun _ _ => rfl)) (pe_callB Vb.call_len (by rfl) T.n_len (by decide +kernel) (pa_cons (pe_ix ix_list (pv 0) pe_int (fun _ _ => rfl)) pa_nil)) (nomark _))))) (pss_cons (ps_set (i := 2) sc__law_take.nd rfl (by first | exact Or.inl rfl | exact Or.inr rfl) (pe_callTy Vb.call_int (by rfl) T.n_int (by decide +kernel) (pa_cons (pe_ix ix_list (pe_ix ix_list (pv 0) pe_int (fun _ _ => rfl)) (pe_ix ix_list (pv 0) pe_int (fun _ _ => rfl)) (fun _ _ => rfl)) pa_nil)))
      (pss_cons (ps_asg (pe_op op_add (pe_ix ix_list (pv 0) pe_int (fun _ _ => rfl)) pe_int) (pg_sub (pv 0) pe_int set_list))
      (pss_cons (ps_if (pt_cmpR op_lt (pe_callB Vb.call_abs (by rfl) T.n_abs (by decide +kernel) (pa_cons (pv 2) pa_nil)) (pe_op Vb.op_powB pe_int pe_int) (nomark _)) (pss_one (ps_ret (pe_op op_mod (pe_callTy Vb.call_int (by rfl) T.n_int (by decide +kernel) (pa_cons (pe_callS G__law_mix (hr.mono (by first | decide | omega)) (by rfl) T.d__law_mix.g T.d__law_mix.F.kp T.d__law_mix.b (fun σ => L2N.passAt (L2N.takes_of rfl rfl rfl rfl) σ) (pa_cons (pv 2) (pa_cons (pe_ix ix_list (pv 0) pe_int (fun _ _ => rfl)) pa_nil))) pa_nil)) (pv 1)))) pss_nil)
      (pss_one (ps_asg (pe_op op_mod (pe_callB Vb.call_abs (by rfl) T.n_abs (by decide +kernel) (pa_cons (pv 2) pa_nil)) (pe_op Vb.op_powB (pe_op Vb.op_powB pe_int pe_int) pe_int)) (pg_sub (pv 0) pe_int set_list)))))) pss_nil)
      (pss_cons (ps_if (pt_cmpR op_gt (pe_ix ix_list (pv 0) pe_int (fun _ _ => rfl)) pe_int (nomark _)) (pss_cons (ps_set (i := 3) sc__law_take.nd rfl (by first | exact Or.inl rfl | exact Or.inr rfl) (pe_callTy Vb.call_int (by rfl) T.n_int (by decide +kernel) (pa_cons (pe_ix ix_list (pv 0) pe_int (fun _ _ => rfl)) pa_nil)))
      (pss_cons (ps_asg (pe_op op_fdiv (pv 3) (pv 1)) (pg_sub (pv 0) pe_int set_list))
      (pss_one (ps_ret (pe_op op_mod (pv 3) (pv 1)))))) pss_nil)
      (pss_one (ps_ret (pe_op op_mod (pe_callTy Vb.call_int (by rfl) T.n_int (by decide +kernel) (pa_cons (pe_callS G__law_mix (hr.mono (by first | decide | omega)) (by rfl) T.d__law_mix.g T.d__law_mix.F.kp T.d__law_mix.b (fun σ => L2N.passAt (L2N.takes_of rfl rfl rfl rfl) σ) (pa_cons (pe_ix ix_list (pv 0) pe_int (fun _ _ => rfl)) (pa_cons (pe_ix ix_list (pv 0) pe_int (fun _ _ => rfl)) pa_nil))) pa_nil)) (pv 1)))))))), ?_⟩
    (change (_ : L2.TS) _ ([some (.ref st), some (.int m), none, none] : L2.St) _); try dsimp only [L2.cxOf, L2H.cxH]
    walk_at "rd"
    have hd : ∀ {H' : Hp} {t : List V}, H' st = some (.lst (.ref l :: t)) → ∀ (l' : Addr) (r : List V), H st = some (.lst (.ref l' :: r)) → ∃ r', H' st = some (.lst (.ref l' :: r')) := fun e l' r h => by
      rw [h1] at h
      cases h
      exact ⟨_, e⟩
    have hmm : 0 < (if m > 1 then m else 1) := by split <;> omega
    have hm2 : (if m > 1 then m else 1) < 1073741824 := by split <;> omega
    have out : ∀ (z : Int) (H' : Hp), Vb.Fr st H H' → Vb.StoreAt H' st → Q (.int (z % (if m > 1 then m else 1))) H' := fun z H' f1 f2 => by
      have e1 := Int.emod_nonneg z (show (if m > 1 then m else 1) ≠ 0 by omega)
      have e2 := Int.emod_lt_of_pos z hmm
      generalize z % (if m > 1 then m else 1) = r at e1 e2 ⊢
      refine q _ _ e1 (fun h => ?_) (fun h => ?_) f1 f2
      · rw [if_pos h] at e2; exact e2
      · rw [if_neg (by omega)] at e2; omega
    have nz : ∀ z : Int, 0 ≤ z → 0 ≤ z / (if m > 1 then m else 1) := fun z h => Int.ediv_nonneg h (by omega)
    generalize (if m > 1 then m else 1) = mm at hmm hm2 out nz ⊢
    refine Vb.r_ite (fun c1 => ?_) (fun c1 => ?_)
    · walk_at "rd"
      refine Vb.r_ite (fun c2 => ?_) (fun c2 => ?_)
      · walk_at "rd"
        rw [List.length_map] at c2
        have hz : (ns.map V.int)[pos.toNat]? = some (.int ns[pos.toNat]) := Vb.getV (by omega)
        refine Vb.r_ixL (by walk_at "hp") (Vb.at_lit pos.toNat (by omega) hz) ?_
        generalize ns[pos.toNat] = cell
        walk_at "rd"
        refine Vb.r_ite (fun c3 => ?_) (fun c3 => ?_)
        · walk_at "rd"
          refine use_mix fun r => ?_
          walk_at "rd"
          refine out _ _ ⟨fun b o n h => by walk_at "hp", hd L2.upd_same⟩ ⟨l, ns, pos + 1, rest, turn + 1, seed, hl, L2.upd_same, by walk_at "hp", by omega, h4⟩
        · walk_at "rd"
          have hg : 0 ≤ (if cell < 0 then -cell else cell) % (10 ^ Int.toNat 60) ^ Int.toNat 20 := Int.emod_nonneg _ (by decide +kernel)
          generalize (if cell < 0 then -cell else cell) % (10 ^ Int.toNat 60) ^ Int.toNat 20 = gr at hg ⊢
          refine Vb.r_ite (fun c4 => ?_) (fun c4 => ?_)
          · walk_at "rd"
            refine out _ _ ⟨fun b o n h => by walk_at "hp", hd L2.upd_same⟩ ⟨l, ns, pos + 1, gr / mm, turn + 1, seed, hl, L2.upd_same, by walk_at "hp", by omega, nz _ hg⟩
          · walk_at "rd"
            refine use_mix fun r => ?_
            walk_at "rd"
            refine out _ _ ⟨fun b o n h => by walk_at "hp", hd L2.upd_same⟩ ⟨l, ns, pos + 1, gr, turn + 1, seed, hl, L2.upd_same, by walk_at "hp", by omega, hg⟩
      · walk_at "rd"
        refine Vb.r_ite (fun c3 => absurd c3 (by omega)) (fun c3 => ?_)
        walk_at "rd"
        refine use_mix fun r => ?_
        walk_at "rd"
        refine out _ _ ⟨fun b o n h => by walk_at "hp", hd L2.upd_same⟩ ⟨l, ns, pos, rest, turn + 1, seed, hl, L2.upd_same, by walk_at "hp", by omega, h4⟩
    · walk_at "rd"
      refine Vb.r_ite (fun c3 => ?_) (fun c3 => absurd c3 (by omega))
      walk_at "rd"
      refine out _ _ ⟨fun b o n h => by walk_at "hp", hd L2.upd_same⟩ ⟨l, ns, pos, rest / mm, turn + 1, seed, hl, L2.upd_same, by walk_at "hp", h3, nz _ h4⟩
end
end K
namespace K
open PySem PySem.Spec PyProof.Rows L2


abbrev N__law_same : List Str := ["actual", "expected", "fitting", "k"]
theorem sc__law_same : FnScope N__law_same ["actual", "expected"] (defScope s__law_same) := ⟨rfl, rfl, rfl, by decide +kernel, rfl, by decide +kernel, by decide +kernel⟩
section
variable {P : Program} {w : World} {K : PySem.W.Frag} {mg : Str → Option Value} {base : Heap}
/-- two values of one piece of data are told to be the same; n: how deep it is -/
def sp_same (K : PySem.W.Frag) : Nat → Sp
  | 0 => fun _ _ _ _ => False
  | n + 1 => fun vs H Q _ => ∃ (v u : V) (d : PyData), vs = [v, u] ∧ Dp K H v d ∧ Dp K H u d ∧ Vb.DOk (n + 1) d ∧ Q (.bl true) H
theorem use_same {n : Nat} {v u : V} {H : Hp} {Q : VK} {E : XK} (d : PyData) (h1 : Dp K H v d) (h2 : Dp K H u d) (h3 : Vb.DOk (n + 1) d) (q : Q (.bl true) H) : sp_same K (n + 1) [v, u] H Q E := ⟨v, u, d, rfl, h1, h2, h3, q⟩
/-- the loop over the items -/
theorem same_items {n : Nat} {H : Hp} {xs ys : List V} {ds : List PyData} (a : DpAll K H xs ds) (b : DpAll K H ys ds) (h : ∀ d ∈ ds, Vb.DOk n d) {i : Nat} (hi : i < ds.length) : ∃ x y d, xs[i]? = some x ∧ ys[i]? = some y ∧ Dp K H x d ∧ Dp K H y d ∧ Vb.DOk n d := by
  obtain ⟨x, e1, h1⟩ := Vb.dpa_at a (List.getElem?_eq_getElem hi)
  obtain ⟨y, e2, h2⟩ := Vb.dpa_at b (List.getElem?_eq_getElem hi)
  exact ⟨x, y, ds[i], e1, e2, h1, h2, h _ (List.getElem_mem hi)⟩
theorem not_non {H : Hp} {v : V} {d : PyData} (h : Dp K H v d) (hd : d ≠ .none) : decide (v = .non) = false := by
  cases h with
  | non => exact absurd rfl hd
  | _ => rfl
theorem ok_same (T : Txt K mg) : ∀ n, FnOk P w K mg base (L2N.CX P w) (n + 1) T.f__law_same T.fd__law_same ["actual", "expected"] (sp_same K n)
  | 0 => ⟨fun _ _ _ _ h => h.elim, fun _ _ _ _ _ _ _ _ _ _ _ _ _ h => h.elim⟩
  | n + 1 => by
    have G__law_same := ok_same T n
    refine Vb.okN T.d__law_same.F sc__law_same (fun vs H Q E h => ?_) (fun cdv A outer s H vs Q E hr h => ?_)
    · obtain ⟨v, u, d, rfl, _⟩ := h
      rfl
    · obtain ⟨v, u, d, rfl, h1, h2, h3, q⟩ := h
      refine ⟨_, (pss_cons (ps_if (PW.pt (pw_or (pt_cmpR Vb.op_isN (pv 1) pe_non (nomark _)) (pw_or1 (pt_cmpR Vb.op_isN (pv 0) pe_non (nomark _))))) (pss_one (ps_ret (pe_and (pe_cmpR Vb.op_isN (pv 1) pe_non (nomark _)) (pe_one (pe_cmpR Vb.op_isN (pv 0) pe_non (nomark _)))))) pss_nil)
      (pss_cons (ps_if (PW.pt (pw_or (pt_val (pe_callB call_isi (by rfl) T.n_isinstance (by decide +kernel) (pa_cons (pv 1) (pa_cons (pe_bltn (v := .ty "bool") (by rfl) T.n_bool (by decide +kernel) rfl) pa_nil)))) (pw_or1 (pt_val (pe_callB call_isi (by rfl) T.n_isinstance (by decide +kernel) (pa_cons (pv 0) (pa_cons (pe_bltn (v := .ty "bool") (by rfl) T.n_bool (by decide +kernel) rfl) pa_nil))))))) (pss_one (ps_ret (pe_and (pe_callB call_isi (by rfl) T.n_isinstance (by decide +kernel) (pa_cons (pv 1) (pa_cons (pe_bltn (v := .ty "bool") (by rfl) T.n_bool (by decide +kernel) rfl) pa_nil))) (pe_and (pe_callB call_isi (by rfl) T.n_isinstance (by decide +kernel) (pa_cons (pv 0) (pa_cons (pe_bltn (v := .ty "bool") (by rfl) T.n_bool (by decide +kernel) rfl) pa_nil))) (pe_one (pe_cmpR op_eq (pv 0) (pv 1) (nomark _))))))) pss_nil)
      (pss_cons (ps_if (pt_val (pe_callB call_isi (by rfl) T.n_isinstance (by decide +kernel) (pa_cons (pv 1) (pa_cons (pe_bltn (v := .ty "int") (by rfl) T.n_int (by decide +kernel) rfl) pa_nil)))) (pss_one (ps_ret (pe_and (pe_callB call_isi (by rfl) T.n_isinstance (by decide +kernel) (pa_cons (pv 0) (pa_cons (pe_bltn (v := .ty "int") (by rfl) T.n_int (by decide +kernel) rfl) pa_nil))) (pe_one (pe_cmpR op_eq (pv 0) (pv 1) (nomark _)))))) pss_nil)
      (pss_cons (ps_if (pt_val (pe_callB call_isi (by rfl) T.n_isinstance (by decide +kernel) (pa_cons (pv 1) (pa_cons (pe_bltn (v := .ty "str") (by rfl) T.n_str (by decide +kernel) rfl) pa_nil)))) (pss_one (ps_ret (pe_and (pe_callB call_isi (by rfl) T.n_isinstance (by decide +kernel) (pa_cons (pv 0) (pa_cons (pe_bltn (v := .ty "str") (by rfl) T.n_str (by decide +kernel) rfl) pa_nil))) (pe_one (pe_cmpR op_eq (pv 0) (pv 1) (nomark _)))))) pss_nil)
      (pss_cons (ps_if (pt_val (pe_callB call_isi (by rfl) T.n_isinstance (by decide +kernel) (pa_cons (pv 1) (pa_cons (pe_bltn (v := .ty "list") (by rfl) T.n_list (by decide +kernel) rfl) pa_nil)))) (pss_one (ps_set (i := 2) sc__law_same.nd rfl (by first | exact Or.inl rfl | exact Or.inr rfl) (pe_callB call_isi (by rfl) T.n_isinstance (by decide +kernel) (pa_cons (pv 0) (pa_cons (pe_bltn (v := .ty "list") (by rfl) T.n_list (by decide +kernel) rfl) pa_nil))))) (pss_one (ps_set (i := 2) sc__law_same.nd rfl (by first | exact Or.inl rfl | exact Or.inr rfl) (pe_and (pe_callB call_isi (by rfl) T.n_isinstance (by decide +kernel) (pa_cons (pv 1) (pa_cons (pe_bltn (v := .ty "tuple") (by rfl) T.n_tuple (by decide +kernel) rfl) pa_nil))) (pe_one (pe_callB call_isi (by rfl) T.n_isinstance (by decide +kernel) (pa_cons (pv 0) (pa_cons (pe_bltn (v := .ty "tuple") (by rfl) T.n_tuple (by decide +kernel) rfl) pa_nil))))))))
      (pss_cons (ps_if (PW.pt (pw_or (pt_not (pt_val (pv 2))) (pw_or1 (pt_cmpR op_ne (pe_callB Vb.call_len (by rfl) T.n_len (by decide +kernel) (pa_cons (pv 0) pa_nil)) (pe_callB Vb.call_len (by rfl) T.n_len (by decide +kernel) (pa_cons (pv 1) pa_nil)) (nomark _))))) (pss_one (ps_ret pe_bl)) pss_nil)
      (pss_cons (ps_for (L2.passes_of rfl) rfl (pi_range1 rfl T.n_range (pa_cons (pe_callB Vb.call_len (by rfl) T.n_len (by decide +kernel) (pa_cons (pv 1) pa_nil)) pa_nil)) (pg_name (i := 3) sc__law_same.nd rfl (by first | exact Or.inl rfl | exact Or.inr rfl))
        (pss_one (ps_if (pt_not (pt_val (pe_callS G__law_same (hr.mono (by first | decide | omega)) (by rfl) T.d__law_same.g T.d__law_same.F.kp T.d__law_same.b (fun σ => L2N.passAt (L2N.takes_of rfl rfl rfl rfl) σ) (pa_cons (pe_ix ix_seq (pv 0) (pv 3) (fun _ _ => rfl)) (pa_cons (pe_ix ix_seq (pv 1) (pv 3) (fun _ _ => rfl)) pa_nil))))) (pss_one (ps_ret pe_bl)) pss_nil)))
      (pss_one (ps_ret pe_bl))))))))), ?_⟩
      (change (_ : L2.TS) _ ([some (v), some (u), none, none] : L2.St) _); try dsimp only [L2.cxOf, L2H.cxH]
      walk_at "rd"
      by_cases hn : d = .none
      · subst hn
        refine Vb.r_ite (fun _ => ?_) (fun c => absurd (Vb.is_non h2) c)
        walk_at "rd"
        refine Vb.r_ite (fun _ => ?_) (fun c => absurd (Vb.is_non h2) c)
        walk_at "rd"
        rw [decide_eq_true (Vb.is_non h1)]
        exact q
      refine Vb.r_ite (fun c => absurd c (Vb.not_non h2 hn)) (fun _ => ?_)
      walk_at "rd"
      refine Vb.r_ite (fun c => absurd c (Vb.not_non h1 hn)) (fun _ => ?_)
      cases d with
      | none => exact absurd rfl hn
      | bool b =>
        walk_at "rd"
        cases h1; cases h2
        refine ⟨rfl, ?_⟩
        rw [decide_eq_true rfl]
        exact q
      | int i =>
        walk_at "rd"
        cases h1; cases h2
        walk_at "rd"
        rw [decide_eq_true rfl]
        exact q
      | str x =>
        walk_at "rd"
        cases h1; cases h2
        refine ⟨rfl, ?_⟩
        rw [decide_eq_true rfl]
        exact q
      | list ds =>
        walk_at "rd"
        cases h1 with
        | @lst a xs _ s1 a1 =>
        cases h2 with
        | @lst b ys _ s2 a2 =>
        have l1 := Vb.dpa_len a1
        have l2 := Vb.dpa_len a2
        have hl := h3.1
        walk_at "rd"
        refine Vb.r_iteN (fun c => absurd (by omega) c) (fun _ => ?_)
        walk_at "rd"
        refine Vb.lp_range (fun i σ H' => i ≤ ds.length ∧ H' = H ∧ ∃ y, σ = [some (.ref a), some (.ref b), some (.bl true), y]) ⟨Nat.zero_le _, rfl, none, rfl⟩ ?_ ?_
        · rintro i σ H' hi ⟨_, rfl, y, rfl⟩
          have hi' : i < ds.length := by omega
          obtain ⟨x1, y1, d1, e1, e2, g1, g2, g3⟩ := same_items a1 a2 h3.2 hi'
          walk_at "rd"
          refine Vb.r_ixSL s1 (Vb.at_lit i (by omega) e1) ?_
          walk_at "rd"
          refine Vb.r_ixSL s2 (Vb.at_lit i (by omega) e2) ?_
          walk_at "rd"
          cases n with
          | zero => exact g3.elim
          | succ n =>
            refine use_same d1 g1 g2 g3 ?_
            walk_at "rd"
            exact ⟨by omega, rfl, _, rfl⟩
        · rintro σ H' ⟨_, rfl, y, rfl⟩
          walk_at "rd"
          exact q
      | tuple ds =>
        walk_at "rd"
        cases h1 with
        | @tup a xs _ s1 a1 =>
        cases h2 with
        | @tup b ys _ s2 a2 =>
        have l1 := Vb.dpa_len a1
        have l2 := Vb.dpa_len a2
        have hl := h3.1
        walk_at "rd"
        refine Vb.r_iteN (fun c => absurd (by omega) c) (fun _ => ?_)
        walk_at "rd"
        refine Vb.lp_range (fun i σ H' => i ≤ ds.length ∧ H' = H ∧ ∃ y, σ = [some (.ref a), some (.ref b), some (.bl true), y]) ⟨Nat.zero_le _, rfl, none, rfl⟩ ?_ ?_
        · rintro i σ H' hi ⟨_, rfl, y, rfl⟩
          have hi' : i < ds.length := by omega
          obtain ⟨x1, y1, d1, e1, e2, g1, g2, g3⟩ := same_items a1 a2 h3.2 hi'
          walk_at "rd"
          refine Vb.r_ixST s1 (Vb.at_lit i (by omega) e1) ?_
          walk_at "rd"
          refine Vb.r_ixST s2 (Vb.at_lit i (by omega) e2) ?_
          walk_at "rd"
          cases n with
          | zero => exact g3.elim
          | succ n =>
            refine use_same d1 g1 g2 g3 ?_
            walk_at "rd"
            exact ⟨by omega, rfl, _, rfl⟩
        · rintro σ H' ⟨_, rfl, y, rfl⟩
          walk_at "rd"
          exact q
      | dict kvs => cases h1
theorem okh_same (T : Txt K mg) : ∀ n, L2H.FnH P w K mg base CX0 (n + 1) T.f__law_same T.fd__law_same ["actual", "expected"] (sp_same K n)
  | 0 => ⟨fun _ _ _ _ h => h.elim, fun _ _ _ _ _ _ _ _ _ _ _ _ _ _ _ _ h => h.elim⟩
  | n + 1 => by
    have GH__law_same := okh_same T n
    refine Vb.okH T.d__law_same.F sc__law_same (fun vs H Q E h => ?_) (fun cdv A outer s H vs Q E p hot hr h => ?_)
    · obtain ⟨v, u, d, rfl, _⟩ := h
      rfl
    · obtain ⟨v, u, d, rfl, h1, h2, h3, q⟩ := h
      have hotc : L2H.HotC (L2H.cxH CX0 P w K mg base N__law_same "_law_same" (defScope s__law_same) T.f__law_same cdv A outer s H E p) := ⟨p, hot, List.mem_singleton.mpr rfl⟩
      refine ⟨_, (pss_cons (ps_if (PW.pt (pw_or (pt_cmpR Vb.op_isN (pv 1) pe_non (nomark _)) (pw_or1 (pt_cmpR Vb.op_isN (pv 0) pe_non (nomark _))))) (pss_one (ps_ret (pe_and (pe_cmpR Vb.op_isN (pv 1) pe_non (nomark _)) (pe_one (pe_cmpR Vb.op_isN (pv 0) pe_non (nomark _)))))) pss_nil)
      (pss_cons (ps_if (PW.pt (pw_or (pt_val (pe_callB call_isi (by rfl) T.n_isinstance (by decide +kernel) (pa_cons (pv 1) (pa_cons (pe_bltn (v := .ty "bool") (by rfl) T.n_bool (by decide +kernel) rfl) pa_nil)))) (pw_or1 (pt_val (pe_callB call_isi (by rfl) T.n_isinstance (by decide +kernel) (pa_cons (pv 0) (pa_cons (pe_bltn (v := .ty "bool") (by rfl) T.n_bool (by decide +kernel) rfl) pa_nil))))))) (pss_one (ps_ret (pe_and (pe_callB call_isi (by rfl) T.n_isinstance (by decide +kernel) (pa_cons (pv 1) (pa_cons (pe_bltn (v := .ty "bool") (by rfl) T.n_bool (by decide +kernel) rfl) pa_nil))) (pe_and (pe_callB call_isi (by rfl) T.n_isinstance (by decide +kernel) (pa_cons (pv 0) (pa_cons (pe_bltn (v := .ty "bool") (by rfl) T.n_bool (by decide +kernel) rfl) pa_nil))) (pe_one (pe_cmpR op_eq (pv 0) (pv 1) (nomark _))))))) pss_nil)
      (pss_cons (ps_if (pt_val (pe_callB call_isi (by rfl) T.n_isinstance (by decide +kernel) (pa_cons (pv 1) (pa_cons (pe_bltn (v := .ty "int") (by rfl) T.n_int (by decide +kernel) rfl) pa_nil)))) (pss_one (ps_ret (pe_and (pe_callB call_isi (by rfl) T.n_isinstance (by decide +kernel) (pa_cons (pv 0) (pa_cons (pe_bltn (v := .ty "int") (by rfl) T.n_int (by decide +kernel) rfl) pa_nil))) (pe_one (pe_cmpR op_eq (pv 0) (pv 1) (nomark _)))))) pss_nil)
      (pss_cons (ps_if (pt_val (pe_callB call_isi (by rfl) T.n_isinstance (by decide +kernel) (pa_cons (pv 1) (pa_cons (pe_bltn (v := .ty "str") (by rfl) T.n_str (by decide +kernel) rfl) pa_nil)))) (pss_one (ps_ret (pe_and (pe_callB call_isi (by rfl) T.n_isinstance (by decide +kernel) (pa_cons (pv 0) (pa_cons (pe_bltn (v := .ty "str") (by rfl) T.n_str (by decide +kernel) rfl) pa_nil))) (pe_one (pe_cmpR op_eq (pv 0) (pv 1) (nomark _)))))) pss_nil)
      (pss_cons (ps_if (pt_val (pe_callB call_isi (by rfl) T.n_isinstance (by decide +kernel) (pa_cons (pv 1) (pa_cons (pe_bltn (v := .ty "list") (by rfl) T.n_list (by decide +kernel) rfl) pa_nil)))) (pss_one (ps_set (i := 2) sc__law_same.nd rfl (by first | exact Or.inl rfl | exact Or.inr rfl) (pe_callB call_isi (by rfl) T.n_isinstance (by decide +kernel) (pa_cons (pv 0) (pa_cons (pe_bltn (v := .ty "list") (by rfl) T.n_list (by decide +kernel) rfl) pa_nil))))) (pss_one (ps_set (i := 2) sc__law_same.nd rfl (by first | exact Or.inl rfl | exact Or.inr rfl) (pe_and (pe_callB call_isi (by rfl) T.n_isinstance (by decide +kernel) (pa_cons (pv 1) (pa_cons (pe_bltn (v := .ty "tuple") (by rfl) T.n_tuple (by decide +kernel) rfl) pa_nil))) (pe_one (pe_callB call_isi (by rfl) T.n_isinstance (by decide +kernel) (pa_cons (pv 0) (pa_cons (pe_bltn (v := .ty "tuple") (by rfl) T.n_tuple (by decide +kernel) rfl) pa_nil))))))))
      (pss_cons (ps_if (PW.pt (pw_or (pt_not (pt_val (pv 2))) (pw_or1 (pt_cmpR op_ne (pe_callB Vb.call_len (by rfl) T.n_len (by decide +kernel) (pa_cons (pv 0) pa_nil)) (pe_callB Vb.call_len (by rfl) T.n_len (by decide +kernel) (pa_cons (pv 1) pa_nil)) (nomark _))))) (pss_one (ps_ret pe_bl)) pss_nil)
      (pss_cons (L2H.ps_forH (L2.passes_of rfl) hotc (L2H.pi_range1H rfl T.n_range (pa_cons (pe_callB Vb.call_len (by rfl) T.n_len (by decide +kernel) (pa_cons (pv 1) pa_nil)) pa_nil)) (pg_name (i := 3) sc__law_same.nd rfl (by first | exact Or.inl rfl | exact Or.inr rfl))
        (pss_one (ps_if (pt_not (pt_val (L2H.pe_callH GH__law_same (hr.mono (by first | decide | omega)) hotc rfl T.d__law_same.g T.d__law_same.F.kp T.d__law_same.b (fun σ => Vb.passH) (pa_cons (pe_ix ix_seq (pv 0) (pv 3) (fun _ _ => rfl)) (pa_cons (pe_ix ix_seq (pv 1) (pv 3) (fun _ _ => rfl)) pa_nil))))) (pss_one (ps_ret pe_bl)) pss_nil)))
      (pss_one (ps_ret pe_bl))))))))), ?_⟩
      (change (_ : L2.TS) _ ([some (v), some (u), none, none] : L2.St) _); try dsimp only [L2.cxOf, L2H.cxH]
      walk_at "rd"
      by_cases hn : d = .none
      · subst hn
        refine Vb.r_ite (fun _ => ?_) (fun c => absurd (Vb.is_non h2) c)
        walk_at "rd"
        refine Vb.r_ite (fun _ => ?_) (fun c => absurd (Vb.is_non h2) c)
        walk_at "rd"
        rw [decide_eq_true (Vb.is_non h1)]
        exact q
      refine Vb.r_ite (fun c => absurd c (Vb.not_non h2 hn)) (fun _ => ?_)
      walk_at "rd"
      refine Vb.r_ite (fun c => absurd c (Vb.not_non h1 hn)) (fun _ => ?_)
      cases d with
      | none => exact absurd rfl hn
      | bool b =>
        walk_at "rd"
        cases h1; cases h2
        refine ⟨rfl, ?_⟩
        rw [decide_eq_true rfl]
        exact q
      | int i =>
        walk_at "rd"
        cases h1; cases h2
        walk_at "rd"
        rw [decide_eq_true rfl]
        exact q
      | str x =>
        walk_at "rd"
        cases h1; cases h2
        refine ⟨rfl, ?_⟩
        rw [decide_eq_true rfl]
        exact q
      | list ds =>
        walk_at "rd"
        cases h1 with
        | @lst a xs _ s1 a1 =>
        cases h2 with
        | @lst b ys _ s2 a2 =>
        have l1 := Vb.dpa_len a1
        have l2 := Vb.dpa_len a2
        have hl := h3.1
        walk_at "rd"
        refine Vb.r_iteN (fun c => absurd (by omega) c) (fun _ => ?_)
        walk_at "rd"
        refine Vb.lp_range (fun i σ H' => i ≤ ds.length ∧ H' = H ∧ ∃ y, σ = [some (.ref a), some (.ref b), some (.bl true), y]) ⟨Nat.zero_le _, rfl, none, rfl⟩ ?_ ?_
        · rintro i σ H' hi ⟨_, rfl, y, rfl⟩
          have hi' : i < ds.length := by omega
          obtain ⟨x1, y1, d1, e1, e2, g1, g2, g3⟩ := same_items a1 a2 h3.2 hi'
          walk_at "rd"
          refine Vb.r_ixSL s1 (Vb.at_lit i (by omega) e1) ?_
          walk_at "rd"
          refine Vb.r_ixSL s2 (Vb.at_lit i (by omega) e2) ?_
          walk_at "rd"
          cases n with
          | zero => exact g3.elim
          | succ n =>
            refine use_same d1 g1 g2 g3 ?_
            walk_at "rd"
            exact ⟨by omega, rfl, _, rfl⟩
        · rintro σ H' ⟨_, rfl, y, rfl⟩
          walk_at "rd"
          exact q
      | tuple ds =>
        walk_at "rd"
        cases h1 with
        | @tup a xs _ s1 a1 =>
        cases h2 with
        | @tup b ys _ s2 a2 =>
        have l1 := Vb.dpa_len a1
        have l2 := Vb.dpa_len a2
        have hl := h3.1
        walk_at "rd"
        refine Vb.r_iteN (fun c => absurd (by omega) c) (fun _ => ?_)
        walk_at "rd"
        refine Vb.lp_range (fun i σ H' => i ≤ ds.length ∧ H' = H ∧ ∃ y, σ = [some (.ref a), some (.ref b), some (.bl true), y]) ⟨Nat.zero_le _, rfl, none, rfl⟩ ?_ ?_
        · rintro i σ H' hi ⟨_, rfl, y, rfl⟩
          have hi' : i < ds.length := by omega
          obtain ⟨x1, y1, d1, e1, e2, g1, g2, g3⟩ := same_items a1 a2 h3.2 hi'
          walk_at "rd"
          refine Vb.r_ixST s1 (Vb.at_lit i (by omega) e1) ?_
          walk_at "rd"
          refine Vb.r_ixST s2 (Vb.at_lit i (by omega) e2) ?_
          walk_at "rd"
          cases n with
          | zero => exact g3.elim
          | succ n =>
            refine use_same d1 g1 g2 g3 ?_
            walk_at "rd"
            exact ⟨by omega, rfl, _, rfl⟩
        · rintro σ H' ⟨_, rfl, y, rfl⟩
          walk_at "rd"
          exact q
      | dict kvs => cases h1
end
end K
namespace K
open PySem PySem.Spec PyProof.Rows L2

abbrev N__law_copy : List Str := ["value", "item"]
theorem sc__law_copy : FnScope N__law_copy ["value"] (defScope s__law_copy) := ⟨rfl, rfl, rfl, by decide +kernel, rfl, by decide +kernel, by decide +kernel⟩
section
variable {P : Program} {w : World} {K : PySem.W.Frag} {mg : Str → Option Value} {base : Heap}
/-- a copy: the same data; what it is made of is new, or was there but for Z -/
def sp_copy (K : PySem.W.Frag) : Nat → Sp
  | 0 => fun _ _ _ _ => False
  | n + 1 => fun vs H Q _ => ∃ (v : V) (d : PyData) (Z : List Addr), vs = [v] ∧ Vb.Trk Z H ∧ Dp K (Vb.offs Z H) v d ∧ Vb.DOk (n + 1) d ∧ ∀ (v' : V) (H' : Hp), Same H H' → Dp K (Vb.offs Z H') v' d → Q v' H'
theorem ok_copy (T : Txt K mg) : ∀ n, FnOk P w K mg base (L2N.CX P w) (n + 1) T.f__law_copy T.fd__law_copy ["value"] (sp_copy K n)
  | 0 => ⟨fun _ _ _ _ h => h.elim, fun _ _ _ _ _ _ _ _ _ _ _ _ _ h => h.elim⟩
  | n + 1 => by
    have G__law_copy := ok_copy T n
    refine Vb.okN T.d__law_copy.F sc__law_copy (fun vs H Q E h => ?_) (fun cdv A outer s H vs Q E hr h => ?_)
    · obtain ⟨v, d, Z, rfl, _⟩ := h
      rfl
    · obtain ⟨v, d, Z, rfl, t, h1, h3, q⟩ := h
      have h2 := Vb.dp_off h1
      refine ⟨_, (pss_cons (ps_if (pt_val (pe_callB call_isi (by rfl) T.n_isinstance (by decide +kernel) (pa_cons (pv 0) (pa_cons (pe_bltn (v := .ty "list") (by rfl) T.n_list (by decide +kernel) rfl) pa_nil)))) (pss_one (ps_ret (pe_lc (own := [("item", 1)]) (g := gName 1) (tt := tYes) rfl sc__law_copy.nd (pi_list (pv 0)) (blkOk_by (own := [("item", 1)]) (N := N__law_copy) (sc := defScope s__law_copy) (by decide +kernel)) (fun _ _ _ _ _ => (pg_name (i := 1) sc__law_copy.nd rfl (by first | exact Or.inl rfl | exact Or.inr rfl))) (fun _ _ _ _ _ => pts_nil) (fun _ _ _ _ _ => (pe_call G__law_copy (hr.mono (by first | decide | omega)) (by rfl) T.d__law_copy.g T.d__law_copy.F.kp T.d__law_copy.b .nil Vb.pass5 (pa_cons (pv 1) pa_nil)))))) pss_nil)
      (pss_cons (ps_if (pt_val (pe_callB call_isi (by rfl) T.n_isinstance (by decide +kernel) (pa_cons (pv 0) (pa_cons (pe_bltn (v := .ty "tuple") (by rfl) T.n_tuple (by decide +kernel) rfl) pa_nil)))) (pss_one (ps_ret (pe_callTy Vb.call_tuple (by rfl) T.n_tuple (by decide +kernel) (pa_cons (pe_lc (own := [("item", 1)]) (g := gName 1) (tt := tYes) rfl sc__law_copy.nd (pi_tup (pv 0)) (blkOk_by (own := [("item", 1)]) (N := N__law_copy) (sc := defScope s__law_copy) (by decide +kernel)) (fun _ _ _ _ _ => (pg_name (i := 1) sc__law_copy.nd rfl (by first | exact Or.inl rfl | exact Or.inr rfl))) (fun _ _ _ _ _ => pts_nil) (fun _ _ _ _ _ => (pe_call G__law_copy (hr.mono (by first | decide | omega)) (by rfl) T.d__law_copy.g T.d__law_copy.F.kp T.d__law_copy.b .nil Vb.pass5 (pa_cons (pv 1) pa_nil)))) pa_nil)))) pss_nil)
      (pss_one (ps_ret (pv 0))))), ?_⟩
      (change (_ : L2.TS) _ ([some (v), none] : L2.St) _); try dsimp only [L2.cxOf, L2H.cxH]
      cases d with
      | none =>
        walk_at "rd"
        exact q _ _ (Same.refl _) h1
      | bool b =>
        walk_at "rd"
        exact q _ _ (Same.refl _) h1
      | int i =>
        walk_at "rd"
        exact q _ _ (Same.refl _) h1
      | str x =>
        walk_at "rd"
        exact q _ _ (Same.refl _) h1
      | dict kvs => cases h1
      | list ds =>
        walk_at "rd"
        cases h1 with
        | @lst a xs _ s1 a1 =>
        have s2 : SqL K H a xs := Vb.offs_sub.seq s1
        have l1 := Vb.dpa_len a1
        have hl := h3.1
        walk_at "rd"
        intro D hD
        have hDZ := t.new hD
        refine Vb.lcw_list (xs := xs) (fun i H' => i ≤ ds.length ∧ Same H H' ∧ ∃ acc, H' D = some (.lst acc) ∧ acc.length = i ∧ DpAll K (Vb.offs (D :: Z) H') acc (ds.take i)) ⟨Nat.zero_le _, Vb.same_new hD, [], upd_same, rfl, .nil⟩ (fun x => rfl) (fun i H' _ p => p.2.1.seq s2) ?_ ?_
        · rintro i x H' hi ⟨_, e, acc, ha, la, da⟩
          obtain ⟨d, hd, hx⟩ := Vb.dpa_get a1 hi
          have hi' : i < ds.length := (List.getElem?_eq_some_iff.mp hd).1
          walk_at "rd"
          have hok := h3.2 d (List.mem_of_getElem? hd)
          cases n with
          | zero => exact hok.elim
          | succ n =>
            refine ⟨x, d, D :: Z, rfl, fun z m => ?_, Vb.dp_same (Vb.offs_same e) _ _ (Vb.dp_same (Vb.offs_new hD) _ _ hx), hok, fun v' H2 e2 hv => ?_⟩
            · rcases List.mem_cons.mp m with rfl | m
              · exact ⟨_, ha⟩
              · exact t.same e z m
            · refine ⟨acc, e2 _ _ ha, Vb.size_lt (by omega), by omega, Vb.same_mut (e.trans e2) hD, acc ++ [v'], upd_same, by rw [List.length_append, la]; rfl, ?_⟩
              have e3 : ds.take (i + 1) = ds.take i ++ [d] := by rw [List.take_add_one, hd]; rfl
              rw [e3]
              exact Vb.dpa_same Vb.offs_upd _ _ (Vb.dpa_app (Vb.dpa_same (Vb.offs_same e2) _ _ da) (.cons hv .nil))
        · rintro H' ⟨_, e, acc, ha, la, da⟩
          rw [List.take_of_length_le (by omega)] at da
          exact q _ _ e (.lst (Vb.sq_of (Vb.offs_of hDZ ha)) (Vb.dpa_same Vb.offs_more _ _ da))
      | tuple ds =>
        walk_at "rd"
        cases h1 with
        | @tup a xs _ s1 a1 =>
        have s2 : SqT K H a xs := Vb.same_sqt Vb.offs_sub s1
        have l1 := Vb.dpa_len a1
        have hl := h3.1
        walk_at "rd"
        intro D hD
        have hDZ := t.new hD
        refine Vb.lcw_tup (xs := xs) (fun i H' => i ≤ ds.length ∧ Same H H' ∧ ∃ acc, H' D = some (.lst acc) ∧ acc.length = i ∧ DpAll K (Vb.offs (D :: Z) H') acc (ds.take i)) ⟨Nat.zero_le _, Vb.same_new hD, [], upd_same, rfl, .nil⟩ (fun x => rfl) (fun i H' _ p => Vb.same_sqt p.2.1 s2) ?_ ?_
        · rintro i x H' hi ⟨_, e, acc, ha, la, da⟩
          obtain ⟨d, hd, hx⟩ := Vb.dpa_get a1 hi
          have hi' : i < ds.length := (List.getElem?_eq_some_iff.mp hd).1
          walk_at "rd"
          have hok := h3.2 d (List.mem_of_getElem? hd)
          cases n with
          | zero => exact hok.elim
          | succ n =>
            refine ⟨x, d, D :: Z, rfl, fun z m => ?_, Vb.dp_same (Vb.offs_same e) _ _ (Vb.dp_same (Vb.offs_new hD) _ _ hx), hok, fun v' H2 e2 hv => ?_⟩
            · rcases List.mem_cons.mp m with rfl | m
              · exact ⟨_, ha⟩
              · exact t.same e z m
            · refine ⟨acc, e2 _ _ ha, Vb.size_lt (by omega), by omega, Vb.same_mut (e.trans e2) hD, acc ++ [v'], upd_same, by rw [List.length_append, la]; rfl, ?_⟩
              have e3 : ds.take (i + 1) = ds.take i ++ [d] := by rw [List.take_add_one, hd]; rfl
              rw [e3]
              exact Vb.dpa_same Vb.offs_upd _ _ (Vb.dpa_app (Vb.dpa_same (Vb.offs_same e2) _ _ da) (.cons hv .nil))
        · rintro H' ⟨_, e, acc, ha, la, da⟩
          rw [List.take_of_length_le (by omega)] at da
          walk_at "rd"
          refine Vb.r_tupL (Vb.sq_of ha) fun p hp => ?_
          refine q _ _ (e.trans (Vb.same_new hp)) (.tup (Vb.st_of (Vb.offs_of ((t.same e).new hp) upd_same)) (Vb.dpa_same (Vb.offs_same (Vb.same_new hp)) _ _ (Vb.dpa_same Vb.offs_more _ _ da)))
end
end K
namespace K
open PySem PySem.Spec PyProof.Rows L2
abbrev N__law_store : List Str := ["script", "seed", "cell"]
theorem sc__law_store : FnScope N__law_store ["script"] (defScope s__law_store) := ⟨rfl, rfl, rfl, by decide +kernel, rfl, by decide +kernel, by decide +kernel⟩
abbrev N__law_edge : List Str := ["store", "low", "high", "many", "way"]
theorem sc__law_edge : FnScope N__law_edge ["store", "low", "high"] (defScope s__law_edge) := ⟨rfl, rfl, rfl, by decide +kernel, rfl, by decide +kernel, by decide +kernel⟩
abbrev N__law_pick : List Str := ["store", "row"]
theorem sc__law_pick : FnScope N__law_pick ["store", "row"] (defScope s__law_pick) := ⟨rfl, rfl, rfl, by decide +kernel, rfl, by decide +kernel, by decide +kernel⟩
abbrev N__law_other_kind : List Str := ["store"]
theorem sc__law_other_kind : FnScope N__law_other_kind ["store"] (defScope s__law_other_kind) := ⟨rfl, rfl, rfl, by decide +kernel, rfl, by decide +kernel, by decide +kernel⟩
section
variable {P : Program} {w : World} {K : PySem.W.Frag} {mg : Str → Option Value} {base : Heap}
def sp_store (K : PySem.W.Frag) : Sp := fun vs H Q _ => ∃ (a : Addr) (ns : List Int), vs = [.ref a] ∧ SqL K H a (ns.map V.int) ∧ ns.length ≤ 1000000 ∧ ∀ (st : Addr) (H' : Hp), H st = none → Same H H' → Vb.StoreAt H' st → Q (.ref st) H'
theorem ok_store (T : Txt K mg) : FnOk P w K mg base (L2N.CX P w) 1 T.f__law_store T.fd__law_store ["script"] (sp_store K) := by
  refine Vb.okN T.d__law_store.F sc__law_store (fun vs H Q E h => ?_) (fun cdv A outer s H vs Q E hr h => ?_)
  · obtain ⟨a, b, rfl, _⟩ := h
    rfl
  · obtain ⟨a, ns, rfl, hs, hl, q⟩ := h
    refine ⟨_, (pss_cons (ps_set (i := 1) sc__law_store.nd rfl (by first | exact Or.inl rfl | exact Or.inr rfl) pe_int)
      (pss_cons (ps_for (L2.passes_of rfl) rfl (pi_list (pv 0)) (pg_name (i := 2) sc__law_store.nd rfl (by first | exact Or.inl rfl | exact Or.inr rfl))
        (pss_one (ps_set (i := 1) sc__law_store.nd rfl (by first | exact Or.inl rfl | exact Or.inr rfl) (pe_op op_mod (pe_callTy Vb.call_int (by rfl) T.n_int (by decide +kernel) (pa_cons (pe_op op_add (pe_op op_add (pe_op op_mul (pv 1) pe_int) (pe_op op_mod (pe_callTy Vb.call_int (by rfl) T.n_int (by decide +kernel) (pa_cons (pv 2) pa_nil)) pe_int)) pe_int) pa_nil)) pe_int))))
      (pss_one (ps_ret (pe_lst (pa_cons (pe_callTy Vb.call_list (by rfl) T.n_list (by decide +kernel) (pa_cons (pv 0) pa_nil)) (pa_cons pe_int (pa_cons pe_int (pa_cons pe_int (pa_cons (pv 1) pa_nil)))))))))), ?_⟩
    (change (_ : L2.TS) _ ([some (.ref a), none, none] : L2.St) _); try dsimp only [L2.cxOf, L2H.cxH]
    walk_at "rd"
    refine Vb.lp_list (xs := ns.map V.int) (fun i σ H' => H' = H ∧ ∃ (z : Int) (y : Option V), σ = [some (.ref a), some (.int z), y]) ⟨rfl, 1, none, rfl⟩ (fun i σ H' _ p => by rw [p.1]; exact hs) ?_ ?_
    · rintro i x σ H' hi ⟨rfl, z, y, rfl⟩
      obtain ⟨c, _, rfl⟩ := Vb.getV' hi
      walk_at "rd"
      exact ⟨rfl, _, _, rfl⟩
    · rintro σ H' ⟨rfl, z, y, rfl⟩
      walk_at "rd"
      refine Vb.r_list hs fun l hn => ?_
      walk_at "rd"
      refine ⟨Vb.size_ok (by show 5 ≤ 16777216; decide), fun st hst => ?_⟩
      have hlst : l ≠ st := fun e => by rw [e, upd_same] at hst; cases hst
      have hst' : H' st = none := by rw [← hst, upd_ne hlst.symm]
      refine q st _ hst' (Same.trans (Vb.same_new hn) (Vb.same_new hst)) ⟨l, ns, 0, 0, 0, z, hlst, upd_same, by walk_at "hp", by omega, by omega⟩
theorem use_take {st : Addr} {m : Int} {H : Hp} {Q : VK} {E : XK} (h1 : Vb.StoreAt H st) (h2 : m < 1073741824) (h : ∀ (v : Int) (H' : Hp), 0 ≤ v → (1 < m → v < m) → (m ≤ 1 → v = 0) → Vb.Fr st H H' → Vb.StoreAt H' st → Q (.int v) H') : sp_take K [.ref st, .int m] H Q E := ⟨st, m, rfl, h1, h2, h⟩
def sp_edge (K : PySem.W.Frag) : Sp := fun vs H Q _ => ∃ (st : Addr) (lo hi : Int), vs = [.ref st, .int lo, .int hi] ∧ Vb.StoreAt H st ∧ hi - lo < 1073741823 ∧ ∀ (v : Int) (H' : Hp), lo ≤ v → (lo ≤ hi → v ≤ hi) → (hi ≤ lo → v = lo) → Vb.Fr st H H' → Vb.StoreAt H' st → Q (.int v) H'
theorem use_edge {st : Addr} {lo hi : Int} {H : Hp} {Q : VK} {E : XK} (h1 : Vb.StoreAt H st) (h2 : hi - lo < 1073741823) (h : ∀ (v : Int) (H' : Hp), lo ≤ v → (lo ≤ hi → v ≤ hi) → (hi ≤ lo → v = lo) → Vb.Fr st H H' → Vb.StoreAt H' st → Q (.int v) H') : sp_edge K [.ref st, .int lo, .int hi] H Q E := ⟨st, lo, hi, rfl, h1, h2, h⟩
theorem ok_edge (T : Txt K mg) : FnOk P w K mg base (L2N.CX P w) 3 T.f__law_edge T.fd__law_edge ["store", "low", "high"] (sp_edge K) := by
  have G__law_take := ok_take (P := P) (w := w) (base := base) T
  refine Vb.okN T.d__law_edge.F sc__law_edge (fun vs H Q E h => ?_) (fun cdv A outer s H vs Q E hr h => ?_)
  · obtain ⟨a, b, c, rfl, _⟩ := h
    rfl
  · obtain ⟨st, lo, hi, rfl, hS, hb, q⟩ := h
    refine ⟨_, (pss_cons (ps_set (i := 3) sc__law_edge.nd rfl (by first | exact Or.inl rfl | exact Or.inr rfl) (pe_op op_add (pe_callB (Vb.call_max2 rfl) (by rfl) T.n_max (by decide +kernel) (pa_cons pe_int (pa_cons (pe_op op_sub (pv 2) (pv 1)) pa_nil))) pe_int))
      (pss_cons (ps_set (i := 4) sc__law_edge.nd rfl (by first | exact Or.inl rfl | exact Or.inr rfl) (pe_callS G__law_take (hr.mono (by first | decide | omega)) (by rfl) T.d__law_take.g T.d__law_take.F.kp T.d__law_take.b (fun σ => L2N.passAt (L2N.takes_of rfl rfl rfl rfl) σ) (pa_cons (pv 0) (pa_cons pe_int pa_nil))))
      (pss_cons (ps_if (pt_cmpR op_eq (pv 4) pe_int (nomark _)) (pss_one (ps_ret (pv 1))) pss_nil)
      (pss_cons (ps_if (pt_cmpR op_eq (pv 4) pe_int (nomark _)) (pss_one (ps_ret (pe_op op_sub (pe_op op_add (pv 1) (pv 3)) pe_int))) pss_nil)
      (pss_cons (ps_if (pt_cmpR op_eq (pv 4) pe_int (nomark _)) (pss_one (ps_ret (pe_op op_add (pv 1) (pe_callB (Vb.call_min2 rfl) (by rfl) T.n_min (by decide +kernel) (pa_cons (pe_op op_sub (pv 3) pe_int) (pa_cons pe_int pa_nil)))))) pss_nil)
      (pss_one (ps_ret (pe_op op_add (pv 1) (pe_callS G__law_take (hr.mono (by first | decide | omega)) (by rfl) T.d__law_take.g T.d__law_take.F.kp T.d__law_take.b (fun σ => L2N.passAt (L2N.takes_of rfl rfl rfl rfl) σ) (pa_cons (pv 0) (pa_cons (pv 3) pa_nil))))))))))), ?_⟩
    (change (_ : L2.TS) _ ([some (.ref st), some (.int lo), some (.int hi), none, none] : L2.St) _); try dsimp only [L2.cxOf, L2H.cxH]
    walk_at "rd"
    have hm : 0 < (if hi - lo > 0 then hi - lo else 0) + 1 ∧ (if hi - lo > 0 then hi - lo else 0) + 1 < 1073741824 ∧ (lo ≤ hi → (if hi - lo > 0 then hi - lo else 0) + 1 = hi - lo + 1) ∧ (hi ≤ lo → (if hi - lo > 0 then hi - lo else 0) + 1 = 1) := by
      split <;> omega
    generalize (if hi - lo > 0 then hi - lo else 0) + 1 = m at hm ⊢
    obtain ⟨m1, m2, m3, m4⟩ := hm
    refine use_take hS (by decide) fun v1 H1 a1 a2 _ f1 S1 => ?_
    walk_at "rd"
    refine Vb.r_ite (fun c1 => ?_) (fun c1 => ?_)
    · walk_at "rd"
      exact q _ _ (by omega) (by omega) (by omega) f1 S1
    · walk_at "rd"
      refine Vb.r_ite (fun c2 => ?_) (fun c2 => ?_)
      · walk_at "rd"
        exact q _ _ (by omega) (by omega) (by omega) f1 S1
      · walk_at "rd"
        refine Vb.r_ite (fun c3 => ?_) (fun c3 => ?_)
        · walk_at "rd"
          refine q _ _ ?_ ?_ ?_ f1 S1 <;> split <;> omega
        · walk_at "rd"
          refine use_take S1 (by omega) fun v2 H2 b1 b2 b3 f2 S2 => ?_
          walk_at "rd"
          exact q _ _ (by omega) (by omega) (by omega) (f1.trans f2) S2
def sp_pick (K : PySem.W.Frag) : Sp := fun vs H Q _ => ∃ (st a : Addr) (xs : List V), vs = [.ref st, .ref a] ∧ Vb.StoreAt H st ∧ a ≠ st ∧ SqL K H a xs ∧ xs.length < 1000000 ∧ (xs = [] → Q .non H) ∧ ∀ (i : Nat) (v : V) (H' : Hp), xs[i]? = some v → Vb.Fr st H H' → Vb.StoreAt H' st → Q v H'
theorem use_pick {st a : Addr} {H : Hp} {Q : VK} {E : XK} (xs : List V) (h1 : Vb.StoreAt H st) (h2 : a ≠ st) (h3 : SqL K H a xs) (h4 : xs.length < 1000000) (h5 : xs ≠ []) (h : ∀ (i : Nat) (v : V) (H' : Hp), xs[i]? = some v → Vb.Fr st H H' → Vb.StoreAt H' st → Q v H') : sp_pick K [.ref st, .ref a] H Q E := ⟨st, a, xs, rfl, h1, h2, h3, h4, fun e => absurd e h5, h⟩
theorem ok_pick (T : Txt K mg) : FnOk P w K mg base (L2N.CX P w) 3 T.f__law_pick T.fd__law_pick ["store", "row"] (sp_pick K) := by
  have G__law_take := ok_take (P := P) (w := w) (base := base) T
  refine Vb.okN T.d__law_pick.F sc__law_pick (fun vs H Q E h => ?_) (fun cdv A outer s H vs Q E hr h => ?_)
  · obtain ⟨a, b, c, rfl, _⟩ := h
    rfl
  · obtain ⟨st, a, xs, rfl, hS, hne, hx, hb, q0, q⟩ := h
    refine ⟨_, (pss_cons (ps_if (pt_cmpR op_eq (pe_callB Vb.call_len (by rfl) T.n_len (by decide +kernel) (pa_cons (pv 1) pa_nil)) pe_int (nomark _)) (pss_one (ps_ret pe_non)) pss_nil)
      (pss_one (ps_ret (pe_ix ix_list (pv 1) (pe_callS G__law_take (hr.mono (by first | decide | omega)) (by rfl) T.d__law_take.g T.d__law_take.F.kp T.d__law_take.b (fun σ => L2N.passAt (L2N.takes_of rfl rfl rfl rfl) σ) (pa_cons (pv 0) (pa_cons (pe_callB Vb.call_len (by rfl) T.n_len (by decide +kernel) (pa_cons (pv 1) pa_nil)) pa_nil))) (fun _ _ => rfl))))), ?_⟩
    (change (_ : L2.TS) _ ([some (.ref st), some (.ref a)] : L2.St) _); try dsimp only [L2.cxOf, L2H.cxH]
    walk_at "rd"
    refine Vb.r_ite (fun c1 => ?_) (fun c1 => ?_)
    · walk_at "rd"
      exact q0 (List.eq_nil_of_length_eq_zero (by omega))
    · walk_at "rd"
      refine use_take hS (by omega) fun v H1 a1 a2 a3 f1 S1 => ?_
      have hlt : v.toNat < xs.length := by omega
      refine Vb.r_ixL (f1.seq hne hx) (Vb.at_lit v.toNat (by omega) (List.getElem?_eq_getElem hlt)) ?_
      exact q _ _ _ (List.getElem?_eq_getElem hlt) f1 S1
/-- a value that is no integer -/
def oddKinds : List PyData := [.bool true, .bool false, .none, .str "", .str "0", .str "1", .str "a", .tuple [], .tuple [.int 0]]
def sp_kind (K : PySem.W.Frag) : Sp := fun vs H Q _ => ∃ (st : Addr), vs = [.ref st] ∧ Vb.StoreAt H st ∧ ∀ (v : V) (d : PyData) (H' : Hp), d ∈ oddKinds → Vb.Fr st H H' → Vb.StoreAt H' st → (∀ Z, Vb.Trk Z H → Dp K (Vb.offs (st :: Z) H') v d) → Q v H'
theorem use_kind {st : Addr} {H : Hp} {Q : VK} {E : XK} (h1 : Vb.StoreAt H st) (h : ∀ (v : V) (d : PyData) (H' : Hp), d ∈ oddKinds → Vb.Fr st H H' → Vb.StoreAt H' st → (∀ Z, Vb.Trk Z H → Dp K (Vb.offs (st :: Z) H') v d) → Q v H') : sp_kind K [.ref st] H Q E := ⟨st, rfl, h1, h⟩
theorem ok_kind (T : Txt K mg) : FnOk P w K mg base (L2N.CX P w) 4 T.f__law_other_kind T.fd__law_other_kind ["store"] (sp_kind K) := by
  have G__law_pick := ok_pick (P := P) (w := w) (base := base) T
  refine Vb.okN T.d__law_other_kind.F sc__law_other_kind (fun vs H Q E h => ?_) (fun cdv A outer s H vs Q E hr h => ?_)
  · obtain ⟨a, rfl, _⟩ := h
    rfl
  · obtain ⟨st, rfl, hS, q⟩ := h
    refine ⟨_, (pss_one (ps_ret (pe_callS G__law_pick (hr.mono (by first | decide | omega)) (by rfl) T.d__law_pick.g T.d__law_pick.F.kp T.d__law_pick.b (fun σ => L2N.passAt (L2N.takes_of rfl rfl rfl rfl) σ) (pa_cons (pv 0) (pa_cons (pe_lst (pa_cons pe_bl (pa_cons pe_bl (pa_cons pe_non (pa_cons pe_str (pa_cons pe_str (pa_cons pe_str (pa_cons pe_str (pa_cons (pe_tup pa_nil) (pa_cons (pe_tup (pa_cons pe_int pa_nil)) pa_nil)))))))))) pa_nil))))), ?_⟩
    (change (_ : L2.TS) _ ([some (.ref st)] : L2.St) _); try dsimp only [L2.cxOf, L2H.cxH]
    walk_at "rd"
    refine ⟨Vb.size_ok (by decide), fun p hp => ?_⟩
    walk_at "rd"
    refine ⟨Vb.size_ok (by show 1 ≤ 16777216; decide), fun r hr => ?_⟩
    walk_at "rd"
    refine ⟨Vb.size_ok (by show 9 ≤ 16777216; decide), fun l hl => ?_⟩
    walk_at "rd"
    have e1 := Vb.same_new (o := .tup []) hp
    have e2 := Vb.same_new (o := .tup [.int 0]) hr
    have e3 := Vb.same_new (o := .lst [.bl true, .bl false, .non, .str "", .str "0", .str "1", .str "a", .ref p, .ref r]) hl
    have e := (e1.trans e2).trans e3
    have n1 := hS.ne hp
    have n2 := (hS.same e1).ne hr
    have n3 := (hS.same (e1.trans e2)).ne hl
    refine use_pick _ (hS.same e) n3 (Vb.sq_of upd_same) (by show 9 < 1000000; decide) (by simp) fun i v H' hv f S => ?_
    have hp' : H' p = some (.tup []) := f.k _ _ n1 (e3 _ _ (e2 _ _ upd_same))
    have hr' : H' r = some (.tup [.int 0]) := f.k _ _ n2 (e3 _ _ upd_same)
    have f' : Vb.Fr st H H' := (Vb.Fr.of e).trans f
    obtain ⟨d, hd⟩ : ∃ d, oddKinds[i]? = some d := by
      have h9 : i < 9 := (List.getElem?_eq_some_iff.mp hv).1
      exact ⟨_, List.getElem?_eq_getElem (show i < oddKinds.length from h9)⟩
    refine q _ _ _ (List.mem_of_getElem? hd) f' S fun Z t => ?_
    have m1 : p ∉ st :: Z := fun m => (List.mem_cons.mp m).elim n1 (t.new hp)
    have m2 : r ∉ st :: Z := fun m => (List.mem_cons.mp m).elim n2 ((t.same e1).new hr)
    have all : DpAll K (Vb.offs (st :: Z) H') [.bl true, .bl false, .non, .str "", .str "0", .str "1", .str "a", .ref p, .ref r] oddKinds :=
      .cons (.bl _) (.cons (.bl _) (.cons .non (.cons (.str _) (.cons (.str _) (.cons (.str _) (.cons (.str _) (.cons (Vb.dp_tup (Vb.offs_of m1 hp') .nil) (.cons (Vb.dp_tup (Vb.offs_of m2 hr') (.cons (.int 0) .nil)) .nil))))))))
    obtain ⟨d', hd', g⟩ := Vb.dpa_get all hv
    rw [hd] at hd'
    cases hd'
    exact g
end
end K
namespace K
open PySem PySem.Spec PyProof.Rows L2
abbrev N_is_whole : List Str := ["value"]
theorem sc_is_whole : FnScope N_is_whole ["value"] (defScope s_is_whole) := ⟨rfl, rfl, rfl, by decide +kernel, rfl, by decide +kernel, by decide +kernel⟩
abbrev N_is_prime : List Str := ["value", "divisor"]
theorem sc_is_prime : FnScope N_is_prime ["value"] (defScope s_is_prime) := ⟨rfl, rfl, rfl, by decide +kernel, rfl, by decide +kernel, by decide +kernel⟩
abbrev N_primes_to : List Str := ["limit", "number"]
theorem sc_primes_to : FnScope N_primes_to ["limit"] (defScope s_primes_to) := ⟨rfl, rfl, rfl, by decide +kernel, rfl, by decide +kernel, by decide +kernel⟩
abbrev N_check_prime : List Str := ["prime"]
theorem sc_check_prime : FnScope N_check_prime ["prime"] (defScope s_check_prime) := ⟨rfl, rfl, rfl, by decide +kernel, rfl, by decide +kernel, by decide +kernel⟩
section
variable {P : Program} {w : World} {K : PySem.W.Frag} {mg : Str → Option Value} {base : Heap}
def whole : PyData → Bool | .int _ => true | _ => false
def sp_whole (K : PySem.W.Frag) : Sp := fun vs H Q _ => ∃ (v : V) (d : PyData), vs = [v] ∧ Dp K H v d ∧ Q (.bl (whole d)) H
theorem use_whole {v : V} {d : PyData} {b : Bool} {H : Hp} {Q : VK} {E : XK} (h : Dp K H v d) (e : whole d = b) (q : Q (.bl b) H) : sp_whole K [v] H Q E := ⟨v, d, rfl, h, by rw [e]; exact q⟩
theorem ok_whole (T : Txt K mg) : FnOk P w K mg base (L2N.CX P w) 1 T.f_is_whole T.fd_is_whole ["value"] (sp_whole K) := by
  refine Vb.okN T.d_is_whole.F sc_is_whole (fun vs H Q E h => ?_) (fun cdv A outer s H vs Q E hr h => ?_)
  · obtain ⟨a, b, rfl, _⟩ := h
    rfl
  · obtain ⟨v, d, rfl, hd, q⟩ := h
    refine ⟨_, (pss_one (ps_ret (pe_and (pe_callB call_isi (by rfl) T.n_isinstance (by decide +kernel) (pa_cons (pv 0) (pa_cons (pe_bltn (v := .ty "int") (by rfl) T.n_int (by decide +kernel) rfl) pa_nil))) (pe_one (pe_not (pe_callB call_isi (by rfl) T.n_isinstance (by decide +kernel) (pa_cons (pv 0) (pa_cons (pe_bltn (v := .ty "bool") (by rfl) T.n_bool (by decide +kernel) rfl) pa_nil)))))))), ?_⟩
    (change (_ : L2.TS) _ ([some (v)] : L2.St) _); try dsimp only [L2.cxOf, L2H.cxH]
    cases d <;> (walk_at "rd"; exact q)
/-- is_prime -/
def sp_isprime (K : PySem.W.Frag) (C : Addr) : Sp := fun vs H Q E => ∃ (v : V) (d : PyData), vs = [v] ∧ Dp K H v d ∧ (∀ n, d = .int n → (10000 < n → E (.ref C) none H) ∧ (n ≤ 10000 → Q (.bl (Vb.isP n)) H)) ∧ (whole d = false → Q (.bl false) H)
theorem use_isprime {C : Addr} {n : Int} {b : Bool} {H : Hp} {Q : VK} {E : XK} (h : n ≤ 10000) (e : Vb.isP n = b) (q : Q (.bl b) H) : sp_isprime K C [.int n] H Q E := ⟨.int n, .int n, rfl, .int n, fun m z => by cases z; exact ⟨fun h' => absurd h (by omega), fun _ => by rw [e]; exact q⟩, fun z => by cases z⟩
theorem ok_isprime (T : Txt K mg) : FnOk P w K mg base (L2N.CX P w) 2 T.f_is_prime T.fd_is_prime ["value"] (sp_isprime K T.C_TooLarge) := by
  have G_is_whole := ok_whole (P := P) (w := w) (base := base) T
  refine Vb.okN T.d_is_prime.F sc_is_prime (fun vs H Q E h => ?_) (fun cdv A outer s H vs Q E hr h => ?_)
  · obtain ⟨a, b, rfl, _⟩ := h
    rfl
  · obtain ⟨v, d, rfl, hd, q1, q2⟩ := h
    refine ⟨_, (pss_cons (ps_if (pt_not (pt_val (pe_callS G_is_whole (hr.mono (by first | decide | omega)) (by rfl) T.d_is_whole.g T.d_is_whole.F.kp T.d_is_whole.b (fun σ => L2N.passAt (L2N.takes_of rfl rfl rfl rfl) σ) (pa_cons (pv 0) pa_nil)))) (pss_one (ps_ret pe_bl)) pss_nil)
      (pss_cons (ps_if (pt_cmpR op_gt (pv 0) (pe_glob (v := .int 10000) (by rfl) T.c_MAX_TESTED ⟨_, rfl⟩) (nomark _)) (pss_one (L2N.ps_raise rfl (L2N.takes_of rfl rfl rfl rfl) (Vb.pmk0 T.x_TooLarge rfl))) pss_nil)
      (pss_cons (ps_set (i := 1) sc_is_prime.nd rfl (by first | exact Or.inl rfl | exact Or.inr rfl) pe_int)
      (pss_cons (ps_while (L2.passes_of rfl) (pt_cmpR op_le (pe_op op_mul (pv 1) (pv 1)) (pv 0) (nomark _)) (pss_cons (ps_if (pt_cmpR op_eq (pe_op op_mod (pv 0) (pv 1)) pe_int (nomark _)) (pss_one (ps_ret pe_bl)) pss_nil)
      (pss_one (ps_set (i := 1) sc_is_prime.nd rfl (by first | exact Or.inl rfl | exact Or.inr rfl) (pe_op op_add (pv 1) pe_int)))))
      (pss_one (ps_ret (pe_cmpR op_gt (pv 0) pe_int (nomark _)))))))), ?_⟩
    (change (_ : L2.TS) _ ([some (v), none] : L2.St) _); try dsimp only [L2.cxOf, L2H.cxH]
    walk_at "rd"
    cases hw : whole d with
    | false =>
      refine use_whole hd hw ?_
      walk_at "rd"
      exact q2 hw
    | true =>
      refine use_whole hd hw ?_
      walk_at "rd"
      cases d with
      | int n =>
        cases hd
        obtain ⟨q3, q4⟩ := q1 n rfl
        walk_at "rd"
        refine Vb.r_ite (fun c1 => ?_) (fun c1 => ?_)
        · exact q3 c1
        walk_at "rd"
        refine Vb.r_while (fun m σ H' => H' = H ∧ ∃ D : Int, σ = [some (.int n), some (.int D)] ∧ 2 ≤ D ∧ D ≤ 10001 ∧ (∀ d : Int, 2 ≤ d → d < D → n % d ≠ 0) ∧ m = (n + 1 - D).toNat) _ ⟨rfl, 2, rfl, by omega, by omega, fun d a b => by omega, rfl⟩ ?_
        rintro m σ H' ⟨rfl, D, rfl, hD, hD1, hd, hm⟩
        have hDn : D * D ≤ n → D < n := fun h => by
          have : D * 2 ≤ D * D := Int.mul_le_mul_of_nonneg_left hD (by omega)
          omega
        walk_at "rd"
        refine Vb.r_ite (fun c2 => ?_) (fun c2 => ?_)
        · have hl := hDn c2
          refine Vb.wh_body ?_
          walk_at "rd"
          refine Vb.r_ite (fun c3 => ?_) (fun c3 => ?_)
          · walk_at "rd"
            have e : Vb.isP n = false := by
              cases z : Vb.isP n with
              | false => rfl
              | true => exact absurd ((Vb.isP_iff n).mp z) (Vb.not_prm hD hl c3)
            rw [← e]
            exact q4 (by omega)
          · walk_at "rd"
            refine ⟨_, ?_, rfl, D + 1, rfl, by omega, by omega, fun d a b => ?_, rfl⟩
            · omega
            · by_cases z : d = D
              · rw [z]; exact c3
              · exact hd d a (by omega)
        · walk_at "rd"
          have e : Vb.isP n = decide (1 < n) := by
            by_cases z : 1 < n
            · rw [decide_eq_true z, Vb.isP_iff]
              exact Vb.prm_root (by omega) hD (by omega) hd
            · rw [decide_eq_false z]
              cases y : Vb.isP n with
              | false => rfl
              | true => exact absurd ((Vb.isP_iff n).mp y).1 (by omega)
          rw [← e]
          exact q4 (by omega)
      | none => cases hw
      | bool b => cases hw
      | str x => cases hw
      | list ds => cases hw
      | tuple ds => cases hw
      | dict kvs => cases hw
/-- primes_to -/
def sp_primesto (K : PySem.W.Frag) (C : Addr) : Sp := fun vs H Q E => ∃ (n : Int), vs = [.int n] ∧ (10000 < n → E (.ref C) none H) ∧ (n ≤ 10000 → ∀ (p : Addr) (H' : Hp), H p = none → Same H H' → H' p = some (.lst ((Vb.upto n).map V.int)) → Q (.ref p) H')
theorem use_primesto {C : Addr} {n : Int} {H : Hp} {Q : VK} {E : XK} (h : n ≤ 10000) (q : ∀ (p : Addr) (H' : Hp), H p = none → Same H H' → H' p = some (.lst ((Vb.upto n).map V.int)) → Q (.ref p) H') : sp_primesto K C [.int n] H Q E := ⟨n, rfl, fun h' => absurd h (by omega), fun _ => q⟩
theorem ok_primesto (T : Txt K mg) : FnOk P w K mg base (L2N.CX P w) 3 T.f_primes_to T.fd_primes_to ["limit"] (sp_primesto K T.C_TooLarge) := by
  have G_is_prime := ok_isprime (P := P) (w := w) (base := base) T
  refine Vb.okN T.d_primes_to.F sc_primes_to (fun vs H Q E h => ?_) (fun cdv A outer s H vs Q E hr h => ?_)
  · obtain ⟨a, rfl, _⟩ := h
    rfl
  · obtain ⟨n, rfl, q1, q2⟩ := h
    refine ⟨_, (pss_cons (ps_if (pt_cmpR op_gt (pv 0) (pe_glob (v := .int 10000) (by rfl) T.c_MAX_TESTED ⟨_, rfl⟩) (nomark _)) (pss_one (L2N.ps_raise rfl (L2N.takes_of rfl rfl rfl rfl) (Vb.pmk0 T.x_TooLarge rfl))) pss_nil)
      (pss_one (ps_ret (pe_lc (own := [("number", 1)]) (g := gName 1) rfl sc_primes_to.nd (Vb.pi_rangeW rfl T.n_range (pa_cons pe_int (pa_cons (pe_op op_add (pv 0) pe_int) pa_nil))) (blkOk_by (own := [("number", 1)]) (N := N_primes_to) (sc := defScope s_primes_to) (by decide +kernel)) (fun _ _ _ _ _ => (pg_name (i := 1) sc_primes_to.nd rfl (by first | exact Or.inl rfl | exact Or.inr rfl))) (fun _ _ _ _ _ => pts_one (pt_val (pe_call G_is_prime (hr.mono (by first | decide | omega)) (by rfl) T.d_is_prime.g T.d_is_prime.F.kp T.d_is_prime.b .nil Vb.pass5 (pa_cons (pv 1) pa_nil)))) (fun _ _ _ _ _ => (pv 1)))))), ?_⟩
    (change (_ : L2.TS) _ ([some (.int n), none] : L2.St) _); try dsimp only [L2.cxOf, L2H.cxH]
    walk_at "rd"
    refine Vb.r_ite (fun c1 => ?_) (fun c1 => ?_)
    · exact q1 c1
    walk_at "rd"
    intro D hD
    refine Vb.lcw_range (fun i H' => i ≤ (n + 1 - 2).toNat ∧ Same H H' ∧ H' D = some (.lst ((Vb.upto (1 + i)).map V.int))) ⟨Nat.zero_le _, Vb.same_new hD, ?_⟩ (fun x => rfl) ?_ ?_
    · rw [Vb.upto_low (by omega)]
      exact upd_same
    · rintro i H' hi ⟨_, e, ha⟩
      have hl := Vb.upto_len (n := 1 + i)
      have hn := Vb.upto_next (n := 1 + i) (by omega)
      rw [show (1 : Int) + i + 1 = 2 + i by omega] at hn
      walk_at "rd"
      cases hp : Vb.isP (2 + i) with
      | true =>
        refine use_isprime (by omega) hp ?_
        walk_at "rd"
        refine ⟨_, ha, Vb.size_lt (by rw [List.length_map]; omega), by omega, Vb.same_mut e hD, ?_⟩
        rw [show (1 : Int) + ((i + 1 : Nat) : Int) = 2 + i by omega, hn, hp, if_pos rfl, List.map_append]
        exact upd_same
      | false =>
        refine use_isprime (by omega) hp ?_
        walk_at "rd"
        refine ⟨by omega, e, ?_⟩
        rw [show (1 : Int) + ((i + 1 : Nat) : Int) = 2 + i by omega, hn, hp, if_neg (by decide), List.append_nil]
        exact ha
    · rintro H' ⟨_, e, ha⟩
      refine q2 (by omega) D H' hD e ?_
      by_cases c2 : 1 ≤ n
      · rw [ha, show (1 : Int) + ((n + 1 - 2).toNat : Nat) = n by omega]
      · rw [ha, Vb.upto_low (by omega), Vb.upto_low (by omega)]
/-- check_prime -/
def field : PyData → Bool | .int p => decide (p ≤ 101) && Vb.isP p | _ => false
def sp_check (K : PySem.W.Frag) (C : Addr) : Sp := fun vs H Q E => ∃ (v : V) (d : PyData), vs = [v] ∧ Dp K H v d ∧ (field d = true → Q v H) ∧ (field d = false → ∀ dd : Addr, H dd = none → E (.ref C) (some dd) (upd H dd (.xd [("value", v)])))
theorem ok_check (T : Txt K mg) : FnOk P w K mg base (L2N.CX P w) 3 T.f_check_prime T.fd_check_prime ["prime"] (sp_check K T.C_NotPrime) := by
  have G_is_prime := ok_isprime (P := P) (w := w) (base := base) T
  have G_is_whole := ok_whole (P := P) (w := w) (base := base) T
  refine Vb.okN T.d_check_prime.F sc_check_prime (fun vs H Q E h => ?_) (fun cdv A outer s H vs Q E hr h => ?_)
  · obtain ⟨a, b, rfl, _⟩ := h
    rfl
  · obtain ⟨v, d, rfl, hd, q1, q2⟩ := h
    refine ⟨_, (pss_cons (ps_if (PW.pt (pw_or (pt_not (pt_val (pe_callS G_is_whole (hr.mono (by first | decide | omega)) (by rfl) T.d_is_whole.g T.d_is_whole.F.kp T.d_is_whole.b (fun σ => L2N.passAt (L2N.takes_of rfl rfl rfl rfl) σ) (pa_cons (pv 0) pa_nil)))) (pw_or (pt_cmpR op_gt (pv 0) (pe_glob (v := .int 101) (by rfl) T.c_MAX_PRIME ⟨_, rfl⟩) (nomark _)) (pw_or1 (pt_not (pt_val (pe_callS G_is_prime (hr.mono (by first | decide | omega)) (by rfl) T.d_is_prime.g T.d_is_prime.F.kp T.d_is_prime.b (fun σ => L2N.passAt (L2N.takes_of rfl rfl rfl rfl) σ) (pa_cons (pv 0) pa_nil)))))))) (pss_one (L2N.ps_raise rfl (L2N.takes_of rfl rfl rfl rfl) (L2.pmk_value T.i_NotPrime (hr.mono (by decide) : Room 1 _) (by exact (pa_cons (pv 0) pa_nil)) rfl))) pss_nil)
      (pss_one (ps_ret (pv 0)))), ?_⟩
    (change (_ : L2.TS) _ ([some (v)] : L2.St) _); try dsimp only [L2.cxOf, L2H.cxH]
    walk_at "rd"
    cases hw : whole d with
    | false =>
      refine use_whole hd hw ?_
      walk_at "rd"
      have hf : field d = false := by cases d <;> first | rfl | cases hw
      exact ⟨_, rfl, _, rfl, fun dd n => q2 hf dd n⟩
    | true =>
      refine use_whole hd hw ?_
      walk_at "rd"
      cases d with
      | int n =>
        cases hd
        walk_at "rd"
        refine Vb.r_ite (fun c1 => ?_) (fun c1 => ?_)
        · walk_at "rd"
          have hf : field (.int n) = false := by
            show (decide (n ≤ 101) && Vb.isP n) = false
            rw [decide_eq_false (by omega)]
            rfl
          exact ⟨_, rfl, _, rfl, fun dd n => q2 hf dd n⟩
        walk_at "rd"
        have hf : field (.int n) = Vb.isP n := by
          show (decide (n ≤ 101) && Vb.isP n) = _
          rw [decide_eq_true (by omega)]
          rfl
        cases hp : Vb.isP n with
        | true =>
          refine use_isprime (by omega) hp ?_
          walk_at "rd"
          exact q1 (hf.trans hp)
        | false =>
          refine use_isprime (by omega) hp ?_
          walk_at "rd"
          exact ⟨_, rfl, _, rfl, fun dd n => q2 (hf.trans hp) dd n⟩
      | none => cases hw
      | bool b => cases hw
      | str x => cases hw
      | list ds => cases hw
      | tuple ds => cases hw
      | dict kvs => cases hw
end
end K
namespace K
open PySem PySem.Spec PyProof.Rows L2

abbrev N__law_primes : List Str := ["limit", "primes", "number", "divided", "prime"]
theorem sc__law_primes : FnScope N__law_primes ["limit"] (defScope s__law_primes) := ⟨rfl, rfl, rfl, by decide +kernel, rfl, by decide +kernel, by decide +kernel⟩
abbrev N__law_divided : List Str := ["number", "small"]
theorem sc__law_divided : FnScope N__law_divided ["number"] (defScope s__law_divided) := ⟨rfl, rfl, rfl, by decide +kernel, rfl, by decide +kernel, by decide +kernel⟩
abbrev N__law_prime : List Str := ["store", "primes"]
theorem sc__law_prime : FnScope N__law_prime ["store"] (defScope s__law_prime) := ⟨rfl, rfl, rfl, by decide +kernel, rfl, by decide +kernel, by decide +kernel⟩
abbrev N__law_bad_prime : List Str := ["store", "way"]
theorem sc__law_bad_prime : FnScope N__law_bad_prime ["store"] (defScope s__law_bad_prime) := ⟨rfl, rfl, rfl, by decide +kernel, rfl, by decide +kernel, by decide +kernel⟩
section
variable {P : Program} {w : World} {K : PySem.W.Frag} {mg : Str → Option Value} {base : Heap}
def sp_primes (K : PySem.W.Frag) : Sp := fun vs H Q _ => ∃ (n : Int), vs = [.int n] ∧ 1 ≤ n ∧ n ≤ 10000 ∧ ∀ (p : Addr) (H' : Hp), H p = none → Same H H' → H' p = some (.lst ((Vb.upto n).map V.int)) → Q (.ref p) H'
theorem use_primes {n : Int} {H : Hp} {Q : VK} {E : XK} (h1 : 1 ≤ n) (h : n ≤ 10000) (q : ∀ (p : Addr) (H' : Hp), H p = none → Same H H' → H' p = some (.lst ((Vb.upto n).map V.int)) → Q (.ref p) H') : sp_primes K [.int n] H Q E := ⟨n, rfl, h1, h, q⟩
theorem ok_primes (T : Txt K mg) : FnOk P w K mg base (L2N.CX P w) 1 T.f__law_primes T.fd__law_primes ["limit"] (sp_primes K) := by
  refine Vb.okN T.d__law_primes.F sc__law_primes (fun vs H Q E h => ?_) (fun cdv A outer s H vs Q E hr h => ?_)
  · obtain ⟨a, rfl, _⟩ := h
    rfl
  · obtain ⟨n, rfl, hn1, hn, q⟩ := h
    refine ⟨_, (pss_cons (ps_set (i := 1) sc__law_primes.nd rfl (by first | exact Or.inl rfl | exact Or.inr rfl) (pe_lst pa_nil))
      (pss_cons (ps_for (L2.passes_of rfl) rfl (Vb.pi_rangeW rfl T.n_range (pa_cons pe_int (pa_cons (pe_op op_add (pv 0) pe_int) pa_nil))) (pg_name (i := 2) sc__law_primes.nd rfl (by first | exact Or.inl rfl | exact Or.inr rfl))
        (pss_cons (ps_set (i := 3) sc__law_primes.nd rfl (by first | exact Or.inl rfl | exact Or.inr rfl) pe_bl)
      (Evl.pss_cut (ps_for (L2.passes_of rfl) rfl (pi_list (pv 1)) (pg_name (i := 4) sc__law_primes.nd rfl (by first | exact Or.inl rfl | exact Or.inr rfl))
        (pss_cons (ps_if (pt_cmpR op_gt (pe_op op_mul (pv 4) (pv 4)) (pv 2) (nomark _)) (pss_one ps_break) pss_nil)
      (pss_one (ps_if (pt_cmpR op_eq (pe_op op_mod (pv 2) (pv 4)) pe_int (nomark _)) (pss_cons (ps_set (i := 3) sc__law_primes.nd rfl (by first | exact Or.inl rfl | exact Or.inr rfl) pe_bl)
      (pss_one ps_break)) pss_nil))))
      (pss_one (ps_if (pt_not (pt_val (pv 3))) (pss_one (ps_expr (pe_bm PySem.F.plainAttrs_list PySem.F.slot_list_append PySem.F.type_list_append mt_append (pv 1) (pa_cons (pv 2) pa_nil)))) pss_nil)))))
      (pss_one (ps_ret (pv 1))))), ?_⟩
    (change (_ : L2.TS) _ ([some (.int n), none, none, none, none] : L2.St) _); try dsimp only [L2.cxOf, L2H.cxH]
    walk_at "rd"
    refine ⟨Vb.size_ok (Nat.zero_le _), fun p hp => ?_⟩
    walk_at "rd"
    refine Vb.lp_range (fun i σ H' => i ≤ (n + 1 - 2).toNat ∧ Same H H' ∧ H' p = some (.lst ((Vb.upto (1 + i)).map V.int)) ∧ ∃ y2 y3 y4, σ = [some (.int n), some (.ref p), y2, y3, y4]) ⟨Nat.zero_le _, Vb.same_new hp, ?_, none, none, none, rfl⟩ ?_ ?_
    · rw [Vb.upto_low (by omega)]
      exact upd_same
    · rintro i σ H' hi ⟨_, e, ha, y2, y3, y4, rfl⟩
      have hl := Vb.upto_len (n := 1 + i)
      have hnx := Vb.upto_next (n := 1 + i) (by omega)
      rw [show (1 : Int) + i + 1 = 2 + i by omega] at hnx
      walk_at "rd"
      refine Vb.r_cut (fun σ' H2 => H2 = H' ∧ ∃ y, σ' = [some (.int n), some (.ref p), some (.int (2 + i)), some (.bl (!Vb.isP (2 + i))), y]) ?_ ?_
      · walk_at "rd"
        refine Vb.lp_list (xs := (Vb.upto (1 + i)).map V.int) (fun j σ' H2 => H2 = H' ∧ (∀ k q, k < j → (Vb.upto (1 + i))[k]? = some q → (2 + (i : Int)) % q ≠ 0) ∧ ∃ y, σ' = [some (.int n), some (.ref p), some (.int (2 + i)), some (.bl false), y]) ⟨rfl, fun k q h => absurd h (Nat.not_lt_zero k), y4, rfl⟩ (fun j σ' H2 _ c => by rw [c.1]; exact Vb.sq_of ha) ?_ ?_
        · rintro j x σ' H2 hj ⟨rfl, hk, y, rfl⟩
          obtain ⟨q, hq, rfl⟩ := Vb.getV' hj
          obtain ⟨pq, lq⟩ := Vb.mem_upto.mp (List.mem_of_getElem? hq)
          have q2 := pq.1
          walk_at "rd"
          refine Vb.r_ite (fun c => ?_) (fun c => ?_)
          · walk_at "rd"
            have e : Vb.isP (2 + i) = true := (Vb.isP_iff _).mpr (Vb.prm_root (by omega) q2 c fun d a b z => by
              obtain ⟨r, pr, lr, zr⟩ := Vb.least_prime d.toNat _ d (Nat.le_refl _) a z
              obtain ⟨k, hkj, hkr⟩ := Vb.sorted_ahead (Vb.upto_sorted _) hq (Vb.mem_upto.mpr ⟨pr, by omega⟩) (show r < q by omega)
              exact hk k r hkj hkr zr)
            rw [e]
            exact ⟨rfl, _, rfl⟩
          · walk_at "rd"
            refine Vb.r_ite (fun c2 => ?_) (fun c2 => ?_)
            · walk_at "rd"
              have e : Vb.isP (2 + i) = false := by
                cases z : Vb.isP (2 + i) with
                | false => rfl
                | true => exact absurd ((Vb.isP_iff _).mp z) (Vb.not_prm q2 (by omega) c2)
              rw [e]
              exact ⟨rfl, _, rfl⟩
            · walk_at "rd"
              refine ⟨rfl, fun k r hk' hr' => ?_, _, rfl⟩
              by_cases z : k = j
              · rw [z, hq] at hr'
                cases hr'
                exact c2
              · exact hk k r (by omega) hr'
        · rintro σ' H2 ⟨rfl, hk, y, rfl⟩
          have e : Vb.isP (2 + i) = true := (Vb.isP_iff _).mpr (Vb.prm_of (by omega) fun r pr lr => by
            obtain ⟨k, hkr⟩ := List.mem_iff_getElem?.mp (Vb.mem_upto.mpr ⟨pr, show r ≤ 1 + i by omega⟩)
            refine hk k r ?_ hkr
            rw [List.length_map]
            exact (List.getElem?_eq_some_iff.mp hkr).1)
          rw [e]
          exact ⟨rfl, _, rfl⟩
      · rintro σ' H2 ⟨rfl, y, rfl⟩
        walk_at "rd"
        rw [Bool.not_not]
        refine Vb.r_iteb (fun c => ?_) (fun c => ?_)
        · walk_at "rd"
          refine ⟨by omega, Vb.same_mut e hp, ?_, _, _, _, rfl⟩
          rw [show (1 : Int) + ((i + 1 : Nat) : Int) = 2 + i by omega, hnx, c, if_pos rfl, List.map_append]
          exact upd_same
        · refine ⟨by omega, e, ?_, _, _, _, rfl⟩
          rw [show (1 : Int) + ((i + 1 : Nat) : Int) = 2 + i by omega, hnx, c, if_neg (by decide), List.append_nil]
          exact ha
    · rintro σ H' ⟨_, e, ha, y2, y3, y4, rfl⟩
      walk_at "rd"
      refine q p H' hp e ?_
      rw [ha, show (1 : Int) + ((n + 1 - 2).toNat : Nat) = n by omega]
end
end K
namespace K
open PySem PySem.Spec PyProof.Rows L2
abbrev N__law_spoil_list : List Str := ["row", "item"]
theorem sc__law_spoil_list : FnScope N__law_spoil_list ["row"] (defScope s__law_spoil_list) := ⟨rfl, rfl, rfl, by decide +kernel, rfl, by decide +kernel, by decide +kernel⟩
abbrev N__law_limit : List Str := ["store", "way"]
theorem sc__law_limit : FnScope N__law_limit ["store"] (defScope s__law_limit) := ⟨rfl, rfl, rfl, by decide +kernel, rfl, by decide +kernel, by decide +kernel⟩
section
variable {P : Program} {w : World} {K : PySem.W.Frag} {mg : Str → Option Value} {base : Heap}
def sp_divided (K : PySem.W.Frag) : Sp := fun vs H Q _ => ∃ (n : Int), vs = [.int n] ∧ 2 ≤ n ∧ n ≤ 1000000 ∧ Q (.bl (!Vb.isP n)) H
theorem use_divided {n : Int} {H : Hp} {Q : VK} {E : XK} (h1 : 2 ≤ n) (h : n ≤ 1000000) (q : Q (.bl (!Vb.isP n)) H) : sp_divided K [.int n] H Q E := ⟨n, rfl, h1, h, q⟩
theorem ok_divided (T : Txt K mg) : FnOk P w K mg base (L2N.CX P w) 1 T.f__law_divided T.fd__law_divided ["number"] (sp_divided K) := by
  refine Vb.okN T.d__law_divided.F sc__law_divided (fun vs H Q E h => ?_) (fun cdv A outer s H vs Q E hr h => ?_)
  · obtain ⟨a, rfl, _⟩ := h
    rfl
  · obtain ⟨n, rfl, h2, h6, q⟩ := h
    refine ⟨_, (pss_cons (ps_for (L2.passes_of rfl) rfl (Vb.pi_rangeW rfl T.n_range (pa_cons pe_int (pa_cons (pv 0) pa_nil))) (pg_name (i := 1) sc__law_divided.nd rfl (by first | exact Or.inl rfl | exact Or.inr rfl))
        (pss_cons (ps_if (pt_cmpR op_gt (pe_op op_mul (pv 1) (pv 1)) (pv 0) (nomark _)) (pss_one ps_break) pss_nil)
      (pss_one (ps_if (pt_cmpR op_eq (pv 0) (pe_op op_mul (pe_op op_fdiv (pv 0) (pv 1)) (pv 1)) (nomark _)) (pss_one (ps_ret pe_bl)) pss_nil))))
      (pss_one (ps_ret pe_bl))), ?_⟩
    (change (_ : L2.TS) _ ([some (.int n), none] : L2.St) _); try dsimp only [L2.cxOf, L2H.cxH]
    walk_at "rd"
    refine Vb.lp_range (fun i σ H' => H' = H ∧ (∀ d : Int, 2 ≤ d → d < 2 + i → n % d ≠ 0) ∧ ∃ y, σ = [some (.int n), y]) ⟨rfl, fun d a b => by omega, none, rfl⟩ ?_ ?_
    · rintro i σ H' hi ⟨rfl, hd, y, rfl⟩
      walk_at "rd"
      refine Vb.r_ite (fun c => ?_) (fun c => ?_)
      · walk_at "rd"
        have e : Vb.isP n = true := (Vb.isP_iff _).mpr (Vb.prm_root h2 (by omega) c hd)
        rw [e] at q
        exact q
      · walk_at "rd"
        refine Vb.r_ite (fun c2 => ?_) (fun c2 => ?_)
        · walk_at "rd"
          have z : n % (2 + (i : Int)) = 0 := by
            rw [c2]
            exact Int.mul_emod_left ..
          have e : Vb.isP n = false := by
            cases y : Vb.isP n with
            | false => rfl
            | true => exact absurd ((Vb.isP_iff _).mp y) (Vb.not_prm (by omega) (by omega) z)
          rw [e] at q
          exact q
        · refine ⟨rfl, fun d a b => ?_, _, rfl⟩
          by_cases z : d = 2 + i
          · intro y
            refine c2 ?_
            rw [← z]
            have := Int.mul_ediv_add_emod n d
            rw [y, Int.mul_comm] at this
            omega
          · exact hd d a (by omega)
    · rintro σ H' ⟨rfl, hd, y, rfl⟩
      walk_at "rd"
      have e : Vb.isP n = true := (Vb.isP_iff _).mpr ⟨h2, fun d a b => hd d a (by omega)⟩
      rw [e] at q
      exact q
/-- a prime of a field -/
def sp_prime (K : PySem.W.Frag) : Sp := fun vs H Q _ => ∃ (st : Addr), vs = [.ref st] ∧ Vb.StoreAt H st ∧ ∀ (p : Int) (H' : Hp), Vb.Prm p → p ≤ 101 → Vb.Fr st H H' → Vb.StoreAt H' st → Q (.int p) H'
theorem use_prime {st : Addr} {H : Hp} {Q : VK} {E : XK} (h1 : Vb.StoreAt H st) (h : ∀ (p : Int) (H' : Hp), Vb.Prm p → p ≤ 101 → Vb.Fr st H H' → Vb.StoreAt H' st → Q (.int p) H') : sp_prime K [.ref st] H Q E := ⟨st, rfl, h1, h⟩
theorem ok_prime (T : Txt K mg) : FnOk P w K mg base (L2N.CX P w) 4 T.f__law_prime T.fd__law_prime ["store"] (sp_prime K) := by
  have G__law_primes := ok_primes (P := P) (w := w) (base := base) T
  have G__law_edge := ok_edge (P := P) (w := w) (base := base) T
  refine Vb.okN T.d__law_prime.F sc__law_prime (fun vs H Q E h => ?_) (fun cdv A outer s H vs Q E hr h => ?_)
  · obtain ⟨a, rfl, _⟩ := h
    rfl
  · obtain ⟨st, rfl, hS, q⟩ := h
    refine ⟨_, (pss_cons (ps_set (i := 1) sc__law_prime.nd rfl (by first | exact Or.inl rfl | exact Or.inr rfl) (pe_callS G__law_primes (hr.mono (by first | decide | omega)) (by rfl) T.d__law_primes.g T.d__law_primes.F.kp T.d__law_primes.b (fun σ => L2N.passAt (L2N.takes_of rfl rfl rfl rfl) σ) (pa_cons pe_int pa_nil)))
      (pss_one (ps_ret (pe_ix ix_list (pv 1) (pe_callS G__law_edge (hr.mono (by first | decide | omega)) (by rfl) T.d__law_edge.g T.d__law_edge.F.kp T.d__law_edge.b (fun σ => L2N.passAt (L2N.takes_of rfl rfl rfl rfl) σ) (pa_cons (pv 0) (pa_cons pe_int (pa_cons (pe_op op_sub (pe_callB Vb.call_len (by rfl) T.n_len (by decide +kernel) (pa_cons (pv 1) pa_nil)) pe_int) pa_nil)))) (fun _ _ => rfl))))), ?_⟩
    (change (_ : L2.TS) _ ([some (.ref st), none] : L2.St) _); try dsimp only [L2.cxOf, L2H.cxH]
    walk_at "rd"
    refine use_primes (by decide) (by decide) fun p H1 np e1 hp => ?_
    walk_at "rd"
    have hl := Vb.upto_len (n := 101)
    have h0 : 0 < (Vb.upto 101).length := List.length_pos_of_mem (Vb.mem_upto.mpr ⟨(Vb.isP_iff 2).mp (by decide +kernel), by decide⟩)
    refine use_edge (hS.same e1) (by rw [List.length_map]; omega) fun v H2 a1 a2 _ f2 S2 => ?_
    rw [List.length_map] at a2
    have hlt : v.toNat < (Vb.upto 101).length := by omega
    refine Vb.r_ixL (Vb.sq_of (f2.k _ _ (hS.ne np) hp)) (Vb.at_lit v.toNat (by omega) (Vb.getV hlt)) ?_
    obtain ⟨g1, g2⟩ := Vb.mem_upto.mp (List.getElem_mem hlt)
    exact q _ _ g1 g2 ((Vb.Fr.of e1).trans f2) S2
/-- no prime of a field -/
def sp_badprime (K : PySem.W.Frag) : Sp := fun vs H Q _ => ∃ (st : Addr), vs = [.ref st] ∧ Vb.StoreAt H st ∧ ∀ (v : V) (d : PyData) (H' : Hp), field d = false → Vb.DOk 4 d → Vb.Fr st H H' → Vb.StoreAt H' st → Dp K (Vb.offs [st] H') v d → Q v H'
theorem odd_bad : ∀ d ∈ oddKinds, field d = false ∧ whole d = false ∧ Vb.DOk 4 d := by
  intro d m
  unfold oddKinds at m
  simp only [List.mem_cons, List.not_mem_nil, or_false] at m
  rcases m with rfl | rfl | rfl | rfl | rfl | rfl | rfl | rfl | rfl
  · exact ⟨rfl, rfl, trivial⟩
  · exact ⟨rfl, rfl, trivial⟩
  · exact ⟨rfl, rfl, trivial⟩
  · exact ⟨rfl, rfl, trivial⟩
  · exact ⟨rfl, rfl, trivial⟩
  · exact ⟨rfl, rfl, trivial⟩
  · exact ⟨rfl, rfl, trivial⟩
  · exact ⟨rfl, rfl, by decide, fun d m => absurd m List.not_mem_nil⟩
  · refine ⟨rfl, rfl, by decide, fun d m => ?_⟩
    rw [List.mem_singleton.mp m]
    exact trivial
theorem field_no {n : Int} (h : 101 < n ∨ ¬ Vb.Prm n) : field (.int n) = false := by
  show (decide (n ≤ 101) && Vb.isP n) = false
  rcases h with h | h
  · rw [decide_eq_false (by omega)]
    rfl
  · cases e : Vb.isP n with
    | false => rw [Bool.and_false]
    | true => exact absurd ((Vb.isP_iff n).mp e) h
theorem prod_no {a b : Int} (h1 : 2 ≤ a) (h2 : 2 ≤ b) : ¬ Vb.Prm (a * b) := by
  have h3 : a * 2 ≤ a * b := Int.mul_le_mul_of_nonneg_left h2 (by omega)
  exact Vb.not_prm h1 (by omega) (Int.mul_emod_right ..)
theorem ok_badprime (T : Txt K mg) : FnOk P w K mg base (L2N.CX P w) 5 T.f__law_bad_prime T.fd__law_bad_prime ["store"] (sp_badprime K) := by
  have G__law_take := ok_take (P := P) (w := w) (base := base) T
  have G__law_prime := ok_prime (P := P) (w := w) (base := base) T
  have G__law_other_kind := ok_kind (P := P) (w := w) (base := base) T
  refine Vb.okN T.d__law_bad_prime.F sc__law_bad_prime (fun vs H Q E h => ?_) (fun cdv A outer s H vs Q E hr h => ?_)
  · obtain ⟨a, rfl, _⟩ := h
    rfl
  · obtain ⟨st, rfl, hS, q⟩ := h
    refine ⟨_, (pss_cons (ps_set (i := 1) sc__law_bad_prime.nd rfl (by first | exact Or.inl rfl | exact Or.inr rfl) (pe_callS G__law_take (hr.mono (by first | decide | omega)) (by rfl) T.d__law_take.g T.d__law_take.F.kp T.d__law_take.b (fun σ => L2N.passAt (L2N.takes_of rfl rfl rfl rfl) σ) (pa_cons (pv 0) (pa_cons pe_int pa_nil))))
      (pss_cons (ps_if (pt_cmpR op_eq (pv 1) pe_int (nomark _)) (pss_one (ps_ret (pe_op op_mul (pe_op op_add pe_int (pe_callS G__law_take (hr.mono (by first | decide | omega)) (by rfl) T.d__law_take.g T.d__law_take.F.kp T.d__law_take.b (fun σ => L2N.passAt (L2N.takes_of rfl rfl rfl rfl) σ) (pa_cons (pv 0) (pa_cons pe_int pa_nil)))) (pe_op op_add pe_int (pe_callS G__law_take (hr.mono (by first | decide | omega)) (by rfl) T.d__law_take.g T.d__law_take.F.kp T.d__law_take.b (fun σ => L2N.passAt (L2N.takes_of rfl rfl rfl rfl) σ) (pa_cons (pv 0) (pa_cons pe_int pa_nil))))))) pss_nil)
      (pss_cons (ps_if (pt_cmpR op_eq (pv 1) pe_int (nomark _)) (pss_one (ps_ret (pe_callS G__law_take (hr.mono (by first | decide | omega)) (by rfl) T.d__law_take.g T.d__law_take.F.kp T.d__law_take.b (fun σ => L2N.passAt (L2N.takes_of rfl rfl rfl rfl) σ) (pa_cons (pv 0) (pa_cons pe_int pa_nil))))) pss_nil)
      (pss_cons (ps_if (pt_cmpR op_eq (pv 1) pe_int (nomark _)) (pss_one (ps_ret (pe_un un_neg (pe_callS G__law_prime (hr.mono (by first | decide | omega)) (by rfl) T.d__law_prime.g T.d__law_prime.F.kp T.d__law_prime.b (fun σ => L2N.passAt (L2N.takes_of rfl rfl rfl rfl) σ) (pa_cons (pv 0) pa_nil))))) pss_nil)
      (pss_cons (ps_if (pt_cmpR op_eq (pv 1) pe_int (nomark _)) (pss_one (ps_ret (pe_op op_add pe_int (pe_callS G__law_take (hr.mono (by first | decide | omega)) (by rfl) T.d__law_take.g T.d__law_take.F.kp T.d__law_take.b (fun σ => L2N.passAt (L2N.takes_of rfl rfl rfl rfl) σ) (pa_cons (pv 0) (pa_cons pe_int pa_nil)))))) pss_nil)
      (pss_cons (ps_if (pt_cmpR op_eq (pv 1) pe_int (nomark _)) (pss_one (ps_ret (pe_op op_add (pe_op Vb.op_powB pe_int pe_int) (pe_callS G__law_take (hr.mono (by first | decide | omega)) (by rfl) T.d__law_take.g T.d__law_take.F.kp T.d__law_take.b (fun σ => L2N.passAt (L2N.takes_of rfl rfl rfl rfl) σ) (pa_cons (pv 0) (pa_cons pe_int pa_nil)))))) pss_nil)
      (pss_cons (ps_if (pt_cmpR op_eq (pv 1) pe_int (nomark _)) (pss_one (ps_ret (pe_op op_sub (pe_un un_neg pe_int) (pe_op op_mul (pe_callS G__law_take (hr.mono (by first | decide | omega)) (by rfl) T.d__law_take.g T.d__law_take.F.kp T.d__law_take.b (fun σ => L2N.passAt (L2N.takes_of rfl rfl rfl rfl) σ) (pa_cons (pv 0) (pa_cons pe_int pa_nil))) (pe_op Vb.op_powB pe_int pe_int))))) pss_nil)
      (pss_cons (ps_if (pt_cmpR op_eq (pv 1) pe_int (nomark _)) (pss_one (ps_ret (pe_op op_mul (pe_callS G__law_prime (hr.mono (by first | decide | omega)) (by rfl) T.d__law_prime.g T.d__law_prime.F.kp T.d__law_prime.b (fun σ => L2N.passAt (L2N.takes_of rfl rfl rfl rfl) σ) (pa_cons (pv 0) pa_nil)) (pe_callS G__law_prime (hr.mono (by first | decide | omega)) (by rfl) T.d__law_prime.g T.d__law_prime.F.kp T.d__law_prime.b (fun σ => L2N.passAt (L2N.takes_of rfl rfl rfl rfl) σ) (pa_cons (pv 0) pa_nil))))) pss_nil)
      (pss_one (ps_ret (pe_callS G__law_other_kind (hr.mono (by first | decide | omega)) (by rfl) T.d__law_other_kind.g T.d__law_other_kind.F.kp T.d__law_other_kind.b (fun σ => L2N.passAt (L2N.takes_of rfl rfl rfl rfl) σ) (pa_cons (pv 0) pa_nil)))))))))))), ?_⟩
    (change (_ : L2.TS) _ ([some (.ref st), none] : L2.St) _); try dsimp only [L2.cxOf, L2H.cxH]
    have qi : ∀ (n : Int) (H' : Hp), (101 < n ∨ ¬ Vb.Prm n) → Vb.Fr st H H' → Vb.StoreAt H' st → Q (.int n) H' := fun n H' h f S => q _ (.int n) _ (field_no h) trivial f S (.int n)
    walk_at "rd"
    refine use_take hS (by decide) fun way H1 _ _ _ f1 S1 => ?_
    walk_at "rd"
    refine Vb.r_ite (fun c => ?_) (fun c => ?_)
    · walk_at "rd"
      refine use_take S1 (by decide) fun a H2 a1 a2 _ f2 S2 => ?_
      walk_at "rd"
      refine use_take S2 (by decide) fun b H3 b1 b2 _ f3 S3 => ?_
      walk_at "rd"
      exact qi _ _ (.inr (prod_no (by omega) (by omega))) ((f1.trans f2).trans f3) S3
    walk_at "rd"
    refine Vb.r_ite (fun c => ?_) (fun c => ?_)
    · walk_at "rd"
      refine use_take S1 (by decide) fun a H2 a1 a2 _ f2 S2 => ?_
      exact qi _ _ (.inr fun p => by have := p.1; have := a2 (by decide); omega) (f1.trans f2) S2
    walk_at "rd"
    refine Vb.r_ite (fun c => ?_) (fun c => ?_)
    · walk_at "rd"
      refine use_prime S1 fun a H2 a1 a2 f2 S2 => ?_
      walk_at "rd"
      exact qi _ _ (.inr fun p => by have := p.1; have := a1.1; omega) (f1.trans f2) S2
    walk_at "rd"
    refine Vb.r_ite (fun c => ?_) (fun c => ?_)
    · walk_at "rd"
      refine use_take S1 (by decide) fun a H2 a1 a2 _ f2 S2 => ?_
      walk_at "rd"
      exact qi _ _ (.inl (by omega)) (f1.trans f2) S2
    walk_at "rd"
    refine Vb.r_ite (fun c => ?_) (fun c => ?_)
    · walk_at "rd"
      refine use_take S1 (by decide) fun a H2 a1 a2 _ f2 S2 => ?_
      walk_at "rd"
      exact qi _ _ (.inl (Int.lt_of_lt_of_le (show (101 : Int) < 10 ^ Int.toNat 40 by decide +kernel) (by omega))) (f1.trans f2) S2
    walk_at "rd"
    refine Vb.r_ite (fun c => ?_) (fun c => ?_)
    · walk_at "rd"
      refine use_take S1 (by decide) fun a H2 a1 a2 _ f2 S2 => ?_
      walk_at "rd"
      exact qi _ _ (.inr fun p => by have := p.1; have := Int.mul_nonneg a1 (show (0 : Int) ≤ 10 ^ Int.toNat 40 by decide +kernel); omega) (f1.trans f2) S2
    walk_at "rd"
    refine Vb.r_ite (fun c => ?_) (fun c => ?_)
    · walk_at "rd"
      refine use_prime S1 fun a H2 a1 _ f2 S2 => ?_
      walk_at "rd"
      refine use_prime S2 fun b H3 b1 _ f3 S3 => ?_
      have := a1.1
      walk_at "rd"
      exact qi _ _ (.inr (prod_no a1.1 b1.1)) ((f1.trans f2).trans f3) S3
    walk_at "rd"
    refine ⟨st, rfl, S1, fun v d H2 m f2 S2 g => ?_⟩
    obtain ⟨m1, m2, m3⟩ := odd_bad d m
    exact q _ _ _ m1 m3 (f1.trans f2) S2 (g [] Vb.Trk.nil)
/-- a list of ints is turned about, and None put behind -/
def sp_spoil (K : PySem.W.Frag) : Sp := fun vs H Q _ => ∃ (a : Addr) (ns : List Int), vs = [.ref a] ∧ H a = some (.lst (ns.map V.int)) ∧ ns.length ≤ 1000000 ∧ Q .non (upd (upd H a (.lst (ns.map V.int).reverse)) a (.lst ((ns.map V.int).reverse ++ [.non])))
theorem ok_spoil (T : Txt K mg) : FnOk P w K mg base (L2N.CX P w) 1 T.f__law_spoil_list T.fd__law_spoil_list ["row"] (sp_spoil K) := by
  refine Vb.okN T.d__law_spoil_list.F sc__law_spoil_list (fun vs H Q E h => ?_) (fun cdv A outer s H vs Q E hr h => ?_)
  · obtain ⟨a, b, rfl, _⟩ := h
    rfl
  · obtain ⟨a, ns, rfl, ha, hl, q⟩ := h
    have hd : Dp K H (.ref a) (.list (ns.map PyData.int)) := Vb.dp_ints (Vb.sq_of ha)
    refine ⟨_, (pss_one (ps_if (pt_val (pe_callB call_isi (by rfl) T.n_isinstance (by decide +kernel) (pa_cons (pv 0) (pa_cons (pe_bltn (v := .ty "list") (by rfl) T.n_list (by decide +kernel) rfl) pa_nil)))) (pss_cons (ps_for (L2.passes_of rfl) rfl (pi_list (pv 0)) (pg_name (i := 1) sc__law_spoil_list.nd rfl (by first | exact Or.inl rfl | exact Or.inr rfl))
        (pss_one (ps_if (pt_val (pe_callB call_isi (by rfl) T.n_isinstance (by decide +kernel) (pa_cons (pv 1) (pa_cons (pe_bltn (v := .ty "list") (by rfl) T.n_list (by decide +kernel) rfl) pa_nil)))) (pss_one (ps_expr (pe_bm PySem.F.plainAttrs_list PySem.F.slot_list_append PySem.F.type_list_append mt_append (pv 1) (pa_cons pe_int pa_nil)))) pss_nil)))
      (pss_cons (ps_expr (pe_bm0 PySem.F.plainAttrs_list PySem.F.slot_list_reverse PySem.F.type_list_reverse mt_reverse (pv 0)))
      (pss_one (ps_expr (pe_bm PySem.F.plainAttrs_list PySem.F.slot_list_append PySem.F.type_list_append mt_append (pv 0) (pa_cons pe_non pa_nil)))))) pss_nil)), ?_⟩
    (change (_ : L2.TS) _ ([some (.ref a), none] : L2.St) _); try dsimp only [L2.cxOf, L2H.cxH]
    walk_at "rd"
    refine Vb.lp_list (xs := ns.map V.int) (fun i σ H' => H' = H ∧ ∃ y, σ = [some (.ref a), y]) ⟨rfl, none, rfl⟩ (fun i σ H' _ c => by rw [c.1]; exact Vb.sq_of ha) ?_ ?_
    · rintro i x σ H' hi ⟨rfl, y, rfl⟩
      obtain ⟨z, _, rfl⟩ := Vb.getV' hi
      have hz : Dp K H' (.int z) (.int z) := .int z
      walk_at "rd"
      exact ⟨rfl, _, rfl⟩
    · rintro σ H' ⟨rfl, y, rfl⟩
      walk_at "rd"
      refine Vb.r_app (upd_same) (Vb.size_lt (by rw [List.length_reverse, List.length_map]; omega)) ?_
      exact q
/-- a limit -/
def sp_limit (K : PySem.W.Frag) : Sp := fun vs H Q _ => ∃ (st : Addr), vs = [.ref st] ∧ Vb.StoreAt H st ∧ ∀ (n : Int) (H' : Hp), n ≤ 10000 → Vb.Fr st H H' → Vb.StoreAt H' st → Q (.int n) H'
theorem ok_limit (T : Txt K mg) : FnOk P w K mg base (L2N.CX P w) 4 T.f__law_limit T.fd__law_limit ["store"] (sp_limit K) := by
  have G__law_take := ok_take (P := P) (w := w) (base := base) T
  have G__law_edge := ok_edge (P := P) (w := w) (base := base) T
  have G__law_pick := ok_pick (P := P) (w := w) (base := base) T
  refine Vb.okN T.d__law_limit.F sc__law_limit (fun vs H Q E h => ?_) (fun cdv A outer s H vs Q E hr h => ?_)
  · obtain ⟨a, rfl, _⟩ := h
    rfl
  · obtain ⟨st, rfl, hS, q⟩ := h
    refine ⟨_, (pss_cons (ps_set (i := 1) sc__law_limit.nd rfl (by first | exact Or.inl rfl | exact Or.inr rfl) (pe_callS G__law_take (hr.mono (by first | decide | omega)) (by rfl) T.d__law_take.g T.d__law_take.F.kp T.d__law_take.b (fun σ => L2N.passAt (L2N.takes_of rfl rfl rfl rfl) σ) (pa_cons (pv 0) (pa_cons pe_int pa_nil))))
      (pss_cons (ps_if (pt_cmpR op_eq (pv 1) pe_int (nomark _)) (pss_one (ps_ret (pe_callS G__law_pick (hr.mono (by first | decide | omega)) (by rfl) T.d__law_pick.g T.d__law_pick.F.kp T.d__law_pick.b (fun σ => L2N.passAt (L2N.takes_of rfl rfl rfl rfl) σ) (pa_cons (pv 0) (pa_cons (pe_lst (pa_cons (pe_op op_sub (pe_un un_neg pe_int) (pe_callS G__law_take (hr.mono (by first | decide | omega)) (by rfl) T.d__law_take.g T.d__law_take.F.kp T.d__law_take.b (fun σ => L2N.passAt (L2N.takes_of rfl rfl rfl rfl) σ) (pa_cons (pv 0) (pa_cons pe_int pa_nil)))) (pa_cons (pe_un un_neg pe_int) (pa_cons pe_int (pa_cons pe_int (pa_cons pe_int (pa_cons pe_int (pa_cons (pe_op op_sub (pe_un un_neg (pe_op Vb.op_powB pe_int pe_int)) (pe_callS G__law_take (hr.mono (by first | decide | omega)) (by rfl) T.d__law_take.g T.d__law_take.F.kp T.d__law_take.b (fun σ => L2N.passAt (L2N.takes_of rfl rfl rfl rfl) σ) (pa_cons (pv 0) (pa_cons pe_int pa_nil)))) pa_nil)))))))) pa_nil))))) pss_nil)
      (pss_cons (ps_if (pt_cmpR op_eq (pv 1) pe_int (nomark _)) (pss_one (ps_ret (pe_op op_sub pe_int (pe_callS G__law_edge (hr.mono (by first | decide | omega)) (by rfl) T.d__law_edge.g T.d__law_edge.F.kp T.d__law_edge.b (fun σ => L2N.passAt (L2N.takes_of rfl rfl rfl rfl) σ) (pa_cons (pv 0) (pa_cons pe_int (pa_cons pe_int pa_nil))))))) pss_nil)
      (pss_cons (ps_if (pt_cmpR op_eq (pv 1) pe_int (nomark _)) (pss_one (ps_ret (pe_callS G__law_take (hr.mono (by first | decide | omega)) (by rfl) T.d__law_take.g T.d__law_take.F.kp T.d__law_take.b (fun σ => L2N.passAt (L2N.takes_of rfl rfl rfl rfl) σ) (pa_cons (pv 0) (pa_cons pe_int pa_nil))))) pss_nil)
      (pss_one (ps_ret (pe_callS G__law_edge (hr.mono (by first | decide | omega)) (by rfl) T.d__law_edge.g T.d__law_edge.F.kp T.d__law_edge.b (fun σ => L2N.passAt (L2N.takes_of rfl rfl rfl rfl) σ) (pa_cons (pv 0) (pa_cons pe_int (pa_cons (pe_ix ix_list (pe_lst (pa_cons pe_int (pa_cons pe_int pa_nil))) (pe_callTy Vb.call_int (by rfl) T.n_int (by decide +kernel) (pa_cons (pe_cmpR op_gt (pv 1) pe_int (nomark _)) pa_nil)) (fun _ _ => rfl)) pa_nil)))))))))), ?_⟩
    (change (_ : L2.TS) _ ([some (.ref st), none] : L2.St) _); try dsimp only [L2.cxOf, L2H.cxH]
    walk_at "rd"
    refine use_take hS (by decide) fun way H1 _ _ _ f1 S1 => ?_
    walk_at "rd"
    refine Vb.r_ite (fun c => ?_) (fun c => ?_)
    · walk_at "rd"
      refine use_take S1 (by decide) fun a H2 a1 a2 _ f2 S2 => ?_
      walk_at "rd"
      refine use_take S2 (by decide) fun b H3 b1 b2 _ f3 S3 => ?_
      walk_at "rd"
      refine ⟨Vb.size_ok (by show 7 ≤ 16777216; decide), fun l hl => ?_⟩
      walk_at "rd"
      have e := Vb.same_new (o := .lst [.int (-1 - a), .int (-1), .int 0, .int 1, .int 2, .int 3, .int (-10 ^ Int.toNat 40 - b)]) hl
      refine use_pick _ (S3.same e) (S3.ne hl) (Vb.sq_of upd_same) (by show 7 < 1000000; decide) (by simp) fun i v H4 hv f4 S4 => ?_
      have f : Vb.Fr st H H4 := ((f1.trans f2).trans f3).trans ((Vb.Fr.of e).trans f4)
      have hb : -10 ^ Int.toNat 40 - b ≤ 0 := by
        have := show -10 ^ Int.toNat 40 ≤ (0 : Int) by decide +kernel
        omega
      generalize -10 ^ Int.toNat 40 - b = bb at hv hb
      match i, hv with
      | 0, hv => cases Option.some.inj hv; exact q _ _ (by omega) f S4
      | 1, hv => cases Option.some.inj hv; exact q _ _ (by omega) f S4
      | 2, hv => cases Option.some.inj hv; exact q _ _ (by omega) f S4
      | 3, hv => cases Option.some.inj hv; exact q _ _ (by omega) f S4
      | 4, hv => cases Option.some.inj hv; exact q _ _ (by omega) f S4
      | 5, hv => cases Option.some.inj hv; exact q _ _ (by omega) f S4
      | 6, hv => cases Option.some.inj hv; exact q _ _ (by omega) f S4
      | i + 7, hv => cases hv
    walk_at "rd"
    refine Vb.r_ite (fun c => ?_) (fun c => ?_)
    · walk_at "rd"
      refine use_edge S1 (by decide) fun a H2 a1 a2 _ f2 S2 => ?_
      walk_at "rd"
      exact q _ _ (by omega) (f1.trans f2) S2
    walk_at "rd"
    refine Vb.r_ite (fun c => ?_) (fun c => ?_)
    · walk_at "rd"
      refine use_take S1 (by decide) fun a H2 a1 a2 _ f2 S2 => ?_
      exact q _ _ (by omega) (f1.trans f2) S2
    walk_at "rd"
    refine ⟨Vb.size_ok (by show 2 ≤ 16777216; decide), fun l hl => ?_⟩
    walk_at "rd"
    have e := Vb.same_new (o := .lst [.int 60, .int 402]) hl
    have key : ∀ h : Int, (h = 60 ∨ h = 402) → sp_edge K [.ref st, .int 2, .int h] (upd H1 l (.lst [.int 60, .int 402])) Q (fun cls d H => E cls d H) := fun h hh => use_edge (S1.same e) (by omega) fun v H2 a1 a2 _ f2 S2 => q _ _ (by omega) (f1.trans ((Vb.Fr.of e).trans f2)) S2
    by_cases c3 : 10 < way
    · rw [decide_eq_true c3]
      refine Vb.r_ixL (Vb.sq_of upd_same) (Vb.at_lit 1 rfl rfl) ?_
      walk_at "rd"
      exact key _ (.inr rfl)
    · rw [decide_eq_false c3]
      refine Vb.r_ixL (Vb.sq_of upd_same) (Vb.at_lit 0 rfl rfl) ?_
      walk_at "rd"
      exact key _ (.inl rfl)
end
end K
namespace K
open PySem PySem.Spec PyProof.Rows L2

abbrev N__law_listed : List Str := ["limit", "struck", "found", "number", "other"]
theorem sc__law_listed : FnScope N__law_listed ["limit"] (defScope s__law_listed) := ⟨rfl, rfl, rfl, by decide +kernel, rfl, by decide +kernel, by decide +kernel⟩
section
variable {P : Program} {w : World} {K : PySem.W.Frag} {mg : Str → Option Value} {base : Heap}
/-- behind the numbers below c: what is struck -/
def Struck (N : Nat) (f : Nat → Bool) (c : Int) : Prop := ∀ m : Nat, 2 ≤ m → m < N → (f m = true ↔ ∃ q : Int, Vb.Prm q ∧ q < c ∧ q < m ∧ (m : Int) % q = 0)
theorem struck_prm {N : Nat} {f : Nat → Bool} {c : Nat} (h : Struck N f c) (h2 : 2 ≤ c) (hN : c < N) : Vb.isP c = !f c := by
  cases e : f c with
  | true =>
    obtain ⟨q, p, l, _, z⟩ := (h c h2 hN).mp e
    cases y : Vb.isP c with
    | false => rfl
    | true => exact absurd ((Vb.isP_iff _).mp y) (Vb.not_prm p.1 l z)
  | false =>
    refine (Vb.isP_iff _).mpr (Vb.prm_of (by omega) fun q p l z => ?_)
    have := (h c h2 hN).mpr ⟨q, p, l, l, z⟩
    rw [e] at this
    cases this
theorem struck_no {N : Nat} {f : Nat → Bool} {c : Nat} (h : Struck N f c) (hp : Vb.isP c = false) : Struck N f ((c : Int) + 1) := fun m h2 hN => by
  rw [h m h2 hN]
  refine ⟨fun ⟨q, a, b, d⟩ => ⟨q, a, by omega, d⟩, fun ⟨q, a, b, d⟩ => ⟨q, a, ?_, d⟩⟩
  by_cases z : q = c
  · rw [z, ← Vb.isP_iff, hp] at a
    cases a
  · omega
def sp_listed (K : PySem.W.Frag) : Sp := fun vs H Q _ => ∃ (n : Int), vs = [.int n] ∧ n ≤ 10000 ∧ ∀ (p : Addr) (H' : Hp), H p = none → Same H H' → H' p = some (.lst ((Vb.upto n).map V.int)) → Q (.ref p) H'
theorem use_listed {n : Int} {H : Hp} {Q : VK} {E : XK} (h : n ≤ 10000) (q : ∀ (p : Addr) (H' : Hp), H p = none → Same H H' → H' p = some (.lst ((Vb.upto n).map V.int)) → Q (.ref p) H') : sp_listed K [.int n] H Q E := ⟨n, rfl, h, q⟩
theorem ok_listed (T : Txt K mg) : FnOk P w K mg base (L2N.CX P w) 1 T.f__law_listed T.fd__law_listed ["limit"] (sp_listed K) := by
  refine Vb.okN T.d__law_listed.F sc__law_listed (fun vs H Q E h => ?_) (fun cdv A outer s H vs Q E hr h => ?_)
  · obtain ⟨a, rfl, _⟩ := h
    rfl
  · obtain ⟨n, rfl, hn, q⟩ := h
    refine ⟨_, (pss_cons (ps_set (i := 1) sc__law_listed.nd rfl (by first | exact Or.inl rfl | exact Or.inr rfl) (pe_op op_rep (pe_lst (pa_cons pe_bl pa_nil)) (pe_callB (Vb.call_max2 rfl) (by rfl) T.n_max (by decide +kernel) (pa_cons pe_int (pa_cons (pe_op op_add (pv 0) pe_int) pa_nil)))))
      (pss_cons (ps_set (i := 2) sc__law_listed.nd rfl (by first | exact Or.inl rfl | exact Or.inr rfl) (pe_lst pa_nil))
      (pss_cons (ps_for (L2.passes_of rfl) rfl (Vb.pi_rangeW rfl T.n_range (pa_cons pe_int (pa_cons (pe_op op_add (pv 0) pe_int) pa_nil))) (pg_name (i := 3) sc__law_listed.nd rfl (by first | exact Or.inl rfl | exact Or.inr rfl))
        (pss_one (ps_if (pt_not (pt_val (pe_ix ix_list (pv 1) (pv 3) (fun _ _ => rfl)))) (pss_cons (ps_expr (pe_bm PySem.F.plainAttrs_list PySem.F.slot_list_append PySem.F.type_list_append mt_append (pv 2) (pa_cons (pv 3) pa_nil)))
      (pss_one (ps_for (L2.passes_of rfl) rfl (pi_range3 rfl T.n_range (pa_cons (pe_op op_mul pe_int (pv 3)) (pa_cons (pe_op op_add (pv 0) pe_int) (pa_cons (pv 3) pa_nil)))) (pg_name (i := 4) sc__law_listed.nd rfl (by first | exact Or.inl rfl | exact Or.inr rfl))
        (pss_one (ps_asg pe_bl (pg_sub (pv 1) (pv 4) set_list)))))) pss_nil)))
      (pss_one (ps_ret (pv 2)))))), ?_⟩
    (change (_ : L2.TS) _ ([some (.int n), none, none, none, none] : L2.St) _); try dsimp only [L2.cxOf, L2H.cxH]
    walk_at "rd"
    refine ⟨Vb.size_ok (by show 1 ≤ 16777216; decide), fun p0 hp0 => ?_⟩
    walk_at "rd"
    have hN : ∃ N : Nat, (if n + 1 > 0 then n + 1 else 0) = (N : Int) ∧ N ≤ 10001 ∧ (0 ≤ n + 1 → (N : Int) = n + 1) ∧ (n + 1 ≤ 0 → N = 0) := by
      refine ⟨(n + 1).toNat, ?_, by omega, by omega, by omega⟩
      split <;> omega
    obtain ⟨N, e0, hN1, hN2, hN3⟩ := hN
    rw [e0]
    refine Vb.r_rep (upd_same) (by omega) (by omega) (Vb.size_ok (by show 1 * (N : Int).toNat ≤ 16777216; omega)) fun ps hps => ?_
    rw [Int.toNat_natCast, Vb.marks_rep]
    walk_at "rd"
    refine ⟨Vb.size_ok (Nat.zero_le _), fun pf hpf => ?_⟩
    have e1 := Vb.same_new (o := .lst [.bl false]) hp0
    have e2 := Vb.same_new (o := .lst (Vb.marks N fun _ => false)) hps
    have e3 := Vb.same_new (o := .lst []) hpf
    have nps : H ps = none := e1.free hps
    have npf : H pf = none := (e1.trans e2).free hpf
    have hne : pf ≠ ps := fun z => by rw [z, upd_same] at hpf; cases hpf
    have e := (e1.trans e2).trans e3
    have hs0 : (upd (upd (upd H p0 (.lst [.bl false])) ps (.lst (Vb.marks N fun _ => false))) pf (.lst [])) ps = some (.lst (Vb.marks N fun _ => false)) := Vb.h_ne hne.symm upd_same
    generalize hH0 : upd (upd (upd H p0 (.lst [.bl false])) ps (.lst (Vb.marks N fun _ => false))) pf (.lst []) = H0 at e hs0
    have hf0 : H0 pf = some (.lst []) := by rw [← hH0]; exact upd_same
    clear hH0
    walk_at "rd"
    refine Vb.lp_range (fun i σ H' => i ≤ (n + 1 - 2).toNat ∧ Same H H' ∧ (∃ f, H' ps = some (.lst (Vb.marks N f)) ∧ Struck N f (((2 + i : Nat)) : Int)) ∧ H' pf = some (.lst ((Vb.upto (1 + i)).map V.int)) ∧ ∃ y3 y4, σ = [some (.int n), some (.ref ps), some (.ref pf), y3, y4]) ⟨Nat.zero_le _, e, ⟨_, hs0, fun m h2 _ => ⟨fun h => (by cases h), fun ⟨q, a, b, c⟩ => absurd a.1 (by omega)⟩⟩, ?_, none, none, rfl⟩ ?_ ?_
    · rw [Vb.upto_low (by omega)]
      exact hf0
    · rintro i σ H' hi ⟨_, e, ⟨f, hs, hf⟩, ha, y3, y4, rfl⟩
      have hl := Vb.upto_len (n := 1 + i)
      have hnx := Vb.upto_next (n := 1 + i) (by omega)
      rw [show (1 : Int) + i + 1 = ((2 + i : Nat) : Int) by omega] at hnx
      have hlt : 2 + i < N := by omega
      have hpr := struck_prm hf (by omega) hlt
      walk_at "rd"
      refine Vb.r_ixL (Vb.sq_of hs) (Vb.at_lit (2 + i) (by omega) (Vb.marks_get hlt)) ?_
      walk_at "rd"
      refine Vb.r_iteNb (fun c => ?_) (fun c => ?_)
      · rw [c] at hpr
        walk_at "rd"
        have hs' : (upd H' pf (.lst ((Vb.upto (1 + i)).map V.int ++ [.int (2 + i)]))) ps = some (.lst (Vb.marks N f)) := Vb.h_ne hne.symm hs
        refine Vb.f_rng3 (Vb.rgc_pos (by omega) (by omega) (by omega) (by omega)) ?_
        have hc : (0 : Int) < 2 + i := by omega
        refine Vb.lp_rangeC (fun k σ' H2 => Same H H2 ∧ (∃ g, H2 ps = some (.lst (Vb.marks N g)) ∧ ∀ m : Nat, m < N → (g m = true ↔ f m = true ∨ ((m : Int) % (2 + i) = 0 ∧ 2 * (2 + (i : Int)) ≤ m ∧ (m : Int) < 2 * (2 + (i : Int)) + (k : Int) * (2 + i)))) ∧ H2 pf = some (.lst ((Vb.upto (1 + i)).map V.int ++ [.int (2 + i)])) ∧ ∃ y, σ' = [some (.int n), some (.ref ps), some (.ref pf), some (.int (2 + i)), y]) ⟨Vb.same_mut e npf, ⟨f, hs', fun m _ => ⟨.inl, fun h => h.elim id fun h => absurd h.2.1 (by have := h.2.2; rw [show ((0 : Nat) : Int) * (2 + (i : Int)) = 0 by omega] at this; omega)⟩⟩, upd_same, y4, rfl⟩ ?_ ?_
        · rintro k σ' H2 hk ⟨e2, ⟨g, hg, hgm⟩, ha2, y, rfl⟩
          have hb := Vb.rs_lt hc hk
          have hk0 : 0 ≤ (k : Int) * (2 + i) := Int.mul_nonneg (by omega) (by omega)
          walk_at "rd"
          have hj : (2 * (2 + (i : Int)) + (k : Int) * (2 + i)).toNat < N := by omega
          refine Vb.r_setL hg (Vb.ix_of (2 * (2 + (i : Int)) + (k : Int) * (2 + i)).toNat (by omega) (by rw [Vb.marks_len]; exact hj)) ?_
          rw [Vb.marks_set]
          refine ⟨Vb.same_mut e2 nps, ⟨_, upd_same, fun m hm => ?_⟩, Vb.h_ne hne ha2, _, rfl⟩
          by_cases z : m = (2 * (2 + (i : Int)) + (k : Int) * (2 + i)).toNat
          · rw [if_pos z]
            refine ⟨fun _ => .inr ?_, fun _ => rfl⟩
            have em : (m : Int) = 2 * (2 + (i : Int)) + (k : Int) * (2 + i) := by omega
            have ez : (m : Int) % (2 + (i : Int)) = 0 := by rw [em, ← Int.add_mul]; exact Int.mul_emod_left ..
            refine ⟨ez, by omega, ?_⟩
            rw [Vb.mul_between hc ez]
            exact .inr em
          · rw [if_neg z, hgm m hm]
            refine ⟨fun h => h.imp id fun h => ⟨h.1, h.2.1, (Vb.mul_between hc h.1).mpr (.inl h.2.2)⟩, fun h => h.imp id fun h => ⟨h.1, h.2.1, ?_⟩⟩
            rcases (Vb.mul_between hc h.1).mp h.2.2 with h3 | h3
            · exact h3
            · exact absurd (show m = _ by omega) z
        · rintro σ' H2 ⟨e2, ⟨g, hg, hgm⟩, ha2, y, rfl⟩
          have hend := Vb.rs_end (i := 2 * (2 + (i : Int))) (j := n + 1) hc
          refine ⟨by omega, e2, ⟨g, hg, fun m h2 hN => ?_⟩, ?_, _, _, rfl⟩
          · rw [hgm m hN, hf m h2 hN]
            constructor
            · rintro (⟨q, a, b, c⟩ | ⟨a, b, c⟩)
              · exact ⟨q, a, by omega, c⟩
              · refine ⟨2 + (i : Int), (Vb.isP_iff _).mp ?_, by omega, by omega, a⟩
                rw [show (2 : Int) + i = ((2 + i : Nat) : Int) by omega]
                exact hpr
            · rintro ⟨q, a, b, c, d⟩
              by_cases z : q = 2 + i
              · subst z
                exact .inr ⟨d, Vb.mul_up hc c d, by omega⟩
              · exact .inl ⟨q, a, by omega, c, d⟩
          · rw [ha2, show (1 : Int) + ((i + 1 : Nat) : Int) = ((2 + i : Nat) : Int) by omega, hnx, hpr, if_pos (by rfl), List.map_append, show ((2 + i : Nat) : Int) = 2 + (i : Int) by omega]
            rfl
      · rw [c] at hpr
        refine ⟨by omega, e, ⟨f, hs, ?_⟩, ?_, _, _, rfl⟩
        · have := struck_no hf hpr
          rwa [show (((2 + i : Nat) : Int) + 1) = ((2 + (i + 1) : Nat) : Int) by omega] at this
        · rw [show (1 : Int) + ((i + 1 : Nat) : Int) = ((2 + i : Nat) : Int) by omega, hnx, hpr, if_neg (by decide), List.append_nil]
          exact ha
    · rintro σ H' ⟨_, e, _, ha, y3, y4, rfl⟩
      walk_at "rd"
      refine q pf H' npf e ?_
      by_cases c2 : 1 ≤ n
      · rw [ha, show (1 : Int) + ((n + 1 - 2).toNat : Nat) = n by omega]
      · rw [ha, Vb.upto_low (by omega), Vb.upto_low (by omega)]
end
end K
namespace K
open PySem PySem.Spec PyProof.Rows L2
abbrev N__law_beyond : List Str := ["many", "value", "e"]
theorem sc__law_beyond : FnScope N__law_beyond ["many", "value"] (defScope s__law_beyond) := ⟨rfl, rfl, rfl, by decide +kernel, rfl, by decide +kernel, by decide +kernel⟩
abbrev N__law_refused : List Str := ["value", "kept", "e"]
theorem sc__law_refused : FnScope N__law_refused ["value"] (defScope s__law_refused) := ⟨rfl, rfl, rfl, by decide +kernel, rfl, by decide +kernel, by decide +kernel⟩
abbrev N__law_tells : List Str := ["value", "due", "kept", "actual"]
theorem sc__law_tells : FnScope N__law_tells ["value"] (defScope s__law_tells) := ⟨rfl, rfl, rfl, by decide +kernel, rfl, by decide +kernel, by decide +kernel⟩
section
variable {P : Program} {w : World} {K : PySem.W.Frag} {mg : Str → Option Value} {base : Heap}
def sp_beyond (K : PySem.W.Frag) : Sp := fun vs H Q _ => ∃ (b : Bool) (n : Int), vs = [.bl b, .int n] ∧ 10000 < n ∧ Q (.bl true) H
theorem use_beyond {b : Bool} {n : Int} {H : Hp} {Q : VK} {E : XK} (h : 10000 < n) (q : Q (.bl true) H) : sp_beyond K [.bl b, .int n] H Q E := ⟨b, n, rfl, h, q⟩
theorem ok_beyond (T : Txt K mg) : FnOk P w K mg base (L2N.CX P w) 4 T.f__law_beyond T.fd__law_beyond ["many", "value"] (sp_beyond K) := by
  have G_primes_to := ok_primesto (P := P) (w := w) (base := base) T
  have G_is_prime := ok_isprime (P := P) (w := w) (base := base) T
  refine Vb.okN T.d__law_beyond.F sc__law_beyond (fun vs H Q E h => ?_) (fun cdv A outer s H vs Q E hr h => ?_)
  · obtain ⟨a, b, rfl, _⟩ := h
    rfl
  · obtain ⟨b, n, rfl, hn, q⟩ := h
    have k_TooLarge_TalkError := T.k_TooLarge_TalkError
    have k_TooLarge_ValueError := T.k_TooLarge_ValueError
    have k_TooLarge_NotPrime := T.k_TooLarge_NotPrime
    have k_TooLarge_OutOfRange := T.k_TooLarge_OutOfRange
    have k_TooLarge_NotInField := T.k_TooLarge_NotInField
    refine ⟨_, (pss_cons (L2N.ps_try_as (i := 2) (Wout := (fun cls d _ H => E cls d H)) rfl rfl sc__law_beyond.nd rfl rfl ⟨rfl, by decide, Or.inl T.x_TooLarge.g⟩ (L2N.takes_of rfl rfl rfl rfl)
        (fun W pn xe tk po => (pss_one (ps_if (pt_val (pv 0)) (pss_one (ps_expr (pe_callS G_primes_to (hr.mono (by first | decide | omega)) (by rfl) T.d_primes_to.g T.d_primes_to.F.kp T.d_primes_to.b (fun σ => L2N.passAt tk σ) (pa_cons (pv 1) pa_nil)))) (pss_one (ps_expr (pe_callS G_is_prime (hr.mono (by first | decide | omega)) (by rfl) T.d_is_prime.g T.d_is_prime.F.kp T.d_is_prime.b (fun σ => L2N.passAt tk σ) (pa_cons (pv 1) pa_nil)))))))
        (fun a oe cls d pn hz hf => (pss_cons (ps_if (PW.pt (pw_or (pt_not (pt_val (pe_callB (Vb.call_isX T.xk_TooLarge hz hf) (by rfl) T.n_isinstance (by decide +kernel) (pa_cons (pv 2) (pa_cons (pe_glob (v := .ref T.C_TalkError) (by rfl) T.x_TalkError.g rfl) pa_nil))))) (pw_or1 (pt_not (pt_val (pe_callB (Vb.call_isX T.xk_TooLarge hz hf) (by rfl) T.n_isinstance (by decide +kernel) (pa_cons (pv 2) (pa_cons (pe_bltn (v := .ty "ValueError") (by rfl) T.n_ValueError (by decide +kernel) rfl) pa_nil)))))))) (pss_one (ps_ret pe_bl)) pss_nil)
      (pss_one (ps_ret (pe_and (pe_not (pe_callB (Vb.call_isX T.xk_TooLarge hz hf) (by rfl) T.n_isinstance (by decide +kernel) (pa_cons (pv 2) (pa_cons (pe_glob (v := .ref T.C_NotPrime) (by rfl) T.i_NotPrime.g rfl) pa_nil)))) (pe_and (pe_not (pe_callB (Vb.call_isX T.xk_TooLarge hz hf) (by rfl) T.n_isinstance (by decide +kernel) (pa_cons (pv 2) (pa_cons (pe_glob (v := .ref T.C_OutOfRange) (by rfl) T.x_OutOfRange.g rfl) pa_nil)))) (pe_one (pe_not (pe_callB (Vb.call_isX T.xk_TooLarge hz hf) (by rfl) T.n_isinstance (by decide +kernel) (pa_cons (pv 2) (pa_cons (pe_glob (v := .ref T.C_NotInField) (by rfl) T.i_NotInField.g rfl) pa_nil))))))))))))
      (pss_one (ps_ret pe_bl))), ?_⟩
    (change (_ : L2.TS) _ ([some (.bl b), some (.int n), none] : L2.St) _); try dsimp only [L2.cxOf, L2H.cxH]
    walk_at "rd"
    refine Vb.r_iteb (fun c => ?_) (fun c => ?_)
    · walk_at "rd"
      refine ⟨n, rfl, fun _ => Vb.r_as T.xk_TooLarge fun a ha => ?_, fun h => absurd h (by omega)⟩
      walk_at "rd"
      exact q
    · walk_at "rd"
      refine ⟨.int n, .int n, rfl, .int n, fun m z => ?_, fun z => by cases z⟩
      cases z
      refine ⟨fun _ => Vb.r_as T.xk_TooLarge fun a ha => ?_, fun h => absurd h (by omega)⟩
      walk_at "rd"
      exact q
/-- what is no prime of a field is refused by it -/
def sp_refused (K : PySem.W.Frag) : Sp := fun vs H Q _ => ∃ (v : V) (d : PyData), vs = [v] ∧ Dp K H v d ∧ Vb.DOk 4 d ∧ field d = false ∧ ∀ H', Same H H' → Q (.bl true) H'
theorem ok_refused (T : Txt K mg) : FnOk P w K mg base (L2N.CX P w) 6 T.f__law_refused T.fd__law_refused ["value"] (sp_refused K) := by
  have G__law_copy := ok_copy (P := P) (w := w) (base := base) T 4
  have G_check_prime := ok_check (P := P) (w := w) (base := base) T
  have GH__law_same := okh_same (P := P) (w := w) (base := base) T 4
  refine Vb.okN T.d__law_refused.F sc__law_refused (fun vs H Q E h => ?_) (fun cdv A outer s H vs Q E hr h => ?_)
  · obtain ⟨a, b, rfl, _⟩ := h
    rfl
  · obtain ⟨v, d, rfl, hd, hok, hf, q⟩ := h
    have k_NotPrime_TalkError := T.k_NotPrime_TalkError
    have k_NotPrime_ValueError := T.k_NotPrime_ValueError
    have k_NotPrime_TooLarge := T.k_NotPrime_TooLarge
    have k_NotPrime_OutOfRange := T.k_NotPrime_OutOfRange
    have k_NotPrime_NotInField := T.k_NotPrime_NotInField
    refine ⟨_, (pss_cons (ps_set (i := 1) sc__law_refused.nd rfl (by first | exact Or.inl rfl | exact Or.inr rfl) (pe_callS G__law_copy (hr.mono (by first | decide | omega)) (by rfl) T.d__law_copy.g T.d__law_copy.F.kp T.d__law_copy.b (fun σ => L2N.passAt (L2N.takes_of rfl rfl rfl rfl) σ) (pa_cons (pv 0) pa_nil)))
      (pss_cons (L2N.ps_try_as (i := 2) (Wout := (fun cls d _ H => E cls d H)) rfl rfl sc__law_refused.nd rfl rfl ⟨rfl, by decide, Or.inl T.i_NotPrime.g⟩ (L2N.takes_of rfl rfl rfl rfl)
        (fun W pn xe tk po => (pss_one (ps_expr (pe_callS G_check_prime (hr.mono (by first | decide | omega)) (by rfl) T.d_check_prime.g T.d_check_prime.F.kp T.d_check_prime.b (fun σ => L2N.passAt tk σ) (pa_cons (pv 0) pa_nil)))))
        (fun a oe cls d pn hz hf => (pss_cons (ps_if (PW.pt (pw_or (pt_not (pt_val (pe_callB (Vb.call_isX T.xk_NotPrime hz hf) (by rfl) T.n_isinstance (by decide +kernel) (pa_cons (pv 2) (pa_cons (pe_glob (v := .ref T.C_TalkError) (by rfl) T.x_TalkError.g rfl) pa_nil))))) (pw_or (pt_not (pt_val (pe_callB (Vb.call_isX T.xk_NotPrime hz hf) (by rfl) T.n_isinstance (by decide +kernel) (pa_cons (pv 2) (pa_cons (pe_bltn (v := .ty "ValueError") (by rfl) T.n_ValueError (by decide +kernel) rfl) pa_nil))))) (pw_or1 (pt_not (pt_val (L2H.pe_callH GH__law_same (Vb.roomH_mark (hr.mono (by first | decide | omega)) _) (Vb.hotN hz hf) rfl T.d__law_same.g T.d__law_same.F.kp T.d__law_same.b (fun σ => Vb.passH) (pa_cons (pe_xf T.xk_NotPrime.xf T.i_NotPrime.noN hz.zc hf (pv 2)) (pa_cons (pv 1) pa_nil))))))))) (pss_one (ps_ret pe_bl)) pss_nil)
      (pss_one (ps_ret (pe_and (pe_not (pe_callB (Vb.call_isX T.xk_NotPrime hz hf) (by rfl) T.n_isinstance (by decide +kernel) (pa_cons (pv 2) (pa_cons (pe_glob (v := .ref T.C_TooLarge) (by rfl) T.x_TooLarge.g rfl) pa_nil)))) (pe_and (pe_not (pe_callB (Vb.call_isX T.xk_NotPrime hz hf) (by rfl) T.n_isinstance (by decide +kernel) (pa_cons (pv 2) (pa_cons (pe_glob (v := .ref T.C_OutOfRange) (by rfl) T.x_OutOfRange.g rfl) pa_nil)))) (pe_one (pe_not (pe_callB (Vb.call_isX T.xk_NotPrime hz hf) (by rfl) T.n_isinstance (by decide +kernel) (pa_cons (pv 2) (pa_cons (pe_glob (v := .ref T.C_NotInField) (by rfl) T.i_NotInField.g rfl) pa_nil))))))))))))
      (pss_one (ps_ret pe_bl)))), ?_⟩
    (change (_ : L2.TS) _ ([some (v), none, none] : L2.St) _); try dsimp only [L2.cxOf, L2H.cxH]
    walk_at "rd"
    refine ⟨v, d, [], rfl, Vb.Trk.nil, Vb.dp_same Vb.offs_nil _ _ hd, hok, fun u H1 e1 hu => ?_⟩
    have hu := Vb.dp_off hu
    walk_at "rd"
    refine ⟨v, d, rfl, Vb.dp_same e1 _ _ hd, fun z => absurd (hf.symm.trans z) (by decide), fun _ dd hdd => Vb.r_as T.xk_NotPrime fun a ha => ?_⟩
    have e2 := Vb.same_new (o := .xd [("value", v)]) hdd
    walk_at "rd"
    refine Vb.r_xfv upd_same rfl ?_
    walk_at "rd"
    refine use_same d (Vb.dp_same (e1.trans e2) _ _ hd) (Vb.dp_same e2 _ _ hu) hok ?_
    walk_at "rd"
    exact q _ (e1.trans e2)
end
end K
namespace K
open PySem PySem.Spec PyProof.Rows L2
abbrev N__law_lists : List Str := ["store", "limit", "nearby", "due", "first", "listed", "number"]
theorem sc__law_lists : FnScope N__law_lists ["store"] (defScope s__law_lists) := ⟨rfl, rfl, rfl, by decide +kernel, rfl, by decide +kernel, by decide +kernel⟩
section
variable {P : Program} {w : World} {K : PySem.W.Frag} {mg : Str → Option Value} {base : Heap}
/-- what is told of a value -/
def sp_tells (K : PySem.W.Frag) : Sp := fun vs H Q _ => ∃ (v : V) (d : PyData), vs = [v] ∧ Dp K H v d ∧ Vb.DOk 4 d ∧ (∀ n, d = .int n → n ≤ 10000) ∧ ∀ H', Same H H' → Q (.bl true) H'
theorem ok_tells (T : Txt K mg) : FnOk P w K mg base (L2N.CX P w) 6 T.f__law_tells T.fd__law_tells ["value"] (sp_tells K) := by
  have G__law_copy := ok_copy (P := P) (w := w) (base := base) T 4
  have G__law_same := ok_same (P := P) (w := w) (base := base) T 4
  have G__law_divided := ok_divided (P := P) (w := w) (base := base) T
  have G_is_prime := ok_isprime (P := P) (w := w) (base := base) T
  refine Vb.okN T.d__law_tells.F sc__law_tells (fun vs H Q E h => ?_) (fun cdv A outer s H vs Q E hr h => ?_)
  · obtain ⟨a, b, rfl, _⟩ := h
    rfl
  · obtain ⟨v, d, rfl, hd, hok, hb, q⟩ := h
    refine ⟨_, (pss_cons (ps_set (i := 1) sc__law_tells.nd rfl (by first | exact Or.inl rfl | exact Or.inr rfl) (pe_and (pe_not (pe_callB call_isi (by rfl) T.n_isinstance (by decide +kernel) (pa_cons (pv 0) (pa_cons (pe_bltn (v := .ty "bool") (by rfl) T.n_bool (by decide +kernel) rfl) pa_nil)))) (pe_and (pe_callB call_isi (by rfl) T.n_isinstance (by decide +kernel) (pa_cons (pv 0) (pa_cons (pe_bltn (v := .ty "int") (by rfl) T.n_int (by decide +kernel) rfl) pa_nil))) (pe_and (pe_cmpR op_ge (pv 0) pe_int (nomark _)) (pe_one (pe_not (pe_callS G__law_divided (hr.mono (by first | decide | omega)) (by rfl) T.d__law_divided.g T.d__law_divided.F.kp T.d__law_divided.b (fun σ => L2N.passAt (L2N.takes_of rfl rfl rfl rfl) σ) (pa_cons (pv 0) pa_nil))))))))
      (pss_cons (ps_set (i := 2) sc__law_tells.nd rfl (by first | exact Or.inl rfl | exact Or.inr rfl) (pe_callS G__law_copy (hr.mono (by first | decide | omega)) (by rfl) T.d__law_copy.g T.d__law_copy.F.kp T.d__law_copy.b (fun σ => L2N.passAt (L2N.takes_of rfl rfl rfl rfl) σ) (pa_cons (pv 0) pa_nil)))
      (pss_cons (ps_set (i := 3) sc__law_tells.nd rfl (by first | exact Or.inl rfl | exact Or.inr rfl) (pe_callS G_is_prime (hr.mono (by first | decide | omega)) (by rfl) T.d_is_prime.g T.d_is_prime.F.kp T.d_is_prime.b (fun σ => L2N.passAt (L2N.takes_of rfl rfl rfl rfl) σ) (pa_cons (pv 0) pa_nil)))
      (pss_one (ps_ret (pe_and (pe_callB call_isi (by rfl) T.n_isinstance (by decide +kernel) (pa_cons (pv 3) (pa_cons (pe_bltn (v := .ty "bool") (by rfl) T.n_bool (by decide +kernel) rfl) pa_nil))) (pe_and (pe_cmpR op_eq (pv 3) (pv 1) (nomark _)) (pe_one (pe_callS G__law_same (hr.mono (by first | decide | omega)) (by rfl) T.d__law_same.g T.d__law_same.F.kp T.d__law_same.b (fun σ => L2N.passAt (L2N.takes_of rfl rfl rfl rfl) σ) (pa_cons (pv 0) (pa_cons (pv 2) pa_nil))))))))))), ?_⟩
    (change (_ : L2.TS) _ ([some (v), none, none, none] : L2.St) _); try dsimp only [L2.cxOf, L2H.cxH]
    cases d with
    | int n =>
      cases hd
      have hn := hb n rfl
      have hi : ∀ H', Dp K H' (.int n) (.int n) := fun _ => .int n
      have hi0 := hi H
      walk_at "rd"
      refine Vb.r_ite (fun c => ?_) (fun c => ?_)
      · walk_at "rd"
        refine use_divided (by omega) (by omega) ?_
        walk_at "rd"
        refine ⟨.int n, .int n, [], rfl, Vb.Trk.nil, .int n, trivial, fun u H1 e1 hu => ?_⟩
        have hu := Vb.dp_off hu
        walk_at "rd"
        refine use_isprime hn rfl ?_
        have hbl : Dp K H1 (.bl (Vb.isP n)) (.bool (Vb.isP n)) := .bl _
        walk_at "rd"
        rw [Bool.not_not, beq_self_eq_true]
        refine Vb.r_iteT ?_
        walk_at "rd"
        exact use_same (.int n) (.int n) hu trivial (q _ e1)
      · walk_at "rd"
        refine ⟨.int n, .int n, [], rfl, Vb.Trk.nil, .int n, trivial, fun u H1 e1 hu => ?_⟩
        have hu := Vb.dp_off hu
        walk_at "rd"
        have e : Vb.isP n = false := by
          cases y : Vb.isP n with
          | false => rfl
          | true => exact absurd ((Vb.isP_iff _).mp y).1 (by omega)
        refine use_isprime hn e ?_
        have hbl : Dp K H1 (.bl false) (.bool false) := .bl _
        walk_at "rd"
        exact use_same (.int n) (.int n) hu trivial (q _ e1)
    | none =>
      walk_at "rd"
      refine ⟨v, _, [], rfl, Vb.Trk.nil, Vb.dp_same Vb.offs_nil _ _ hd, hok, fun u H1 e1 hu => ?_⟩
      have hu := Vb.dp_off hu
      have hd1 := Vb.dp_same e1 _ _ hd
      walk_at "rd"
      refine ⟨v, _, rfl, hd1, fun n z => (by cases z), fun _ => ?_⟩
      have hbl : Dp K H1 (.bl false) (.bool false) := .bl _
      walk_at "rd"
      exact use_same _ hd1 hu hok (q _ e1)
    | bool b =>
      walk_at "rd"
      refine ⟨v, _, [], rfl, Vb.Trk.nil, Vb.dp_same Vb.offs_nil _ _ hd, hok, fun u H1 e1 hu => ?_⟩
      have hu := Vb.dp_off hu
      have hd1 := Vb.dp_same e1 _ _ hd
      walk_at "rd"
      refine ⟨v, _, rfl, hd1, fun n z => (by cases z), fun _ => ?_⟩
      have hbl : Dp K H1 (.bl false) (.bool false) := .bl _
      walk_at "rd"
      exact use_same _ hd1 hu hok (q _ e1)
    | str x =>
      walk_at "rd"
      refine ⟨v, _, [], rfl, Vb.Trk.nil, Vb.dp_same Vb.offs_nil _ _ hd, hok, fun u H1 e1 hu => ?_⟩
      have hu := Vb.dp_off hu
      have hd1 := Vb.dp_same e1 _ _ hd
      walk_at "rd"
      refine ⟨v, _, rfl, hd1, fun n z => (by cases z), fun _ => ?_⟩
      have hbl : Dp K H1 (.bl false) (.bool false) := .bl _
      walk_at "rd"
      exact use_same _ hd1 hu hok (q _ e1)
    | list ds =>
      walk_at "rd"
      refine ⟨v, _, [], rfl, Vb.Trk.nil, Vb.dp_same Vb.offs_nil _ _ hd, hok, fun u H1 e1 hu => ?_⟩
      have hu := Vb.dp_off hu
      have hd1 := Vb.dp_same e1 _ _ hd
      walk_at "rd"
      refine ⟨v, _, rfl, hd1, fun n z => (by cases z), fun _ => ?_⟩
      have hbl : Dp K H1 (.bl false) (.bool false) := .bl _
      walk_at "rd"
      exact use_same _ hd1 hu hok (q _ e1)
    | tuple ds =>
      walk_at "rd"
      refine ⟨v, _, [], rfl, Vb.Trk.nil, Vb.dp_same Vb.offs_nil _ _ hd, hok, fun u H1 e1 hu => ?_⟩
      have hu := Vb.dp_off hu
      have hd1 := Vb.dp_same e1 _ _ hd
      walk_at "rd"
      refine ⟨v, _, rfl, hd1, fun n z => (by cases z), fun _ => ?_⟩
      have hbl : Dp K H1 (.bl false) (.bool false) := .bl _
      walk_at "rd"
      exact use_same _ hd1 hu hok (q _ e1)
    | dict kvs => cases hd
end
end K
namespace K
open PySem PySem.Spec PyProof.Rows L2
section
variable {P : Program} {w : World} {K : PySem.W.Frag} {mg : Str → Option Value} {base : Heap}
theorem dp_rev {H : Hp} {a : Addr} {ns : List Int} (h : H a = some (.lst (ns.map V.int).reverse)) : Dp K H (.ref a) (.list (ns.reverse.map PyData.int)) := by
  rw [← List.map_reverse] at h
  exact Vb.dp_ints (Vb.sq_of h)
def sp_lists (K : PySem.W.Frag) : Sp := fun vs H Q _ => ∃ (st : Addr), vs = [.ref st] ∧ Vb.StoreAt H st ∧ ∀ (H' : Hp), Vb.Fr st H H' → Vb.StoreAt H' st → Q (.bl true) H'
theorem ok_lists (T : Txt K mg) : FnOk P w K mg base (L2N.CX P w) 6 T.f__law_lists T.fd__law_lists ["store"] (sp_lists K) := by
  have G__law_limit := ok_limit (P := P) (w := w) (base := base) T
  have G__law_pick := ok_pick (P := P) (w := w) (base := base) T
  have G__law_listed := ok_listed (P := P) (w := w) (base := base) T
  have G__law_same := ok_same (P := P) (w := w) (base := base) T 4
  have G__law_spoil_list := ok_spoil (P := P) (w := w) (base := base) T
  have G_primes_to := ok_primesto (P := P) (w := w) (base := base) T
  have G_is_prime := ok_isprime (P := P) (w := w) (base := base) T
  refine Vb.okN T.d__law_lists.F sc__law_lists (fun vs H Q E h => ?_) (fun cdv A outer s H vs Q E hr h => ?_)
  · obtain ⟨a, rfl, _⟩ := h
    rfl
  · obtain ⟨st, rfl, hS, q⟩ := h
    refine ⟨_, (pss_cons (ps_set (i := 1) sc__law_lists.nd rfl (by first | exact Or.inl rfl | exact Or.inr rfl) (pe_callS G__law_limit (hr.mono (by first | decide | omega)) (by rfl) T.d__law_limit.g T.d__law_limit.F.kp T.d__law_limit.b (fun σ => L2N.passAt (L2N.takes_of rfl rfl rfl rfl) σ) (pa_cons (pv 0) pa_nil)))
      (pss_cons (ps_set (i := 2) sc__law_lists.nd rfl (by first | exact Or.inl rfl | exact Or.inr rfl) (pe_callB (Vb.call_min2 rfl) (by rfl) T.n_min (by decide +kernel) (pa_cons pe_int (pa_cons (pe_op op_add (pv 1) (pe_callS G__law_pick (hr.mono (by first | decide | omega)) (by rfl) T.d__law_pick.g T.d__law_pick.F.kp T.d__law_pick.b (fun σ => L2N.passAt (L2N.takes_of rfl rfl rfl rfl) σ) (pa_cons (pv 0) (pa_cons (pe_lst (pa_cons (pe_un un_neg pe_int) (pa_cons pe_int (pa_cons pe_int (pa_cons pe_int (pa_cons (pe_un un_neg pe_int) (pa_cons pe_int pa_nil))))))) pa_nil)))) pa_nil))))
      (pss_cons (ps_set (i := 3) sc__law_lists.nd rfl (by first | exact Or.inl rfl | exact Or.inr rfl) (pe_callS G__law_listed (hr.mono (by first | decide | omega)) (by rfl) T.d__law_listed.g T.d__law_listed.F.kp T.d__law_listed.b (fun σ => L2N.passAt (L2N.takes_of rfl rfl rfl rfl) σ) (pa_cons (pv 1) pa_nil)))
      (pss_cons (ps_set (i := 4) sc__law_lists.nd rfl (by first | exact Or.inl rfl | exact Or.inr rfl) (pe_callS G_primes_to (hr.mono (by first | decide | omega)) (by rfl) T.d_primes_to.g T.d_primes_to.F.kp T.d_primes_to.b (fun σ => L2N.passAt (L2N.takes_of rfl rfl rfl rfl) σ) (pa_cons (pv 1) pa_nil)))
      (pss_cons (ps_if (PW.pt (pw_or (pt_not (pt_val (pe_callS G__law_same (hr.mono (by first | decide | omega)) (by rfl) T.d__law_same.g T.d__law_same.F.kp T.d__law_same.b (fun σ => L2N.passAt (L2N.takes_of rfl rfl rfl rfl) σ) (pa_cons (pv 4) (pa_cons (pv 3) pa_nil))))) (pw_or1 (pt_not (pt_val (pe_callS G__law_same (hr.mono (by first | decide | omega)) (by rfl) T.d__law_same.g T.d__law_same.F.kp T.d__law_same.b (fun σ => L2N.passAt (L2N.takes_of rfl rfl rfl rfl) σ) (pa_cons (pe_callS G_primes_to (hr.mono (by first | decide | omega)) (by rfl) T.d_primes_to.g T.d_primes_to.F.kp T.d_primes_to.b (fun σ => L2N.passAt (L2N.takes_of rfl rfl rfl rfl) σ) (pa_cons (pv 2) pa_nil)) (pa_cons (pe_callS G__law_listed (hr.mono (by first | decide | omega)) (by rfl) T.d__law_listed.g T.d__law_listed.F.kp T.d__law_listed.b (fun σ => L2N.passAt (L2N.takes_of rfl rfl rfl rfl) σ) (pa_cons (pv 2) pa_nil)) pa_nil)))))))) (pss_one (ps_ret pe_bl)) pss_nil)
      (pss_cons (ps_expr (pe_callS G__law_spoil_list (hr.mono (by first | decide | omega)) (by rfl) T.d__law_spoil_list.g T.d__law_spoil_list.F.kp T.d__law_spoil_list.b (fun σ => L2N.passAt (L2N.takes_of rfl rfl rfl rfl) σ) (pa_cons (pv 4) pa_nil)))
      (pss_cons (ps_if (PW.pt (pw_or (pt_not (pt_val (pe_callS G__law_same (hr.mono (by first | decide | omega)) (by rfl) T.d__law_same.g T.d__law_same.F.kp T.d__law_same.b (fun σ => L2N.passAt (L2N.takes_of rfl rfl rfl rfl) σ) (pa_cons (pe_callS G_primes_to (hr.mono (by first | decide | omega)) (by rfl) T.d_primes_to.g T.d_primes_to.F.kp T.d_primes_to.b (fun σ => L2N.passAt (L2N.takes_of rfl rfl rfl rfl) σ) (pa_cons (pv 1) pa_nil)) (pa_cons (pv 3) pa_nil))))) (pw_or1 (pt_not (pt_val (pe_callS G__law_same (hr.mono (by first | decide | omega)) (by rfl) T.d__law_same.g T.d__law_same.F.kp T.d__law_same.b (fun σ => L2N.passAt (L2N.takes_of rfl rfl rfl rfl) σ) (pa_cons (pe_slice sl_list (pv 4) po_none (po_some (pe_un un_neg pe_int))) (pa_cons (pe_revL (pv 3)) pa_nil)))))))) (pss_one (ps_ret pe_bl)) pss_nil)
      (pss_cons (ps_if (pt_cmpR op_le (pv 1) pe_int (nomark _)) (pss_cons (ps_setLc (i := 5) (own := [("number", 6)]) (g := gName 6) rfl sc__law_lists.nd rfl rfl (sw_true rfl rfl rfl (by decide +kernel)) (Vb.pi_rangeW rfl T.n_range (pa_cons (pe_un un_neg pe_int) (pa_cons (pe_op op_add (pv 1) pe_int) pa_nil))) (blkOk_by (own := [("number", 6)]) (N := N__law_lists) (sc := defScope s__law_lists) (by decide +kernel)) (fun _ _ _ _ _ => (pg_name (i := 6) sc__law_lists.nd rfl (by first | exact Or.inl rfl | exact Or.inr rfl))) (fun _ _ _ _ _ => pts_one (pt_cmpR op_isBl (pe_call G_is_prime (hr.mono (by first | decide | omega)) (by rfl) T.d_is_prime.g T.d_is_prime.F.kp T.d_is_prime.b .nil Vb.pass5 (pa_cons (pv 6) pa_nil)) pe_bl (nomark _))) (fun _ _ _ _ _ => (pv 6)))
      (pss_one (ps_ret (pe_callS G__law_same (hr.mono (by first | decide | omega)) (by rfl) T.d__law_same.g T.d__law_same.F.kp T.d__law_same.b (fun σ => L2N.passAt (L2N.takes_of rfl rfl rfl rfl) σ) (pa_cons (pv 5) (pa_cons (pv 3) pa_nil)))))) pss_nil)
      (pss_one (ps_ret (pe_cmpR op_isBl (pe_callS G_is_prime (hr.mono (by first | decide | omega)) (by rfl) T.d_is_prime.g T.d_is_prime.F.kp T.d_is_prime.b (fun σ => L2N.passAt (L2N.takes_of rfl rfl rfl rfl) σ) (pa_cons (pe_ix ix_list (pv 3) (pe_op op_sub (pe_callB Vb.call_len (by rfl) T.n_len (by decide +kernel) (pa_cons (pv 3) pa_nil)) pe_int) (fun _ _ => rfl)) pa_nil)) pe_bl (nomark _)))))))))))), ?_⟩
    (change (_ : L2.TS) _ ([some (.ref st), none, none, none, none, none, none] : L2.St) _); try dsimp only [L2.cxOf, L2H.cxH]
    walk_at "rd"
    refine ⟨st, rfl, hS, fun n H1 hn f1 S1 => ?_⟩
    walk_at "rd"
    refine ⟨Vb.size_ok (by show 6 ≤ 16777216; decide), fun l hl => ?_⟩
    walk_at "rd"
    have el := Vb.same_new (o := .lst [.int (-1), .int 1, .int 2, .int 17, .int (-30), .int 0]) hl
    refine use_pick _ (S1.same el) (S1.ne hl) (Vb.sq_of upd_same) (by show 6 < 1000000; decide) (by simp) fun i v H2 hv f2 S2 => ?_
    obtain ⟨x, rfl⟩ : ∃ x, v = V.int x := by
      match i, hv with
      | 0, hv => exact ⟨_, (Option.some.inj hv).symm⟩
      | 1, hv => exact ⟨_, (Option.some.inj hv).symm⟩
      | 2, hv => exact ⟨_, (Option.some.inj hv).symm⟩
      | 3, hv => exact ⟨_, (Option.some.inj hv).symm⟩
      | 4, hv => exact ⟨_, (Option.some.inj hv).symm⟩
      | 5, hv => exact ⟨_, (Option.some.inj hv).symm⟩
      | i + 6, hv => cases hv
    have f : Vb.Fr st H H2 := f1.trans ((Vb.Fr.of el).trans f2)
    walk_at "rd"
    have hnb : (if n + x < 10000 then n + x else 10000) ≤ 10000 := by split <;> omega
    generalize (if n + x < 10000 then n + x else 10000) = nb at hnb ⊢
    have hl1 := Vb.upto_len (n := n)
    have hl2 := Vb.upto_len (n := nb)
    refine use_listed hn fun pd H3 npd e3 hpd => ?_
    walk_at "rd"
    refine use_primesto hn fun pf H4 npf e4 hpf => ?_
    have hpd4 := e4 _ _ hpd
    have nfd : pf ≠ pd := fun z => by rw [z, hpd] at npf; cases npf
    walk_at "rd"
    refine use_same _ (Vb.dp_ints (Vb.sq_of hpf)) (Vb.dp_ints (Vb.sq_of hpd4)) (Vb.dok_ints (by omega)) ?_
    walk_at "rd"
    refine use_primesto hnb fun p5 H5 np5 e5 hp5 => ?_
    walk_at "rd"
    refine use_listed hnb fun p6 H6 np6 e6 hp6 => ?_
    walk_at "rd"
    refine use_same _ (Vb.dp_ints (Vb.sq_of (e6 _ _ hp5))) (Vb.dp_ints (Vb.sq_of hp6)) (Vb.dok_ints (by omega)) ?_
    walk_at "rd"
    have e26 : Same H2 H6 := ((e3.trans e4).trans e5).trans e6
    have hpf6 := e6 _ _ (e5 _ _ hpf)
    have hpd6 := e6 _ _ (e5 _ _ hpd4)
    refine ⟨pf, _, rfl, hpf6, by omega, ?_⟩
    have npf2 : H2 pf = none := e3.free npf
    have e27 : Same H2 (upd (upd H6 pf (.lst ((Vb.upto n).map V.int).reverse)) pf (.lst (((Vb.upto n).map V.int).reverse ++ [.non]))) := Vb.same_mut (Vb.same_mut e26 npf2) npf2
    have hpd7 : (upd (upd H6 pf (.lst ((Vb.upto n).map V.int).reverse)) pf (.lst (((Vb.upto n).map V.int).reverse ++ [.non]))) pd = some (.lst ((Vb.upto n).map V.int)) := Vb.h_ne nfd.symm (Vb.h_ne nfd.symm hpd6)
    have hpf7 : (upd (upd H6 pf (.lst ((Vb.upto n).map V.int).reverse)) pf (.lst (((Vb.upto n).map V.int).reverse ++ [.non]))) pf = some (.lst (((Vb.upto n).map V.int).reverse ++ [.non])) := upd_same
    generalize upd (upd H6 pf (.lst ((Vb.upto n).map V.int).reverse)) pf (.lst (((Vb.upto n).map V.int).reverse ++ [.non])) = H7 at e27 hpd7 hpf7
    walk_at "rd"
    refine use_primesto hn fun p8 H8 np8 e8 hp8 => ?_
    walk_at "rd"
    refine use_same _ (Vb.dp_ints (Vb.sq_of hp8)) (Vb.dp_ints (Vb.sq_of (e8 _ _ hpd7))) (Vb.dok_ints (by omega)) ?_
    walk_at "rd"
    refine ⟨_, rfl, ?_⟩
    have hpf8 := e8 _ _ hpf7
    have hpd8 := e8 _ _ hpd7
    refine Vb.r_slL (Vb.sq_of hpf8) fun p9 np9 => ?_
    rw [Vb.cut_last]
    walk_at "rd"
    have e9 := Vb.same_new (o := .lst ((Vb.upto n).map V.int).reverse) np9
    refine ⟨_, _, rfl, Vb.sq_of (e9 _ _ hpd8), fun p10 np10 => ?_⟩
    walk_at "rd"
    have e10 := Vb.same_new (o := .lst ((Vb.upto n).map V.int).reverse) np10
    refine use_same _ (dp_rev (e10 _ _ upd_same)) (dp_rev upd_same) (Vb.dok_ints (by rw [List.length_reverse]; omega)) ?_
    walk_at "rd"
    have hpd10 := e10 _ _ (e9 _ _ hpd8)
    have e2x : Same H2 _ := ((e27.trans e8).trans e9).trans e10
    generalize upd (upd H8 p9 (.lst ((Vb.upto n).map V.int).reverse)) p10 (.lst ((Vb.upto n).map V.int).reverse) = Hx at hpd10 e2x
    have fin : ∀ H', Same Hx H' → Q (.bl true) H' := fun H' e => q H' (f.trans (Vb.Fr.of (e2x.trans e))) (S2.same (e2x.trans e))
    refine Vb.r_ite (fun c => ?_) (fun c => ?_)
    · walk_at "rd"
      intro D hD
      refine Vb.lcw_range (fun i H' => i ≤ (n + 1 - -3).toNat ∧ Same Hx H' ∧ H' D = some (.lst ((Vb.upto (-4 + i)).map V.int))) ⟨Nat.zero_le _, Vb.same_new hD, ?_⟩ (fun x => rfl) ?_ ?_
      · rw [Vb.upto_low (by omega)]
        exact upd_same
      · rintro i H' hi ⟨_, e, ha⟩
        have hl := Vb.upto_len (n := -4 + i)
        have hnx := Vb.upto_all (-4 + i)
        rw [show (-4 : Int) + i + 1 = -3 + i by omega] at hnx
        walk_at "rd"
        cases hp : Vb.isP (-3 + i) with
        | true =>
          refine use_isprime (by omega) hp ?_
          walk_at "rd"
          rw [decide_eq_true rfl]
          refine Vb.r_iteT ?_
          walk_at "rd"
          refine ⟨_, ha, Vb.size_lt (by rw [List.length_map]; omega), by omega, Vb.same_mut e hD, ?_⟩
          rw [show (-4 : Int) + ((i + 1 : Nat) : Int) = -3 + i by omega, hnx, hp, if_pos rfl, List.map_append]
          exact upd_same
        | false =>
          refine use_isprime (by omega) hp ?_
          walk_at "rd"
          rw [decide_eq_false (by decide)]
          refine Vb.r_iteF ?_
          refine ⟨by omega, e, ?_⟩
          rw [show (-4 : Int) + ((i + 1 : Nat) : Int) = -3 + i by omega, hnx, hp, if_neg (by decide), List.append_nil]
          exact ha
      · rintro H' ⟨_, e, ha⟩
        walk_at "rd"
        have hu : Vb.upto (-4 + ((n + 1 - -3).toNat : Nat)) = Vb.upto n := by
          by_cases c2 : 1 ≤ n
          · rw [show (-4 : Int) + ((n + 1 - -3).toNat : Nat) = n by omega]
          · rw [Vb.upto_low (by omega), Vb.upto_low (by omega)]
        rw [hu] at ha
        refine use_same _ (Vb.dp_ints (Vb.sq_of ha)) (Vb.dp_ints (Vb.sq_of (e _ _ hpd10))) (Vb.dok_ints (by omega)) ?_
        exact fin _ e
    · walk_at "rd"
      have h0 : 0 < (Vb.upto n).length := List.length_pos_of_mem (Vb.mem_upto.mpr ⟨(Vb.isP_iff 2).mp (by decide +kernel), by omega⟩)
      have hlt : (Vb.upto n).length - 1 < (Vb.upto n).length := by omega
      refine Vb.r_ixL (Vb.sq_of hpd10) (Vb.at_lit ((Vb.upto n).length - 1) (by rw [List.length_map]; omega) (Vb.getV hlt)) ?_
      obtain ⟨g1, g2⟩ := Vb.mem_upto.mp (List.getElem_mem hlt)
      walk_at "rd"
      refine use_isprime (by omega) ((Vb.isP_iff _).mpr g1) ?_
      walk_at "rd"
      rw [decide_eq_true rfl]
      exact fin _ (Same.refl _)
end
end K
namespace K
open PySem PySem.Spec PyProof.Rows L2
abbrev N__law_values : List Str := ["store", "start", "values", "one", "k"]
theorem sc__law_values : FnScope N__law_values ["store"] (defScope s__law_values) := ⟨rfl, rfl, rfl, by decide +kernel, rfl, by decide +kernel, by decide +kernel⟩
section
variable {P : Program} {w : World} {K : PySem.W.Frag} {mg : Str → Option Value} {base : Heap}
def VOk (d : PyData) : Prop := Vb.DOk 4 d ∧ ∀ n, d = .int n → n ≤ 10000
/-- what the list at p holds so far -/
structure VS (K : PySem.W.Frag) (st p : Addr) (k : Nat) (H H' : Hp) (xs : List V) (ds : List PyData) : Prop where
  s0 : Vb.StoreAt H st
  np : H p = none
  f : Vb.Fr st H H'
  S : Vb.StoreAt H' st
  h : H' p = some (.lst xs)
  a : DpAll K (Vb.offs [st, p] H') xs ds
  l : ds.length = k
  o : ∀ d ∈ ds, VOk d
theorem VS.n {k : Nat} {st p : Addr} {H H1 : Hp} {xs : List V} {ds : List PyData} (v : VS K st p k H H1 xs ds) : p ≠ st := v.s0.ne v.np
theorem fr_free {H H1 : Hp} {st p : Addr} (f : Vb.Fr st H H1) (S : Vb.StoreAt H1 st) (h : H1 p = none) : H p = none := by
  cases e : H p with
  | none => rfl
  | some o =>
    have := f.k p o (S.ne h) e
    rw [h] at this
    cases this
theorem VS.ex {k : Nat} {st p : Addr} {H H1 : Hp} {xs : List V} {ds : List PyData} (v : VS K st p k H H1 xs ds) : ∃ ys es, VS K st p k H H1 ys es := ⟨xs, ds, v⟩
theorem VS.xl {k : Nat} {st p : Addr} {H H1 : Hp} {xs : List V} {ds : List PyData} (v : VS K st p k H H1 xs ds) : xs.length = k := by rw [Vb.dpa_len v.a, v.l]
theorem VS.fr {k : Nat} {st p : Addr} {H H1 H2 : Hp} {xs : List V} {ds : List PyData} (v : VS K st p k H H1 xs ds) (f : Vb.Fr st H1 H2) (S : Vb.StoreAt H2 st) : VS K st p k H H2 xs ds :=
  ⟨v.s0, v.np, v.f.trans f, S, f.k _ _ v.n v.h, Vb.dpa_same (Vb.offs_fr f List.mem_cons_self) _ _ v.a, v.l, v.o⟩
theorem VS.same {k : Nat} {st p : Addr} {H H1 H2 : Hp} {xs : List V} {ds : List PyData} (v : VS K st p k H H1 xs ds) (e : Same H1 H2) : VS K st p k H H2 xs ds := v.fr (Vb.Fr.of e) (v.S.same e)
theorem VS.app {k : Nat} {st p : Addr} {H H1 : Hp} {xs : List V} {ds : List PyData} {x : V} {d : PyData} (v : VS K st p k H H1 xs ds) (hx : Dp K (Vb.offs [st, p] H1) x d) (o : VOk d) : VS K st p (k + 1) H (upd H1 p (.lst (xs ++ [x]))) (xs ++ [x]) (ds ++ [d]) := by
  have sw : Same (Vb.offs [st, p] H1) (Vb.offs [st, p] (upd H1 p (.lst (xs ++ [x])))) := fun b u h => by
    obtain ⟨h1, h2⟩ := Vb.offs_some h
    exact Vb.offs_of h1 (Vb.h_ne (fun e => h1 (by rw [e]; simp)) h2)
  refine ⟨v.s0, v.np, v.f.mut v.np, v.s0.mut v.np v.f v.S, upd_same, Vb.dpa_same sw _ _ (Vb.dpa_app v.a (.cons hx .nil)), by rw [List.length_append, v.l]; rfl, fun d' m => ?_⟩
  rcases List.mem_append.mp m with m | m
  · exact v.o _ m
  · rw [List.mem_singleton.mp m]
    exact o
theorem VS.add {k : Nat} {st p : Addr} {H H1 : Hp} {xs : List V} {ds : List PyData} {n : Int} (v : VS K st p k H H1 xs ds) (o : n ≤ 10000) : VS K st p (k + 1) H (upd H1 p (.lst (xs ++ [.int n]))) (xs ++ [.int n]) (ds ++ [.int n]) := v.app (.int n) ⟨trivial, fun m e => by cases e; exact o⟩
theorem vok_odd : ∀ d ∈ oddKinds, VOk d := fun d m => by
  refine ⟨(odd_bad d m).2.2, fun n e => ?_⟩
  subst e
  simp [oddKinds] at m
def tells : List PyData := [.list [], .list [.int 7], .str "7", .tuple [.int 2, .int 3], .list [.list [.int 2]], .str "2", .bool true]
theorem vok_tells : ∀ d ∈ tells, VOk d := fun d m => by
  unfold tells at m
  simp only [List.mem_cons, List.not_mem_nil, or_false] at m
  rcases m with e | e | e | e | e | e | e <;> subst e <;> exact ⟨by simp [Vb.DOk], fun n e => by cases e⟩
def sp_values (K : PySem.W.Frag) : Sp := fun vs H Q _ => ∃ (st : Addr), vs = [.ref st] ∧ Vb.StoreAt H st ∧ ∀ (p : Addr) (H' : Hp) (xs : List V) (ds : List PyData), VS K st p 33 H H' xs ds → Q (.ref p) H'
theorem use_values {st : Addr} {H : Hp} {Q : VK} {E : XK} (S : Vb.StoreAt H st) (q : ∀ (p : Addr) (H' : Hp) (xs : List V) (ds : List PyData), VS K st p 33 H H' xs ds → Q (.ref p) H') : sp_values K [.ref st] H Q E := ⟨st, rfl, S, q⟩
theorem mul_le {a b c d : Int} (h0 : 0 ≤ a) (h1 : a ≤ c) (h2 : 0 ≤ b) (h3 : b ≤ d) : a * b ≤ c * d := Int.mul_le_mul h1 h3 h2 (by omega)
theorem ok_values (T : Txt K mg) : FnOk P w K mg base (L2N.CX P w) 5 T.f__law_values T.fd__law_values ["store"] (sp_values K) := by
  have G__law_edge := ok_edge (P := P) (w := w) (base := base) T
  have G__law_take := ok_take (P := P) (w := w) (base := base) T
  have G__law_pick := ok_pick (P := P) (w := w) (base := base) T
  have G__law_primes := ok_primes (P := P) (w := w) (base := base) T
  have G__law_prime := ok_prime (P := P) (w := w) (base := base) T
  have G__law_other_kind := ok_kind (P := P) (w := w) (base := base) T
  refine Vb.okN T.d__law_values.F sc__law_values (fun vs H Q E h => ?_) (fun cdv A outer s H vs Q E hr h => ?_)
  · obtain ⟨a, rfl, _⟩ := h
    rfl
  · obtain ⟨st, rfl, S0, q⟩ := h
    refine ⟨_, (pss_cons (ps_set (i := 1) sc__law_values.nd rfl (by first | exact Or.inl rfl | exact Or.inr rfl) (pe_callS G__law_edge (hr.mono (by first | decide | omega)) (by rfl) T.d__law_edge.g T.d__law_edge.F.kp T.d__law_edge.b (fun σ => L2N.passAt (L2N.takes_of rfl rfl rfl rfl) σ) (pa_cons (pv 0) (pa_cons pe_int (pa_cons (pe_op op_sub pe_int pe_int) pa_nil)))))
      (pss_cons (ps_setLc (i := 2) (own := [("k", 4)]) (g := gName 4) (tt := tYes) rfl sc__law_values.nd rfl rfl (sw_true rfl rfl rfl (by decide +kernel)) (pi_range1 rfl T.n_range (pa_cons pe_int pa_nil)) (blkOk_by (own := [("k", 4)]) (N := N__law_values) (sc := defScope s__law_values) (by decide +kernel)) (fun _ _ _ _ _ => (pg_name (i := 4) sc__law_values.nd rfl (by first | exact Or.inl rfl | exact Or.inr rfl))) (fun _ _ _ _ _ => pts_nil) (fun _ _ _ _ _ => (pe_op op_add (pv 1) (pv 4))))
      (pss_cons (ps_set (i := 3) sc__law_values.nd rfl (by first | exact Or.inl rfl | exact Or.inr rfl) (pe_callS G__law_edge (hr.mono (by first | decide | omega)) (by rfl) T.d__law_edge.g T.d__law_edge.F.kp T.d__law_edge.b (fun σ => L2N.passAt (L2N.takes_of rfl rfl rfl rfl) σ) (pa_cons (pv 0) (pa_cons pe_int (pa_cons pe_int pa_nil)))))
      (pss_cons (ps_expr (pe_bm PySem.F.plainAttrs_list PySem.F.slot_list_append PySem.F.type_list_append mt_append (pv 2) (pa_cons (pe_op op_mul (pv 3) (pv 3)) pa_nil)))
      (pss_cons (ps_expr (pe_bm PySem.F.plainAttrs_list PySem.F.slot_list_append PySem.F.type_list_append mt_append (pv 2) (pa_cons (pe_op op_mul (pv 3) (pe_callS G__law_edge (hr.mono (by first | decide | omega)) (by rfl) T.d__law_edge.g T.d__law_edge.F.kp T.d__law_edge.b (fun σ => L2N.passAt (L2N.takes_of rfl rfl rfl rfl) σ) (pa_cons (pv 0) (pa_cons pe_int (pa_cons pe_int pa_nil))))) pa_nil)))
      (pss_cons (ps_expr (pe_bm PySem.F.plainAttrs_list PySem.F.slot_list_append PySem.F.type_list_append mt_append (pv 2) (pa_cons (pe_op op_mul (pe_callS G__law_pick (hr.mono (by first | decide | omega)) (by rfl) T.d__law_pick.g T.d__law_pick.F.kp T.d__law_pick.b (fun σ => L2N.passAt (L2N.takes_of rfl rfl rfl rfl) σ) (pa_cons (pv 0) (pa_cons (pe_callS G__law_primes (hr.mono (by first | decide | omega)) (by rfl) T.d__law_primes.g T.d__law_primes.F.kp T.d__law_primes.b (fun σ => L2N.passAt (L2N.takes_of rfl rfl rfl rfl) σ) (pa_cons pe_int pa_nil)) pa_nil))) (pe_callS G__law_pick (hr.mono (by first | decide | omega)) (by rfl) T.d__law_pick.g T.d__law_pick.F.kp T.d__law_pick.b (fun σ => L2N.passAt (L2N.takes_of rfl rfl rfl rfl) σ) (pa_cons (pv 0) (pa_cons (pe_callS G__law_primes (hr.mono (by first | decide | omega)) (by rfl) T.d__law_primes.g T.d__law_primes.F.kp T.d__law_primes.b (fun σ => L2N.passAt (L2N.takes_of rfl rfl rfl rfl) σ) (pa_cons pe_int pa_nil)) pa_nil)))) pa_nil)))
      (pss_cons (ps_expr (pe_bm PySem.F.plainAttrs_list PySem.F.slot_list_append PySem.F.type_list_append mt_append (pv 2) (pa_cons (pe_un un_neg (pe_callS G__law_prime (hr.mono (by first | decide | omega)) (by rfl) T.d__law_prime.g T.d__law_prime.F.kp T.d__law_prime.b (fun σ => L2N.passAt (L2N.takes_of rfl rfl rfl rfl) σ) (pa_cons (pv 0) pa_nil))) pa_nil)))
      (pss_cons (ps_expr (pe_bm PySem.F.plainAttrs_list PySem.F.slot_list_append PySem.F.type_list_append mt_append (pv 2) (pa_cons (pe_op op_sub (pe_un un_neg (pe_op Vb.op_powB pe_int pe_int)) (pe_callS G__law_take (hr.mono (by first | decide | omega)) (by rfl) T.d__law_take.g T.d__law_take.F.kp T.d__law_take.b (fun σ => L2N.passAt (L2N.takes_of rfl rfl rfl rfl) σ) (pa_cons (pv 0) (pa_cons pe_int pa_nil)))) pa_nil)))
      (pss_cons (ps_expr (pe_bm PySem.F.plainAttrs_list PySem.F.slot_list_append PySem.F.type_list_append mt_append (pv 2) (pa_cons (pe_callS G__law_other_kind (hr.mono (by first | decide | omega)) (by rfl) T.d__law_other_kind.g T.d__law_other_kind.F.kp T.d__law_other_kind.b (fun σ => L2N.passAt (L2N.takes_of rfl rfl rfl rfl) σ) (pa_cons (pv 0) pa_nil)) pa_nil)))
      (pss_cons (ps_expr (pe_bm PySem.F.plainAttrs_list PySem.F.slot_list_append PySem.F.type_list_append mt_append (pv 2) (pa_cons (pe_callS G__law_pick (hr.mono (by first | decide | omega)) (by rfl) T.d__law_pick.g T.d__law_pick.F.kp T.d__law_pick.b (fun σ => L2N.passAt (L2N.takes_of rfl rfl rfl rfl) σ) (pa_cons (pv 0) (pa_cons (pe_lst (pa_cons (pe_lst pa_nil) (pa_cons (pe_lst (pa_cons pe_int pa_nil)) (pa_cons pe_str (pa_cons (pe_tup (pa_cons pe_int (pa_cons pe_int pa_nil))) (pa_cons (pe_lst (pa_cons (pe_lst (pa_cons pe_int pa_nil)) pa_nil)) (pa_cons pe_str (pa_cons pe_bl pa_nil)))))))) pa_nil))) pa_nil)))
      (pss_cons (ps_expr (pe_bm PySem.F.plainAttrs_list PySem.F.slot_list_append PySem.F.type_list_append mt_append (pv 2) (pa_cons (pe_op op_sub pe_int (pe_callS G__law_take (hr.mono (by first | decide | omega)) (by rfl) T.d__law_take.g T.d__law_take.F.kp T.d__law_take.b (fun σ => L2N.passAt (L2N.takes_of rfl rfl rfl rfl) σ) (pa_cons (pv 0) (pa_cons pe_int pa_nil)))) pa_nil)))
      (pss_one (ps_ret (pv 2)))))))))))))), ?_⟩
    (change (_ : L2.TS) _ ([some (.ref st), none, none, none, none] : L2.St) _); try dsimp only [L2.cxOf, L2H.cxH]
    walk_at "rd"
    refine use_edge S0 (by omega) fun start H1 a1 a2 _ f1 S1 => ?_
    have a3 := a2 (by omega)
    walk_at "rd"
    intro D hD
    have nD : H D = none := fr_free f1 S1 hD
    refine Vb.lcw_range (fun i H' => ∃ acc ds, VS K st D i H H' acc ds) ⟨[], [], S0, nD, f1.mut nD, S0.mut nD f1 S1, upd_same, .nil, rfl, fun _ m => by cases m⟩ (fun x => rfl) ?_ ?_
    · rintro i H' hi ⟨acc, ds, v⟩
      walk_at "rd"
      exact ⟨_, v.h, Vb.size_lt (by rw [v.xl]; omega), _, _, v.add (by omega)⟩
    · rintro H' ⟨acc, ds, v⟩
      replace v : VS K st D 25 H H' acc ds := v
      clear hD
      walk_at "rd"
      refine use_edge v.S (by omega) fun one H2 b1 b2 _ f2 S2 => ?_
      have b3 := b2 (by omega)
      replace v := v.fr f2 S2
      have vh := v.h
      have vl := v.xl
      walk_at "rd"
      obtain ⟨xs, ds, v⟩ := VS.ex (v.add (mul_le (c := 100) (d := 100) (by omega) b3 (by omega) b3))
      refine use_edge v.S (by omega) fun two H3 c1 c2 _ f3 S3 => ?_
      have c3 := c2 (by omega)
      replace v := v.fr f3 S3
      have vh := v.h
      have vl := v.xl
      walk_at "rd"
      obtain ⟨xs, ds, v⟩ := VS.ex (v.add (mul_le (c := 100) (d := 100) (by omega) b3 (by omega) c3))
      refine use_primes (by decide) (by decide) fun p1 H4 np1 e4 hp1 => ?_
      have n4 := v.S.ne np1
      replace v := v.same e4
      walk_at "rd"
      have hne : (Vb.upto 97).map V.int ≠ [] := by
        have := List.length_pos_of_mem (Vb.mem_upto (n := 97).mpr ⟨(Vb.isP_iff 2).mp (by decide +kernel), by decide⟩)
        exact fun e => by rw [List.map_eq_nil_iff.mp e] at this; cases this
      have hl := Vb.upto_len (n := 97)
      have hlt : ((Vb.upto 97).map V.int).length < 1000000 := by rw [List.length_map]; omega
      have val : ∀ {i : Nat} {x : V}, ((Vb.upto 97).map V.int)[i]? = some x → ∃ z : Int, x = .int z ∧ 2 ≤ z ∧ z ≤ 97 := fun h => by
        obtain ⟨z, h1, h2⟩ := Vb.getV' h
        obtain ⟨g1, g2⟩ := Vb.mem_upto.mp (List.mem_of_getElem? h1)
        exact ⟨z, h2, g1.1, g2⟩
      refine use_pick _ v.S n4 (Vb.sq_of hp1) hlt hne fun i5 x5 H5 h5 f5 S5 => ?_
      obtain ⟨z5, rfl, y1, y2⟩ := val h5
      replace v := v.fr f5 S5
      walk_at "rd"
      refine use_primes (by decide) (by decide) fun p6 H6 np6 e6 hp6 => ?_
      have n6 := v.S.ne np6
      replace v := v.same e6
      walk_at "rd"
      refine use_pick _ v.S n6 (Vb.sq_of hp6) hlt hne fun i7 x7 H7 h7 f7 S7 => ?_
      obtain ⟨z7, rfl, y3, y4⟩ := val h7
      replace v := v.fr f7 S7
      have vh := v.h
      have vl := v.xl
      walk_at "rd"
      have y5 := mul_le (show (0 : Int) ≤ z5 by omega) y2 (show (0 : Int) ≤ z7 by omega) y4
      obtain ⟨xs, ds, v⟩ := VS.ex (v.add (show z5 * z7 ≤ 10000 by omega))
      refine use_prime v.S fun pr H8 g1 g2 f8 S8 => ?_
      have g3 := g1.1
      replace v := v.fr f8 S8
      have vh := v.h
      have vl := v.xl
      walk_at "rd"
      obtain ⟨xs, ds, v⟩ := VS.ex (v.add (show -pr ≤ 10000 by omega))
      refine use_take v.S (by decide) fun t9 H9 t1 _ _ f9 S9 => ?_
      replace v := v.fr f9 S9
      have vh := v.h
      have vl := v.xl
      walk_at "rd"
      obtain ⟨xs, ds, v⟩ := VS.ex (v.add (show (-10 ^ 40 : Int) - t9 ≤ 10000 by omega))
      refine use_kind v.S fun x10 d10 H10 m10 f10 S10 g10 => ?_
      have o10 := vok_odd _ m10
      have d10' := g10 [D] (Vb.Trk.one v.h)
      replace v := v.fr f10 S10
      have vh := v.h
      have vl := v.xl
      walk_at "rd"
      obtain ⟨xs, ds, v⟩ := VS.ex (v.app d10' o10)
      clear vh vl
      refine ⟨Vb.size_ok (by show 0 ≤ 16777216; decide), fun l0 n0 => ?_⟩
      have s0 := v.S.ne n0
      have d0 := L2.ne_of_none v.h n0
      replace v := v.same (Vb.same_new (o := .lst []) n0)
      walk_at "rd"
      refine ⟨Vb.size_ok (by show 1 ≤ 16777216; decide), fun l1 n1 => ?_⟩
      have s1 := v.S.ne n1
      have d1 := L2.ne_of_none v.h n1
      replace v := v.same (Vb.same_new (o := .lst [.int 7]) n1)
      walk_at "rd"
      refine ⟨Vb.size_ok (by show 2 ≤ 16777216; decide), fun l2 n2 => ?_⟩
      have s2 := v.S.ne n2
      have d2 := L2.ne_of_none v.h n2
      replace v := v.same (Vb.same_new (o := .tup [.int 2, .int 3]) n2)
      walk_at "rd"
      refine ⟨Vb.size_ok (by show 1 ≤ 16777216; decide), fun l3 n3 => ?_⟩
      have s3 := v.S.ne n3
      have d3 := L2.ne_of_none v.h n3
      replace v := v.same (Vb.same_new (o := .lst [.int 2]) n3)
      walk_at "rd"
      refine ⟨Vb.size_ok (by show 1 ≤ 16777216; decide), fun l4 n4 => ?_⟩
      have s4 := v.S.ne n4
      have d4 := L2.ne_of_none v.h n4
      replace v := v.same (Vb.same_new (o := .lst [.ref l3]) n4)
      walk_at "rd"
      refine ⟨Vb.size_ok (by show 7 ≤ 16777216; decide), fun l5 n5 => ?_⟩
      have s5 := v.S.ne n5
      replace v := v.same (Vb.same_new (o := .lst [.ref l0, .ref l1, .str "7", .ref l2, .ref l4, .str "2", .bl true]) n5)
      walk_at "rd"
      refine use_pick [.ref l0, .ref l1, .str "7", .ref l2, .ref l4, .str "2", .bl true] v.S s5 (Vb.sq_of upd_same) (by show 7 < 1000000; decide) (by simp) fun i11 x11 H11 h11 f11 S11 => ?_
      have k0 := f11.k l0 (.lst []) s0 (by walk_at "hp")
      have k1 := f11.k l1 (.lst [.int 7]) s1 (by walk_at "hp")
      have k2 := f11.k l2 (.tup [.int 2, .int 3]) s2 (by walk_at "hp")
      have k3 := f11.k l3 (.lst [.int 2]) s3 (by walk_at "hp")
      have k4 := f11.k l4 (.lst [.ref l3]) s4 (by walk_at "hp")
      have m0 : l0 ∉ [st, D] := by simp [s0, d0.symm]
      have m1 : l1 ∉ [st, D] := by simp [s1, d1.symm]
      have m2 : l2 ∉ [st, D] := by simp [s2, d2.symm]
      have m3 : l3 ∉ [st, D] := by simp [s3, d3.symm]
      have m4 : l4 ∉ [st, D] := by simp [s4, d4.symm]
      have all : DpAll K (Vb.offs [st, D] H11) [.ref l0, .ref l1, .str "7", .ref l2, .ref l4, .str "2", .bl true] tells :=
        .cons (Vb.dp_lst (Vb.offs_of m0 k0) .nil) (.cons (Vb.dp_lst (Vb.offs_of m1 k1) (.cons (.int 7) .nil)) (.cons (.str _) (.cons (Vb.dp_tup (Vb.offs_of m2 k2) (.cons (.int 2) (.cons (.int 3) .nil))) (.cons (Vb.dp_lst (Vb.offs_of m4 k4) (.cons (Vb.dp_lst (Vb.offs_of m3 k3) (.cons (.int 2) .nil)) .nil)) (.cons (.str _) (.cons (.bl _) .nil))))))
      obtain ⟨d11, hd11, g11⟩ := Vb.dpa_get all h11
      have o11 := vok_tells _ (List.mem_of_getElem? hd11)
      replace v := v.fr f11 S11
      have vh := v.h
      have vl := v.xl
      walk_at "rd"
      obtain ⟨xs, ds, v⟩ := VS.ex (v.app g11 o11)
      refine use_take v.S (by decide) fun t12 H12 t2 _ _ f12 S12 => ?_
      replace v := v.fr f12 S12
      have vh := v.h
      have vl := v.xl
      walk_at "rd"
      exact q _ _ _ _ (v.add (show (10000 : Int) - t12 ≤ 10000 by omega))
end
end K
namespace K
open PySem PySem.Spec PyProof.Rows L2
abbrev N_law : List Str := ["script", "store", "value", "great", "good", "large", "k", "bad", "one"]
theorem sc_law : FnScope N_law ["script"] (defScope s_law) := ⟨rfl, rfl, rfl, by decide +kernel, rfl, by decide +kernel, by decide +kernel⟩
section
variable {P : Program} {w : World} {K : PySem.W.Frag} {mg : Str → Option Value} {base : Heap}
theorem gaps : ∀ s : Int, 103 ≤ s → s < 503 → ∃ m : Int, s ≤ m ∧ m < s + 60 ∧ Vb.isP m = true := by
  have h : (List.range 400).all (fun s => (List.range 60).any fun k => Vb.isP (103 + (s : Int) + k)) = true := by decide +kernel
  intro s h1 h2
  obtain ⟨k, a, b⟩ := List.any_eq_true.mp (List.all_eq_true.mp h (s - 103).toNat (List.mem_range.mpr (by omega)))
  have := List.mem_range.mp a
  refine ⟨s + k, by omega, by omega, ?_⟩
  rw [show s + (k : Int) = 103 + ((s - 103).toNat : Int) + k by omega]
  exact b
theorem field_yes {n : Int} (h : Vb.Prm n) (l : n ≤ 101) : field (.int n) = true := by
  show (decide (n ≤ 101) && Vb.isP n) = true
  rw [decide_eq_true l, (Vb.isP_iff n).mpr h]
  rfl
def sp_law (K : PySem.W.Frag) : Sp := fun vs H Q _ => ∃ (a : Addr) (ns : List Int), vs = [.ref a] ∧ SqL K H a (ns.map V.int) ∧ ns.length ≤ 63 ∧ ∀ H', Q (.bl true) H'
theorem ok_law (T : Txt K mg) : FnOk P w K mg base (L2N.CX P w) 7 T.f_law T.fd_law ["script"] (sp_law K) := by
  have G__law_store := ok_store (P := P) (w := w) (base := base) T
  have G__law_lists := ok_lists (P := P) (w := w) (base := base) T
  have G__law_same := ok_same (P := P) (w := w) (base := base) T 4
  have G__law_values := ok_values (P := P) (w := w) (base := base) T
  have G__law_tells := ok_tells (P := P) (w := w) (base := base) T
  have G__law_pick := ok_pick (P := P) (w := w) (base := base) T
  have G__law_take := ok_take (P := P) (w := w) (base := base) T
  have G__law_beyond := ok_beyond (P := P) (w := w) (base := base) T
  have G__law_primes := ok_primes (P := P) (w := w) (base := base) T
  have G_check_prime := ok_check (P := P) (w := w) (base := base) T
  have G_is_prime := ok_isprime (P := P) (w := w) (base := base) T
  have G__law_refused := ok_refused (P := P) (w := w) (base := base) T
  have G__law_divided := ok_divided (P := P) (w := w) (base := base) T
  have G__law_bad_prime := ok_badprime (P := P) (w := w) (base := base) T
  have G__law_prime := ok_prime (P := P) (w := w) (base := base) T
  refine Vb.okN T.d_law.F sc_law (fun vs H Q E h => ?_) (fun cdv A outer s H vs Q E hr h => ?_)
  · obtain ⟨a, ns, rfl, _⟩ := h
    rfl
  · obtain ⟨a, ns, rfl, ha, hn, q⟩ := h
    refine ⟨_, (pss_cons (ps_set (i := 1) sc_law.nd rfl (by first | exact Or.inl rfl | exact Or.inr rfl) (pe_callS G__law_store (hr.mono (by first | decide | omega)) (by rfl) T.d__law_store.g T.d__law_store.F.kp T.d__law_store.b (fun σ => L2N.passAt (L2N.takes_of rfl rfl rfl rfl) σ) (pa_cons (pv 0) pa_nil)))
      (pss_cons (ps_if (PW.pt (pw_or (pt_not (pt_val (pe_callS G__law_lists (hr.mono (by first | decide | omega)) (by rfl) T.d__law_lists.g T.d__law_lists.F.kp T.d__law_lists.b (fun σ => L2N.passAt (L2N.takes_of rfl rfl rfl rfl) σ) (pa_cons (pv 1) pa_nil)))) (pw_or1 (pt_not (pt_val (pe_callS G__law_same (hr.mono (by first | decide | omega)) (by rfl) T.d__law_same.g T.d__law_same.F.kp T.d__law_same.b (fun σ => L2N.passAt (L2N.takes_of rfl rfl rfl rfl) σ) (pa_cons (pe_glob (v := .int 101) (by rfl) T.c_MAX_PRIME ⟨_, rfl⟩) (pa_cons pe_int pa_nil)))))))) (pss_one (ps_ret pe_bl)) pss_nil)
      (pss_cons (ps_for (L2.passes_of rfl) rfl (pi_list (pe_callS G__law_values (hr.mono (by first | decide | omega)) (by rfl) T.d__law_values.g T.d__law_values.F.kp T.d__law_values.b (fun σ => L2N.passAt (L2N.takes_of rfl rfl rfl rfl) σ) (pa_cons (pv 1) pa_nil))) (pg_name (i := 2) sc_law.nd rfl (by first | exact Or.inl rfl | exact Or.inr rfl))
        (pss_one (ps_if (pt_not (pt_val (pe_callS G__law_tells (hr.mono (by first | decide | omega)) (by rfl) T.d__law_tells.g T.d__law_tells.F.kp T.d__law_tells.b (fun σ => L2N.passAt (L2N.takes_of rfl rfl rfl rfl) σ) (pa_cons (pv 2) pa_nil)))) (pss_one (ps_ret pe_bl)) pss_nil)))
      (pss_cons (ps_set (i := 3) sc_law.nd rfl (by first | exact Or.inl rfl | exact Or.inr rfl) (pe_callS G__law_pick (hr.mono (by first | decide | omega)) (by rfl) T.d__law_pick.g T.d__law_pick.F.kp T.d__law_pick.b (fun σ => L2N.passAt (L2N.takes_of rfl rfl rfl rfl) σ) (pa_cons (pv 1) (pa_cons (pe_lst (pa_cons pe_int (pa_cons pe_int (pa_cons pe_int (pa_cons (pe_op op_add pe_int (pe_callS G__law_take (hr.mono (by first | decide | omega)) (by rfl) T.d__law_take.g T.d__law_take.F.kp T.d__law_take.b (fun σ => L2N.passAt (L2N.takes_of rfl rfl rfl rfl) σ) (pa_cons (pv 1) (pa_cons pe_int pa_nil)))) (pa_cons (pe_op op_add (pe_op Vb.op_powB pe_int pe_int) (pe_callS G__law_take (hr.mono (by first | decide | omega)) (by rfl) T.d__law_take.g T.d__law_take.F.kp T.d__law_take.b (fun σ => L2N.passAt (L2N.takes_of rfl rfl rfl rfl) σ) (pa_cons (pv 1) (pa_cons pe_int pa_nil)))) pa_nil)))))) pa_nil))))
      (pss_cons (ps_if (PW.pt (pw_or (pt_not (pt_val (pe_callS G__law_beyond (hr.mono (by first | decide | omega)) (by rfl) T.d__law_beyond.g T.d__law_beyond.F.kp T.d__law_beyond.b (fun σ => L2N.passAt (L2N.takes_of rfl rfl rfl rfl) σ) (pa_cons pe_bl (pa_cons (pv 3) pa_nil))))) (pw_or (pt_not (pt_val (pe_callS G__law_beyond (hr.mono (by first | decide | omega)) (by rfl) T.d__law_beyond.g T.d__law_beyond.F.kp T.d__law_beyond.b (fun σ => L2N.passAt (L2N.takes_of rfl rfl rfl rfl) σ) (pa_cons pe_bl (pa_cons (pv 3) pa_nil))))) (pw_or1 (pt_not (pt_val (pe_callS G__law_beyond (hr.mono (by first | decide | omega)) (by rfl) T.d__law_beyond.g T.d__law_beyond.F.kp T.d__law_beyond.b (fun σ => L2N.passAt (L2N.takes_of rfl rfl rfl rfl) σ) (pa_cons pe_bl (pa_cons (pe_op op_add (pv 3) pe_int) pa_nil))))))))) (pss_one (ps_ret pe_bl)) pss_nil)
      (pss_cons (ps_set (i := 4) sc_law.nd rfl (by first | exact Or.inl rfl | exact Or.inr rfl) (pe_callS G__law_primes (hr.mono (by first | decide | omega)) (by rfl) T.d__law_primes.g T.d__law_primes.F.kp T.d__law_primes.b (fun σ => L2N.passAt (L2N.takes_of rfl rfl rfl rfl) σ) (pa_cons pe_int pa_nil)))
      (pss_cons (ps_for (L2.passes_of rfl) rfl (Vb.pi_rangeW rfl T.n_range (pa_cons (pe_un un_neg pe_int) (pa_cons pe_int pa_nil))) (pg_name (i := 2) sc_law.nd rfl (by first | exact Or.inl rfl | exact Or.inr rfl))
        (pss_cons (ps_if (PW.pt (pw_and (pt_cmpR op_in_seq (pv 2) (pv 4) (by rfl)) (pw_and1 (pt_not (pt_val (pe_callS G__law_same (hr.mono (by first | decide | omega)) (by rfl) T.d__law_same.g T.d__law_same.F.kp T.d__law_same.b (fun σ => L2N.passAt (L2N.takes_of rfl rfl rfl rfl) σ) (pa_cons (pe_callS G_check_prime (hr.mono (by first | decide | omega)) (by rfl) T.d_check_prime.g T.d_check_prime.F.kp T.d_check_prime.b (fun σ => L2N.passAt (L2N.takes_of rfl rfl rfl rfl) σ) (pa_cons (pv 2) pa_nil)) (pa_cons (pv 2) pa_nil)))))))) (pss_one (ps_ret pe_bl)) pss_nil)
      (pss_one (ps_if (PW.pt (pw_and (pt_cmpR op_notIn_seq (pv 2) (pv 4) (by rfl)) (pw_and1 (pt_not (pt_val (pe_callS G__law_refused (hr.mono (by first | decide | omega)) (by rfl) T.d__law_refused.g T.d__law_refused.F.kp T.d__law_refused.b (fun σ => L2N.passAt (L2N.takes_of rfl rfl rfl rfl) σ) (pa_cons (pv 2) pa_nil))))))) (pss_one (ps_ret pe_bl)) pss_nil))))
      (pss_cons (ps_set (i := 5) sc_law.nd rfl (by first | exact Or.inl rfl | exact Or.inr rfl) (pe_op op_add pe_int (pe_callS G__law_take (hr.mono (by first | decide | omega)) (by rfl) T.d__law_take.g T.d__law_take.F.kp T.d__law_take.b (fun σ => L2N.passAt (L2N.takes_of rfl rfl rfl rfl) σ) (pa_cons (pv 1) (pa_cons pe_int pa_nil)))))
      (pss_cons (ps_for (L2.passes_of rfl) rfl (pi_range1 rfl T.n_range (pa_cons pe_int pa_nil)) (pg_name (i := 6) sc_law.nd rfl (by first | exact Or.inl rfl | exact Or.inr rfl))
        (pss_one (ps_set (i := 5) sc_law.nd rfl (by first | exact Or.inl rfl | exact Or.inr rfl) (pe_op op_add (pv 5) (pe_callTy Vb.call_int (by rfl) T.n_int (by decide +kernel) (pa_cons (pe_callS G__law_divided (hr.mono (by first | decide | omega)) (by rfl) T.d__law_divided.g T.d__law_divided.F.kp T.d__law_divided.b (fun σ => L2N.passAt (L2N.takes_of rfl rfl rfl rfl) σ) (pa_cons (pv 5) pa_nil)) pa_nil))))))
      (pss_cons (ps_set (i := 7) sc_law.nd rfl (by first | exact Or.inl rfl | exact Or.inr rfl) (pe_callS G__law_bad_prime (hr.mono (by first | decide | omega)) (by rfl) T.d__law_bad_prime.g T.d__law_bad_prime.F.kp T.d__law_bad_prime.b (fun σ => L2N.passAt (L2N.takes_of rfl rfl rfl rfl) σ) (pa_cons (pv 1) pa_nil)))
      (pss_cons (ps_if (PW.pt (pw_or (pt_not (pt_val (pe_callS G__law_refused (hr.mono (by first | decide | omega)) (by rfl) T.d__law_refused.g T.d__law_refused.F.kp T.d__law_refused.b (fun σ => L2N.passAt (L2N.takes_of rfl rfl rfl rfl) σ) (pa_cons (pv 5) pa_nil)))) (pw_or (pt_cmpR op_notBl (pe_callS G_is_prime (hr.mono (by first | decide | omega)) (by rfl) T.d_is_prime.g T.d_is_prime.F.kp T.d_is_prime.b (fun σ => L2N.passAt (L2N.takes_of rfl rfl rfl rfl) σ) (pa_cons (pv 5) pa_nil)) pe_bl (nomark _)) (pw_or (pt_not (pt_val (pe_callS G__law_refused (hr.mono (by first | decide | omega)) (by rfl) T.d__law_refused.g T.d__law_refused.F.kp T.d__law_refused.b (fun σ => L2N.passAt (L2N.takes_of rfl rfl rfl rfl) σ) (pa_cons (pv 7) pa_nil)))) (pw_or1 (pt_not (pt_val (pe_callS G__law_refused (hr.mono (by first | decide | omega)) (by rfl) T.d__law_refused.g T.d__law_refused.F.kp T.d__law_refused.b (fun σ => L2N.passAt (L2N.takes_of rfl rfl rfl rfl) σ) (pa_cons (pe_lst (pa_cons pe_int pa_nil)) pa_nil))))))))) (pss_one (ps_ret pe_bl)) pss_nil)
      (pss_cons (ps_set (i := 8) sc_law.nd rfl (by first | exact Or.inl rfl | exact Or.inr rfl) (pe_callS G__law_prime (hr.mono (by first | decide | omega)) (by rfl) T.d__law_prime.g T.d__law_prime.F.kp T.d__law_prime.b (fun σ => L2N.passAt (L2N.takes_of rfl rfl rfl rfl) σ) (pa_cons (pv 1) pa_nil)))
      (pss_one (ps_ret (pe_and (pe_callS G__law_refused (hr.mono (by first | decide | omega)) (by rfl) T.d__law_refused.g T.d__law_refused.F.kp T.d__law_refused.b (fun σ => L2N.passAt (L2N.takes_of rfl rfl rfl rfl) σ) (pa_cons (pv 7) pa_nil)) (pe_and (pe_callS G__law_same (hr.mono (by first | decide | omega)) (by rfl) T.d__law_same.g T.d__law_same.F.kp T.d__law_same.b (fun σ => L2N.passAt (L2N.takes_of rfl rfl rfl rfl) σ) (pa_cons (pe_callS G_check_prime (hr.mono (by first | decide | omega)) (by rfl) T.d_check_prime.g T.d_check_prime.F.kp T.d_check_prime.b (fun σ => L2N.passAt (L2N.takes_of rfl rfl rfl rfl) σ) (pa_cons (pv 8) pa_nil)) (pa_cons (pv 8) pa_nil))) (pe_one (pe_callS G__law_beyond (hr.mono (by first | decide | omega)) (by rfl) T.d__law_beyond.g T.d__law_beyond.F.kp T.d__law_beyond.b (fun σ => L2N.passAt (L2N.takes_of rfl rfl rfl rfl) σ) (pa_cons pe_bl (pa_cons (pv 3) pa_nil)))))))))))))))))))), ?_⟩
    (change (_ : L2.TS) _ ([some (.ref a), none, none, none, none, none, none, none, none] : L2.St) _); try dsimp only [L2.cxOf, L2H.cxH]
    walk_at "rd"
    refine ⟨a, ns, rfl, ha, by omega, fun st H1 n1 e1 S1 => ?_⟩
    walk_at "rd"
    refine ⟨st, rfl, S1, fun H2 f2 S2 => ?_⟩
    walk_at "rd"
    refine use_same (.int 101) (.int _) (.int _) trivial ?_
    walk_at "rd"
    refine use_values S2 fun p H3 xs ds v => ?_
    have vh := v.h
    walk_at "rd"
    refine Vb.lp_list (xs := xs) (fun i σ H' => Same H3 H' ∧ ∃ y, σ = [some (.ref a), some (.ref st), y, none, none, none, none, none, none]) ⟨Same.refl _, none, rfl⟩ (fun i σ H' _ p => Vb.sq_of (p.1 _ _ v.h)) ?_ ?_
    · rintro i x σ H' hi ⟨e, y, rfl⟩
      obtain ⟨d, hd1, hd2⟩ := Vb.dpa_get v.a hi
      have hd3 := Vb.dp_same (Vb.offs_sub.trans e) _ _ hd2
      have hok := v.o _ (List.mem_of_getElem? hd1)
      walk_at "rd"
      refine ⟨x, d, rfl, hd3, hok.1, hok.2, fun H4 e4 => ?_⟩
      walk_at "rd"
      exact ⟨e.trans e4, _, rfl⟩
    · rintro σ H4 ⟨e4, y, rfl⟩
      have S4 := v.S.same e4
      clear v
      walk_at "rd"
      refine use_take S4 (by decide) fun t5 H5 a1 _ _ f5 S5 => ?_
      walk_at "rd"
      refine use_take S5 (by decide) fun t6 H6 a2 _ _ f6 S6 => ?_
      walk_at "rd"
      refine ⟨Vb.size_ok (by show 5 ≤ 16777216; decide), fun l7 n7 => ?_⟩
      walk_at "rd"
      have S7 := S6.same (Vb.same_new (o := .lst [.int 10001, .int 10002, .int 10007, .int (10001 + t5), .int (10 ^ 40 + t6)]) n7)
      refine use_pick [.int 10001, .int 10002, .int 10007, .int (10001 + t5), .int (10 ^ 40 + t6)] S7 (S6.ne n7) (Vb.sq_of upd_same) (by show 5 < 1000000; decide) (by simp) fun i8 x8 H8 h8 f8 S8 => ?_
      obtain ⟨g, rfl, hg⟩ : ∃ g : Int, x8 = .int g ∧ 10000 < g := by
        have m := List.mem_of_getElem? h8
        simp only [List.mem_cons, List.not_mem_nil, or_false] at m
        rcases m with e | e | e | e | e <;> exact ⟨_, e, by omega⟩
      clear h8
      walk_at "rd"
      refine use_beyond hg ?_
      walk_at "rd"
      refine use_beyond hg ?_
      walk_at "rd"
      refine use_beyond (by omega) ?_
      walk_at "rd"
      refine use_primes (by decide) (by decide) fun pg H9 n9 e9 hpg => ?_
      walk_at "rd"
      refine Vb.lp_range (fun i σ H' => Same H9 H' ∧ ∃ y, σ = [some (.ref a), some (.ref st), y, some (.int g), some (.ref pg), none, none, none, none]) ⟨Same.refl _, _, rfl⟩ ?_ ?_
      · rintro i σ H' hi ⟨e, y, rfl⟩
        have hs : SqL K H' pg ((Vb.upto 101).map V.int) := Vb.sq_of (e _ _ hpg)
        walk_at "rd"
        refine Vb.r_inL hs ?_
        walk_at "rd"
        by_cases m : (-1 : Int) + i ∈ Vb.upto 101
        · obtain ⟨m1, m2⟩ := Vb.mem_upto.mp m
          rw [decide_eq_true m]
          walk_at "rd"
          refine ⟨_, _, rfl, .int ((-1 : Int) + i), fun _ => ?_, fun z => by rw [field_yes m1 m2] at z; cases z⟩
          walk_at "rd"
          refine use_same (.int ((-1 : Int) + i)) (.int _) (.int _) trivial ?_
          walk_at "rd"
          refine Vb.r_niL hs ?_
          rw [decide_eq_true m]
          walk_at "rd"
          exact ⟨e, _, rfl⟩
        · have hf : field (.int ((-1 : Int) + i)) = false := field_no (by
            by_cases l : (101 : Int) < -1 + i
            · exact .inl l
            · exact .inr fun z => m (Vb.mem_upto.mpr ⟨z, by omega⟩))
          rw [decide_eq_false m]
          walk_at "rd"
          refine Vb.r_niL hs ?_
          rw [decide_eq_false m]
          walk_at "rd"
          refine ⟨_, _, rfl, .int ((-1 : Int) + i), trivial, hf, fun H' e' => ?_⟩
          walk_at "rd"
          exact ⟨e.trans e', _, rfl⟩
      · rintro σ H10 ⟨e10, y, rfl⟩
        walk_at "rd"
        refine use_take ((S8.same e9).same e10) (by decide) fun t11 H11 a11 b11 _ f11 S11 => ?_
        have c11 := b11 (by decide)
        walk_at "rd"
        refine Vb.lp_range (fun i σ H' => H' = H11 ∧ ∃ (z : Int) (u : Option V), (103 + t11 ≤ z ∧ z ≤ 103 + t11 + i) ∧ (∀ m, 103 + t11 ≤ m → m < z → Vb.isP m = false) ∧ (Vb.isP z = true ∨ z = 103 + t11 + i) ∧ σ = [some (.ref a), some (.ref st), y, some (.int g), some (.ref pg), some (.int z), u, none, none]) ⟨rfl, _, _, ⟨by omega, by omega⟩, fun m l1 l2 => absurd l1 (by omega), .inr (by omega), rfl⟩ ?_ ?_
        · rintro i σ H' hi ⟨rfl, z, u, ⟨z1, z2⟩, z3, z4, rfl⟩
          walk_at "rd"
          refine use_divided (by omega) (by omega) ?_
          cases hz : Vb.isP z with
          | true =>
            walk_at "rd"
            refine ⟨rfl, z, some (.int (0 + (i : Int))), ⟨z1, by omega⟩, z3, .inl hz, ?_⟩
            show [some (V.ref a), some (.ref st), y, some (.int g), some (.ref pg), some (.int (z + 0)), some (.int (0 + (i : Int))), none, none] = _
            rw [show z + 0 = z by omega]
          | false =>
            walk_at "rd"
            refine ⟨rfl, z + 1, _, ⟨by omega, by omega⟩, fun m l1 l2 => ?_, .inr ?_, rfl⟩
            · by_cases l3 : m < z
              · exact z3 m l1 l3
              · rw [show m = z by omega]
                exact hz
            · rcases z4 with z4 | z4
              · rw [hz] at z4; cases z4
              · omega
        · rintro σ H' ⟨rfl, z, u, ⟨z1, z2⟩, z3, z4, rfl⟩
          have zp : Vb.isP z = true := by
            rcases z4 with z4 | z4
            · exact z4
            · obtain ⟨m, m1, m2, m3⟩ := gaps (103 + t11) (by omega) (by omega)
              rw [z3 m m1 (by omega)] at m3
              cases m3
          walk_at "rd"
          refine ⟨st, rfl, S11, fun v d H12 hf hok f12 S12 hd => ?_⟩
          walk_at "rd"
          refine ⟨_, _, rfl, .int z, trivial, field_no (.inl (by omega)), fun H13 e13 => ?_⟩
          walk_at "rd"
          refine use_isprime (by omega) zp ?_
          walk_at "rd"
          have hd13 := Vb.dp_same (Vb.offs_same e13) _ _ hd
          rw [show (!decide (true = true)) = false from rfl]
          refine Vb.r_iteF ?_
          walk_at "rd"
          refine ⟨v, d, rfl, Vb.dp_off hd13, hok, hf, fun H14 e14 => ?_⟩
          walk_at "rd"
          refine ⟨Vb.size_ok (by show 1 ≤ 16777216; decide), fun l15 n15 => ?_⟩
          walk_at "rd"
          refine ⟨_, .list [.int 7], rfl, Vb.dp_lst upd_same (.cons (.int 7) .nil), by simp [Vb.DOk], rfl, fun H15 e15 => ?_⟩
          have e16 := (e14.trans (Vb.same_new (o := .lst [.int 7]) n15)).trans e15
          have hd15 := Vb.dp_same (Vb.offs_same e16) _ _ hd13
          walk_at "rd"
          refine use_prime ((S12.same e13).same e16) fun pr H16 g1 g2 f16 S16 => ?_
          walk_at "rd"
          have hd16 := Vb.dp_same (Vb.offs_fr f16 List.mem_cons_self) _ _ hd15
          refine ⟨v, d, rfl, Vb.dp_off hd16, hok, hf, fun H17 e17 => ?_⟩
          walk_at "rd"
          refine ⟨_, _, rfl, .int pr, fun _ => ?_, fun z => by rw [field_yes g1 g2] at z; cases z⟩
          walk_at "rd"
          refine use_same (.int pr) (.int _) (.int _) trivial ?_
          walk_at "rd"
          refine use_beyond hg ?_
          walk_at "rd"
          exact q _
end
end K
set_option maxHeartbeats 0
namespace Vb
open PySem PySem.Spec PyProof.Rows L2
theorem dn_mk {K : PySem.W.Frag} {mg : Str → Option Value} {x : Str} {st : Stmt} {ps : List Str} {f : Addr} {oc : Value} {od an : Option Addr} {osl : Array (Option Value)} {kV doc pm cdv ct : Value} (g : mg x = some (.ref f))
    (l : K.lookup f = some ⟨oc, od, .func (PySem.W.fnOf x x (defArgs st) (defBody st) (defScope st) .none kV doc pm an cdv ct), osl⟩) (c : PySem.W.codeIn K cdv x = true) (k : PySem.W.keepIn K (.ref f) = true)
    (b : ∀ (kV doc pm : Value) (an : Option Addr) (cdv ct : Value) (us : List Value), us.length = ps.length → bindArgs (PySem.W.fnOf x x (defArgs st) (defBody st) (defScope st) .none kV doc pm an cdv ct) ⟨us, []⟩ = pure (ps.zip us)) : Dn K mg x st ps f (PySem.W.fnOf x x (defArgs st) (defBody st) (defScope st) .none kV doc pm an cdv ct) :=
  ⟨fun_mk l c k, g, (fun_mk l c k).binds b⟩
theorem tok_mk {K : PySem.W.Frag} {h : Heap} {mg : Str → Option Value} {x : Str} {n : Int} {t : Tok} (KX : K.In h) (G : h.Ns mainGlobals mg) (a : PySem.W.nsIn K mainGlobals x = some (some (.int n t))) : ∃ t, mg x = some (.int n t) := ⟨t, PySem.W.mg_of KX G a⟩
end Vb
namespace PySem
namespace Lowvalue
open PySem.W PySem.Calls PyProof.Rows PySem.HandSPX
theorem low_mk {K : Frag} {mg : Str → Option Value} {x qn : Str} {C fI : Addr} {nm q : Str} {N : Addr} {bs bm : List Value} {sn : List Str} {sub : List Value} {ab : Bool} {col : Option Bool} {dd : Option Addr} {k0 k1 k2 k3 k5 : Option Value} {oc : Value} {od : Option Addr} {kV doc pm : Value} {an : Option Addr} {cdv ct : Value} {osl : Array (Option Value)} (p1 p2 q1 q2 q3 q4 : Pos) (g : mg x = some (.ref C))
    (l : K.lookup C = some (excClassObj nm q C N bs bm true sn sub ab col dd k0 k1 k2 k3 k5 "ValueError.__new__")) (b : refsVE bm = true) (sa : findIn K (.ref C) "__setattr__" = some (some (.builtin "object.__setattr__"))) (no : findIn K (.ref C) "value" = some none) (iC : findIn K (.ref C) "__init__" = some (some (.ref fI)))
    (tC : typeIn K (.ref fI) = some (.type "function")) (kC : keepIn K (.ref C) = true) (eC : subIn K (.ref C) (.type "BaseException") = some true) (yC : typeIn K (.ref C) = some (.type "type"))
    (lf : K.lookup fI = some ⟨oc, od, .func (fnOf "__init__" qn (iA p1 p2) (iB q1 q2 q3 q4) iS .none kV doc pm an cdv ct), osl⟩) (cf : codeIn K cdv qn = true) : LowTxt K mg x qn C fI :=
  ⟨g, ⟨_, _, _, _, _, _, _, _, _, _, _, _, _, _, _, l, b⟩, sa, no, iC, tC, kC, eC, yC, ⟨_, _, _, _, _, _, _, _, _, _, _, _, _, _, _, lf, cf⟩⟩
end Lowvalue
end PySem
open PySem PySem.Spec PyProof.Rows L2 in
theorem K.fin {P : Program} {w : World} {K : PySem.W.Frag} {mg : Str → Option Value} {fa : Addr} (hfa : mg "law" = some (.ref fa)) (T : _root_.K.Txt K mg) (hb : ∀ (s : Shared) (v : Value), BindsTo s T.fd_law ⟨[v], []⟩ [("script", v)]) : ∃ fd : FuncData, (∀ (s : Shared) (v : Value), BindsTo s fd ⟨[v], []⟩ [("script", v)]) ∧ ∀ base : Heap, K.In base → base.Ns mainGlobals mg → FnOk P w K mg base (L2N.CX P w) 7 fa fd ["script"] (_root_.K.sp_law K) := by
  have e := hfa.symm.trans T.d_law.g
  cases e
  exact ⟨T.fd_law, hb, fun base _ _ => _root_.K.ok_law T⟩
open PySem PySem.W PyProof.Rows
theorem PySem.Challenge.cw_sumtalk_k00_primes_are_listed_holds : PySem.Challenge.rw_sumtalk_k00_primes_are_listed.Holds := by
  w_on; o_law; k_head; (case hw => w_witness2)
  k_fill
  refine L2.walk_of (l := PySem.Challenge.rw_sumtalk_k00_primes_are_listed) (n := 63) (k := 7) (x := "script") (CX := fun w => L2N.CX PySem.Challenge.rw_sumtalk_k00_primes_are_listed.prog w) (sp := fun w => K.sp_law _) rfl (by decide) rfl ⟨rfl, by decide, by decide⟩ (fun w h Y => PySem.W.kIn_of Y) ?F (fun _ _ a ns hl _ hS => ⟨a, ns, rfl, hS, hl, fun _ => rfl⟩) (fun _ _ _ _ _ h => by obtain ⟨_, _, _, _, _, _, _, _, _, _, _, _, z⟩ := h; exact z)
  case F =>
    intro w mg fa h KX G hmg
    obtain ⟨t_MAX_PRIME, c_MAX_PRIME⟩ : ∃ t, mg "MAX_PRIME" = some (.int 101 t) := Vb.tok_mk KX G (by k_is)
    obtain ⟨t_MAX_TESTED, c_MAX_TESTED⟩ : ∃ t, mg "MAX_TESTED" = some (.int 10000 t) := Vb.tok_mk KX G (by k_is)
    refine' K.fin hmg (K.Txt.mk
      _
      ⟨(PySem.W.mg_of KX G ?a_TalkError), ?q_TalkError, ?k_TalkError, ?e_TalkError, ?t_TalkError⟩
      _
      _
      (PySem.Lowvalue.low_mk ⟨6, 17, 6, 21⟩ ⟨6, 23, 6, 28⟩ ⟨7, 8, 7, 12⟩ ⟨7, 8, 7, 18⟩ ⟨7, 21, 7, 26⟩ ⟨7, 8, 7, 26⟩ (PySem.W.mg_of KX G ?a_NotPrime) ?l_NotPrime ?bm_NotPrime ?sa_NotPrime ?no_NotPrime ?ic_NotPrime ?tc_NotPrime ?kc_NotPrime ?ec_NotPrime ?ty_NotPrime ?lf_NotPrime ?cf_NotPrime)
      _
      _
      (PySem.Lowvalue.low_mk ⟨10, 17, 10, 21⟩ ⟨10, 23, 10, 28⟩ ⟨11, 8, 11, 12⟩ ⟨11, 8, 11, 18⟩ ⟨11, 21, 11, 26⟩ ⟨11, 8, 11, 26⟩ (PySem.W.mg_of KX G ?a_NotInField) ?l_NotInField ?bm_NotInField ?sa_NotInField ?no_NotInField ?ic_NotInField ?tc_NotInField ?kc_NotInField ?ec_NotInField ?ty_NotInField ?lf_NotInField ?cf_NotInField)
      _
      ⟨(PySem.W.mg_of KX G ?a_OutOfRange), ?q_OutOfRange, ?k_OutOfRange, ?e_OutOfRange, ?t_OutOfRange⟩
      _
      ⟨(PySem.W.mg_of KX G ?a_TooLarge), ?q_TooLarge, ?k_TooLarge, ?e_TooLarge, ?t_TooLarge⟩
      ⟨?xcl_TooLarge, ?xga_TooLarge, ?xgg_TooLarge, ?xsb_TooLarge, ?xca_TooLarge, ?xsp_TooLarge, ?xtk_TooLarge, ?xmo_TooLarge, ?xhd_TooLarge, ?xss_TooLarge, ?xty_TooLarge⟩
      ⟨?xcl_NotPrime, ?xga_NotPrime, ?xgg_NotPrime, ?xsb_NotPrime, ?xca_NotPrime, ?xsp_NotPrime, ?xtk_NotPrime, ?xmo_NotPrime, ?xhd_NotPrime, ?xss_NotPrime, ?xty_NotPrime⟩
      (Vb.kit_yes ?i_TooLarge_TalkError ?y_TooLarge_TalkError ?s_TooLarge_TalkError)
      (Vb.kit_blt ?m_TooLarge_ValueError ?s_TooLarge_ValueError)
      (Vb.kit_no ?i_TooLarge_NotPrime ?y_TooLarge_NotPrime ?s_TooLarge_NotPrime ?ne_TooLarge_NotPrime)
      (Vb.kit_no ?i_TooLarge_OutOfRange ?y_TooLarge_OutOfRange ?s_TooLarge_OutOfRange ?ne_TooLarge_OutOfRange)
      (Vb.kit_no ?i_TooLarge_NotInField ?y_TooLarge_NotInField ?s_TooLarge_NotInField ?ne_TooLarge_NotInField)
      (Vb.kit_yes ?i_NotPrime_TalkError ?y_NotPrime_TalkError ?s_NotPrime_TalkError)
      (Vb.kit_blt ?m_NotPrime_ValueError ?s_NotPrime_ValueError)
      (Vb.kit_no ?i_NotPrime_TooLarge ?y_NotPrime_TooLarge ?s_NotPrime_TooLarge ?ne_NotPrime_TooLarge)
      (Vb.kit_no ?i_NotPrime_OutOfRange ?y_NotPrime_OutOfRange ?s_NotPrime_OutOfRange ?ne_NotPrime_OutOfRange)
      (Vb.kit_no ?i_NotPrime_NotInField ?y_NotPrime_NotInField ?s_NotPrime_NotInField ?ne_NotPrime_NotInField)
      _
      _
      (Vb.dn_mk (PySem.W.mg_of KX G ?a_is_whole) ?l_is_whole ?c_is_whole ?k_is_whole fun _ _ _ _ _ _ us hl => match us, hl with | [_], _ => rfl)
      _
      _
      (Vb.dn_mk (PySem.W.mg_of KX G ?a_is_prime) ?l_is_prime ?c_is_prime ?k_is_prime fun _ _ _ _ _ _ us hl => match us, hl with | [_], _ => rfl)
      _
      _
      (Vb.dn_mk (PySem.W.mg_of KX G ?a_primes_to) ?l_primes_to ?c_primes_to ?k_primes_to fun _ _ _ _ _ _ us hl => match us, hl with | [_], _ => rfl)
      _
      _
      (Vb.dn_mk (PySem.W.mg_of KX G ?a_check_prime) ?l_check_prime ?c_check_prime ?k_check_prime fun _ _ _ _ _ _ us hl => match us, hl with | [_], _ => rfl)
      _
      _
      (Vb.dn_mk (PySem.W.mg_of KX G ?a__law_mix) ?l__law_mix ?c__law_mix ?k__law_mix fun _ _ _ _ _ _ us hl => match us, hl with | [_, _], _ => rfl)
      _
      _
      (Vb.dn_mk (PySem.W.mg_of KX G ?a__law_store) ?l__law_store ?c__law_store ?k__law_store fun _ _ _ _ _ _ us hl => match us, hl with | [_], _ => rfl)
      _
      _
      (Vb.dn_mk (PySem.W.mg_of KX G ?a__law_take) ?l__law_take ?c__law_take ?k__law_take fun _ _ _ _ _ _ us hl => match us, hl with | [_, _], _ => rfl)
      _
      _
      (Vb.dn_mk (PySem.W.mg_of KX G ?a__law_edge) ?l__law_edge ?c__law_edge ?k__law_edge fun _ _ _ _ _ _ us hl => match us, hl with | [_, _, _], _ => rfl)
      _
      _
      (Vb.dn_mk (PySem.W.mg_of KX G ?a__law_pick) ?l__law_pick ?c__law_pick ?k__law_pick fun _ _ _ _ _ _ us hl => match us, hl with | [_, _], _ => rfl)
      _
      _
      (Vb.dn_mk (PySem.W.mg_of KX G ?a__law_other_kind) ?l__law_other_kind ?c__law_other_kind ?k__law_other_kind fun _ _ _ _ _ _ us hl => match us, hl with | [_], _ => rfl)
      _
      _
      (Vb.dn_mk (PySem.W.mg_of KX G ?a__law_primes) ?l__law_primes ?c__law_primes ?k__law_primes fun _ _ _ _ _ _ us hl => match us, hl with | [_], _ => rfl)
      _
      _
      (Vb.dn_mk (PySem.W.mg_of KX G ?a__law_prime) ?l__law_prime ?c__law_prime ?k__law_prime fun _ _ _ _ _ _ us hl => match us, hl with | [_], _ => rfl)
      _
      _
      (Vb.dn_mk (PySem.W.mg_of KX G ?a__law_bad_prime) ?l__law_bad_prime ?c__law_bad_prime ?k__law_bad_prime fun _ _ _ _ _ _ us hl => match us, hl with | [_], _ => rfl)
      _
      _
      (Vb.dn_mk (PySem.W.mg_of KX G ?a__law_same) ?l__law_same ?c__law_same ?k__law_same fun _ _ _ _ _ _ us hl => match us, hl with | [_, _], _ => rfl)
      _
      _
      (Vb.dn_mk (PySem.W.mg_of KX G ?a__law_copy) ?l__law_copy ?c__law_copy ?k__law_copy fun _ _ _ _ _ _ us hl => match us, hl with | [_], _ => rfl)
      _
      _
      (Vb.dn_mk (PySem.W.mg_of KX G ?a__law_spoil_list) ?l__law_spoil_list ?c__law_spoil_list ?k__law_spoil_list fun _ _ _ _ _ _ us hl => match us, hl with | [_], _ => rfl)
      _
      _
      (Vb.dn_mk (PySem.W.mg_of KX G ?a__law_listed) ?l__law_listed ?c__law_listed ?k__law_listed fun _ _ _ _ _ _ us hl => match us, hl with | [_], _ => rfl)
      _
      _
      (Vb.dn_mk (PySem.W.mg_of KX G ?a__law_divided) ?l__law_divided ?c__law_divided ?k__law_divided fun _ _ _ _ _ _ us hl => match us, hl with | [_], _ => rfl)
      _
      _
      (Vb.dn_mk (PySem.W.mg_of KX G ?a__law_limit) ?l__law_limit ?c__law_limit ?k__law_limit fun _ _ _ _ _ _ us hl => match us, hl with | [_], _ => rfl)
      _
      _
      (Vb.dn_mk (PySem.W.mg_of KX G ?a__law_beyond) ?l__law_beyond ?c__law_beyond ?k__law_beyond fun _ _ _ _ _ _ us hl => match us, hl with | [_, _], _ => rfl)
      _
      _
      (Vb.dn_mk (PySem.W.mg_of KX G ?a__law_refused) ?l__law_refused ?c__law_refused ?k__law_refused fun _ _ _ _ _ _ us hl => match us, hl with | [_], _ => rfl)
      _
      _
      (Vb.dn_mk (PySem.W.mg_of KX G ?a__law_lists) ?l__law_lists ?c__law_lists ?k__law_lists fun _ _ _ _ _ _ us hl => match us, hl with | [_], _ => rfl)
      _
      _
      (Vb.dn_mk (PySem.W.mg_of KX G ?a__law_tells) ?l__law_tells ?c__law_tells ?k__law_tells fun _ _ _ _ _ _ us hl => match us, hl with | [_], _ => rfl)
      _
      _
      (Vb.dn_mk (PySem.W.mg_of KX G ?a__law_values) ?l__law_values ?c__law_values ?k__law_values fun _ _ _ _ _ _ us hl => match us, hl with | [_], _ => rfl)
      _
      _
      (Vb.dn_mk (PySem.W.mg_of KX G ?a_law) ?l_law ?c_law ?k_law fun _ _ _ _ _ _ us hl => match us, hl with | [_], _ => rfl)
      t_MAX_PRIME
      c_MAX_PRIME
      t_MAX_TESTED
      c_MAX_TESTED
      (PySem.W.mg_none_of KX G ?n_ValueError)
      (PySem.W.mg_none_of KX G ?n_max)
      (PySem.W.mg_none_of KX G ?n_range)
      (PySem.W.mg_none_of KX G ?n_isinstance)
      (PySem.W.mg_none_of KX G ?n_int)
      (PySem.W.mg_none_of KX G ?n_str)
      (PySem.W.mg_none_of KX G ?n_list)
      (PySem.W.mg_none_of KX G ?n_tuple)
      (PySem.W.mg_none_of KX G ?n_min)
      (PySem.W.mg_none_of KX G ?n_len)
      (PySem.W.mg_none_of KX G ?n_bool)
      (PySem.W.mg_none_of KX G ?n_abs)) ?hb
    (case a_TalkError => k_is)
    (case q_TalkError => k_exc)
    (case k_TalkError => k_is)
    (case e_TalkError => k_is)
    (case t_TalkError => k_is)
    (case a_NotPrime => k_is)
    (case l_NotPrime => k_is)
    (case bm_NotPrime => decide +kernel)
    (case sa_NotPrime => k_is)
    (case no_NotPrime => k_is)
    (case ic_NotPrime => k_is)
    (case tc_NotPrime => k_is)
    (case kc_NotPrime => k_is)
    (case ec_NotPrime => k_is)
    (case ty_NotPrime => k_is)
    (case lf_NotPrime => k_is)
    (case cf_NotPrime => k_is)
    (case a_NotInField => k_is)
    (case l_NotInField => k_is)
    (case bm_NotInField => decide +kernel)
    (case sa_NotInField => k_is)
    (case no_NotInField => k_is)
    (case ic_NotInField => k_is)
    (case tc_NotInField => k_is)
    (case kc_NotInField => k_is)
    (case ec_NotInField => k_is)
    (case ty_NotInField => k_is)
    (case lf_NotInField => k_is)
    (case cf_NotInField => k_is)
    (case a_OutOfRange => k_is)
    (case q_OutOfRange => k_exc)
    (case k_OutOfRange => k_is)
    (case e_OutOfRange => k_is)
    (case t_OutOfRange => k_is)
    (case a_TooLarge => k_is)
    (case q_TooLarge => k_exc)
    (case k_TooLarge => k_is)
    (case e_TooLarge => k_is)
    (case t_TooLarge => k_is)
    (case xcl_TooLarge => k_is)
    (case xga_TooLarge => k_is)
    (case xgg_TooLarge => k_is)
    (case xsb_TooLarge => k_is)
    (case xca_TooLarge => k_is)
    (case xsp_TooLarge => k_is)
    (case xtk_TooLarge => k_is)
    (case xmo_TooLarge => k_is)
    (case xhd_TooLarge => k_is)
    (case xss_TooLarge => k_is)
    (case xty_TooLarge => k_is)
    (case xcl_NotPrime => k_is)
    (case xga_NotPrime => k_is)
    (case xgg_NotPrime => k_is)
    (case xsb_NotPrime => k_is)
    (case xca_NotPrime => k_is)
    (case xsp_NotPrime => k_is)
    (case xtk_NotPrime => k_is)
    (case xmo_NotPrime => k_is)
    (case xhd_NotPrime => k_is)
    (case xss_NotPrime => k_is)
    (case xty_NotPrime => k_is)
    (case i_TooLarge_TalkError => k_is)
    (case y_TooLarge_TalkError => k_is)
    (case s_TooLarge_TalkError => k_is)
    (case m_TooLarge_ValueError => decide +kernel)
    (case s_TooLarge_ValueError => k_is)
    (case i_TooLarge_NotPrime => k_is)
    (case y_TooLarge_NotPrime => k_is)
    (case s_TooLarge_NotPrime => k_is)
    (case ne_TooLarge_NotPrime => decide)
    (case i_TooLarge_OutOfRange => k_is)
    (case y_TooLarge_OutOfRange => k_is)
    (case s_TooLarge_OutOfRange => k_is)
    (case ne_TooLarge_OutOfRange => decide)
    (case i_TooLarge_NotInField => k_is)
    (case y_TooLarge_NotInField => k_is)
    (case s_TooLarge_NotInField => k_is)
    (case ne_TooLarge_NotInField => decide)
    (case i_NotPrime_TalkError => k_is)
    (case y_NotPrime_TalkError => k_is)
    (case s_NotPrime_TalkError => k_is)
    (case m_NotPrime_ValueError => decide +kernel)
    (case s_NotPrime_ValueError => k_is)
    (case i_NotPrime_TooLarge => k_is)
    (case y_NotPrime_TooLarge => k_is)
    (case s_NotPrime_TooLarge => k_is)
    (case ne_NotPrime_TooLarge => decide)
    (case i_NotPrime_OutOfRange => k_is)
    (case y_NotPrime_OutOfRange => k_is)
    (case s_NotPrime_OutOfRange => k_is)
    (case ne_NotPrime_OutOfRange => decide)
    (case i_NotPrime_NotInField => k_is)
    (case y_NotPrime_NotInField => k_is)
    (case s_NotPrime_NotInField => k_is)
    (case ne_NotPrime_NotInField => decide)
    (case a_is_whole => k_is)
    (case l_is_whole => k_is)
    (case c_is_whole => k_is)
    (case k_is_whole => k_is)
    (case a_is_prime => k_is)
    (case l_is_prime => k_is)
    (case c_is_prime => k_is)
    (case k_is_prime => k_is)
    (case a_primes_to => k_is)
    (case l_primes_to => k_is)
    (case c_primes_to => k_is)
    (case k_primes_to => k_is)
    (case a_check_prime => k_is)
    (case l_check_prime => k_is)
    (case c_check_prime => k_is)
    (case k_check_prime => k_is)
    (case a__law_mix => k_is)
    (case l__law_mix => k_is)
    (case c__law_mix => k_is)
    (case k__law_mix => k_is)
    (case a__law_store => k_is)
    (case l__law_store => k_is)
    (case c__law_store => k_is)
    (case k__law_store => k_is)
    (case a__law_take => k_is)
    (case l__law_take => k_is)
    (case c__law_take => k_is)
    (case k__law_take => k_is)
    (case a__law_edge => k_is)
    (case l__law_edge => k_is)
    (case c__law_edge => k_is)
    (case k__law_edge => k_is)
    (case a__law_pick => k_is)
    (case l__law_pick => k_is)
    (case c__law_pick => k_is)
    (case k__law_pick => k_is)
    (case a__law_other_kind => k_is)
    (case l__law_other_kind => k_is)
    (case c__law_other_kind => k_is)
    (case k__law_other_kind => k_is)
    (case a__law_primes => k_is)
    (case l__law_primes => k_is)
    (case c__law_primes => k_is)
    (case k__law_primes => k_is)
    (case a__law_prime => k_is)
    (case l__law_prime => k_is)
    (case c__law_prime => k_is)
    (case k__law_prime => k_is)
    (case a__law_bad_prime => k_is)
    (case l__law_bad_prime => k_is)
    (case c__law_bad_prime => k_is)
    (case k__law_bad_prime => k_is)
    (case a__law_same => k_is)
    (case l__law_same => k_is)
    (case c__law_same => k_is)
    (case k__law_same => k_is)
    (case a__law_copy => k_is)
    (case l__law_copy => k_is)
    (case c__law_copy => k_is)
    (case k__law_copy => k_is)
    (case a__law_spoil_list => k_is)
    (case l__law_spoil_list => k_is)
    (case c__law_spoil_list => k_is)
    (case k__law_spoil_list => k_is)
    (case a__law_listed => k_is)
    (case l__law_listed => k_is)
    (case c__law_listed => k_is)
    (case k__law_listed => k_is)
    (case a__law_divided => k_is)
    (case l__law_divided => k_is)
    (case c__law_divided => k_is)
    (case k__law_divided => k_is)
    (case a__law_limit => k_is)
    (case l__law_limit => k_is)
    (case c__law_limit => k_is)
    (case k__law_limit => k_is)
    (case a__law_beyond => k_is)
    (case l__law_beyond => k_is)
    (case c__law_beyond => k_is)
    (case k__law_beyond => k_is)
    (case a__law_refused => k_is)
    (case l__law_refused => k_is)
    (case c__law_refused => k_is)
    (case k__law_refused => k_is)
    (case a__law_lists => k_is)
    (case l__law_lists => k_is)
    (case c__law_lists => k_is)
    (case k__law_lists => k_is)
    (case a__law_tells => k_is)
    (case l__law_tells => k_is)
    (case c__law_tells => k_is)
    (case k__law_tells => k_is)
    (case a__law_values => k_is)
    (case l__law_values => k_is)
    (case c__law_values => k_is)
    (case k__law_values => k_is)
    (case a_law => k_is)
    (case l_law => k_is)
    (case c_law => k_is)
    (case k_law => k_is)
    (case n_ValueError => k_is)
    (case n_max => k_is)
    (case n_range => k_is)
    (case n_isinstance => k_is)
    (case n_int => k_is)
    (case n_str => k_is)
    (case n_list => k_is)
    (case n_tuple => k_is)
    (case n_min => k_is)
    (case n_len => k_is)
    (case n_bool => k_is)
    (case n_abs => k_is)
    (case hb => exact fun s v => .of_eq rfl)
